import PyProof.Rows.All
import Wide.All
import OpenK.AllK
import Wide.FinOn
import Lean
import PyProof.EqAt
import PyProof.EqKinds
import PyProof.NeKinds
import PyProof.TupleCall
import KE.KDictSum
import PyProof.StrCalls
import PyProof.StrCalls2
import PyProof.StrWalks
import KE.KIntText
import PyProof.SliceStr2
import PyProof.StrLawsIdx
import PySem.Challenge.RW_stintwise_k98_lines_of_plans_amiss
set_option Elab.async false
set_option linter.all false
set_option maxRecDepth 100000
def PySem.W.Fast.tw2587183735418003623 : Unit := ()
def PySem.W.Fast.tw8767207088966030937 : Unit := ()
def PySem.W.Fast.tw3192492090104390146 : Unit := ()
def PySem.W.Fast.tw1989024998854818976 : Unit := ()
def PySem.W.Fast.tw1272568302845986750 : Unit := ()
def PySem.W.Fast.tw16762659365273947556 : Unit := ()
def PySem.W.Fast.tw4784233911681731024 : Unit := ()
def PySem.W.Fast.tw2237845164065679479 : Unit := ()
def PySem.W.Fast.tw9523264108518634239 : Unit := ()
def PySem.W.Fast.tw1048935191476327484 : Unit := ()
def PySem.W.Fast.tw9639756350273848120 : Unit := ()
def PySem.W.Fast.tw3230392815138998852 : Unit := ()
namespace L2
open PySem PySem.Spec PyProof.Rows
abbrev Key := Sum Int Str
def keyIs : Key → Value → Bool
  | .inl k, v => Value.isInt k v
  | .inr x, v => Value.isStrOf x v
def keyH (w : World) : Key → Int
  | .inl k => hashInt k
  | .inr x => hashStr w x
theorem keyIs_shape : ∀ {k : Key} {v : Value}, keyIs k v = true → (∃ i t, k = Sum.inl i ∧ v = Value.int i t) ∨ (∃ x t, k = Sum.inr x ∧ v = Value.str x t)
  | .inl i, v, h => by
    obtain ⟨t, e⟩ := Value.isInt_shape (k := i) (v := v) h
    exact .inl ⟨i, t, rfl, e⟩
  | .inr x, v, h => by
    obtain ⟨t, e⟩ := Value.isStrOf_shape (x := x) (v := v) h
    exact .inr ⟨x, t, rfl, e⟩
theorem key_ll (a b : Int) : decide ((Sum.inl a : Key) = Sum.inl b) = (a == b) := by
  by_cases e : a = b
  · subst e; simp
  · have h : ¬ (Sum.inl a : Key) = Sum.inl b := fun q => e (Sum.inl.inj q)
    rw [decide_eq_false h]
    exact (beq_eq_false_iff_ne.mpr e).symm
theorem key_rr (a b : Str) : decide ((Sum.inr a : Key) = Sum.inr b) = decide (a = b) := by
  by_cases e : a = b
  · subst e; simp
  · have h : ¬ (Sum.inr a : Key) = Sum.inr b := fun q => e (Sum.inr.inj q)
    rw [decide_eq_false h, decide_eq_false e]
theorem key_lr (a : Int) (b : Str) : decide ((Sum.inl a : Key) = Sum.inr b) = false := decide_eq_false (fun q => nomatch q)
theorem key_rl (a : Str) (b : Int) : decide ((Sum.inr a : Key) = Sum.inl b) = false := decide_eq_false (fun q => nomatch q)
def mixKind (prog : Program) (w : World) : PySem.KeyKind prog w Key where
  is := keyIs
  hash := keyH w
  inj := fun v a b ha hb => by
    rcases keyIs_shape ha with ⟨i, t, rfl, rfl⟩ | ⟨x, t, rfl, rfl⟩
    · rcases keyIs_shape hb with ⟨j, u, rfl, e⟩ | ⟨y, u, rfl, e⟩
      · injection e with e1 _; rw [e1]
      · exact nomatch e
    · rcases keyIs_shape hb with ⟨j, u, rfl, e⟩ | ⟨y, u, rfl, e⟩
      · exact nomatch e
      · injection e with e1 _; rw [e1]
  byValue := fun k v h => by
    rcases keyIs_shape h with ⟨i, t, rfl, rfl⟩ | ⟨x, t, rfl, rfl⟩ <;> rfl
  pyHash := fun hv h => by
    rcases keyIs_shape hv with ⟨i, t, rfl, rfl⟩ | ⟨x, t, rfl, rfl⟩
    · exact wpAny_pyHash_int h
    · exact wpAny_pyHash_str h
  eqBool := fun hu hv h => by
    rcases keyIs_shape hu with ⟨i, t, rfl, rfl⟩ | ⟨x, t, rfl, rfl⟩
    · rcases keyIs_shape hv with ⟨j, u, rfl, rfl⟩ | ⟨y, u, rfl, rfl⟩
      · rw [key_ll] at h; exact wpAny_eqBool_int h
      · rw [key_lr] at h; exact SeqAt.EqAt.int_str i t y u _ _ _ _ h
    · rcases keyIs_shape hv with ⟨j, u, rfl, rfl⟩ | ⟨y, u, rfl, rfl⟩
      · rw [key_rl] at h; exact SeqAt.EqAt.str_int x t j u _ _ _ _ h
      · rw [key_rr] at h; exact wpAny_eqBool_str h
  «strs» := fun k x t v h => by
    rcases keyIs_shape h with ⟨i, u, rfl, e⟩ | ⟨y, u, rfl, e⟩
    · exact nomatch e
    · injection e with e1 _
      subst e1
      cases v <;> rfl
end L2
namespace L2
open PySem PySem.Spec PyProof.Rows
inductive V where
  | non | bl (b : Bool) | int (i : Int) | str (x : Str) | byt (b : Array UInt8) | flt (b : UInt64) | ref (a : Addr) | ty (n : String)
  deriving DecidableEq
def RelV : V → Value → Prop
  | .non, u => u = Value.none
  | .bl b, u => u = Value.bool b
  | .int i, u => ∃ t, u = Value.int i t
  | .str x, u => ∃ t, u = Value.str x t
  | .byt b, u => ∃ t, u = Value.bytes b t
  | .flt b, u => ∃ t, u = Value.float b t
  | .ref a, u => u = Value.ref a
  | .ty n, u => u = Value.type n
abbrev Vals : List V → List Value → Prop := Paired RelV
theorem Vals.length {xs : List V} {us : List Value} (r : Vals xs us) : xs.length = us.length := Paired.length r
theorem Vals.get : ∀ {xs : List V} {us : List Value} {i : Nat} {x : V}, Vals xs us → xs[i]? = some x → ∃ u, us[i]? = some u ∧ RelV x u
  | _, _, _, _, .nil, e => by simp at e
  | _, _, 0, _, .cons r _, e => by simp at e; subst e; exact ⟨_, rfl, r⟩
  | _, _, i + 1, x, .cons _ t, e => by
    obtain ⟨u, h1, h2⟩ := Vals.get (i := i) (x := x) t (by simpa using e)
    exact ⟨u, by simpa using h1, h2⟩
theorem Vals.set {x : V} {u : Value} (r : RelV x u) : ∀ {xs : List V} {us : List Value} (i : Nat), Vals xs us → Vals (xs.set i x) (us.set i u)
  | _, _, _, .nil => .nil
  | _, _, 0, .cons _ t => .cons r t
  | _, _, i + 1, .cons q t => .cons q (Vals.set r i t)
theorem Vals.append : ∀ {xs ys : List V} {us ws : List Value}, Vals xs us → Vals ys ws → Vals (xs ++ ys) (us ++ ws)
  | _, _, _, _, .nil, s => s
  | _, _, _, _, .cons r t, s => .cons r (Vals.append t s)
theorem Vals.take : ∀ {xs : List V} {us : List Value} (n : Nat), Vals xs us → Vals (xs.take n) (us.take n)
  | _, _, 0, _ => .nil
  | _, _, _ + 1, .nil => .nil
  | _, _, n + 1, .cons r t => .cons r (Vals.take n t)
theorem Vals.drop : ∀ {xs : List V} {us : List Value} (n : Nat), Vals xs us → Vals (xs.drop n) (us.drop n)
  | _, _, 0, r => r
  | _, _, _ + 1, .nil => .nil
  | _, _, n + 1, .cons _ t => Vals.drop n t
def RelO : Option V → Option Value → Prop
  | some v, some u => RelV v u
  | none, none => True
  | _, _ => False
def KV {κ : Type} : List (κ × V) → List (κ × Value) → Prop := Paired fun (p : κ × V) (q : κ × Value) => p.1 = q.1 ∧ RelV p.2 q.2
def kV : Key → V
  | .inl i => .int i
  | .inr x => .str x
inductive HO where
  /-- a list -/
  | lst (xs : List V)
  /-- a tuple (never changes) -/
  | tup (xs : List V)
  /-- a dict whose keys are ints and texts; one whose keys are tuples of ints and texts (the empty one is both) -/
  | dK (kvs : List (Key × V)) | dT (kvs : List (List Key × V))
  /-- a set of ints: its members, its size -/
  | set (S : Int → Bool) (n : Nat)
  /-- an instance of the class at C, its dict at dx, its attributes -/
  | ins (C dx : Addr) (fs : List (Str × V))
  /-- the dict of the instance at x -/
  | own (x : Addr)
  /-- the dict of an exception -/
  | xd (fs : List (Str × V))
  /-- a bound method, f of x -/
  | met (f x : Addr)
  /-- a range object lo, lo + 1, .. below hi -/
  | rng (lo hi : Int)
  /-- a thing that is known to the object (the script; a dict while a loop walks it): read, never written while it is so -/
  | frz (o : Obj) (u : HO)
  /-- a code object's table -/
  | tbl (ps : Array Value)
  /-- any other thing, by what is true of its one object (a def of one's own: SetO a S n := HO.ext fun h => ..) -/
  | ext (φ : Heap → Prop)
  /-- a code object of that name; a def's table of code objects: at pos none yet, or one of that name -/
  | cod (q : Str) | ctb (pos : Pos) (q : Str)
def Sty : HO → Prop
  | .tup _ => True
  | .cod _ => True
  | _ => False
abbrev Hp := Addr → Option HO
def upd (H : Hp) (a : Addr) (o : HO) : Hp := fun b => if b = a then some o else H b
theorem upd_same {H : Hp} {a : Addr} {o : HO} : upd H a o a = some o := by unfold upd; rw [if_pos rfl]
theorem upd_ne {H : Hp} {a b : Addr} {o : HO} (h : b ≠ a) : upd H a o b = H b := by unfold upd; rw [if_neg h]
theorem ne_of_none {H : Hp} {a b : Addr} {o : HO} (h : H a = some o) (h' : H b = none) : a ≠ b := by
  intro e; subst e; rw [h] at h'; cases h'
section
variable (P : Program) (w : World)
def ObjOk (H : Hp) (h : Heap) (a : Addr) : HO → Prop
  | .lst xs => xs.length ≤ sizeLine ∧ ∃ (its : List Value) (n : Nat), Vals xs its ∧ h.get? a = some { cls := .type "list", data := .seq its.toArray n }
  | .tup xs => xs.length ≤ sizeLine ∧ ∃ its : List Value, Vals xs its ∧ IsTup h a its.toArray
  | .dK kvs => kvs.length ≤ sizeLine ∧ (a == sysModules) = false ∧ ∃ vs, KV kvs vs ∧ h.DictOf (mixKind P w) a vs
  | .dT kvs => kvs.length ≤ sizeLine ∧ (a == sysModules) = false ∧ ∃ xs : List (List Key × Addr × Value),
      Paired (fun (p : List Key × V) (q : List Key × Addr × Value) => p.1 = q.1 ∧ H q.2.1 = some (.tup (p.1.map kV)) ∧ RelV p.2 q.2.2) kvs xs ∧
      ∃ o es ep, h.get? a = some o ∧ o.ExactDict ∧ o.data = .dict es ep ∧ es.toList = xs.map (entryOfKey (tupleKind (mixKind P w))) ∧ (xs.map (·.1)).Nodup
  | .set S n => h.SetOf (intKind P w) a S n
  | .ins C dx fs => H dx = some (.own a) ∧ fs.length ≤ 1000 ∧ dx ≠ a ∧ h.get? a = some (PySem.W.instObj C dx) ∧
      ∃ mA, h.Ns1 dx mA ∧ (∀ f, RelO (fs.lookup f) (mA f)) ∧ PySem.Within mA (fs.map (·.1))
  | .own _ => ∃ o, h.get? a = some o
  | .xd fs => ∃ mA, h.Ns1 a mA ∧ ∀ f, RelO (fs.lookup f) (mA f)
  | .rng lo hi => ∃ t u v, h.get? a = some { cls := .type "range", data := .fields #[.int lo t, .int hi u, .int 1 v] }
  | .frz o u => h.get? a = some o ∧ ObjOk H h a u
  | .tbl ps => h.get? a = some { cls := .none, data := .fields ps }
  | .met f x => h.get? a = some (PySem.W.methodObj (.ref f) (.ref x))
  | .ext φ => φ h ∧ (∃ o, h.get? a = some o) ∧ ∀ h1 h2 : Heap, φ h1 → (∀ o, h1.get? a = some o → h2.get? a = some o) → φ h2
  | .cod q => ∃ o vs t, h.get? a = some o ∧ o.data = .fields vs ∧ vs[1]? = some (.str q t)
  | .ctb pos q => ∃ ps : Array Value, h.get? a = some { cls := .none, data := .fields ps } ∧ TriplesOk ps.toList ∧ (codeAmong pos ps.toList = none ∨ ∃ c, codeAmong pos ps.toList = some (.ref c) ∧ H c = some (.cod q))
def HOk (H : Hp) (h : Heap) : Prop := ∀ a o, H a = some o → ObjOk P w H h a o
end
section
variable {P : Program} {w : World} {H H' : Hp} {h h' : Heap} {a : Addr} {o : HO}
theorem ObjOk.lt (x : ObjOk P w H h a o) : a < h.objs.size := by
  cases o with
  | lst xs => obtain ⟨_, _, _, _, e⟩ := x; exact Heap.lt_size e
  | tup xs => obtain ⟨_, _, _, p⟩ := x; exact p.lt
  | dK kvs => obtain ⟨_, _, _, _, o, _, _, e, _⟩ := x; exact Heap.lt_size e
  | dT kvs => obtain ⟨_, _, _, _, o, _, _, e, _⟩ := x; exact Heap.lt_size e
  | set S n => obtain ⟨o, _, _, _, e, _⟩ := x; exact Heap.lt_size e
  | ins C dx fs => obtain ⟨_, _, _, e, _⟩ := x; exact Heap.lt_size e
  | own y => obtain ⟨_, e⟩ := x; exact Heap.lt_size e
  | xd fs => obtain ⟨_, ⟨_, _, _, e, _⟩, _⟩ := x; exact Heap.lt_size e
  | rng lo hi => obtain ⟨_, _, _, e⟩ := x; exact Heap.lt_size e
  | frz ob u => obtain ⟨e, _⟩ := x; exact Heap.lt_size e
  | tbl ps => exact Heap.lt_size (show h.get? a = some _ from x)
  | met f y => exact Heap.lt_size (show h.get? a = some _ from x)
  | ext φ => obtain ⟨_, ⟨_, e⟩, _⟩ := x; exact Heap.lt_size e
  | cod q => obtain ⟨_, _, _, e, _⟩ := x; exact Heap.lt_size e
  | ctb pos q => obtain ⟨_, e, _⟩ := x; exact Heap.lt_size e
theorem Paired.mapP {α β : Type} {F G : α → β → Prop} : ∀ {l₁ : List α} {l₂ : List β}, Paired F l₁ l₂ → (∀ a b, F a b → G a b) → Paired G l₁ l₂
  | _, _, .nil, _ => .nil
  | _, _, .cons r t, f => .cons (f _ _ r) (Paired.mapP t f)
theorem ObjOk.stay (x : ObjOk P w H h a o) (k : ∀ b u, (b = a ∨ H b = some (.own a)) → h.get? b = some u → h'.get? b = some u)
    (ho : ∀ b, H b = some (.own a) → H' b = some (.own a)) (ht : ∀ b u, Sty u → H b = some u → H' b = some u) : ObjOk P w H' h' a o := by
  induction o with
  | lst xs => obtain ⟨z, its, n, r, e⟩ := x; exact ⟨z, its, n, r, k _ _ (.inl rfl) e⟩
  | tup xs => obtain ⟨z, its, r, ob, e, c⟩ := x; exact ⟨z, its, r, ob, k _ _ (.inl rfl) e, c⟩
  | dK kvs => obtain ⟨z, y, vs, r, ob, es, ep, e, c⟩ := x; exact ⟨z, y, vs, r, ob, es, ep, k _ _ (.inl rfl) e, c⟩
  | dT kvs =>
    obtain ⟨z, y, xs, r, ob, es, ep, e, c⟩ := x
    exact ⟨z, y, xs, Paired.mapP r fun p q z => ⟨z.1, ht _ _ trivial z.2.1, z.2.2⟩, ob, es, ep, k _ _ (.inl rfl) e, c⟩
  | set S n => obtain ⟨ob, es, ep, t, e, c⟩ := x; exact ⟨ob, es, ep, t, k _ _ (.inl rfl) e, c⟩
  | ins C dx fs =>
    obtain ⟨d, z, ne, e, mA, ⟨od, es, ep, e2, c⟩, r⟩ := x
    exact ⟨ho _ d, z, ne, k _ _ (.inl rfl) e, mA, ⟨od, es, ep, k _ _ (.inr d) e2, c⟩, r⟩
  | own y => obtain ⟨ob, e⟩ := x; exact ⟨ob, k _ _ (.inl rfl) e⟩
  | xd fs => obtain ⟨mA, ⟨od, es, ep, e, c⟩, r⟩ := x; exact ⟨mA, ⟨od, es, ep, k _ _ (.inl rfl) e, c⟩, r⟩
  | rng lo hi => obtain ⟨t, u, v, e⟩ := x; exact ⟨t, u, v, k _ _ (.inl rfl) e⟩
  | frz ob u ih => obtain ⟨e, q⟩ := x; exact ⟨k _ _ (.inl rfl) e, ih q⟩
  | tbl ps =>
    have e : h.get? a = some { cls := .none, data := .fields ps } := x
    show h'.get? a = some { cls := .none, data := .fields ps }
    exact k a _ (.inl rfl) e
  | met f y =>
    have e : h.get? a = some (PySem.W.methodObj (.ref f) (.ref y)) := x
    show h'.get? a = some (PySem.W.methodObj (.ref f) (.ref y))
    exact k a _ (.inl rfl) e
  | ext φ => obtain ⟨p, ⟨o, e⟩, st⟩ := x; exact ⟨st _ _ p fun o q => k _ _ (.inl rfl) q, ⟨o, k _ _ (.inl rfl) e⟩, st⟩
  | cod q => obtain ⟨o, vs, t, e, r⟩ := x; exact ⟨o, vs, t, k _ _ (.inl rfl) e, r⟩
  | ctb pos q =>
    obtain ⟨ps, e, t, c⟩ := x
    refine ⟨ps, k _ _ (.inl rfl) e, t, ?_⟩
    rcases c with c | ⟨c, e1, e2⟩
    · exact .inl c
    · exact .inr ⟨c, e1, ht _ _ trivial e2⟩
theorem HOk.lt (x : HOk P w H h) (e : H a = some o) : a < h.objs.size := (x a o e).lt
theorem HOk.fresh (x : HOk P w H h) (e : h.objs.size ≤ a) : H a = none := by
  cases q : H a with
  | none => rfl
  | some u => exact absurd (Nat.lt_of_lt_of_le (x.lt q) e) (Nat.lt_irrefl _)
theorem HOk.kept (x : HOk P w H h) (k : ∀ b u, h.get? b = some u → h'.get? b = some u) : HOk P w H h' := fun a o e =>
  (x a o e).stay (fun b u _ q => k b u q) (fun _ q => q) fun _ _ _ q => q
theorem HOk.laid (x : HOk P w H h) (k : ∀ b u, h.get? b = some u → h'.get? b = some u) (hp : h.objs.size ≤ a) (new : ObjOk P w (upd H a o) h' a o) : HOk P w (upd H a o) h' := fun b u e => by
  have hn := x.fresh hp
  by_cases hb : b = a
  · subst hb; rw [upd_same] at e; cases e; exact new
  · rw [upd_ne hb] at e
    exact (x b u e).stay (fun c v _ q => k c v q) (fun c q => by rw [upd_ne (ne_of_none q hn)]; exact q) fun c xs _ q => by rw [upd_ne (ne_of_none q hn)]; exact q
end
def Rd (H : Hp) (a : Addr) (u : HO) : Prop := H a = some u ∨ ∃ o, H a = some (.frz o u)
theorem Rd.of {H : Hp} {a : Addr} {u : HO} (h : H a = some u) : Rd H a u := .inl h
theorem Rd.ok {P : Program} {w : World} {H : Hp} {h : Heap} {a : Addr} {u : HO} (r : Rd H a u) (x : HOk P w H h) : ObjOk P w H h a u := by
  rcases r with r | ⟨o, r⟩
  · exact x a u r
  · obtain ⟨_, q⟩ := x a _ r
    exact q
def Mut : Option HO → Prop
  | some (.lst _) => True
  | some (.dK _) => True
  | some (.dT _) => True
  | some (.set _ _) => True
  | some (.ins _ _ _) => True
  | some (.ext _) => True
  | _ => False
section
variable {P : Program} {w : World} {H : Hp} {h h' : Heap} {x e : Addr} {o' : HO}
theorem HOk.write (ok : HOk P w H h) (mu : Mut (H x)) (he : e = x ∨ H e = some (.own x)) (k : ∀ b u, b ≠ e → h.get? b = some u → h'.get? b = some u) (heo : ∃ u, h'.get? e = some u)
    (new : ObjOk P w (upd H x o') h' x o') : HOk P w (upd H x o') h' := fun b u q => by
  have nown : ∀ c y, H c = some (.own y) → c ≠ x := fun c y r z => by subst z; rw [r] at mu; exact mu
  have ntup : ∀ c u, Sty u → H c = some u → c ≠ x := fun c u y r z => by
    subst z
    rw [r] at mu
    cases u <;> first | exact mu | exact y
  by_cases hb : b = x
  · subst hb; rw [upd_same] at q; cases q; exact new
  · rw [upd_ne hb] at q
    by_cases hbe : b = e
    · have q' : H b = some (.own x) := by
        rcases he with z | z
        · exact absurd (hbe.trans z) hb
        · rw [hbe]; exact z
      rw [q] at q'; cases q'
      obtain ⟨v, hv⟩ := heo
      exact ⟨v, by rw [hbe]; exact hv⟩
    · refine (ok b u q).stay (fun c v hc r => k c v ?_ r) (fun c r => by rw [upd_ne (nown c b r)]; exact r) fun c xs y r => by rw [upd_ne (ntup c xs y r)]; exact r
      rcases hc with rfl | hc
      · exact hbe
      · rintro rfl
        rcases he with z | z
        · exact nown c b hc z
        · rw [hc] at z; cases z; exact hb rfl
end
structure Un (fs ex : List Addr) (H H' : Hp) (h h' : Heap) : Prop where
  keep : ∀ b o, h.get? b = some o → H b = none → b ∉ fs → b ∉ ex → h'.get? b = some o
  slot : ∀ b o, h.get? b = some o → H b = none → b ∈ fs → b ∉ ex → ∃ sl, h'.get? b = some { o with slots := sl }
  free : ∀ b o, h.get? b = some o → H b = none → b ∉ ex → H' b = none
  there : ∀ b o, h.get? b = some o → b ∉ ex → ∃ o', h'.get? b = some o'
  tups : ∀ b xs, H b = some (.tup xs) → H' b = some (.tup xs)
  frzs : ∀ b o u, H b = some (.frz o u) → H' b = some (.frz o u)
  tbls : ∀ b ps, H b = some (.tbl ps) → ∃ more, H' b = some (.tbl (ps ++ more))
section
variable {fs fs' ex ex' : List Addr} {H H1 H2 : Hp} {h h1 h2 h' : Heap} {a x e : Addr} {o : HO}
theorem Un.any (u : Un fs ex H H1 h h1) {b : Addr} {ob : Obj} (q : h.get? b = some ob) (n : H b = none) (hx : b ∉ ex) : ∃ sl, h1.get? b = some { ob with slots := sl } := by
  by_cases hb : b ∈ fs
  · exact u.slot b ob q n hb hx
  · exact ⟨ob.slots, u.keep b ob q n hb hx⟩
theorem Un.trans (a : Un fs ex H H1 h h1) (b : Un fs ex H1 H2 h1 h2) : Un fs ex H H2 h h2 where
  keep := fun c ob q n hc hx => b.keep c ob (a.keep c ob q n hc hx) (a.free c ob q n hx) hc hx
  slot := fun c ob q n hc hx => by
    obtain ⟨sl, e1⟩ := a.slot c ob q n hc hx
    obtain ⟨sl', e2⟩ := b.slot c _ e1 (a.free c ob q n hx) hc hx
    exact ⟨sl', e2⟩
  free := fun c ob q n hx => by
    obtain ⟨o', e1⟩ := a.there c ob q hx
    exact b.free c o' e1 (a.free c ob q n hx) hx
  there := fun c ob q hx => by
    obtain ⟨o', e1⟩ := a.there c ob q hx
    exact b.there c o' e1 hx
  tups := fun c xs q => b.tups c xs (a.tups c xs q)
  frzs := fun c ob xs q => b.frzs c ob xs (a.frzs c ob xs q)
  tbls := fun c ps q => by
    obtain ⟨m1, e1⟩ := a.tbls c ps q
    obtain ⟨m2, e2⟩ := b.tbls c _ e1
    exact ⟨m1 ++ m2, by rw [e2, Array.append_assoc]⟩
theorem Un.kept (k : ∀ b u, h.get? b = some u → h'.get? b = some u) : Un fs ex H H h h' :=
  ⟨fun b ob q _ _ _ => k b ob q, fun b ob q _ _ _ => ⟨ob.slots, k b ob q⟩, fun _ _ _ n _ => n, fun b ob q _ => ⟨ob, k b ob q⟩, fun _ _ q => q, fun _ _ _ q => q, fun _ ps q => ⟨#[], by rw [q]; simp⟩⟩
theorem Un.refl : Un fs ex H H h h := Un.kept fun _ _ q => q
theorem Un.laid (k : ∀ b u, h.get? b = some u → h'.get? b = some u) (hp : h.objs.size ≤ a) (hn : H a = none) : Un fs ex H (upd H a o) h h' where
  keep := fun b u q _ _ _ => k b u q
  slot := fun b u q _ _ _ => ⟨u.slots, k b u q⟩
  free := fun b u q n _ => by rw [upd_ne (Nat.ne_of_lt (Nat.lt_of_lt_of_le (Heap.lt_size q) hp))]; exact n
  there := fun b u q _ => ⟨u, k b u q⟩
  tups := fun b xs q => by rw [upd_ne (ne_of_none q hn)]; exact q
  frzs := fun b u xs q => by rw [upd_ne (ne_of_none q hn)]; exact q
  tbls := fun b ps q => ⟨#[], by rw [upd_ne (ne_of_none q hn), q]; simp⟩
theorem Un.write (mu : Mut (H x)) (he : e = x ∨ H e = some (.own x)) (k : ∀ b u, b ≠ e → h.get? b = some u → h'.get? b = some u) (heo : ∃ u, h'.get? e = some u) : Un fs ex H (upd H x o) h h' := by
  have hx : ∀ b, H b = none → b ≠ x := fun b n z => by subst z; rw [n] at mu; exact mu
  have hb : ∀ b, H b = none → b ≠ e := fun b n z => by
    subst z
    rcases he with r | r
    · exact hx b n r
    · rw [n] at r; cases r
  have hm : ∀ b u, H b = some u → ¬ Mut (some u) → b ≠ x := fun b u q nm z => by subst z; rw [q] at mu; exact nm mu
  refine ⟨fun b u q n _ _ => k b u (hb b n) q, fun b u q n _ _ => ⟨u.slots, k b u (hb b n) q⟩, fun b u q n _ => by rw [upd_ne (hx b n)]; exact n, fun b u q _ => ?_,
    fun b xs q => by rw [upd_ne (hm b _ q fun z => z)]; exact q, fun b u xs q => by rw [upd_ne (hm b _ q fun z => z)]; exact q, fun b ps q => ⟨#[], by rw [upd_ne (hm b _ q fun z => z), q]; simp⟩⟩
  by_cases hbe : b = e
  · subst hbe; exact heo
  · exact ⟨u, k b u hbe q⟩
theorem Un.mono (u : Un fs ex H H1 h h1) (hs : ∀ b ∈ fs, b ∈ fs') (hx : ∀ b ∈ ex, b ∈ ex') : Un fs' ex' H H1 h h1 :=
  ⟨fun b ob q n hb he => u.keep b ob q n (fun z => hb (hs b z)) fun z => he (hx b z), fun _ _ q n _ he => u.any q n fun z => he (hx _ z), fun b ob q n he => u.free b ob q n fun z => he (hx b z), fun b ob q he => u.there b ob q fun z => he (hx b z), u.tups, u.frzs, u.tbls⟩
end
def trk (h : Heap) (H : Hp) : List Addr := (List.range h.objs.size).filter fun a => (H a).isSome
def hidT (h : Heap) (H : Hp) : Heap := PySem.W.hideAll h (trk h H)
theorem hidT_size (h : Heap) (H : Hp) : (hidT h H).objs.size = h.objs.size := PySem.W.hideAll_size _ _
theorem hidT_get {h : Heap} {H : Hp} {b : Addr} {o : Obj} (e : h.get? b = some o) (n : H b = none) : (hidT h H).get? b = some o :=
  PySem.W.hideAll_get _ e fun hm => by
    have q : (H b).isSome = true := (List.mem_filter.mp hm).2
    rw [n] at q; simp at q
theorem of_hidT {h : Heap} {H : Hp} {b : Addr} {o : Obj} (e : (hidT h H).get? b = some o) : h.get? b = some o ∧ H b = none := by
  have e' : h.get? b = some o := PySem.W.of_hideAll (trk h H) e
  refine ⟨e', ?_⟩
  cases q : H b with
  | none => rfl
  | some x =>
    have hm : b ∈ trk h H := List.mem_filter.mpr ⟨List.mem_range.mpr (Heap.lt_size e'), by simp [q]⟩
    have z : (hidT h H).get? b = none := PySem.W.hideAll_none (trk h H) hm
    rw [z] at e; cases e
def allNews (g h : Heap) (L : Addr) : List (Addr × Obj) := (List.range h.objs.size).filterMap fun a => if a = L ∨ (g.get? a).isSome = true then none else (h.get? a).map fun o => (a, o)
def rest (g h : Heap) (L d : Addr) : List (Addr × Obj) := (allNews g h L).filter fun p => decide (p.1 ≠ d)
end L2
namespace L2
open PySem PySem.Spec PyProof.Rows
structure Mod (K : PySem.W.Frag) (mg : Str → Option Value) (base : Heap) : Prop where
  kin : K.In base
  glob : base.Ns mainGlobals mg
  blt : ∃ mb, base.Ns builtinsNs mb ∧ ∀ x : Str, x ≠ "__name__" → mb x = bootBuiltins x
  nolimit : base.NoLimit
  bm : ∃ bm o, mg "__builtins__" = some (.ref bm) ∧ bm ≠ builtinsNs ∧ base.get? bm = some o ∧ o.cls = .type "module" ∧ o.dict = some builtinsNs ∧ o.data = .plain
structure Cx where
  prog : Program
  w : World
  K : PySem.W.Frag
  mg : Str → Option Value
  base : Heap
  A : Around
  N : List Str
  s₀ : Shared
  H₀ : Hp
  env : Env
  outer : List Env
  stack : List Env
  ex : List Addr
  fn : Str → Bool
  calm : Bool
  pn : List (Addr × Obj)
  xe : Value → Shared → Prop
def frs (l : List Env) : List Addr := l.filterMap (·.frame)
abbrev Cx.fs (X : Cx) : List Addr := frs X.outer
def Vis (sc : Scope) (x : Str) : Prop := sc.names.lookup x = some .local ∨ sc.names.lookup x = some .cell ∨ sc.names.lookup x = some .free
def Loc (sc : Scope) (x : Str) : Prop := sc.names.lookup x = some .local ∨ sc.names.lookup x = some .cell
def Look (env : Env) (h : Heap) (m : Str → Option Value) (x : Str) (u : Value) : Prop :=
  (env.kindOf x = some .local ∧ m x = some u) ∨ ((env.kindOf x = some .cell ∨ env.kindOf x = some .free) ∧ ∃ c, env.cells.lookup x = some c ∧ h.IsCell c (some u))
structure Cx.Ok (X : Cx) : Prop where
  mod : Mod X.K X.mg X.base
  kind : X.env.scope.kind = .function
  glob : X.env.globals = mainGlobals
  blt : X.env.builtins = builtinsNs
  above : X.s₀.heap.objs.size ≤ X.env.locals
  inj : ∀ x y c, X.env.cells.lookup x = some c → X.env.cells.lookup y = some c → x = y
  has : ∀ x, (X.env.kindOf x = some .cell ∨ X.env.kindOf x = some .free) → ∃ c, X.env.cells.lookup x = some c
  cab : ∀ x c, X.fn x = true → X.env.cells.lookup x = some c → X.s₀.heap.objs.size ≤ c
  hd : X.calm = true → X.A.handled = none
  frames : X.A.frames = some X.stack
  stk : X.stack = X.outer ∨ (X.stack = X.env :: X.outer ∧ X.env.frame = some X.env.locals)
  exf : ∀ b ∈ X.ex, b ≠ X.env.locals ∧ ∀ x c, X.env.cells.lookup x = some c → c ≠ b
  bs : ∀ b o, X.base.get? b = some o → X.s₀.heap.get? b = some o ∧ X.H₀ b = none
  bsz : X.base.objs.size ≤ X.s₀.heap.objs.size
  noex : ∀ b o, X.base.get? b = some o → b ∉ X.ex
  exfs : ∀ b ∈ X.ex, b ∉ X.fs
  funs : X.s₀.heap.FunFrames X.base X.outer
  frf : ∀ b ∈ X.fs, X.H₀ b = none
structure Inv (X : Cx) (pins : List (Addr × Obj)) (σ : List (Option V)) (H : Hp) (s : Shared) : Prop where
  ok : X.Ok
  os : s.os = X.s₀.os
  bare : AllBare s.gens
  base : Un X.fs X.ex X.H₀ H X.s₀.heap s.heap
  loc : ∃ m, s.heap.Ns X.env.locals m ∧ ∀ (i : Nat) (x : Str) (v : V), X.N[i]? = some x → σ[i]? = some (some v) → Vis X.env.scope x → ∃ u, RelV v u ∧ Look X.env s.heap m x u
  cell : ∀ x c, X.env.cells.lookup x = some c → ∃ v, s.heap.IsCell c v
  free : H X.env.locals = none
  freeC : ∀ x c, X.env.cells.lookup x = some c → H c = none
  pin : ∀ p ∈ X.pn ++ pins, s.heap.get? p.1 = some p.2 ∧ H p.1 = none ∧ p.1 ≠ X.env.locals ∧ p.1 ∉ X.fs ∧ ∀ v, p.2.data ≠ .cell v
  hok : HOk X.prog X.w H s.heap
  len : σ.length = X.N.length
section
variable {X : Cx} {pins : List (Addr × Obj)} {σ : List (Option V)} {H H' : Hp} {s : Shared} {h' : Heap}
theorem Cx.Ok.nofr (ok : X.Ok) {b : Addr} {o : Obj} (e : X.base.get? b = some o) : b ∉ X.fs := fun hb => by
  have := (ok.funs.mem hb).1
  rw [e] at this; cases this
theorem Inv.bs (I : Inv X pins σ H s) : ∀ b o, X.base.get? b = some o → s.heap.get? b = some o ∧ H b = none := fun b o e =>
  ⟨I.base.keep b o (I.ok.bs b o e).1 (I.ok.bs b o e).2 (I.ok.nofr e) (I.ok.noex b o e), I.base.free b o (I.ok.bs b o e).1 (I.ok.bs b o e).2 (I.ok.noex b o e)⟩
theorem Inv.bk (I : Inv X pins σ H s) : ∀ b o, X.base.get? b = some o → s.heap.get? b = some o := fun b o e => (I.bs b o e).1
theorem Inv.mod (I : Inv X pins σ H s) : Mod X.K X.mg X.base := I.ok.mod
theorem Inv.kIn (I : Inv X pins σ H s) : X.K.In s.heap := I.ok.mod.kin.keeps I.bk
theorem Inv.nolimit (I : Inv X pins σ H s) : s.heap.NoLimit := I.ok.mod.nolimit.keeps I.bk
theorem Inv.fr (I : Inv X pins σ H s) : ∃ m, Fr X.base X.env.locals s.heap m :=
  let ⟨m, hn, _⟩ := I.loc
  ⟨m, hn, I.bk, Nat.le_trans I.ok.bsz I.ok.above⟩
theorem Inv.lt (I : Inv X pins σ H s) : X.env.locals < s.heap.objs.size := let ⟨_, hn, _⟩ := I.loc; hn.lt
theorem Inv.sz (I : Inv X pins σ H s) : X.s₀.heap.objs.size ≤ s.heap.objs.size := Nat.le_trans I.ok.above (Nat.le_of_lt I.lt)
theorem Inv.nofs (I : Inv X pins σ H s) {a : Addr} (h : s.heap.objs.size ≤ a) : a ∉ X.fs := fun hb => by
  obtain ⟨_, o, ho, _⟩ := I.ok.funs.mem hb
  exact absurd (Nat.lt_of_lt_of_le (Heap.lt_size ho) (Nat.le_trans I.sz h)) (Nat.lt_irrefl _)
theorem Inv.cne (I : Inv X pins σ H s) : ∀ x c, X.env.cells.lookup x = some c → c ≠ X.env.locals := fun x c e z => by
  obtain ⟨v, o, ho, hd⟩ := I.cell x c e
  obtain ⟨m, ⟨o', es, ep, ho', hd', _⟩, _⟩ := I.loc
  rw [z, ho'] at ho; cases ho; rw [hd'] at hd; cases hd
theorem Inv.funs (I : Inv X pins σ H s) : s.heap.FunFrames X.base X.outer := by
  have all : ∀ (l : List Env), (∀ b ∈ frs l, b ∈ X.fs) → X.s₀.heap.FunFrames X.base l → s.heap.FunFrames X.base l := by
    intro l
    induction l with
    | nil => intro _ _; trivial
    | cons env r ih =>
      intro hs hl
      obtain ⟨hk, ⟨L, o, hf, hn, ho, hd⟩, hr⟩ := hl
      have hL : L ∈ X.fs := hs L (by unfold frs; rw [List.filterMap_cons, hf]; exact List.mem_cons_self)
      obtain ⟨sl, e⟩ := I.base.slot L o ho (I.ok.frf L hL) hL fun z => I.ok.exfs L z hL
      exact ⟨hk, ⟨L, _, hf, hn, e, hd⟩, ih (fun b hb => hs b (by unfold frs; rw [List.filterMap_cons, hf]; exact List.mem_cons_of_mem _ hb)) hr⟩
  exact all X.outer (fun _ hb => hb) I.ok.funs
theorem Inv.stack (I : Inv X pins σ H s) : s.heap.FunFrames X.base X.stack := by
  rcases I.ok.stk with e | ⟨e, hf⟩
  · rw [e]; exact I.funs
  · rw [e]
    obtain ⟨m, hn, _⟩ := I.loc
    refine .cons (by rw [I.ok.kind]; decide) hf hn ?_ I.funs
    exact Heap.get?_none_of_le (Nat.le_trans I.ok.bsz I.ok.above)
theorem Inv.stkSub (I : Inv X pins σ H s) : ∀ b ∈ frs X.stack, b ∈ X.env.locals :: X.fs := fun b hb => by
  rcases I.ok.stk with e | ⟨e, hf⟩
  · rw [e] at hb; exact List.mem_cons_of_mem _ hb
  · rw [e] at hb
    unfold frs at hb
    rw [List.filterMap_cons, hf] at hb
    exact hb
theorem Inv.stkFree (I : Inv X pins σ H s) : ∀ b ∈ frs X.stack, H b = none := fun b hb => by
  rcases List.mem_cons.mp (I.stkSub b hb) with e | hb
  · rw [e]; exact I.free
  · obtain ⟨_, o, ho, _⟩ := I.ok.funs.mem hb
    exact I.base.free b o ho (I.ok.frf b hb) fun z => I.ok.exfs b z hb
theorem Inv.step {g' : Array GenState} {t' : Nat} {d' : Drawn} {ch : List Addr} (I : Inv X pins σ H s)
    (hch : ∀ b ∈ ch, (b ∈ X.ex ∨ X.s₀.heap.objs.size ≤ b) ∧ b ≠ X.env.locals ∧ (∀ x c, X.env.cells.lookup x = some c → c ≠ b) ∧ ∀ p ∈ X.pn ++ pins, p.1 ≠ b)
    (keep : ∀ b o, b ≠ X.env.locals → b ∉ X.fs → b ∉ ch → s.heap.get? b = some o → H b = none → h'.get? b = some o)
    (slot : ∀ b o, b ≠ X.env.locals → b ∈ X.fs → b ∉ ch → s.heap.get? b = some o → H b = none → ∃ sl, h'.get? b = some { o with slots := sl }) (free : ∀ b o, b ∉ ch → s.heap.get? b = some o → H b = none → H' b = none)
    (there : ∀ b o, b ∉ ch → s.heap.get? b = some o → ∃ o', h'.get? b = some o')
    (tups : ∀ b xs, H b = some (.tup xs) → H' b = some (.tup xs)) (frzs : ∀ b o u, H b = some (.frz o u) → H' b = some (.frz o u)) (tbls : ∀ b ps, H b = some (.tbl ps) → ∃ more, H' b = some (.tbl (ps ++ more)))
    (ns : ∀ m, s.heap.Ns X.env.locals m → h'.Ns X.env.locals m) (hok : HOk X.prog X.w H' h') (hg : AllBare g') :
    Inv X pins σ H' { s with heap := h', gens := g', drawn := d', toks := t' } := by
  have neL : ∀ b o, X.s₀.heap.get? b = some o → b ≠ X.env.locals := fun b o e => Nat.ne_of_lt (Nat.lt_of_lt_of_le (Heap.lt_size e) I.ok.above)
  have neC : ∀ b o, X.s₀.heap.get? b = some o → b ∉ X.ex → b ∉ ch := fun b o e hx hb => by
    rcases (hch b hb).1 with z | z
    · exact hx z
    · exact absurd (Nat.lt_of_lt_of_le (Heap.lt_size e) z) (Nat.lt_irrefl _)
  have cellK : ∀ x c, X.env.cells.lookup x = some c → ∀ v, s.heap.IsCell c v → h'.IsCell c v := fun x c e v ⟨o, ho, hd⟩ => by
    have nch : c ∉ ch := fun z => (hch c z).2.2.1 x c e rfl
    by_cases hc : c ∈ X.fs
    · obtain ⟨sl, q⟩ := slot c o (I.cne x c e) hc nch ho (I.freeC x c e)
      exact ⟨_, q, hd⟩
    · exact ⟨o, keep c o (I.cne x c e) hc nch ho (I.freeC x c e), hd⟩
  refine ⟨I.ok, I.os, hg, ⟨fun b o e n hb hx => ?_, fun b o e n hb hx => ?_, fun b o e n hx => ?_, fun b o e hx => ?_, fun b xs e => tups b xs (I.base.tups b xs e), fun b o xs e => frzs b o xs (I.base.frzs b o xs e), fun b ps e => ?_⟩, ?_, fun x c e => ?_, ?_, fun x c e => ?_, fun p hp => ?_, hok, I.len⟩
  · exact keep b o (neL b o e) hb (neC b o e hx) (I.base.keep b o e n hb hx) (I.base.free b o e n hx)
  · obtain ⟨sl, e1⟩ := I.base.slot b o e n hb hx
    obtain ⟨sl', e2⟩ := slot b _ (neL b o e) hb (neC b o e hx) e1 (I.base.free b o e n hx)
    exact ⟨sl', e2⟩
  · obtain ⟨o', e1⟩ := I.base.there b o e hx
    exact free b o' (neC b o e hx) e1 (I.base.free b o e n hx)
  · obtain ⟨o', e1⟩ := I.base.there b o e hx
    exact there b o' (neC b o e hx) e1
  · obtain ⟨m1, e1⟩ := I.base.tbls b ps e
    obtain ⟨m2, e2⟩ := tbls b _ e1
    exact ⟨m1 ++ m2, by rw [e2, Array.append_assoc]⟩
  · obtain ⟨m, hn, hl⟩ := I.loc
    refine ⟨m, ns m hn, fun i x v e1 e2 e3 => ?_⟩
    obtain ⟨u, r, l⟩ := hl i x v e1 e2 e3
    refine ⟨u, r, ?_⟩
    rcases l with l | ⟨k, c, e, z⟩
    · exact .inl l
    · exact .inr ⟨k, c, e, cellK x c e _ z⟩
  · obtain ⟨v, z⟩ := I.cell x c e
    exact ⟨v, cellK x c e v z⟩
  · obtain ⟨m, ⟨o, _, _, ho, _⟩, _⟩ := I.loc
    exact free _ o (fun z => (hch _ z).2.1 rfl) ho I.free
  · obtain ⟨v, o, ho, hd⟩ := I.cell x c e
    exact free c o (fun z => (hch c z).2.2.1 x c e rfl) ho (I.freeC x c e)
  · obtain ⟨e, n, ne, nf, d⟩ := I.pin p hp
    have nch : p.1 ∉ ch := fun z => (hch p.1 z).2.2.2 p hp rfl
    exact ⟨keep p.1 p.2 ne nf nch e n, free p.1 p.2 nch e n, ne, nf, d⟩
theorem Inv.un {t' : Nat} (I : Inv X pins σ H s) (u : Un X.fs [] H H' s.heap h') (hok : HOk X.prog X.w H' h') : Inv X pins σ H' { s with heap := h', toks := t' } := by
  obtain ⟨m, ⟨o, es, ep, ho, r⟩, _⟩ := id I.loc
  obtain ⟨sl, hL⟩ := u.any ho I.free (by simp)
  exact I.step (g' := s.gens) (d' := s.drawn) (ch := []) (fun _ z => nomatch z) (fun b o _ hb _ e n => u.keep b o e n hb (by simp)) (fun b o _ hb _ e n => u.slot b o e n hb (by simp)) (fun b o _ e n => u.free b o e n (by simp)) (fun b o _ e => u.there b o e (by simp)) u.tups u.frzs u.tbls (fun m' hm => by
    obtain ⟨o', es', ep', ho', r'⟩ := hm
    rw [ho] at ho'; cases ho'
    exact ⟨_, es', ep', hL, r'⟩) hok I.bare
theorem Inv.call {g' : Array GenState} {t' : Nat} {d' : Drawn} {ch : List Addr} (I : Inv X pins σ H s) (u : Un (frs X.stack) ch H H' s.heap h') (hok : HOk X.prog X.w H' h') (hg : AllBare g')
    (hch : ∀ b ∈ ch, (b ∈ X.ex ∨ X.s₀.heap.objs.size ≤ b) ∧ b ≠ X.env.locals ∧ (∀ x c, X.env.cells.lookup x = some c → c ≠ b) ∧ ∀ p ∈ X.pn ++ pins, p.1 ≠ b) :
    Inv X pins σ H' { s with heap := h', gens := g', drawn := d', toks := t' } := by
  obtain ⟨m, ⟨o, es, ep, ho, r⟩, _⟩ := id I.loc
  obtain ⟨sl, hL⟩ := u.any ho I.free fun z => (hch _ z).2.1 rfl
  exact I.step (ch := ch) hch (fun b o hL hb hc e n => u.keep b o e n (fun z => (List.mem_cons.mp (I.stkSub b z)).elim hL hb) hc) (fun b o _ _ hc e n => u.any e n hc) (fun b o hc e n => u.free b o e n hc) (fun b o hc e => u.there b o e hc) u.tups u.frzs u.tbls (fun m' hm => by
    obtain ⟨o', es', ep', ho', r'⟩ := hm
    rw [ho] at ho'; cases ho'
    exact ⟨_, es', ep', hL, r'⟩) hok hg
theorem Inv.turned {t' : Nat} {it : Addr} (I : Inv X pins σ H s) (k : ∀ b o, b ≠ it → s.heap.get? b = some o → h'.get? b = some o) (hn : H it = none) (hL : it ≠ X.env.locals)
    (h1 : it ∈ X.ex ∨ X.s₀.heap.objs.size ≤ it) (h2 : ∀ x c, X.env.cells.lookup x = some c → c ≠ it) (h3 : ∀ p ∈ X.pn ++ pins, p.1 ≠ it) : Inv X pins σ H { s with heap := h', toks := t' } := by
  have nit : ∀ b u, H b = some u → b ≠ it := fun b u e z => by rw [z, hn] at e; cases e
  refine I.step (g' := s.gens) (d' := s.drawn) (ch := [it]) (fun b hb => ?_) (fun b o _ _ hc e _ => k b o (fun z => hc (by simp [z])) e) (fun b o _ _ hc e _ => ⟨o.slots, k b o (fun z => hc (by simp [z])) e⟩) (fun _ _ _ _ n => n)
    (fun b o hc e => ⟨o, k b o (fun z => hc (by simp [z])) e⟩) (fun _ _ e => e) (fun _ _ _ e => e) (fun b ps e => ⟨#[], by rw [e]; simp⟩) (fun m hm => ?_) (fun b u e => ?_) I.bare
  · have e : b = it := by simpa using hb
    subst e
    exact ⟨h1, hL, h2, h3⟩
  · obtain ⟨o, es, ep, ho, r⟩ := hm
    exact ⟨o, es, ep, k _ o (Ne.symm hL) ho, r⟩
  · refine (I.hok b u e).stay (fun c v hc q => k c v ?_ q) (fun _ q => q) fun _ _ _ q => q
    rcases hc with z | z
    · rw [z]; exact nit b u e
    · exact nit c _ z
theorem Inv.tok (I : Inv X pins σ H s) (t : Nat) : Inv X pins σ H { s with toks := t } := I.un (h' := s.heap) (t' := t) Un.refl I.hok
theorem Inv.kept {t' : Nat} (I : Inv X pins σ H s) (k : ∀ b u, s.heap.get? b = some u → h'.get? b = some u) : Inv X pins σ H { s with heap := h', toks := t' } := I.un (Un.kept k) (I.hok.kept k)
theorem Inv.laid {a : Addr} {o : HO} {t' : Nat} (I : Inv X pins σ H s) (k : ∀ b u, s.heap.get? b = some u → h'.get? b = some u) (hp : s.heap.objs.size ≤ a) (new : ObjOk X.prog X.w (upd H a o) h' a o) :
    Inv X pins σ (upd H a o) { s with heap := h', toks := t' } := I.un (Un.laid k hp (I.hok.fresh hp)) (I.hok.laid k hp new)
theorem Inv.write {x e : Addr} {o : HO} {t' : Nat} (I : Inv X pins σ H s) (mu : Mut (H x)) (he : e = x ∨ H e = some (.own x)) (k : ∀ b u, b ≠ e → s.heap.get? b = some u → h'.get? b = some u) (heo : ∃ u, h'.get? e = some u)
    (new : ObjOk X.prog X.w (upd H x o) h' x o) : Inv X pins σ (upd H x o) { s with heap := h', toks := t' } := I.un (Un.write mu he k heo) (I.hok.write mu he k heo new)
theorem Inv.weak {σ' : List (Option V)} (I : Inv X pins σ H s) (hl : σ'.length = σ.length) (w : ∀ (i : Nat) v, σ'[i]? = some (some v) → σ[i]? = some (some v)) : Inv X pins σ' H s :=
  ⟨I.ok, I.os, I.bare, I.base, let ⟨m, hn, hl'⟩ := I.loc; ⟨m, hn, fun i x v e1 e2 e3 => hl' i x v e1 (w i v e2) e3⟩, I.cell, I.free, I.freeC, I.pin, I.hok, hl.trans I.len⟩
theorem Inv.pins_of {pins' : List (Addr × Obj)} (I : Inv X pins σ H s) (h : ∀ p ∈ pins', s.heap.get? p.1 = some p.2 ∧ H p.1 = none ∧ p.1 ≠ X.env.locals ∧ p.1 ∉ X.fs ∧ ∀ v, p.2.data ≠ .cell v) : Inv X pins' σ H s :=
  ⟨I.ok, I.os, I.bare, I.base, I.loc, I.cell, I.free, I.freeC, fun p hp => (List.mem_append.mp hp).elim (fun z => I.pin p (List.mem_append_left _ z)) (h p), I.hok, I.len⟩
theorem nodup_ix {N : List Str} (hN : N.Nodup) {i j : Nat} {x : Str} (a : N[i]? = some x) (b : N[j]? = some x) : i = j := by
  obtain ⟨h1, e1⟩ := List.getElem?_eq_some_iff.mp a
  obtain ⟨h2, e2⟩ := List.getElem?_eq_some_iff.mp b
  exact (List.getElem_inj hN).mp (e1.trans e2.symm)
theorem store_ok2 {M : Model} {A : Around} {E : Value → Shared → Prop} {i : Nat} {x : Str} {v : V} {u : Value} {Q : Unit → Shared → Prop} (I : Inv X pins σ H s) (hN : X.N.Nodup) (hi : X.N[i]? = some x) (hx : Loc X.env.scope x) (r : RelV v u)
    (h : ∀ s', Inv X pins (σ.set i (some v)) H s' → (∃ a, Heap.SameBut a s.heap s'.heap ∧ (a = X.env.locals ∨ X.env.cells.lookup x = some a)) → Q () s') (hf : X.fn x = true ∨ X.env.scope.names.lookup x = some .local := by first | exact .inl rfl | exact .inr rfl | assumption) : wpAny M A (storeName X.env x u) Q E s := by
  obtain ⟨m, hn, hl⟩ := id I.loc
  have hcls : (X.env.scope.kind == .class || (X.env.scope.kind == .module && X.env.locals != X.env.globals)) = false := by rw [I.ok.kind]; rfl
  have hiσ : i < σ.length := by rw [I.len]; exact (List.getElem?_eq_some_iff.mp hi).1
  have cne := I.cne
  have tracked : ∀ {a : Addr} {h' : Heap}, (∃ o, s.heap.get? a = some o ∧ H a = none) → Heap.SameBut a s.heap h' → HOk X.prog X.w H h' := fun {a h'} ha hs b ob e => by
    obtain ⟨_, _, hfree⟩ := ha
    refine (I.hok b ob e).stay (fun c w' hc q => (hs.2 c ?_).trans q) (fun _ q => q) fun _ _ _ q => q
    rintro rfl
    rcases hc with rfl | hc
    · rw [hfree] at e; cases e
    · rw [hfree] at hc; cases hc
  rcases hx with hk | hk
  · refine wpAny_storeName_local hk hn (fun h' hn' hs => ?_) hcls
    obtain ⟨oL, _, _, hoL, _⟩ := id hn
    refine h _ ⟨I.ok, I.os, I.bare, ⟨fun b o e n hb hx => ?_, fun b o e n hb hx => ?_, I.base.free, fun b o e hx => ?_, I.base.tups, I.base.frzs, I.base.tbls⟩, ⟨_, hn', fun j y v' e1 e2 e3 => ?_⟩, fun y c e => ?_, I.free, I.freeC, fun p hp => ?_, tracked ⟨oL, hoL, I.free⟩ hs, by simpa using I.len⟩ ⟨_, hs, .inl rfl⟩
    · exact (hs.2 b (Nat.ne_of_lt (Nat.lt_of_lt_of_le (Heap.lt_size e) I.ok.above))).trans (I.base.keep b o e n hb hx)
    · obtain ⟨sl, e1⟩ := I.base.slot b o e n hb hx
      exact ⟨sl, (hs.2 b (Nat.ne_of_lt (Nat.lt_of_lt_of_le (Heap.lt_size e) I.ok.above))).trans e1⟩
    · obtain ⟨o', e1⟩ := I.base.there b o e hx
      exact ⟨o', (hs.2 b (Nat.ne_of_lt (Nat.lt_of_lt_of_le (Heap.lt_size e) I.ok.above))).trans e1⟩
    · by_cases hj : j = i
      · subst hj
        rw [hi] at e1; cases e1
        rw [List.getElem?_set_self hiσ] at e2
        cases e2
        exact ⟨u, r, .inl ⟨hk, by simp⟩⟩
      · rw [List.getElem?_set_ne (Ne.symm hj)] at e2
        obtain ⟨u', r', q⟩ := hl j y v' e1 e2 e3
        refine ⟨u', r', ?_⟩
        rcases q with ⟨k, e⟩ | ⟨k, c, e, z⟩
        · refine .inl ⟨k, ?_⟩
          have : y ≠ x := fun e => hj (nodup_ix hN e1 (e ▸ hi))
          simp [this, e]
        · exact .inr ⟨k, c, e, z.sameBut hs (cne y c e)⟩
    · obtain ⟨w', z⟩ := I.cell y c e
      exact ⟨w', z.sameBut hs (cne y c e)⟩
    · obtain ⟨e, n, ne, nf, d⟩ := I.pin p hp
      exact ⟨(hs.2 p.1 ne).trans e, n, ne, nf, d⟩
  · have hfn : X.fn x = true := by
      rcases hf with z | z
      · exact z
      · rw [z] at hk; cases hk
    obtain ⟨c, hc⟩ := I.ok.has x (.inl hk)
    obtain ⟨w', z⟩ := I.cell x c hc
    refine wpAny_storeName_cell I.ok.kind hk hc z (fun h' hc' hs => ?_)
    obtain ⟨oc, hoc, hocd⟩ := id z
    refine h { s with heap := h' } ⟨I.ok, I.os, I.bare, ⟨fun b o e n hb hx => ?_, fun b o e n hb hx => ?_, I.base.free, fun b o e hx => ?_, I.base.tups, I.base.frzs, I.base.tbls⟩, ⟨m, hn.sameBut hs (Ne.symm (cne x c hc)), fun j y v' e1 e2 e3 => ?_⟩, fun y c' e => ?_, I.free, I.freeC, fun p hp => ?_, tracked ⟨oc, hoc, I.freeC x c hc⟩ hs, by simpa using I.len⟩ ⟨c, hs, .inr hc⟩
    · exact (hs.2 b (Nat.ne_of_lt (Nat.lt_of_lt_of_le (Heap.lt_size e) (I.ok.cab x c hfn hc)))).trans (I.base.keep b o e n hb hx)
    · obtain ⟨sl, e1⟩ := I.base.slot b o e n hb hx
      exact ⟨sl, (hs.2 b (Nat.ne_of_lt (Nat.lt_of_lt_of_le (Heap.lt_size e) (I.ok.cab x c hfn hc)))).trans e1⟩
    · obtain ⟨o', e1⟩ := I.base.there b o e hx
      exact ⟨o', (hs.2 b (Nat.ne_of_lt (Nat.lt_of_lt_of_le (Heap.lt_size e) (I.ok.cab x c hfn hc)))).trans e1⟩
    · by_cases hj : j = i
      · subst hj
        rw [hi] at e1; cases e1
        rw [List.getElem?_set_self hiσ] at e2
        cases e2
        exact ⟨u, r, .inr ⟨.inl hk, c, hc, hc'⟩⟩
      · rw [List.getElem?_set_ne (Ne.symm hj)] at e2
        obtain ⟨u', r', q⟩ := hl j y v' e1 e2 e3
        refine ⟨u', r', ?_⟩
        rcases q with q | ⟨k, c', e, z'⟩
        · exact .inl q
        · refine .inr ⟨k, c', e, z'.sameBut hs ?_⟩
          rintro rfl
          exact hj (nodup_ix hN e1 (I.ok.inj _ _ _ e hc ▸ hi))
    · by_cases hcc : c' = c
      · subst hcc; exact ⟨_, hc'⟩
      · obtain ⟨w2, z2⟩ := I.cell y c' e
        exact ⟨w2, z2.sameBut hs hcc⟩
    · obtain ⟨e, n, ne, nf, d⟩ := I.pin p hp
      refine ⟨(hs.2 p.1 ?_).trans e, n, ne, nf, d⟩
      intro q
      rw [q, hoc] at e
      have q' : oc = p.2 := Option.some.inj e
      exact d w' (by rw [← q']; exact hocd)
theorem store_ok {M : Model} {A : Around} {E : Value → Shared → Prop} {i : Nat} {x : Str} {v : V} {u : Value} {Q : Unit → Shared → Prop} (I : Inv X pins σ H s) (hN : X.N.Nodup) (hi : X.N[i]? = some x) (hx : Loc X.env.scope x) (r : RelV v u)
    (h : ∀ s', Inv X pins (σ.set i (some v)) H s' → Q () s') (hf : X.fn x = true ∨ X.env.scope.names.lookup x = some .local := by first | exact .inl rfl | exact .inr rfl | assumption) : wpAny M A (storeName X.env x u) Q E s :=
  store_ok2 I hN hi hx r (fun s' I' _ => h s' I') hf
theorem Inv.call' {s' : Shared} {ch : List Addr} (I : Inv X pins σ H s) (ho : s'.os = s.os) (u : Un (frs X.stack) ch H H' s.heap s'.heap) (hok : HOk X.prog X.w H' s'.heap) (hg : AllBare s'.gens)
    (hch : ∀ b ∈ ch, (b ∈ X.ex ∨ X.s₀.heap.objs.size ≤ b) ∧ b ≠ X.env.locals ∧ (∀ x c, X.env.cells.lookup x = some c → c ≠ b) ∧ ∀ p ∈ X.pn ++ pins, p.1 ≠ b) : Inv X pins σ H' s' := by
  obtain ⟨h', g', d', t', o'⟩ := s'
  have e : o' = s.os := ho
  subst e
  exact I.call (g' := g') (t' := t') (d' := d') u hok hg hch
end
abbrev XK := Value → Option Addr → Hp → Prop
abbrev St := List (Option V)
abbrev VK := V → Hp → Prop
abbrev TE := St → Hp → VK → Prop
abbrev TT := St → Hp → (Bool → Hp → Prop) → Prop
abbrev TA := St → Hp → (List V → Hp → Prop) → Prop
structure Ends where
  nx : St → Hp → Prop
  rt : VK
  bk : St → Hp → Prop := fun _ _ => False
  ct : St → Hp → Prop := fun _ _ => False
abbrev TS := Ends → St → Hp → Prop
def EP (X : Cx) (pins : List (Addr × Obj)) (σ : St) (Q : VK) (u : Value) (s' : Shared) : Prop := ∃ v H', Inv X pins σ H' s' ∧ RelV v u ∧ Q v H'
def TP (X : Cx) (pins : List (Addr × Obj)) (σ : St) (Q : Bool → Hp → Prop) (b : Bool) (s' : Shared) : Prop := ∃ H', Inv X pins σ H' s' ∧ Q b H'
def AP (X : Cx) (pins : List (Addr × Obj)) (σ : St) (Q : List V → Hp → Prop) (us : List Value) (s' : Shared) : Prop := ∃ vs H', Inv X pins σ H' s' ∧ Vals vs us ∧ Q vs H'
def SP (X : Cx) (pins : List (Addr × Obj)) (D : Ends) (f : Flow) (s' : Shared) : Prop :=
  match f with
  | .next => ∃ σ' H', Inv X pins σ' H' s' ∧ D.nx σ' H'
  | .brk => ∃ σ' H', Inv X pins σ' H' s' ∧ D.bk σ' H'
  | .cont => ∃ σ' H', Inv X pins σ' H' s' ∧ D.ct σ' H'
  | .ret u => ∃ v σ' H', Inv X pins σ' H' s' ∧ RelV v u ∧ D.rt v H'
def PE (X : Cx) (e : Expr) (t : TE) : Prop :=
  ∀ (pins : List (Addr × Obj)) (s : Shared) (σ : St) (H : Hp) (Q : VK), Inv X pins σ H s → t σ H Q → wpAny (model X.prog X.w) X.A (eval e X.env) (EP X pins σ Q) X.xe s
def PT (X : Cx) (e : Expr) (t : TT) : Prop :=
  ∀ (pins : List (Addr × Obj)) (s : Shared) (σ : St) (H : Hp) (Q : Bool → Hp → Prop), Inv X pins σ H s → t σ H Q → wpAny (model X.prog X.w) X.A (isTrue e X.env (eval e X.env)) (TP X pins σ Q) X.xe s
def PW (X : Cx) (e : Expr) (t : TT) : Prop :=
  ∀ (whole : Sem Value) (pins : List (Addr × Obj)) (s : Shared) (σ : St) (H : Hp) (Q : Bool → Hp → Prop), Inv X pins σ H s → t σ H Q → wpAny (model X.prog X.w) X.A (isTrue e X.env whole) (TP X pins σ Q) X.xe s
theorem PW.pt {X : Cx} {e : Expr} {t : TT} (h : PW X e t) : PT X e t := h _
def PA (X : Cx) (es : List Expr) (t : TA) : Prop :=
  ∀ (pos : Pos) (pins : List (Addr × Obj)) (s : Shared) (σ : St) (H : Hp) (Q : List V → Hp → Prop), Inv X pins σ H s → t σ H Q → wpAny (model X.prog X.w) X.A (spliced (backTo pos (starEach es X.env))) (AP X pins σ Q) X.xe s
def PS (X : Cx) (st : Stmt) (t : TS) : Prop :=
  ∀ (pins : List (Addr × Obj)) (s : Shared) (σ : St) (H : Hp) (D : Ends), Inv X pins σ H s → t D σ H → wpAny (model X.prog X.w) X.A (exec st X.env) (SP X pins D) X.xe s
def PSs (X : Cx) (st : List Stmt) (t : TS) : Prop :=
  ∀ (pins : List (Addr × Obj)) (s : Shared) (σ : St) (H : Hp) (D : Ends), Inv X pins σ H s → t D σ H → wpAny (model X.prog X.w) X.A (execs st X.env) (SP X pins D) X.xe s
theorem thn {α : Type} {t : Sem α} {Q Q' : α → Shared → Prop} {M : Model} {A : Around} {E : Value → Shared → Prop} {s : Shared} (h : wpAny M A t Q E s) (hQ : ∀ a s, Q a s → Q' a s) : wpAny M A t Q' E s := wpAny_mono h hQ fun _ _ x => x
end L2
namespace L2
open PySem PySem.Spec PyProof.Rows
section
variable {X : Cx}
def tVar (i : Nat) : TE := fun σ H Q => ∃ v, σ[i]? = some (some v) ∧ Q v H
def tC (v : V) : TE := fun _ H Q => Q v H
theorem pe_var {i : Nat} {x : Str} {pos : Pos} (hN : X.N[i]? = some x) (hv : Vis X.env.scope x) (hd : (x == ("__debug__" : Str)) = false := by decide) (hcd : (x == ("__classdict__" : Str)) = false := by decide) : PE X (.Name x pos) (tVar i) := by
  intro pins s σ H Q I h
  obtain ⟨v, e, h⟩ := h
  obtain ⟨m, hn, hl⟩ := I.loc
  obtain ⟨u, r, l⟩ := hl i x v hN e hv
  have fin : EP X pins σ Q u s := ⟨v, H, I, r, h⟩
  rcases l with ⟨hk, hm⟩ | ⟨hk, c, hc, hcell⟩
  · exact wpAny_Name (wpAny_loadName_local I.ok.kind hk hn hm fin) hd
  · rcases hk with hk | hk
    · exact wpAny_Name (wpAny_loadName_cell I.ok.kind hk hc hcell fin) hd
    · exact wpAny_Name (wpAny_loadName_free I.ok.kind hk hc hcell fin hcd) hd
theorem pe_int {i j pos} : PE X (.Constant (.int i) j pos) (tC (.int i)) := fun _ _ _ H _ I h => wpAny_Constant_int ⟨.int i, H, I.tok _, ⟨_, rfl⟩, h⟩
theorem pe_bl {b j pos} : PE X (.Constant (.bool b) j pos) (tC (.bl b)) := fun _ _ _ H _ I h => Constant_bool ⟨.bl b, H, I, rfl, h⟩
theorem pe_non {j pos} : PE X (.Constant .none j pos) (tC .non) := fun _ _ _ H _ I h => Constant_none ⟨.non, H, I, rfl, h⟩
theorem pe_str {x j pos} : PE X (.Constant (.str x) j pos) (tC (.str x)) := fun _ _ _ H _ I h => Calls.Constant_str ⟨.str x, H, I.tok _, ⟨_, rfl⟩, h⟩
def Gl (X : Cx) (x : Str) : Prop := X.env.kindOf x = some .globalImplicit
theorem ld_glob {E : Value → Shared → Prop} {pins : List (Addr × Obj)} {s : Shared} {σ : St} {H : Hp} {x : Str} {u : Value} {pos : Pos} {Q : Value → Shared → Prop} (I : Inv X pins σ H s) (hg : Gl X x) (hm : X.mg x = some u) (h : Q u s)
    (hd : (x == ("__debug__" : Str)) = false := by decide) : wpAny (model X.prog X.w) X.A (eval (.Name x pos) X.env) Q E s :=
  Calls.Name_function_global I.ok.kind hg (Calls.loadGlobal_global (by rw [I.ok.glob]; exact I.mod.glob.keeps I.bk) hm h) hd
theorem ld_blt {E : Value → Shared → Prop} {pins : List (Addr × Obj)} {s : Shared} {σ : St} {H : Hp} {x : Str} {u : Value} {pos : Pos} {Q : Value → Shared → Prop} (I : Inv X pins σ H s) (hg : Gl X x) (hm : X.mg x = none) (hv : bootBuiltins x = some u) (h : Q u s)
    (hn : x ≠ "__name__" := by decide) (hd : (x == ("__debug__" : Str)) = false := by decide) : wpAny (model X.prog X.w) X.A (eval (.Name x pos) X.env) Q E s := by
  obtain ⟨mb, h1, h2⟩ := I.mod.blt
  exact Calls.Name_function_global I.ok.kind hg (Calls.loadGlobal_builtin (by rw [I.ok.glob]; exact I.mod.glob.keeps I.bk) hm (by rw [I.ok.blt]; exact h1.keeps I.bk) ((h2 x hn).trans hv) h) hd
theorem pe_glob {x : Str} {v : V} {u : Value} {pos : Pos} (hg : Gl X x) (hm : X.mg x = some u) (r : RelV v u) (hd : (x == ("__debug__" : Str)) = false := by decide) : PE X (.Name x pos) (tC v) :=
  fun _ _ _ H _ I h => ld_glob I hg hm ⟨v, H, I, r, h⟩ hd
theorem pe_bltn {x : Str} {v : V} {u : Value} {pos : Pos} (hg : Gl X x) (hm : X.mg x = none) (hv : bootBuiltins x = some u) (r : RelV v u) (hn : x ≠ "__name__" := by decide) (hd : (x == ("__debug__" : Str)) = false := by decide) : PE X (.Name x pos) (tC v) :=
  fun _ _ _ H _ I h => ld_blt I hg hm hv ⟨v, H, I, r, h⟩ hn hd
variable {a b : Expr} {ta tb : TE} {pos : Pos}
def tB (t : TE) : TT := fun σ H Q => t σ H fun x H1 => ∃ c, x = .bl c ∧ Q c H1
theorem pt_val {e : Expr} {t : TE} (h : PE X e t) (he : ∀ whole, isTrue e X.env whole = (do let v ← whole; standAt e.pos; holding [v] (truthy v)) := by intro _; rfl) : PT X e (tB t) := by
  intro pins s σ H Q I hw
  refine isTrue_plain (thn (h pins s σ H _ I hw) fun v s1 ⟨x, H1, I1, r1, q1⟩ => ?_) (he _)
  obtain ⟨d, rfl, q⟩ := q1
  cases r1
  exact wpAny_truthy_bool ⟨H1, I1, q⟩
variable {tA tB' : TT} {rest : List Expr}
def tAnd (t u : TT) : TT := fun σ H Q => t σ H fun c H1 => if c = true then u σ H1 Q else Q false H1
def tOr (t u : TT) : TT := fun σ H Q => t σ H fun c H1 => if c = true then Q true H1 else u σ H1 Q
def tNot (t : TT) : TT := fun σ H Q => t σ H fun c H1 => Q (!c) H1
theorem pw_and1 (ha : PT X a tA) : PW X (.BoolOp .And [a] pos) tA := by
  intro wh pins s σ H Q I h
  refine isTrue_and (thn (ha pins s σ H Q I h) fun c s1 e => ?_)
  cases c with
  | true => exact isTrue_and_nil e
  | false => exact e
theorem pw_or1 (ha : PT X a tA) : PW X (.BoolOp .Or [a] pos) tA := by
  intro wh pins s σ H Q I h
  refine isTrue_or (thn (ha pins s σ H Q I h) fun c s1 e => ?_)
  cases c with
  | false => exact isTrue_or_nil e
  | true => exact e
theorem pw_and (ha : PT X a tA) (hb : PW X (.BoolOp .And (b :: rest) pos) tB') : PW X (.BoolOp .And (a :: b :: rest) pos) (tAnd tA tB') := by
  intro wh pins s σ H Q I h
  refine isTrue_and (thn (ha pins s σ H _ I h) fun c s1 ⟨H1, I1, q1⟩ => ?_)
  cases c with
  | true => exact hb wh pins s1 σ H1 Q I1 q1
  | false => exact ⟨H1, I1, q1⟩
theorem pw_or (ha : PT X a tA) (hb : PW X (.BoolOp .Or (b :: rest) pos) tB') : PW X (.BoolOp .Or (a :: b :: rest) pos) (tOr tA tB') := by
  intro wh pins s σ H Q I h
  refine isTrue_or (thn (ha pins s σ H _ I h) fun c s1 ⟨H1, I1, q1⟩ => ?_)
  cases c with
  | true => exact ⟨H1, I1, q1⟩
  | false => exact hb wh pins s1 σ H1 Q I1 q1
theorem pt_not (ha : PT X a tA) : PT X (.UnaryOp .Not a pos) (tNot tA) := by
  intro pins s σ H Q I h
  exact isTrue_not (ha pins s σ H (fun c H1 => Q (!c) H1) I h)
def tAndV (ta tb : TE) : TE := fun σ H Q => ta σ H fun x H1 => ∃ c, x = .bl c ∧ if c = true then tb σ H1 Q else Q (.bl false) H1
def tOrV (ta tb : TE) : TE := fun σ H Q => ta σ H fun x H1 => ∃ c, x = .bl c ∧ if c = true then Q (.bl true) H1 else tb σ H1 Q
def tNotV (ta : TE) : TE := fun σ H Q => ta σ H fun x H1 => ∃ c, x = .bl c ∧ Q (.bl (!c)) H1
theorem pe_one {op} {t : TE} (h : PE X a t) : PE X (.BoolOp op [a] pos) t := fun pins s σ H Q I hw => BoolOp_one (h pins s σ H Q I hw)
theorem pe_and (ha : PE X a ta) (hb : PE X (.BoolOp .And (b :: rest) pos) tb) : PE X (.BoolOp .And (a :: b :: rest) pos) (tAndV ta tb) := by
  intro pins s σ H Q I h
  refine BoolOp_and (thn (ha pins s σ H _ I h) fun v s1 ⟨x, H1, I1, r1, q1⟩ => ?_)
  obtain ⟨c, rfl, q1⟩ := q1
  cases r1
  refine wpAny_truthy_bool ?_
  cases c with
  | true => exact hb pins s1 σ H1 Q I1 q1
  | false => exact ⟨.bl false, H1, I1, rfl, q1⟩
def tIf (t : TT) (ta tb : TE) : TE := fun σ H Q => t σ H fun c H1 => if c = true then ta σ H1 Q else tb σ H1 Q
theorem pe_ifExp {c : Expr} (hc : PT X c tA) (ha : PE X a ta) (hb : PE X b tb) : PE X (.IfExp c a b pos) (tIf tA ta tb) := by
  intro pins s σ H Q I h
  refine wpAny_IfExp (thn (hc pins s σ H _ I h) fun d s1 ⟨H1, I1, q1⟩ => ?_)
  cases d with
  | true => exact ha pins s1 σ H1 Q I1 q1
  | false => exact hb pins s1 σ H1 Q I1 q1
end
end L2
namespace L2
open PySem PySem.Spec PyProof.Rows
def SqL (K : PySem.W.Frag) (H : Hp) (a : Addr) (xs : List V) : Prop :=
  Rd H a (.lst xs) ∨
    ∃ (o : Obj) (its : Array Value) (n : Nat), K.lookup a = some o ∧ o.cls = .type "list" ∧ o.dict = none ∧ o.data = .seq its n ∧ its.size ≤ sizeLine ∧ Vals xs its.toList
def SqT (K : PySem.W.Frag) (H : Hp) (a : Addr) (xs : List V) : Prop :=
  Rd H a (.tup xs) ∨
    ∃ (o : Obj) (its : Array Value) (n : Nat), K.lookup a = some o ∧ o.cls = .type "tuple" ∧ o.data = .seq its n ∧ its.size ≤ sizeLine ∧ Vals xs its.toList
def absV : Value → Option V
  | .none => some .non
  | .bool b => some (.bl b)
  | .int i _ => some (.int i)
  | .str x _ => some (.str x)
  | .bytes b _ => some (.byt b)
  | .float b _ => some (.flt b)
  | .ref a => some (.ref a)
  | .type n => some (.ty n)
  | _ => none
theorem RelV.abs {x : V} {u : Value} (r : RelV x u) : absV u = some x := by
  cases x with
  | non => cases r; rfl
  | bl _ => cases r; rfl
  | int _ => obtain ⟨t, rfl⟩ := r; rfl
  | str _ => obtain ⟨t, rfl⟩ := r; rfl
  | byt _ => obtain ⟨t, rfl⟩ := r; rfl
  | flt _ => obtain ⟨t, rfl⟩ := r; rfl
  | ref _ => cases r; rfl
  | ty _ => cases r; rfl
theorem RelV.inj {x y : V} {u : Value} (r : RelV x u) (q : RelV y u) : x = y := Option.some.inj (r.abs.symm.trans q.abs)
theorem Vals.inj : ∀ {xs ys : List V} {us : List Value}, Vals xs us → Vals ys us → xs = ys
  | _, _, _, .nil, .nil => rfl
  | _, _, _, .cons r t, .cons r' t' => by rw [r.inj r', Vals.inj t t']
section
variable {X : Cx} {pins : List (Addr × Obj)} {σ : St} {H : Hp} {s : Shared} {a : Addr} {xs ys : List V}
theorem SqL.of {K : PySem.W.Frag} (h : H a = some (.lst xs)) : SqL K H a xs := .inl (.inl h)
theorem SqT.of {K : PySem.W.Frag} (h : H a = some (.tup xs)) : SqT K H a xs := .inl (.inl h)
theorem Inv.list (I : Inv X pins σ H s) (h : SqL X.K H a xs) : ∃ its : List Value, Vals xs its ∧ PlainL s.heap a its.toArray ∧ xs.length ≤ sizeLine := by
  rcases h with h | ⟨o, its, n, hk, hc, hd, hs, hz, r⟩
  · obtain ⟨z, its, n, r, e⟩ := h.ok I.hok
    exact ⟨its, r, ⟨_, n, e, rfl, rfl, rfl⟩, z⟩
  · refine ⟨its.toList, r, ⟨o, n, I.kIn a o hk, hc, hd, by simpa using hs⟩, ?_⟩
    have e := r.length
    simp only [Array.length_toList] at e
    omega
theorem Inv.tuple (I : Inv X pins σ H s) (h : SqT X.K H a xs) : ∃ its : List Value, Vals xs its ∧ IsTup s.heap a its.toArray ∧ xs.length ≤ sizeLine := by
  rcases h with h | ⟨o, its, n, hk, hc, hs, hz, r⟩
  · obtain ⟨z, its, r, p⟩ := h.ok I.hok
    exact ⟨its, r, p, z⟩
  · refine ⟨its.toList, r, ⟨o, I.kIn a o hk, hc, n, by simpa using hs⟩, ?_⟩
    have e := r.length
    simp only [Array.length_toList] at e
    omega
theorem Inv.list_inj (I : Inv X pins σ H s) (h : SqL X.K H a xs) (h' : SqL X.K H a ys) : xs = ys := by
  obtain ⟨its, r, ⟨o, n, e, _, _, d⟩, _⟩ := I.list h
  obtain ⟨its', r', ⟨o', n', e', _, _, d'⟩, _⟩ := I.list h'
  rw [e] at e'; cases e'
  rw [d] at d'
  injection d' with d1 _
  have : its = its' := by simpa using congrArg Array.toList d1
  subst this
  exact r.inj r'
theorem Inv.tuple_inj (I : Inv X pins σ H s) (h : SqT X.K H a xs) (h' : SqT X.K H a ys) : xs = ys := by
  obtain ⟨its, r, ⟨o, e, _, n, d⟩, _⟩ := I.tuple h
  obtain ⟨its', r', ⟨o', e', _, n', d'⟩, _⟩ := I.tuple h'
  rw [e] at e'; cases e'
  rw [d] at d'
  injection d' with d1 _
  have : its = its' := by simpa using congrArg Array.toList d1
  subst this
  exact r.inj r'
end
abbrev Cx.wish (X : Cx) (E : Value → Shared → Prop) : Cx := { X with xe := E }
abbrev Cx.nox (X : Cx) : Cx := X.wish fun _ _ => False
theorem Cx.Ok.wish {X : Cx} (ok : X.Ok) (E : Value → Shared → Prop) : (X.wish E).Ok :=
  ⟨ok.mod, ok.kind, ok.glob, ok.blt, ok.above, ok.inj, ok.has, ok.cab, ok.hd, ok.frames, ok.stk, ok.exf, ok.bs, ok.bsz, ok.noex, ok.exfs, ok.funs, ok.frf⟩
theorem Cx.Ok.unwish {X : Cx} {E : Value → Shared → Prop} (ok : (X.wish E).Ok) : X.Ok :=
  ⟨ok.mod, ok.kind, ok.glob, ok.blt, ok.above, ok.inj, ok.has, ok.cab, ok.hd, ok.frames, ok.stk, ok.exf, ok.bs, ok.bsz, ok.noex, ok.exfs, ok.funs, ok.frf⟩
section
variable {X : Cx} {pins : List (Addr × Obj)} {σ : St} {H : Hp} {s : Shared} {E : Value → Shared → Prop}
theorem Inv.wish (I : Inv X pins σ H s) (E : Value → Shared → Prop) : Inv (X.wish E) pins σ H s := ⟨I.ok.wish E, I.os, I.bare, I.base, I.loc, I.cell, I.free, I.freeC, I.pin, I.hok, I.len⟩
theorem Inv.unwish (I : Inv (X.wish E) pins σ H s) : Inv X pins σ H s := ⟨I.ok.unwish, I.os, I.bare, I.base, I.loc, I.cell, I.free, I.freeC, I.pin, I.hok, I.len⟩
theorem SP.unwish {D : Ends} {f : Flow} {s' : Shared} (h : SP (X.wish E) pins D f s') : SP X pins D f s' := by
  cases f with
  | next => obtain ⟨σ', H', I, q⟩ := h; exact ⟨σ', H', I.unwish, q⟩
  | brk => obtain ⟨σ', H', I, q⟩ := h; exact ⟨σ', H', I.unwish, q⟩
  | cont => obtain ⟨σ', H', I, q⟩ := h; exact ⟨σ', H', I.unwish, q⟩
  | ret u => obtain ⟨v, σ', H', I, r, q⟩ := h; exact ⟨v, σ', H', I.unwish, r, q⟩
theorem PE.nox {e : Expr} {t : TE} (h : PE X.nox e t) : PE X e t := fun pins s σ H Q I hw =>
  wpAny_mono (h pins s σ H Q (I.wish _) hw) (fun _ _ ⟨v, H', I', r, q⟩ => ⟨v, H', I'.unwish, r, q⟩) fun _ _ z => False.elim z
theorem PT.nox {e : Expr} {t : TT} (h : PT X.nox e t) : PT X e t := fun pins s σ H Q I hw =>
  wpAny_mono (h pins s σ H Q (I.wish _) hw) (fun _ _ ⟨H', I', q⟩ => ⟨H', I'.unwish, q⟩) fun _ _ z => False.elim z
theorem PSs.nox {st : List Stmt} {t : TS} (h : PSs X.nox st t) : PSs X st t := fun pins s σ H D I hw =>
  wpAny_mono (h pins s σ H D (I.wish _) hw) (fun _ _ q => q.unwish) fun _ _ z => False.elim z
end
section
variable {X : Cx} {st : Stmt} {rest : List Stmt} {t u : TS} {e : Expr} {te : TE} {pos : Pos}
def tNext : TS := fun D σ H => D.nx σ H
def tSeq (t u : TS) : TS := fun D σ H => t { D with nx := u D } σ H
theorem pss_nil : PSs X [] tNext := fun _ _ σ H _ I h => wpAny_execs_nil ⟨σ, H, I, h⟩
theorem pss_cons (h1 : PS X st t) (h2 : PSs X rest u) : PSs X (st :: rest) (tSeq t u) := by
  intro pins s σ H D I h
  refine wpAny_execs_cons (thn (h1 pins s σ H { D with nx := u D } I h) fun f s1 q => ?_)
  cases f with
  | next =>
    obtain ⟨σ', H', I', q⟩ := q
    exact h2 pins s1 σ' H' D I' q
  | ret v => exact q
  | brk => exact q
  | cont => exact q
theorem pss_one (h1 : PS X st t) : PSs X [st] t := by
  intro pins s σ H D I h
  refine wpAny_execs_cons (thn (h1 pins s σ H D I h) fun f s1 q => ?_)
  cases f with
  | next => exact wpAny_execs_nil q
  | ret v => exact q
  | brk => exact q
  | cont => exact q
def tBreak : TS := fun D σ H => D.bk σ H
def tCont : TS := fun D σ H => D.ct σ H
theorem Inv.quiet {pins : List (Addr × Obj)} {σ : St} {H : Hp} {s : Shared} (I : Inv X pins σ H s) : interactive X.env = false := by simp [interactive, I.ok.kind]
def tDrop (te : TE) : TS := fun D σ H => te σ H fun _ H1 => D.nx σ H1
theorem ps_expr (he : PE X e te) (hs : swapsWith e none pos.line X.env = pure false := by rfl) : PS X (.Expr e pos) (tDrop te) := by
  intro pins s σ H D I h
  exact wpAny_Expr_any (thn (he pins s σ H _ I h) fun v s1 ⟨x, H1, I1, r1, q1⟩ => ⟨σ, H1, I1, q1⟩) I.quiet hs
def tRet (te : TE) : TS := fun D σ H => te σ H D.rt
theorem ps_ret (he : PE X e te) : PS X (.Return (some e) pos) (tRet te) := by
  intro pins s σ H D I h
  exact wpAny_Return_some (thn (he pins s σ H _ I h) fun v s1 ⟨x, H1, I1, r1, q1⟩ => ⟨x, σ, H1, I1, r1, q1⟩)
def tRetN : TS := fun D _ H => D.rt .non H
def tIfS (c : TT) (t u : TS) : TS := fun D σ H => c σ H fun b H1 => if b = true then t D σ H1 else u D σ H1
theorem ps_if {c : Expr} {a b : List Stmt} {tc : TT} (hc : PT X c tc) (ha : PSs X a t) (hb : PSs X b u) : PS X (.If c a b pos) (tIfS tc t u) := by
  intro pins s σ H D I h
  refine wpAny_If (thn (hc pins s σ H _ I h) fun d s1 ⟨H1, I1, q1⟩ => ?_)
  cases d with
  | true => exact ha pins s1 σ H1 D I1 q1
  | false => exact hb pins s1 σ H1 D I1 q1
end
abbrev TG := V → St → Hp → (St → Hp → Prop) → Prop
abbrev TGs := List V → St → Hp → (St → Hp → Prop) → Prop
def PG (X : Cx) (target : Expr) (t : TG) : Prop :=
  ∀ (pins : List (Addr × Obj)) (s : Shared) (σ : St) (H : Hp) (v : V) (u : Value) (Q : St → Hp → Prop), Inv X pins σ H s → RelV v u → t v σ H Q →
    wpAny (model X.prog X.w) X.A (assign target X.env u) (fun _ s' => ∃ σ' H', Inv X pins σ' H' s' ∧ Q σ' H') X.xe s
def PGs (X : Cx) (ts : List Expr) (t : TGs) : Prop :=
  ∀ (pins : List (Addr × Obj)) (s : Shared) (σ : St) (H : Hp) (vs : List V) (us : List Value) (Q : St → Hp → Prop), Inv X pins σ H s → Vals vs us → t vs σ H Q →
    wpAny (model X.prog X.w) X.A (assignInOrder ((assignEach ts X.env).map (·.2)) us) (fun _ s' => ∃ σ' H', Inv X pins σ' H' s' ∧ Q σ' H') X.xe s
abbrev TSet := V → V → V → Hp → (Hp → Prop) → Prop
def PSet (X : Cx) (t : TSet) : Prop :=
  ∀ (pins : List (Addr × Obj)) (s : Shared) (σ : St) (H : Hp) (o i v : V) (ov iv u : Value) (Q : Hp → Prop), Inv X pins σ H s → RelV o ov → RelV i iv → RelV v u → t o i v H Q →
    wpAny (model X.prog X.w) X.A (setItem ov iv u) (fun _ s' => ∃ H', Inv X pins σ H' s' ∧ Q H') X.xe s
abbrev TIp := V → V → Hp → VK → Prop
def PIp (X : Cx) (op : Operator) (t : TIp) : Prop :=
  ∀ (pins : List (Addr × Obj)) (s : Shared) (σ : St) (H : Hp) (x y : V) (v u : Value) (Q : VK), Inv X pins σ H s → RelV x v → RelV y u → t x y H Q →
    wpAny (model X.prog X.w) X.A (inplaceOp op v u) (EP X pins σ Q) X.xe s
section
variable {X : Cx} {pos : Pos}
def gName (i : Nat) : TG := fun v σ H Q => Q (σ.set i (some v)) H
theorem pg_name {i : Nat} {x : Str} (hN : X.N.Nodup) (hi : X.N[i]? = some x) (hx : Loc X.env.scope x) (hf : X.fn x = true ∨ X.env.scope.names.lookup x = some .local := by first | exact .inl rfl | exact .inr rfl | assumption) : PG X (.Name x pos) (gName i) := by
  intro pins s σ H v u Q I r h
  exact wpAny_assign_Name (store_ok I hN hi hx r (fun s' I' => ⟨_, H, I', h⟩) hf)
def gNil : TGs := fun vs σ H Q => vs = [] ∧ Q σ H
def gCons (t : TG) (u : TGs) : TGs := fun vs σ H Q => ∃ v r, vs = v :: r ∧ t v σ H fun σ' H' => u r σ' H' Q
theorem pgs_nil : PGs X [] gNil := by
  intro pins s σ H vs us Q I r h
  obtain ⟨e, h⟩ := h
  subst e
  cases r
  exact assignInOrder_nil ⟨σ, H, I, h⟩
theorem pgs_cons {e : Expr} {es : List Expr} {t : TG} {u : TGs} (h1 : PG X e t) (h2 : PGs X es u)
    (hs : (assignEach (e :: es) X.env).map (·.2) = assign e X.env :: (assignEach es X.env).map (·.2) := by rfl) : PGs X (e :: es) (gCons t u) := by
  intro pins s σ H vs us Q I r h
  obtain ⟨v, vr, e1, h⟩ := h
  subst e1
  cases r with
  | cons r rr =>
    rw [hs]
    refine assignInOrder_cons (thn (h1 pins s σ H _ _ _ I r h) fun _ s1 ⟨σ1, H1, I1, q1⟩ => ?_)
    exact h2 pins s1 σ1 H1 _ _ Q I1 rr q1
def gTup (K : PySem.W.Frag) (n : Nat) (t : TGs) : TG := fun v σ H Q => ∃ a xs, v = .ref a ∧ SqT K H a xs ∧ xs.length = n ∧ t xs σ H Q
theorem pg_tup {es : List Expr} {k : Nat} {t : TGs} {n : Nat} (hc : X.calm = true) (h : PGs X es t)
    (hn : (assignEach es X.env).length = n := by rfl) (hst : (assignEach es X.env).findIdx? (·.1) = none := by rfl) : PG X (.Tuple es k pos) (gTup X.K n t) := by
  intro pins s σ H v u Q I r hw
  obtain ⟨a, xs, e1, hq, hl, hw⟩ := hw
  subst e1
  cases r
  obtain ⟨its, rv, ht, hz⟩ := I.tuple hq
  refine assign_Tuple_tuple (I.ok.hd hc) ht (by simp [hn, ← hl, rv.length]) hst fun h' hx => ?_
  have I1 : Inv X pins σ H { s with heap := h' } := I.kept (t' := s.toks) fun b o e => hx b o (Nat.ne_of_lt (Heap.lt_size e)) e
  exact h pins _ σ H xs _ Q I1 (by simpa using rv) hw
def gSub (to ti : TE) (t : TSet) : TG := fun v σ H Q => to σ H fun o H1 => ti σ H1 fun i H2 => t o i v H2 fun H3 => Q σ H3
theorem pg_sub {o i : Expr} {to ti : TE} {t : TSet} (ho : PE X o to) (hi : PE X i ti) (hs : PSet X t)
    (ha : ∀ v, assign (.Subscript o i pos) X.env v = (do
      let ov ← holding [v] (eval o X.env)
      let iv ← holding [v, ov] (eval i X.env)
      standAt pos
      holding [v, ov, iv] (setItem ov iv v)
      release [v, ov, iv] []) := by intro _; rfl) : PG X (.Subscript o i pos) (gSub to ti t) := by
  intro pins s σ H v u Q I r h
  rw [ha]
  refine wpAny_bind (wpAny_holding (thn (ho pins s σ H _ I h) fun ov s1 ⟨x, H1, I1, r1, q1⟩ => ?_))
  refine wpAny_bind (wpAny_holding (thn (hi pins s1 σ H1 _ I1 q1) fun iv s2 ⟨y, H2, I2, r2, q2⟩ => ?_))
  refine wpAny_bind (wpAny_standAt (wpAny_bind (wpAny_holding (thn (hs pins s2 σ H2 x y v ov iv u _ I2 r1 r2 r q2) fun _ s3 ⟨H3, I3, q3⟩ => ?_))))
  exact wpAny_release ⟨σ, H3, I3, q3⟩
def tAsg (te : TE) (g : TG) : TS := fun D σ H => te σ H fun x H1 => g x σ H1 D.nx
theorem ps_asg {tg e : Expr} {te : TE} {g : TG} (he : PE X e te) (hg : PG X tg g) (hs : swapsWithSole [tg] e pos.line X.env = pure false := by rfl) (hw : swappedStores [tg] e X.env = pure none := by rfl)
    (h1 : (assignEach [tg] X.env).map (·.2) = [assign tg X.env] := by rfl) : PS X (.Assign [tg] e pos) (tAsg te g) := by
  intro pins s σ H D I h
  refine wpAny_Assign_stores (thn (he pins s σ H _ I h) fun v s1 ⟨x, H1, I1, r1, q1⟩ => ?_) hs hw
  rw [h1]
  exact thn (hg pins s1 σ H1 x v _ I1 r1 q1) fun _ s2 q => q
theorem ps_set {i : Nat} {x : Str} {e : Expr} {te : TE} {pos' : Pos} (hN : X.N.Nodup) (hi : X.N[i]? = some x) (hx : Loc X.env.scope x) (he : PE X e te) (hs : swapsWith e (some (.Name x pos')) pos.line X.env = pure false := by rfl) (hf : X.fn x = true ∨ X.env.scope.names.lookup x = some .local := by first | exact .inl rfl | exact .inr rfl | assumption) :
    PS X (.Assign [.Name x pos'] e pos) (tAsg te (gName i)) := by
  intro pins s σ H D I h
  refine wpAny_Assign_Name (thn (he pins s σ H _ I h) fun v s1 ⟨y, H1, I1, r1, q1⟩ => ?_) hs
  exact store_ok I1 hN hi hx r1 (fun s2 I2 => ⟨_, H1, I2, q1⟩) hf
def tPar (i j : Nat) (ta : TA) : TS := fun D σ H => ta σ H fun vs H1 => ∃ v w, vs = [v, w] ∧ D.nx ((σ.set i (some v)).set j (some w)) H1
theorem ps_par {i j : Nat} {x y : Str} {a b : Expr} {ta : TA} {px py pt : Pos} {kt k2 pt2} (hc : X.calm = true) (hN : X.N.Nodup) (hi : X.N[i]? = some x) (hj : X.N[j]? = some y) (hij : i ≠ j)
    (hx : X.env.scope.names.lookup x = some .local) (hy : X.env.scope.names.lookup y = some .local) (ha : PA X [a, b] ta)
    (hw : swappedStores [.Tuple [.Name x px, .Name y py] kt pt] (.Tuple [a, b] k2 pt2) X.env = pure (some [x, y]))
    (hs : swapsWithSole [.Tuple [.Name x px, .Name y py] kt pt] (.Tuple [a, b] k2 pt2) pos.line X.env = pure false := by rfl) :
    PS X (.Assign [.Tuple [.Name x px, .Name y py] kt pt] (.Tuple [a, b] k2 pt2) pos) (tPar i j ta) := by
  intro pins s σ H D I h
  rw [exec_Assign_arm]
  refine wpAny_bind (wpAny_standAt ?_)
  rw [hs]
  refine wpAny_bind (wpAny_pure ?_)
  rw [if_neg (by decide)]
  refine wpAny_bind (Tuple_ (thn (ha _ pins s σ H _ I h) fun us s1 ⟨vs, H1, I1, r1, q1⟩ => ?_))
  obtain ⟨v, w, e1, q1⟩ := q1
  subst e1
  obtain ⟨u1, u2, rfl, rv, rw'⟩ : ∃ u1 u2, us = [u1, u2] ∧ RelV v u1 ∧ RelV w u2 := by
    cases r1 with
    | cons p q =>
      cases q with
      | cons p' q' =>
        cases q'
        exact ⟨_, _, rfl, p, p'⟩
  refine wpAny_newObj_type ?_ (by show 2 ≤ sizeLine; decide)
  have I2 : Inv X pins σ H1 { s1 with heap := s1.heap.push { cls := .type "tuple", data := .seq [u1, u2].toArray } } := I1.kept (t' := s1.toks) fun b o e => Heap.get?_push_of_some _ e
  rw [hw]
  refine wpAny_bind (wpAny_pure ?_)
  show wpAny (model X.prog X.w) X.A (do rule "assign.swapped-stores"; let items ← unpackItems (.ref s1.heap.objs.size) 2 none; assignInOrder [fun v => bindName X.env y v, fun v => bindName X.env x v] items.reverse; pure Flow.next) _ _ _
  refine wpAny_bind (wpAny_rule (wpAny_bind (unpackItems_tuple (items := #[u1, u2]) (I.ok.hd hc) (IsTup.new s1.heap _) fun h' hx' => ?_)))
  have I3 := I2.kept (h' := h') (t' := s1.toks) fun b o e => hx' b o (Nat.ne_of_lt (Heap.lt_size e)) e
  show wpAny _ _ (assignInOrder [fun v => bindName X.env y v, fun v => bindName X.env x v] [u2, u1] >>= fun _ => pure Flow.next) _ _ _
  refine wpAny_bind (assignInOrder_cons (wpAny_bindName (store_ok I3 hN hj (.inl hy) rw' (fun s2 I4 => ?_) (.inr hy))))
  refine assignInOrder_cons (wpAny_bindName (store_ok I4 hN hi (.inl hx) rv (fun s3 I5 => assignInOrder_nil (wpAny_pure ?_)) (.inr hx)))
  rw [List.set_comm _ _ (Ne.symm hij)] at I5
  exact ⟨_, H1, I5, q1⟩
def tAugS (to ti te : TE) (tget : V → V → Hp → VK → Prop) (tip : TIp) (tset : TSet) : TS := fun D σ H => to σ H fun o H1 => ti σ H1 fun i H2 => tget o i H2 fun x H3 => te σ H3 fun y H4 => tip x y H4 fun z H5 => tset o i z H5 fun H6 => D.nx σ H6
def PGet (X : Cx) (t : V → V → Hp → VK → Prop) : Prop :=
  ∀ (pins : List (Addr × Obj)) (s : Shared) (σ : St) (H : Hp) (o i : V) (ov iv : Value) (Q : VK), Inv X pins σ H s → RelV o ov → RelV i iv → t o i H Q →
    wpAny (model X.prog X.w) X.A (getItem ov iv) (EP X pins σ Q) X.xe s
theorem ps_augS {o i e : Expr} {to ti te : TE} {tget : V → V → Hp → VK → Prop} {tip : TIp} {tset : TSet} {op : Operator} {tpos : Pos} (ho : PE X o to) (hi : PE X i ti) (hg : PGet X tget) (he : PE X e te) (hp : PIp X op tip) (hs : PSet X tset)
    (ha : ∀ ov iv new, augStore i ov iv new = (do holding [new, ov, iv] (setItem ov iv new); release [new, ov, iv] []; pure .next) := by intros; rfl) : PS X (.AugAssign (.Subscript o i tpos) op e pos) (tAugS to ti te tget tip tset) := by
  intro pins s σ H D I h
  refine wpAny_AugAssign_SubscriptAny (thn (ho pins s σ H _ I h) fun ov s1 ⟨x1, H1, I1, r1, q1⟩ => ?_) ha
  refine thn (hi pins s1 σ H1 _ I1 q1) fun iv s2 ⟨x2, H2, I2, r2, q2⟩ => ?_
  refine thn (hg pins s2 σ H2 x1 x2 ov iv _ I2 r1 r2 q2) fun old s3 ⟨x3, H3, I3, r3, q3⟩ => ?_
  refine thn (he pins s3 σ H3 _ I3 q3) fun v s4 ⟨x4, H4, I4, r4, q4⟩ => ?_
  refine thn (hp pins s4 σ H4 x3 x4 old v _ I4 r3 r4 q4) fun new s5 ⟨x5, H5, I5, r5, q5⟩ => ?_
  exact thn (hs pins s5 σ H5 x1 x2 x5 ov iv new _ I5 r1 r2 r5 q5) fun _ s6 ⟨H6, I6, q6⟩ => ⟨σ, H6, I6, q6⟩
def ipI (f : Int → Int → Int) : TIp := fun x y H Q => ∃ i j, x = .int i ∧ y = .int j ∧ Q (.int (f i j)) H
theorem ip_add : PIp X .Add (ipI fun i j => i + j) := by
  intro pins s σ H x y v u Q I r1 r2 h
  obtain ⟨i, j, e1, e2, q⟩ := h
  subst e1; subst e2
  obtain ⟨t, rfl⟩ := r1
  obtain ⟨t', rfl⟩ := r2
  exact iadd_int ⟨.int _, H, I.tok _, ⟨_, rfl⟩, q⟩
end
section
variable {X : Cx} {pos : Pos}
end
structure It where
  go : Nat → Hp → Prop
  yld : Nat → Hp → V → Hp → Prop
  stop : Nat → Hp → Prop
def FpOk (X : Cx) (pins : List (Addr × Obj)) (H : Hp) (b : Addr) : Prop :=
  H b = none ∧ b ≠ X.env.locals ∧ b ∉ X.fs ∧ (b ∈ X.ex ∨ X.s₀.heap.objs.size ≤ b) ∧ (∀ x c, X.env.cells.lookup x = some c → c ≠ b) ∧ ∀ p ∈ X.pn ++ pins, p.1 ≠ b
theorem Inv.fpOk {X : Cx} {pins : List (Addr × Obj)} {σ : St} {H H' : Hp} {s : Shared} {b : Addr} (I : Inv X pins σ H s) (hb : s.heap.objs.size ≤ b) (hn : H' b = none) : FpOk X pins H' b := by
  refine ⟨hn, Nat.ne_of_gt (Nat.lt_of_lt_of_le I.lt hb), I.nofs hb, .inr (Nat.le_trans I.sz hb), fun x c e z => ?_, fun p hp z => ?_⟩
  · obtain ⟨v, q⟩ := I.cell x c e
    exact absurd (Nat.lt_of_lt_of_le q.lt (by rw [z]; exact hb)) (Nat.lt_irrefl _)
  · exact absurd (Nat.lt_of_lt_of_le (Heap.lt_size (I.pin p hp).1) (by rw [z]; exact hb)) (Nat.lt_irrefl _)
structure Turn (P : Program) (w : World) (K : PySem.W.Frag) (tg : Expr) (J : It) (fp : List Addr) (it : Addr) (tn : Nat → Heap → Prop) : Prop where
  mem : it ∈ fp
  obj : ∀ i h, tn i h → ∀ b ∈ fp, ∃ o, h.get? b = some o ∧ ∀ v, o.data ≠ .cell v
  keep : ∀ i h h', tn i h → (∀ b ∈ fp, ∀ o, h.get? b = some o → h'.get? b = some o) → tn i h'
  item : ∀ (X : Cx), X.prog = P → X.w = w → X.K = K → X.calm = true → ∀ (i : Nat) (pins : List (Addr × Obj)) (s : Shared) (σ : St) (H : Hp) (E : Value → Shared → Prop), Inv X pins σ H s → (∀ b ∈ fp, FpOk X pins H b) → tn i s.heap → J.go i H →
    wpAny (model P w) X.A (pyNext (.ref it)) (fun r s1 => ∃ u, r = some u ∧
      wpAny (model P w) X.A (letOwnedTupleGo tg (.ref it) u) (fun _ s2 => ∃ x H', Inv X pins σ H' s2 ∧ RelV x u ∧ J.yld i H x H' ∧ tn (i + 1) s2.heap ∧ ∀ b ∈ fp, H' b = none) E s1) E s
  done : ∀ (X : Cx), X.prog = P → X.w = w → X.K = K → X.calm = true → ∀ (i : Nat) (pins : List (Addr × Obj)) (s : Shared) (σ : St) (H : Hp) (E : Value → Shared → Prop), Inv X pins σ H s → (∀ b ∈ fp, FpOk X pins H b) → tn i s.heap → J.stop i H →
    wpAny (model P w) X.A (pyNext (.ref it)) (fun r s1 => r = none ∧ Inv X pins σ H s1) E s
  self : ∀ (A : Around) (i : Nat) (s : Shared) (Q : Value → Shared → Prop) (E : Value → Shared → Prop), tn i s.heap → Q (.ref it) s → wpAny (model P w) A (pyIter (.ref it)) Q E s
abbrev TI := St → Hp → (It → Hp → Prop) → Prop
def PIE (X : Cx) (pins : List (Addr × Obj)) (σ : St) (tg : Expr) (R : It → Hp → Prop) (itv : Value) (s2 : Shared) : Prop :=
  ∃ (it : Addr) (fp : List Addr) (tn : Nat → Heap → Prop) (J : It) (H' : Hp), itv = .ref it ∧ Inv X pins σ H' s2 ∧ Turn X.prog X.w X.K tg J fp it tn ∧ tn 0 s2.heap ∧ (∀ b ∈ fp, FpOk X pins H' b) ∧ R J H'
def PI (X : Cx) (tg iter : Expr) (wi : TI) : Prop :=
  ∀ (pins : List (Addr × Obj)) (s : Shared) (σ : St) (H : Hp) (R : It → Hp → Prop), Inv X pins σ H s → wi σ H R →
    wpAny (model X.prog X.w) X.A (eval iter X.env) (fun v s1 => wpAny (model X.prog X.w) X.A (pyIter v) (PIE X pins σ tg R) X.xe s1) X.xe s
theorem go_of {M : Model} {A : Around} {E : Value → Shared → Prop} {s : Shared} {tg : Expr} {it : Addr} {u : Value} {o : Obj} {n : String} {vs : Array Value} {Q : Unit → Shared → Prop} (ho : s.heap.get? it = some o) (hc : o.cls = .type n) (hd : o.data = .fields vs)
    (hn : ["enumerate", "zip", "dict_itemiterator", "dict_reverseitemiterator", "odict_iterator", "itertools.zip_longest", "itertools.pairwise"].contains n = false) (hQ : Q () s) : wpAny M A (letOwnedTupleGo tg (.ref it) u) Q E s := by
  unfold letOwnedTupleGo
  cases tg <;> first
    | exact wpAny_pure hQ
    | (cases u <;> first
        | exact wpAny_pure hQ
        | (refine wpAny_bind (wpAny_load ho ?_)
           rw [hc, hd]
           show wpAny M A (if (["enumerate", "zip", "dict_itemiterator", "dict_reverseitemiterator", "odict_iterator", "itertools.zip_longest", "itertools.pairwise"].contains n && vs[0]? == some (rawInt _)) = true then _ else _) Q E s
           rw [if_neg (by intro h; rw [hn, Bool.false_and] at h; cases h)]
           exact wpAny_pure hQ))
def Itl (K : PySem.W.Frag) (a : Addr) : It :=
  ⟨fun i H => ∃ xs x, SqL K H a xs ∧ xs[i]? = some x, fun i H x H' => H' = H ∧ ∀ xs, SqL K H a xs → xs[i]? = some x, fun i H => ∃ xs, SqL K H a xs ∧ xs.length ≤ i⟩
def Itt (K : PySem.W.Frag) (a : Addr) : It :=
  ⟨fun i H => ∃ xs x, SqT K H a xs ∧ xs[i]? = some x, fun i H x H' => H' = H ∧ ∀ xs, SqT K H a xs → xs[i]? = some x, fun i H => ∃ xs, SqT K H a xs ∧ xs.length ≤ i⟩
def Itr (lo : Int) (n : Nat) : It := ⟨fun i _ => i < n, fun i H x H' => H' = H ∧ x = .int (lo + i), fun i _ => n ≤ i⟩
theorem turn_list {P : Program} {w : World} {K : PySem.W.Frag} {tg : Expr} (a it : Addr) : Turn P w K tg (Itl K a) [it] it (fun i h => h.IsListIter it a i) where
  mem := by simp
  obj := fun i h st b hb => by
    have e : b = it := by simpa using hb
    subst e
    obtain ⟨o, e, c, d⟩ := st
    exact ⟨o, e, fun v z => by rw [d] at z; cases z⟩
  keep := fun i h h' st k => st.at fun o e => k it (by simp) o e
  item := by
    intro X hP hw hK hc i pins s σ H E I hf st hg
    subst hP hw hK
    obtain ⟨xs, x, hq, hx⟩ := hg
    obtain ⟨its, rv, p, hz⟩ := I.list hq
    obtain ⟨u, hu, ru⟩ := rv.get hx
    obtain ⟨f0, f1, f2, f3, f4, f5⟩ := hf it (by simp)
    refine wpAny_pyNext_list_item st p.isList (x := u) (by simpa using hu) fun h' st' sb => ?_
    have I1 : Inv X pins σ H { s with heap := h' } := I.turned (t' := s.toks) (fun b o hb e => (sb.2 b hb).trans e) f0 f1 f3 f4 f5
    obtain ⟨o, e, c, d⟩ := id st'
    exact ⟨u, rfl, go_of (s := { s with heap := h' }) e c d (by decide) ⟨x, H, I1, ru, ⟨rfl, fun ys hy => by rw [I.list_inj hy hq]; exact hx⟩, st', fun b hb => (hf b hb).1⟩⟩
  done := by
    intro X hP hw hK hc i pins s σ H E I hf st hg
    subst hP hw hK
    obtain ⟨xs, hq, hx⟩ := hg
    obtain ⟨its, rv, p, hz⟩ := I.list hq
    obtain ⟨f0, f1, f2, f3, f4, f5⟩ := hf it (by simp)
    have hl := rv.length
    exact wpAny_pyNext_list_end (I.ok.hd hc) st p.isList (by simp; omega) fun h' eb => ⟨rfl, I.turned (t' := s.toks) (fun b o hb e => eb b o hb e) f0 f1 f3 f4 f5⟩
  self := fun _ _ _ _ _ st h => wpAny_pyIter_listiter st h
theorem turn_range {P : Program} {w : World} {K : PySem.W.Frag} {tg : Expr} (it : Addr) (lo : Int) (n : Nat) : Turn P w K tg (Itr lo n) [it] it (fun i h => IsRangeIter h it (lo + (i : Nat) * 1) ((n : Int) - (i : Nat)) 1) where
  mem := by simp
  obj := fun i h st b hb => by
    have e : b = it := by simpa using hb
    subst e
    exact ⟨_, st, fun v z => by
      have z' : Data.fields _ = Data.cell v := z
      cases z'⟩
  keep := fun i h h' st k => k it (by simp) _ st
  item := by
    intro X hP hw hK hc i pins s σ H E I hf st hg
    subst hP hw hK
    obtain ⟨f0, f1, f2, f3, f4, f5⟩ := hf it (by simp)
    have W := Walks.range (prog := X.prog) (w := X.w) (I.ok.hd hc) it lo 1 n
    refine W.item i s _ _ hg st fun v h' tk hv st' kk => ?_
    obtain ⟨t, rfl⟩ := hv
    have I1 : Inv X pins σ H { s with heap := h', toks := tk } := I.turned (fun b o hb e => kk b o (by simpa using hb) e) f0 f1 f3 f4 f5
    refine ⟨_, rfl, go_of (s := { s with heap := h', toks := tk }) (n := "range_iterator") st' rfl rfl (by decide) ⟨.int (lo + i), H, I1, ⟨t, ?_⟩, ⟨rfl, rfl⟩, st', fun b hb => (hf b hb).1⟩⟩
    rw [Int.mul_one]
  done := by
    intro X hP hw hK hc i pins s σ H E I hf st hg
    subst hP hw hK
    obtain ⟨f0, f1, f2, f3, f4, f5⟩ := hf it (by simp)
    exact wpAny_pyNext_range_end (I.ok.hd hc) st (by have : n ≤ i := hg; omega) fun h' eb => ⟨rfl, I.turned (t' := s.toks) (fun b o hb e => eb b o hb e) f0 f1 f3 f4 f5⟩
  self := fun _ _ _ _ _ st h => wpAny_pyIter_rangeiter st h
end L2
namespace L2
open PySem PySem.Spec PyProof.Rows
section
variable {X : Cx} {tg : Expr}
def iList (K : PySem.W.Frag) (tl : TE) : TI := fun σ H R => tl σ H fun x H1 => ∃ a, x = .ref a ∧ (∃ xs, SqL K H1 a xs) ∧ R (Itl K a) H1
def iTup (K : PySem.W.Frag) (tl : TE) : TI := fun σ H R => tl σ H fun x H1 => ∃ a, x = .ref a ∧ (∃ xs, SqT K H1 a xs) ∧ R (Itt K a) H1
theorem pi_list {l : Expr} {tl : TE} (hl : PE X l tl) : PI X tg l (iList X.K tl) := by
  intro pins s σ H R I h
  refine thn (hl pins s σ H _ I h) fun v s1 ⟨x, H1, I1, r1, q1⟩ => ?_
  obtain ⟨a, e, ⟨xs, hq⟩, q⟩ := q1
  subst e
  cases r1
  obtain ⟨its, rv, p, hz⟩ := I1.list hq
  refine wpAny_pyIter_list p.isList ?_
  refine ⟨s1.heap.objs.size, [s1.heap.objs.size], _, _, H1, rfl, I1.kept (t' := s1.toks) fun b o e => Heap.get?_push_of_some _ e, turn_list a _, ⟨_, Heap.get?_push_size _ rfl, rfl, rfl⟩, fun b hb => ?_, q⟩
  have e : b = s1.heap.objs.size := by simpa using hb
  subst e
  exact I1.fpOk (Nat.le_refl _) (I1.hok.fresh (Nat.le_refl _))
theorem range_it {pins : List (Addr × Obj)} {σ : St} {H : Hp} {s : Shared} {R : It → Hp → Prop} {E : Value → Shared → Prop} {lo hi : Int} {t u v : Tok} {tk : Nat} (I : Inv X pins σ H s) (h1 : -(2 ^ 62) ≤ lo) (h2 : lo < 2 ^ 62) (h3 : -(2 ^ 62) ≤ hi) (h4 : hi < 2 ^ 62)
    (q : R (Itr lo (hi - lo).toNat) H) : wpAny (model X.prog X.w) X.A (pyIter (.ref s.heap.objs.size)) (PIE X pins σ tg R) E { s with heap := s.heap.push { cls := .type "range", data := .fields #[.int lo t, .int hi u, .int 1 v] }, toks := tk } := by
  refine wpAny_pyIter_range (IsRange.new ..) (small_one h1 h2 h3 h4) ?_
  have I1 : Inv X pins σ H { s with heap := s.heap.push { cls := .type "range", data := .fields #[.int lo t, .int hi u, .int 1 v] }, toks := tk } := I.kept fun b o e => Heap.get?_push_of_some _ e
  refine ⟨(s.heap.push { cls := .type "range", data := .fields #[.int lo t, .int hi u, .int 1 v] }).objs.size, [(s.heap.push { cls := .type "range", data := .fields #[.int lo t, .int hi u, .int 1 v] }).objs.size], _, _, H, rfl,
    I1.kept (t' := tk) fun b o e => Heap.get?_push_of_some _ e, turn_range _ lo (hi - lo).toNat, ?_, fun b hb => ?_, q⟩
  · have e1 : lo + ((0 : Nat) : Int) * 1 = lo := by simp
    have e2 : (((hi - lo).toNat : Nat) : Int) - ((0 : Nat) : Int) = Builtin.Range.rangeSize lo hi 1 := by rw [rangeSize_one]; split <;> omega
    show IsRangeIter _ _ (lo + ((0 : Nat) : Int) * 1) ((((hi - lo).toNat : Nat) : Int) - ((0 : Nat) : Int)) 1
    rw [e1, e2]
    exact Heap.get?_push_size _ rfl
  · have e : b = (s.heap.push { cls := .type "range", data := .fields #[.int lo t, .int hi u, .int 1 v] }).objs.size := by simpa using hb
    subst e
    exact I1.fpOk (Nat.le_refl _) (I1.hok.fresh (Nat.le_refl _))
def iRng1 (ta : TA) : TI := fun σ H R => ta σ H fun vs H1 => ∃ j : Int, vs = [.int j] ∧ -(2 ^ 62) ≤ j ∧ j < 2 ^ 62 ∧ R (Itr 0 j.toNat) H1
def iRng2 (ta : TA) : TI := fun σ H R => ta σ H fun vs H1 => ∃ i j : Int, vs = [.int i, .int j] ∧ (-(2 ^ 62) ≤ i ∧ i < 2 ^ 62 ∧ -(2 ^ 62) ≤ j ∧ j < 2 ^ 62) ∧ R (Itr i (j - i).toNat) H1
theorem pi_range1 {a : Expr} {ta : TA} {p pos : Pos} (hg : Gl X "range") (hm : X.mg "range" = none) (ha : PA X [a] ta) (hs : starEach [a] X.env = [(false, eval a X.env)] := by rfl) : PI X tg (.Call (.Name "range" p) [a] [] pos) (iRng1 ta) := by
  intro pins s σ H R I h
  refine Call_ (ld_blt I hg hm boot_range (PyProof.Rows.callWith_type1 (thn (ha pos pins s σ H _ I h) fun us s1 ⟨vs, H1, I1, r1, q1⟩ => ?_) hs rfl))
  obtain ⟨j, e, q1, q2, q⟩ := q1
  subst e
  cases r1 with
  | cons r rr =>
    cases rr
    obtain ⟨t, rfl⟩ := r
    exact call_range_1 (range_it I1 (by omega) (by omega) q1 q2 (by simpa using q))
def tFor (wi : TI) (g : TG) (tb : TS) : TS := fun D σ H => wi σ H fun J H1 => ∃ W : Nat → Nat → St → Hp → Prop, (∃ m, W 0 m σ H1) ∧ ∀ i m σ H, W i m σ H →
  (J.stop i H ∧ D.nx σ H) ∨ (J.go i H ∧ ∃ N : St → Hp → Prop, (∀ σ' H', N σ' H' → ∃ m', m' < m ∧ W (i + 1) m' σ' H') ∧ ∀ x H', J.yld i H x H' → g x σ H' fun σ2 H2 => tb { D with nx := N, ct := N, bk := D.nx } σ2 H2)
def pinsAt (fp : List Addr) (h : Heap) : List (Addr × Obj) := fp.filterMap fun b => (h.get? b).map fun o => (b, o)
theorem mem_pinsAt {fp : List Addr} {h : Heap} {b : Addr} {o : Obj} (hb : b ∈ fp) (e : h.get? b = some o) : (b, o) ∈ pinsAt fp h := List.mem_filterMap.mpr ⟨b, hb, by rw [e]; rfl⟩
theorem of_pinsAt {fp : List Addr} {h : Heap} {p : Addr × Obj} (hp : p ∈ pinsAt fp h) : p.1 ∈ fp ∧ h.get? p.1 = some p.2 := by
  obtain ⟨b, hb, e⟩ := List.mem_filterMap.mp hp
  cases q : h.get? b with
  | none => rw [q] at e; cases e
  | some o =>
    rw [q] at e
    have e' : (b, o) = p := Option.some.inj e
    subst e'
    exact ⟨hb, q⟩
theorem Inv.pinned {pins : List (Addr × Obj)} {σ : St} {H : Hp} {s : Shared} {fp : List Addr} (I : Inv X pins σ H s) (hf : ∀ b ∈ fp, FpOk X pins H b) (ho : ∀ b ∈ fp, ∃ o, s.heap.get? b = some o ∧ ∀ v, o.data ≠ .cell v) : Inv X (pins ++ pinsAt fp s.heap) σ H s :=
  I.pins_of fun p hp => (List.mem_append.mp hp).elim (fun z => I.pin p (List.mem_append_right _ z)) fun z => by
    obtain ⟨hb, e⟩ := of_pinsAt z
    obtain ⟨f0, f1, f2, _⟩ := hf p.1 hb
    obtain ⟨o, e', d⟩ := ho p.1 hb
    rw [e] at e'; cases e'
    exact ⟨e, f0, f1, f2, d⟩
theorem Inv.unpinned {pins pl : List (Addr × Obj)} {σ : St} {H : Hp} {s : Shared} (I : Inv X (pins ++ pl) σ H s) : Inv X pins σ H s := I.pins_of fun p hp => I.pin p (List.mem_append_right _ (List.mem_append_left _ hp))
theorem ps_for {iter : Expr} {body : List Stmt} {wi : TI} {g : TG} {tb : TS} {pos : Pos} (hp : PassesOwn (model X.prog X.w) X.A X.env X.xe) (hc : X.calm = true) (hi : PI X tg iter wi) (hg : PG X tg g) (hb : PSs X body tb)
    (hs : ∀ x, foldedSetIterable iter X.env x = pure x := by intro _; rfl) : PS X (.For tg iter body [] pos) (tFor wi g tb) := by
  intro pins s σ H D I h
  refine wpAny_For (thn (hi pins s σ H _ I h) fun v s1 h1 => thn h1 fun itv s2 h2 => ?_) hs
  obtain ⟨it, fp, tn, J, H2, e, I2, T, st2, f2, W, ⟨m0, w0⟩, turn⟩ := h2
  subst e
  -- what stays true of the iterator's objects through the loop
  have stat : ∀ {H' : Hp}, (∀ b ∈ fp, H' b = none) → ∀ b ∈ fp, FpOk X pins H' b := fun hn b hb => ⟨hn b hb, (f2 b hb).2⟩
  refine codeAny_forLoop_any (fun n s' => ∃ i σ' H', Inv X pins σ' H' s' ∧ tn i s'.heap ∧ (∀ b ∈ fp, H' b = none) ∧ W i n σ' H') ?_ m0 ⟨0, σ, H2, I2, st2, fun b hb => (f2 b hb).1, w0⟩
  rintro n s3 ⟨i, σ3, H3, I3, st3, fr3, w3⟩
  rcases turn i n σ3 H3 w3 with ⟨stop, qn⟩ | ⟨go, N, hN, step⟩
  · refine wpAny_passesOwn hp (thn (T.done X rfl rfl rfl hc i pins s3 σ3 H3 X.xe I3 (stat fr3) st3 stop) fun r s4 ⟨hr, I4⟩ => ?_)
    subst hr
    exact wpAny_execs_nil ⟨σ3, H3, I4, qn⟩
  · refine wpAny_passesOwn hp (thn (T.item X rfl rfl rfl hc i pins s3 σ3 H3 X.xe I3 (stat fr3) st3 go) fun r s4 ⟨u, hr, h4⟩ => ?_)
    subst hr
    refine wpAny_passesOwn hp (thn h4 fun _ s5 ⟨x, H5, I5, r5, y5, st5, fr5⟩ => ?_)
    have I5' := I5.pinned (stat fr5) (T.obj _ _ st5)
    refine wpAny_passesOwn hp (thn (hg _ s5 σ3 H5 x u _ I5' r5 (step x H5 y5)) fun _ s6 ⟨σ6, H6, I6, q6⟩ => ?_)
    refine wpAny_passesOwn hp (thn (hb _ s6 σ6 H6 _ I6 q6) fun f s7 q7 => ?_)
    have again : ∀ {σ7 : St} {H7 : Hp}, Inv X (pins ++ pinsAt fp s5.heap) σ7 H7 s7 → N σ7 H7 → ∃ m, m < n ∧ ∃ i σ' H', Inv X pins σ' H' s7 ∧ tn i s7.heap ∧ (∀ b ∈ fp, H' b = none) ∧ W i m σ' H' := fun {σ7 H7} I7 n7 => by
      obtain ⟨m', hm, w7⟩ := hN σ7 H7 n7
      refine ⟨m', hm, i + 1, σ7, H7, I7.unpinned, T.keep _ _ _ st5 fun b hb o e => (I7.pin (b, o) (List.mem_append_right _ (List.mem_append_right _ (mem_pinsAt hb e)))).1, fun b hb => ?_, w7⟩
      obtain ⟨o, e, d⟩ := T.obj _ _ st5 b hb
      exact (I7.pin (b, o) (List.mem_append_right _ (List.mem_append_right _ (mem_pinsAt hb e)))).2.1
    cases f with
    | next => obtain ⟨σ7, H7, I7, n7⟩ := q7; exact again I7 n7
    | cont => obtain ⟨σ7, H7, I7, n7⟩ := q7; exact again I7 n7
    | brk => obtain ⟨σ7, H7, I7, q7⟩ := q7; exact ⟨σ7, H7, I7.unpinned, q7⟩
    | ret v => obtain ⟨x7, σ7, H7, I7, r7, q7⟩ := q7; exact ⟨x7, σ7, H7, I7.unpinned, r7, q7⟩
end
theorem for_list {K : PySem.W.Frag} {a : Addr} {xs : List V} {g : TG} {tb : TS} {D : Ends} {σ : St} {H : Hp} (Pv : Nat → St → Hp → Prop) (h0 : Pv 0 σ H) (hl : ∀ i σ H, i ≤ xs.length → Pv i σ H → SqL K H a xs)
    (hs : ∀ i x σ H, xs[i]? = some x → Pv i σ H → g x σ H fun σ2 H2 => tb { D with nx := Pv (i + 1), ct := Pv (i + 1), bk := D.nx } σ2 H2) (hd : ∀ σ H, Pv xs.length σ H → D.nx σ H) :
    ∃ W : Nat → Nat → St → Hp → Prop, (∃ m, W 0 m σ H) ∧ ∀ i m σ H, W i m σ H →
      ((Itl K a).stop i H ∧ D.nx σ H) ∨ ((Itl K a).go i H ∧ ∃ N : St → Hp → Prop, (∀ σ' H', N σ' H' → ∃ m', m' < m ∧ W (i + 1) m' σ' H') ∧ ∀ x H', (Itl K a).yld i H x H' → g x σ H' fun σ2 H2 => tb { D with nx := N, ct := N, bk := D.nx } σ2 H2) := by
  refine ⟨fun i m σ H => m = xs.length - i ∧ i ≤ xs.length ∧ Pv i σ H, ⟨xs.length, by simp, Nat.zero_le _, h0⟩, ?_⟩
  rintro i m σ H ⟨rfl, hi, p⟩
  have q := hl i σ H hi p
  by_cases hlt : i < xs.length
  · refine .inr ⟨⟨xs, xs[i], q, by simp [hlt]⟩, Pv (i + 1), fun σ' H' p' => ⟨xs.length - (i + 1), by omega, rfl, hlt, p'⟩, fun x H' y => ?_⟩
    obtain ⟨e, y⟩ := y
    subst e
    exact hs i x σ _ (y xs q) p
  · have e : i = xs.length := by omega
    subst e
    exact .inl ⟨⟨xs, q, Nat.le_refl _⟩, hd σ H p⟩
theorem for_range {lo : Int} {n : Nat} {g : TG} {tb : TS} {D : Ends} {σ : St} {H : Hp} (Pv : Nat → St → Hp → Prop) (h0 : Pv 0 σ H)
    (hs : ∀ i σ H, i < n → Pv i σ H → g (.int (lo + i)) σ H fun σ2 H2 => tb { D with nx := Pv (i + 1), ct := Pv (i + 1), bk := D.nx } σ2 H2) (hd : ∀ σ H, Pv n σ H → D.nx σ H) :
    ∃ W : Nat → Nat → St → Hp → Prop, (∃ m, W 0 m σ H) ∧ ∀ i m σ H, W i m σ H →
      ((Itr lo n).stop i H ∧ D.nx σ H) ∨ ((Itr lo n).go i H ∧ ∃ N : St → Hp → Prop, (∀ σ' H', N σ' H' → ∃ m', m' < m ∧ W (i + 1) m' σ' H') ∧ ∀ x H', (Itr lo n).yld i H x H' → g x σ H' fun σ2 H2 => tb { D with nx := N, ct := N, bk := D.nx } σ2 H2) := by
  refine ⟨fun i m σ H => m = n - i ∧ i ≤ n ∧ Pv i σ H, ⟨n, by simp, Nat.zero_le _, h0⟩, ?_⟩
  rintro i m σ H ⟨rfl, hi, p⟩
  by_cases hlt : i < n
  · refine .inr ⟨hlt, Pv (i + 1), fun σ' H' p' => ⟨n - (i + 1), by omega, rfl, hlt, p'⟩, fun x H' y => ?_⟩
    obtain ⟨e, y⟩ := y
    subst e y
    exact hs i σ _ hlt p
  · have e : i = n := by omega
    subst e
    exact .inl ⟨Nat.le_refl _, hd σ H p⟩
end L2
namespace L2
open PySem PySem.Spec PyProof.Rows
abbrev R2 := V → V → Hp → VK → Prop
def OpR (X : Cx) (f : Value → Value → Sem Value) (r : R2) : Prop :=
  ∀ (pins : List (Addr × Obj)) (s : Shared) (σ : St) (H : Hp) (x y : V) (v u : Value) (Q : VK), Inv X pins σ H s → RelV x v → RelV y u → r x y H Q →
    wpAny (model X.prog X.w) X.A (f v u) (EP X pins σ Q) X.xe s
def UnR (X : Cx) (f : Value → Sem Value) (r : V → Hp → VK → Prop) : Prop :=
  ∀ (pins : List (Addr × Obj)) (s : Shared) (σ : St) (H : Hp) (x : V) (v : Value) (Q : VK), Inv X pins σ H s → RelV x v → r x H Q →
    wpAny (model X.prog X.w) X.A (f v) (EP X pins σ Q) X.xe s
def CallR (X : Cx) (f : Value) (r : List V → Hp → VK → Prop) : Prop :=
  ∀ (pins : List (Addr × Obj)) (s : Shared) (σ : St) (H : Hp) (xs : List V) (us : List Value) (Q : VK), Inv X pins σ H s → Vals xs us → r xs H Q →
    wpAny (model X.prog X.w) X.A (call f us) (EP X pins σ Q) X.xe s
def tOp (r : R2) (ta tb : TE) : TE := fun σ H Q => ta σ H fun x H1 => tb σ H1 fun y H2 => r x y H2 Q
def tUn (r : V → Hp → VK → Prop) (ta : TE) : TE := fun σ H Q => ta σ H fun x H1 => r x H1 Q
def rI (C : Int → Int → Prop) (g : Int → Int → V) : R2 := fun x y H Q => ∃ i j, x = .int i ∧ y = .int j ∧ C i j ∧ Q (g i j) H
def rI0 (g : Int → Int → V) : R2 := fun x y H Q => ∃ i j, x = .int i ∧ y = .int j ∧ Q (g i j) H
def rU (g : Int → V) : V → Hp → VK → Prop := fun x H Q => ∃ i, x = .int i ∧ Q (g i) H
section
variable {X : Cx} {a b c : Expr} {ta tb tc : TE} {pos : Pos}
theorem binT (ha : PE X a ta) (hb : PE X b tb) {pins : List (Addr × Obj)} {s : Shared} {σ : St} {H : Hp} {R : V → V → Hp → Prop} (I : Inv X pins σ H s)
    (h : ta σ H fun x H1 => tb σ H1 fun y H2 => R x y H2) {Q : Value → Shared → Prop} {f : Value → Value → Sem Value}
    (hf : ∀ v u s2 x y H2, Inv X pins σ H2 s2 → RelV x v → RelV y u → R x y H2 → wpAny (model X.prog X.w) X.A (f v u) Q X.xe s2) :
    wpAny (model X.prog X.w) X.A (eval a X.env) (fun v s₁ => wpAny (model X.prog X.w) X.A (eval b X.env) (fun u s₂ => wpAny (model X.prog X.w) X.A (f v u) Q X.xe s₂) X.xe s₁) X.xe s := by
  refine thn (ha pins s σ H _ I h) fun v s1 ⟨x, H1, I1, r1, q1⟩ => ?_
  refine thn (hb pins s1 σ H1 _ I1 q1) fun u s2 ⟨y, H2, I2, r2, q2⟩ => ?_
  exact hf v u s2 x y H2 I2 r1 r2 q2
theorem pe_op {op : Operator} {r : R2} (ho : OpR X (binaryOp op) r) (ha : PE X a ta) (hb : PE X b tb) : PE X (.BinOp a op b pos) (tOp r ta tb) := by
  intro pins s σ H Q I h
  exact wpAny_BinOp (binT ha hb I h fun v u s2 x y H2 I2 rx ry q => ho pins s2 σ H2 x y v u Q I2 rx ry q)
theorem pe_un {op : UnaryOp} {r : V → Hp → VK → Prop} (ho : UnR X (unaryOp op) r) (ha : PE X a ta) : PE X (.UnaryOp op a pos) (tUn r ta) := by
  intro pins s σ H Q I h
  exact UnaryOp_ (thn (ha pins s σ H _ I h) fun v s1 ⟨x, H1, I1, r1, q1⟩ => ho pins s1 σ H1 x v Q I1 r1 q1)
theorem opI {f : Value → Value → Sem Value} {C : Int → Int → Prop} {g : Int → Int → Int}
    (rule : ∀ (i j : Int) (t u : Tok) (s : Shared) (Q : Value → Shared → Prop) (E : Value → Shared → Prop), C i j → Q (.int (g i j) s.toks) { s with toks := s.toks + 1 } → wpAny (model X.prog X.w) X.A (f (.int i t) (.int j u)) Q E s) :
    OpR X f (rI C fun i j => .int (g i j)) := by
  intro pins s σ H x y v u Q I rx ry h
  obtain ⟨i, j, rfl, rfl, hc, q⟩ := h
  obtain ⟨t, rfl⟩ := rx
  obtain ⟨t', rfl⟩ := ry
  exact rule i j t t' s _ _ hc ⟨.int (g i j), H, I.tok _, ⟨_, rfl⟩, q⟩
theorem opI0 {f : Value → Value → Sem Value} {g : Int → Int → Int}
    (rule : ∀ (i j : Int) (t u : Tok) (s : Shared) (Q : Value → Shared → Prop) (E : Value → Shared → Prop), Q (.int (g i j) s.toks) { s with toks := s.toks + 1 } → wpAny (model X.prog X.w) X.A (f (.int i t) (.int j u)) Q E s) :
    OpR X f (rI0 fun i j => .int (g i j)) := by
  intro pins s σ H x y v u Q I rx ry h
  obtain ⟨i, j, rfl, rfl, q⟩ := h
  obtain ⟨t, rfl⟩ := rx
  obtain ⟨t', rfl⟩ := ry
  exact rule i j t t' s _ _ ⟨.int (g i j), H, I.tok _, ⟨_, rfl⟩, q⟩
theorem opB0 {f : Value → Value → Sem Value} {g : Int → Int → Bool}
    (rule : ∀ (i j : Int) (t u : Tok) (s : Shared) (Q : Value → Shared → Prop) (E : Value → Shared → Prop), Q (.bool (g i j)) s → wpAny (model X.prog X.w) X.A (f (.int i t) (.int j u)) Q E s) :
    OpR X f (rI0 fun i j => .bl (g i j)) := by
  intro pins s σ H x y v u Q I rx ry h
  obtain ⟨i, j, rfl, rfl, q⟩ := h
  obtain ⟨t, rfl⟩ := rx
  obtain ⟨t', rfl⟩ := ry
  exact rule i j t t' s _ _ ⟨.bl (g i j), H, I, rfl, q⟩
def CDiv (i j : Int) : Prop := 0 < j ∧ j < 1073741824
def CPow (i j : Int) : Prop := 0 ≤ j ∧ j ≤ 1000000 ∧ i.natAbs < 2 ^ 64
def CMul (i j : Int) : Prop := (-(2 ^ 64) < i ∧ i < 2 ^ 64) ∨ (-(2 ^ 64) < j ∧ j < 2 ^ 64)
theorem CMul.ok {i j : Int} (h : CMul i j) : IntMulOk i j := by
  rcases h with ⟨h1, h2⟩ | ⟨h1, h2⟩
  · exact .of_left (intBits_le_64 h1 h2)
  · exact .of_right (intBits_le_64 h1 h2)
theorem op_add : OpR X (binaryOp .Add) (rI0 fun i j => .int (i + j)) := opI0 fun _ _ _ _ _ _ _ q => add_int q
theorem op_sub : OpR X (binaryOp .Sub) (rI0 fun i j => .int (i - j)) := opI0 fun _ _ _ _ _ _ _ q => sub_int q
theorem op_mul : OpR X (binaryOp .Mult) (rI CMul fun i j => .int (i * j)) := opI fun _ _ _ _ _ _ _ hc q => mul_int q hc.ok
theorem op_fdiv : OpR X (binaryOp .FloorDiv) (rI CDiv fun i j => .int (i / j)) := opI fun i j _ _ _ _ _ hc q => by
  have h1 : (0 : Int) < j := hc.1
  have h2 : j < 1073741824 := hc.2
  exact floordiv_int (by omega) (by rw [Int.fdiv_eq_ediv_of_nonneg i (by omega)]; exact q) (.inl (PyProof.noPylong_small (by omega)))
theorem op_mod : OpR X (binaryOp .Mod) (rI (fun _ j => 0 < j) fun i j => .int (i % j)) := opI fun i j _ _ _ _ _ hc q => by
  have h1 : (0 : Int) < j := hc
  exact mod_int' (by omega) (by rw [Int.fmod_eq_emod_of_nonneg i (by omega)]; exact q)
theorem op_pow : OpR X (binaryOp .Pow) (rI CPow fun i j => .int (i ^ j.toNat)) := opI fun _ _ _ _ _ _ _ hc q => pow_int_small hc.1 hc.2.1 hc.2.2 q
theorem unI {f : Value → Sem Value} {g : Int → Int}
    (rule : ∀ (i : Int) (t : Tok) (s : Shared) (Q : Value → Shared → Prop) (E : Value → Shared → Prop), Q (.int (g i) s.toks) { s with toks := s.toks + 1 } → wpAny (model X.prog X.w) X.A (f (.int i t)) Q E s) :
    UnR X f (rU fun i => .int (g i)) := by
  intro pins s σ H x v Q I rx h
  obtain ⟨i, rfl, q⟩ := h
  obtain ⟨t, rfl⟩ := rx
  exact rule i t s _ _ ⟨.int (g i), H, I.tok _, ⟨_, rfl⟩, q⟩
theorem un_neg : UnR X (unaryOp .USub) (rU fun i => .int (-i)) := unI fun _ _ _ _ _ q => neg_int q
end
section
variable {X : Cx} {a b c : Expr} {ta tb tc : TE} {pos : Pos}
theorem fin_bl {pins : List (Addr × Obj)} {σ : St} {H : Hp} {s : Shared} {Q : VK} {k k' : Bool} (I : Inv X pins σ H s) (q : Q (.bl k) H) (e : k = k') : EP X pins σ Q (.bool k') s := by
  subst e
  exact ⟨.bl k, H, I, rfl, q⟩
theorem op_lt : OpR X (compareOp .Lt) (rI0 fun i j => .bl (decide (i < j))) := opB0 fun _ _ _ _ _ _ _ q => lt_int q
theorem op_gt : OpR X (compareOp .Gt) (rI0 fun i j => .bl (decide (j < i))) := opB0 fun _ _ _ _ _ _ _ q => gt_int q
theorem op_ge : OpR X (compareOp .GtE) (rI0 fun i j => .bl (decide (j ≤ i))) := opB0 fun _ _ _ _ _ _ _ q => ge_int q
theorem op_in_str : OpR X (compareOp .In) (fun x y H Q => ∃ i j, x = .str i ∧ y = .str j ∧ Q (.bl (!(Builtin.Str.occurrences j i 0 j.length 1).isEmpty)) H) := by
  intro pins s σ H x y v u Q I rx ry h
  obtain ⟨i, j, rfl, rfl, q⟩ := h
  obtain ⟨t, rfl⟩ := rx
  obtain ⟨t', rfl⟩ := ry
  exact in_str (fin_bl I q rfl)
theorem OpR.or {f : Value → Value → Sem Value} {r r' : R2} (h : OpR X f r) (h' : OpR X f r') : OpR X f (fun x y H Q => r x y H Q ∨ r' x y H Q) := by
  intro pins s σ H x y v u Q I rx ry q
  rcases q with q | q
  · exact h pins s σ H x y v u Q I rx ry q
  · exact h' pins s σ H x y v u Q I rx ry q
theorem nomark (b : Expr) {op : CmpOp} (h : op ≠ .In := by decide) (h2 : op ≠ .NotIn := by decide) : behindInMarks op b = false := by
  have e1 : (op == CmpOp.In) = false := by cases op <;> first | rfl | exact absurd rfl h
  have e2 : (op == CmpOp.NotIn) = false := by cases op <;> first | rfl | exact absurd rfl h2
  cases b <;> simp [behindInMarks, e1, e2]
theorem pe_cmpR {op : CmpOp} {r : R2} (ho : OpR X (compareOp op) r) (ha : PE X a ta) (hb : PE X b tb) (hm : behindInMarks op b = false) : PE X (.Compare a [op] [b] pos) (tOp r ta tb) := by
  intro pins s σ H Q I h
  exact wpAny_Compare1 (binT ha hb I h fun v u s2 x y H2 I2 rx ry q => ho pins s2 σ H2 x y v u Q I2 rx ry q) hm
def tTest (t : TE) : TT := fun σ H Q => t σ H fun x H' => ∃ k, x = .bl k ∧ Q k H'
theorem pt_cmpR {op : CmpOp} {r : R2} (ho : OpR X (compareOp op) r) (ha : PE X a ta) (hb : PE X b tb) (hm : behindInMarks op b = false) : PT X (.Compare a [op] [b] pos) (tTest (tOp r ta tb)) := by
  intro pins s σ H Q I h
  refine wpAny_isTrue_Compare1 (thn (ha pins s σ H _ I h) fun v s1 ⟨x, H1, I1, r1, q1⟩ => thn (hb pins s1 σ H1 _ I1 q1) fun u s2 ⟨y, H2, I2, r2, q2⟩ =>
    thn (ho pins s2 σ H2 x y v u _ I2 r1 r2 q2) fun c s3 ⟨z, H3, I3, r3, k, e, q3⟩ => ?_) hm
  subst e
  cases r3
  exact wpAny_truthy_bool ⟨H3, I3, q3⟩
def tChain (r r' : R2) (ta tb tc : TE) : TE := fun σ H Q => ta σ H fun x H1 => tb σ H1 fun y H2 => r x y H2 fun z H3 => ∃ k, z = .bl k ∧
  (if k = true then tc σ H3 fun w' H4 => r' y w' H4 Q else Q (.bl false) H3)
theorem line63 : (sizeLine : Nat) < 2 ^ 63 := by rw [sizeLine_eq]; decide
theorem op_add_str : OpR X (binaryOp .Add) (fun x y H Q => ∃ i j, x = .str i ∧ y = .str j ∧ i.length + j.length ≤ sizeLine ∧ Q (.str (i ++ j)) H) := by
  intro pins s σ H x y v u Q I rx ry h
  obtain ⟨i, j, rfl, rfl, hz, q⟩ := h
  obtain ⟨t, rfl⟩ := rx
  obtain ⟨t', rfl⟩ := ry
  exact add_str (fun t' tk => ⟨.str (i ++ j), H, I.tok _, ⟨_, rfl⟩, q⟩) hz
theorem vals1 {x : V} {us : List Value} (r : Vals [x] us) : ∃ u, us = [u] ∧ RelV x u := by
  cases r with
  | cons r1 r2 => cases r2; exact ⟨_, rfl, r1⟩
theorem vals2 {x y : V} {us : List Value} (r : Vals [x, y] us) : ∃ u w', us = [u, w'] ∧ RelV x u ∧ RelV y w' := by
  cases r with
  | cons r1 r2 =>
    cases r2 with
    | cons r3 r4 => cases r4; exact ⟨_, _, rfl, r1, r3⟩
theorem call_abs : CallR X (.builtin "abs") (fun xs H Q => ∃ i, xs = [.int i] ∧ Q (.int (if i < 0 then -i else i)) H) := by
  intro pins s σ H xs us Q I r h
  obtain ⟨i, rfl, q⟩ := h
  obtain ⟨u, rfl, t, rfl⟩ := vals1 r
  exact call_abs_int fun u tk => ⟨.int (if i < 0 then -i else i), H, I.tok _, ⟨_, rfl⟩, q⟩
theorem call_max2 (hc : X.calm = true) : CallR X (.builtin "max") (fun xs H Q => ∃ i j, xs = [.int i, .int j] ∧ Q (.int (if j > i then j else i)) H) := by
  intro pins s σ H xs us Q I r h
  obtain ⟨i, j, rfl, q⟩ := h
  obtain ⟨u, w', rfl, ⟨t, rfl⟩, ⟨t', rfl⟩⟩ := vals2 r
  refine max_two_ints (I.ok.hd hc) fun h' tk k => ⟨_, H, I.kept k, ?_, q⟩
  by_cases hj : j > i
  · rw [if_pos hj, if_pos hj]; exact ⟨_, rfl⟩
  · rw [if_neg hj, if_neg hj]; exact ⟨_, rfl⟩
theorem call_min2 (hc : X.calm = true) : CallR X (.builtin "min") (fun xs H Q => ∃ i j, xs = [.int i, .int j] ∧ Q (.int (if j < i then j else i)) H) := by
  intro pins s σ H xs us Q I r h
  obtain ⟨i, j, rfl, q⟩ := h
  obtain ⟨u, w', rfl, ⟨t, rfl⟩, ⟨t', rfl⟩⟩ := vals2 r
  refine min_two_ints (I.ok.hd hc) fun h' tk k => ⟨_, H, I.kept k, ?_, q⟩
  by_cases hj : j < i
  · rw [if_pos hj, if_pos hj]; exact ⟨_, rfl⟩
  · rw [if_neg hj, if_neg hj]; exact ⟨_, rfl⟩
theorem call_int1 : CallR X (.type "int") (fun xs H Q => (∃ i, xs = [.int i] ∧ Q (.int i) H) ∨ ∃ k, xs = [.bl k] ∧ Q (.int (if k then 1 else 0)) H) := by
  intro pins s σ H xs us Q I r h
  rcases h with ⟨i, rfl, q⟩ | ⟨k, rfl, q⟩
  · obtain ⟨u, rfl, t, rfl⟩ := vals1 r
    exact call_int_int ⟨.int i, H, I, ⟨_, rfl⟩, q⟩
  · obtain ⟨u, rfl, r1⟩ := vals1 r
    cases r1
    exact call_int_bool ⟨.int (if k then 1 else 0), H, I.tok _, ⟨_, rfl⟩, q⟩
theorem call_str_int : CallR X (.type "str") (fun xs H Q => ∃ i, xs = [.int i] ∧ i.natAbs.log2 < 1920 ∧ Q (.str (toString i)) H) := by
  intro pins s σ H xs us Q I r h
  obtain ⟨i, rfl, hz, q⟩ := h
  obtain ⟨u, rfl, t, rfl⟩ := vals1 r
  exact PySem.P.str_of_int hz ⟨.str _, H, I.tok _, ⟨_, rfl⟩, q⟩
def LenV (K : PySem.W.Frag) (x : V) (H : Hp) (n : Nat) : Prop :=
  match x with
  | .str y => y.length ≤ sizeLine ∧ n = y.length
  | .byt y => y.size ≤ sizeLine ∧ n = y.size
  | .ref p => (∃ xs, SqL K H p xs ∧ n = xs.length) ∨ ∃ xs, SqT K H p xs ∧ n = xs.length
  | _ => False
theorem call_len : CallR X (.builtin "len") (fun xs H Q => ∃ x n, xs = [x] ∧ LenV X.K x H n ∧ Q (.int n) H) := by
  intro pins s σ H xs us Q I r h
  obtain ⟨x, n, rfl, e, q⟩ := h
  obtain ⟨u, rfl, rx⟩ := vals1 r
  have hl := line63
  have hs : sizeLine = 16777216 := sizeLine_eq
  cases x with
  | str y =>
    obtain ⟨t, rfl⟩ := rx
    obtain ⟨hy, e'⟩ : y.length ≤ sizeLine ∧ n = y.length := e
    subst e'
    exact len_str (by omega) ⟨.int _, H, I.tok _, ⟨_, rfl⟩, q⟩
  | byt y =>
    obtain ⟨t, rfl⟩ := rx
    obtain ⟨hy, e'⟩ : y.size ≤ sizeLine ∧ n = y.size := e
    subst e'
    exact PySem.W.len_bytes (by omega) ⟨.int _, H, I.tok _, ⟨_, rfl⟩, q⟩
  | ref p =>
    cases rx
    have e' : (∃ xs, SqL X.K H p xs ∧ n = xs.length) ∨ ∃ xs, SqT X.K H p xs ∧ n = xs.length := e
    rcases e' with ⟨xs, hx, e'⟩ | ⟨xs, hx, e'⟩
    · subst e'
      obtain ⟨its, r', pl, hz⟩ := I.list hx
      have hlen := r'.length
      exact Calls.call_len_list pl.isList (by simp only [List.size_toArray]; omega) ⟨.int xs.length, H, I.tok _, ⟨_, by simp only [List.size_toArray]; rw [hlen]⟩, q⟩
    · subst e'
      obtain ⟨its, r', pl, hz⟩ := I.tuple hx
      have hlen := r'.length
      exact len_tuple pl (by simp only [List.size_toArray]; omega) ⟨.int xs.length, H, I.tok _, ⟨_, by simp only [List.size_toArray]; rw [hlen]⟩, q⟩
  | _ => exact (show False from e).elim
end
end L2
namespace L2
open PySem PySem.Spec PyProof.Rows
structure ObjM (h : Heap) (x dx C : Addr) (mA : Str → Option Value) : Prop where
  obj : h.get? x = some (PySem.W.instObj C dx)
  ns : h.Ns1 dx mA
  ne : dx ≠ x
theorem lookIn_ns {h : Heap} {dx : Addr} {mA : Str → Option Value} (n : h.Ns1 dx mA) : ∃ od, h.get? dx = some od ∧ ∀ name, PySem.W.lookIn name od = some (mA name) := by
  obtain ⟨o, es, ep, ho, hd, hk, _, hm⟩ := n
  refine ⟨o, ho, fun name => ?_⟩
  have e := hm name
  unfold nsFind findBy at e
  rw [← Array.find?_toList] at e
  unfold PySem.W.lookIn
  rw [hd]
  dsimp only
  split
  · rename_i y q
    rw [q] at e
    exact congrArg some e
  · rename_i q
    rw [q] at e
    have a : es.toList.any (·.refKey) = false := by
      rw [List.any_eq_false]
      intro y hy
      obtain ⟨z, t, hkey⟩ := hk y (Array.mem_toList_iff.mp hy)
      simp [DictEntry.refKey, hkey]
    have a' : ¬ es.toList.any (·.refKey) = true := by rw [a]; exact Bool.false_ne_true
    rw [if_neg a']
    exact congrArg some e
theorem ObjM.look {h : Heap} {x dx C : Addr} {mA : Str → Option Value} (I : ObjM h x dx C mA) : ∃ od, PySem.W.InstAt h x (PySem.W.instObj C dx) C (some od) ∧ ∀ name, PySem.W.lookIn name od = some (mA name) :=
  let ⟨od, ho, hl⟩ := lookIn_ns I.ns
  ⟨od, ⟨I.obj, rfl, rfl, ho⟩, hl⟩
section
variable {prog : Program} {w : World} {A : Around} {E : Value → Shared → Prop} {s : Shared} {K : PySem.W.Frag} {x dx C f : Addr} {mA : Str → Option Value} {name : Str} {v : Value}
end
section
variable {P : Program} {w : World} {H H' : Hp} {h h' : Heap} {a C dx : Addr} {fs fs' : List (Str × V)}
theorem ins_get (hok : HOk P w H h) (e : H a = some (.ins C dx fs)) : ∃ mA, ObjM h a dx C mA ∧ (∀ f, RelO (fs.lookup f) (mA f)) ∧ PySem.Within mA (fs.map (·.1)) ∧ fs.length ≤ 1000 ∧ H dx = some (.own a) := by
  obtain ⟨d, z, ne, ob, mA, n, r, q⟩ := (show ObjOk P w H h a (.ins C dx fs) from hok a _ e)
  exact ⟨mA, ⟨ob, n, ne⟩, r, q, z, d⟩
end
structure Cls (K : PySem.W.Frag) (C : Addr) : Prop where
  pg : PySem.W.plainGet K C Str.empty = true
  hd : PySem.W.hasDictIn K C = true
  po : PySem.W.plainOver K C = true
  sa : PySem.W.findIn K (.ref C) "__setattr__" = some (some (.builtin "object.__setattr__"))
theorem Cls.get {K : PySem.W.Frag} {C : Addr} (c : Cls K C) (f : Str) : PySem.W.plainGet K C f = true := c.pg
section
variable {X : Cx} {pins : List (Addr × Obj)} {σ : St} {H : Hp} {s : Shared} {a C dx : Addr} {fs : List (Str × V)} {f : Str} {v : V} {A : Around} {E : Value → Shared → Prop}
theorem Inv.made (I : Inv X pins σ H s) : Inv X pins σ (upd (upd H s.heap.objs.size (.own (s.heap.objs.size + 1))) (s.heap.objs.size + 1) (.ins C s.heap.objs.size []))
    { s with heap := (s.heap.push PySem.W.emptyDict).push (PySem.W.instObj C s.heap.objs.size) } := by
  have e1 : (s.heap.push PySem.W.emptyDict).get? s.heap.objs.size = some PySem.W.emptyDict := Heap.get?_push_size s.heap rfl
  have e2 : ((s.heap.push PySem.W.emptyDict).push (PySem.W.instObj C s.heap.objs.size)).get? (s.heap.objs.size + 1) = some (PySem.W.instObj C s.heap.objs.size) := by
    have := Heap.get?_push_size (s.heap.push PySem.W.emptyDict) (o := PySem.W.instObj C s.heap.objs.size) rfl
    rwa [Heap.size_push] at this
  have e3 : (s.heap.push PySem.W.emptyDict).Ns s.heap.objs.size (fun _ => none) := ⟨PySem.W.emptyDict, #[], _, e1, rfl, (fun e he => absurd he (by simp)), fun _ => rfl⟩
  have I1 := I.laid (a := s.heap.objs.size) (o := .own (s.heap.objs.size + 1)) (h' := s.heap.push PySem.W.emptyDict) (t' := s.toks) (fun b u q => Heap.get?_push_of_some _ q) (Nat.le_refl _) ⟨_, e1⟩
  refine I1.laid (a := s.heap.objs.size + 1) (o := .ins C s.heap.objs.size []) (t' := s.toks) (fun b u q => Heap.get?_push_of_some _ q) (Nat.le_of_eq (Heap.size_push _ _)) ?_
  have ne : s.heap.objs.size ≠ s.heap.objs.size + 1 := Nat.ne_of_lt (Nat.lt_succ_self _)
  refine ⟨by rw [upd_ne ne, upd_same], Nat.zero_le _, ne, e2, fun _ => none, (Heap.Ns1.of_empty e3).at fun o q => Heap.get?_push_of_some _ q, fun _ => True.intro, fun y hy => absurd rfl hy⟩
end
section
variable {X : Cx} {o e value : Expr} {f : Str} {pos pos' tpos : Pos} {ta tv : TE}
end
section
variable {X : Cx} {pins : List (Addr × Obj)} {σ : St} {H : Hp} {s : Shared} {A : Around} {E : Value → Shared → Prop} {Q : Value → Shared → Prop} {c : Value} {b : Bool}
inductive TyOf (K : PySem.W.Frag) (H : Hp) : V → Value → Prop where
  | non : TyOf K H .non (.type "NoneType")
  | bl (x : Bool) : TyOf K H (.bl x) (.type "bool")
  | int (i : Int) : TyOf K H (.int i) (.type "int")
  | str (x : Str) : TyOf K H (.str x) (.type "str")
  | flt (x : UInt64) : TyOf K H (.flt x) (.type "float")
  | lst {a : Addr} {xs : List V} (e : H a = some (.lst xs)) : TyOf K H (.ref a) (.type "list")
  | frz {a : Addr} {o : Obj} {xs : List V} (e : H a = some (.frz o (.lst xs))) : TyOf K H (.ref a) (.type "list")
  | tup {a : Addr} {xs : List V} (e : H a = some (.tup xs)) : TyOf K H (.ref a) (.type "tuple")
  | dK {a : Addr} {kvs : List (Key × V)} (e : H a = some (.dK kvs)) : TyOf K H (.ref a) (.type "dict")
  | dT {a : Addr} {kvs : List (List Key × V)} (e : H a = some (.dT kvs)) : TyOf K H (.ref a) (.type "dict")
  | ins {a C dx : Addr} {fs : List (Str × V)} (e : H a = some (.ins C dx fs)) (cl : Cls K C) (ha : PySem.W.findIn K (.ref C) "__class__" = some (some (.builtin "object.__class__")))
      (hn : PySem.W.specialIn K (.builtin "object.__class__") "__get__" = some (some (.builtin "getset_descriptor.__get__"))) (htk : PySem.W.takesIn K (.builtin "object.__class__") = some true)
      (hm : PySem.W.mroIn K C (.type "object") = some true) : TyOf K H (.ref a) (.ref C)
theorem isinst_ok {x : V} {u t : Value} (I : Inv X pins σ H s) (rx : RelV x u) (ty : TyOf X.K H x t) (e : PySem.W.kitOne X.K t c = some b) (h : ∀ tk, Q (.bool b) { s with toks := tk }) :
    wpAny (model X.prog X.w) A (call (.builtin "isinstance") [u, c]) Q E s := by
  cases ty with
  | non => cases (show u = Value.none from rx); exact PySem.W.kia_one PySem.W.kitx_none I.kIn True.intro e (fun z => nomatch z) h
  | bl y => cases (show u = Value.bool y from rx); exact PySem.W.kia_one PySem.W.kitx_bool I.kIn True.intro e (fun z => nomatch z) h
  | int i => obtain ⟨t, q⟩ := (show ∃ t, u = Value.int i t from rx); cases q; exact PySem.W.kia_one PySem.W.kitx_int I.kIn True.intro e (fun z => nomatch z) h
  | str y => obtain ⟨t, q⟩ := (show ∃ t, u = Value.str y t from rx); cases q; exact PySem.W.kia_one PySem.W.kitx_str I.kIn True.intro e (fun z => nomatch z) h
  | flt y => obtain ⟨t, q⟩ := (show ∃ t, u = Value.float y t from rx); cases q; exact PySem.W.kia_one PySem.W.kitx_float I.kIn True.intro e (fun z => nomatch z) h
  | @lst a xs ea =>
    cases (show u = Value.ref a from rx)
    obtain ⟨_, _, n, _, h1⟩ := (show ObjOk X.prog X.w H s.heap a (.lst xs) from I.hok a _ ea)
    exact PySem.W.kia_one PySem.W.kitx_list I.kIn ⟨_, h1, rfl⟩ e (fun z => nomatch z) h
  | @frz a ob xs ea =>
    cases (show u = Value.ref a from rx)
    obtain ⟨_, _, _, n, _, h1⟩ := (show ObjOk X.prog X.w H s.heap a (.frz ob (.lst xs)) from I.hok a _ ea)
    exact PySem.W.kia_one PySem.W.kitx_list I.kIn ⟨_, h1, rfl⟩ e (fun z => nomatch z) h
  | @tup a xs ea =>
    cases (show u = Value.ref a from rx)
    obtain ⟨_, _, _, p⟩ := (show ObjOk X.prog X.w H s.heap a (.tup xs) from I.hok a _ ea)
    obtain ⟨o, h1, h2, _⟩ := p
    exact PySem.W.kia_one PySem.W.kitx_tuple I.kIn ⟨o, h1, h2⟩ e (fun z => nomatch z) h
  | @dK a kvs ea =>
    cases (show u = Value.ref a from rx)
    obtain ⟨_, _, vs, _, p⟩ := (show ObjOk X.prog X.w H s.heap a (.dK kvs) from I.hok a _ ea)
    obtain ⟨o, es, ep, h1, h2, _⟩ := p
    exact PySem.W.kia_one PySem.W.kitx_dict I.kIn ⟨o, h1, h2.1⟩ e (fun z => nomatch z) h
  | @dT a kvs ea =>
    cases (show u = Value.ref a from rx)
    obtain ⟨_, _, xs, _, o, es, ep, h1, h2, _⟩ := (show ObjOk X.prog X.w H s.heap a (.dT kvs) from I.hok a _ ea)
    exact PySem.W.kia_one PySem.W.kitx_dict I.kIn ⟨o, h1, h2.1⟩ e (fun z => nomatch z) h
  | @ins a C dx fs ea cl ha hn htk hm =>
    cases (show u = Value.ref a from rx)
    obtain ⟨mA, O, _⟩ := ins_get I.hok ea
    obtain ⟨od, J, _⟩ := O.look
    exact PySem.W.kia_one (PySem.W.kitx_own (cl.get _) cl.hd ha hn htk hm) I.kIn J e (fun z => nomatch z) h
end
end L2
namespace L2
open PySem PySem.Spec PyProof.Rows
structure Room (k : Nat) (A : Around) : Prop where
  hd : A.handled = none
  dp : A.depth + 3 * k + 5 < recursionLimit
  un : A.units + 16 * k + 200 < cLine
theorem Room.mono {j k : Nat} {A : Around} (r : Room k A) (h : j ≤ k) : Room j A := ⟨r.hd, by have := r.dp; omega, by have := r.un; omega⟩
theorem Room.deeper {k : Nat} {A : Around} (r : Room (k + 1) A) (env : Env) : Room k (A.deeper env) :=
  ⟨r.hd, by have := r.dp; show A.depth + 1 + 3 * k + 5 < _; omega, by have := r.un; show A.units + 3 + 16 * k + 200 < _; omega⟩
theorem Room.in1 {k : Nat} {A : Around} (r : Room (k + 1) A) : Room k A.in1 :=
  ⟨r.hd, by have := r.dp; show A.depth + 3 * k + 5 < _; omega, by have := r.un; show A.units + 1 + 16 * k + 200 < _; omega⟩
theorem Room.depth {k : Nat} {A : Around} (r : Room k A) : A.depth < recursionLimit := by have := r.dp; omega
theorem Room.units {k : Nat} {A : Around} (r : Room k A) : A.units + 64 < cLine := by have := r.un; omega
def tNil : TA := fun _ H Q => Q [] H
def tCons (ta : TE) (tr : TA) : TA := fun σ H Q => ta σ H fun x H1 => tr σ H1 fun xs H2 => Q (x :: xs) H2
section
variable {X : Cx} {e : Expr} {es : List Expr} {te : TE} {t : TA} {pos : Pos}
theorem pa_nil : PA X [] tNil := fun _ _ _ _ H Q I h => Calls.spliced_nil ⟨[], H, I, .nil, h⟩
theorem pa_cons (ha : PE X e te) (hr : PA X es t) (hs : starEach (e :: es) X.env = (false, eval e X.env) :: starEach es X.env := by rfl) : PA X (e :: es) (tCons te t) := by
  intro pos pins s σ H Q I h
  rw [hs]
  show wpAny _ _ (spliced ((false, eval e X.env) :: backTo pos (starEach es X.env))) _ _ s
  refine Calls.spliced_cons (thn (ha pins s σ H _ I h) fun u s1 ⟨x, H1, I1, r1, q1⟩ => ?_)
  exact thn (hr pos pins s1 σ H1 _ I1 q1) fun us s2 ⟨xs, H2, I2, r2, q2⟩ => ⟨x :: xs, H2, I2, .cons r1 r2, q2⟩
def tTup (t : TA) : TE := fun σ H Q => t σ H fun xs H1 => xs.length ≤ sizeLine ∧ ∀ p, H1 p = none → Q (.ref p) (upd H1 p (.tup xs))
def tLst (t : TA) : TE := fun σ H Q => t σ H fun xs H1 => xs.length ≤ sizeLine ∧ ∀ p, H1 p = none → Q (.ref p) (upd H1 p (.lst xs))
theorem pe_tup {x1} (h : PA X es t) : PE X (.Tuple es x1 pos) (tTup t) := by
  intro pins s σ H Q I hq
  refine wpAny_Tuple_spliced (thn (h pos pins s σ H _ I hq) fun us s1 ⟨xs, H1, I1, r, z, q⟩ => ⟨by rw [← r.length]; exact z, ?_⟩)
  have hf : H1 s1.heap.objs.size = none := I1.hok.fresh (Nat.le_refl _)
  refine ⟨.ref s1.heap.objs.size, upd H1 s1.heap.objs.size (.tup xs), I1.laid (t' := s1.toks) (fun b u e => Heap.get?_push_of_some _ e) (Nat.le_refl _) ?_, rfl, q _ hf⟩
  exact ⟨z, us, r, ⟨_, Heap.get?_push_size _ rfl, rfl, _, rfl⟩⟩
theorem pe_lst (h : PA X es t) : PE X (.List es pos) (tLst t) := by
  intro pins s σ H Q I hq
  refine wpAny_List_spliced (thn (h pos pins s σ H _ I hq) fun us s1 ⟨xs, H1, I1, r, z, q⟩ => ⟨by rw [← r.length]; exact z, ?_⟩)
  have hf : H1 s1.heap.objs.size = none := I1.hok.fresh (Nat.le_refl _)
  refine ⟨.ref s1.heap.objs.size, upd H1 s1.heap.objs.size (.lst xs), I1.laid (t' := s1.toks) (fun b u e => Heap.get?_push_of_some _ e) (Nat.le_refl _) ?_, rfl, q _ hf⟩
  exact ⟨z, us, 0, r, Heap.get?_push_size _ rfl⟩
end
abbrev Sp := List V → Hp → VK → XK → Prop
abbrev CXT := List Env → Hp → Shared → XK → Value → Shared → Prop
structure Env0 (P : Program) (w : World) (K : PySem.W.Frag) (mg : Str → Option Value) (base : Heap) (A : Around) (outer : List Env) (s : Shared) (H : Hp) : Prop where
  frames : A.frames = some outer
  mod : Mod K mg base
  bs : ∀ b o, base.get? b = some o → s.heap.get? b = some o ∧ H b = none
  bsz : base.objs.size ≤ s.heap.objs.size
  funs : s.heap.FunFrames base outer
  frf : ∀ b ∈ frs outer, H b = none
  hok : HOk P w H s.heap
  bare : AllBare s.gens
def CE (outer : List Env) (P : Program) (w : World) (H : Hp) (s : Shared) (Q : VK) (u : Value) (s' : Shared) : Prop :=
  ∃ v H', s'.os = s.os ∧ AllBare s'.gens ∧ Un (frs outer) [] H H' s.heap s'.heap ∧ HOk P w H' s'.heap ∧ RelV v u ∧ Q v H'
def CR (CX : CXT) (outer : List Env) (P : Program) (w : World) (H : Hp) (s : Shared) (Q : VK) (E : XK) (r : Result) (s' : Shared) : Prop :=
  match r with
  | .ok (.ret u) => CE outer P w H s Q u s'
  | .ok _ => False
  | .error e => CX outer H s E e s'
structure FnOk (P : Program) (w : World) (K : PySem.W.Frag) (mg : Str → Option Value) (base : Heap) (CX : CXT) (k : Nat) (f : Addr) (fd : FuncData) (ps : List Str) (sp : Sp) : Prop where
  len : ∀ vs H Q E, sp vs H Q E → vs.length = ps.length
  run : ∀ (A : Around) (outer : List Env) (s : Shared) (H : Hp) (args : Args) (us : List Value) (vs : List V) (Q : VK) (E : XK), Room k A → Env0 P w K mg base A outer s H → BindsTo s fd args (ps.zip us) → Vals vs us → sp vs H Q E →
    codeAny (model P w) A (.call (.ref f) args) (CR CX outer P w H s Q E) s
theorem FnOk.mono {P : Program} {w : World} {K : PySem.W.Frag} {mg : Str → Option Value} {base : Heap} {CX : CXT} {j k : Nat} {f : Addr} {fd : FuncData} {ps : List Str} {sp : Sp} (F : FnOk P w K mg base CX j f fd ps sp) (h : j ≤ k) :
    FnOk P w K mg base CX k f fd ps sp := ⟨F.len, fun A outer s H args us vs Q E hr => F.run A outer s H args us vs Q E (hr.mono h)⟩
theorem FnOk.imp {P : Program} {w : World} {K : PySem.W.Frag} {mg : Str → Option Value} {base : Heap} {CX : CXT} {k : Nat} {f : Addr} {fd : FuncData} {ps : List Str} {sp sp' : Sp} (F : FnOk P w K mg base CX k f fd ps sp)
    (h : ∀ vs H Q E, sp' vs H Q E → sp vs H Q E) : FnOk P w K mg base CX k f fd ps sp' :=
  ⟨fun vs H Q E q => F.len vs H Q E (h _ _ _ _ q), fun A outer s H args us vs Q E hr he hb hv hs => F.run A outer s H args us vs Q E hr he hb hv (h _ _ _ _ hs)⟩
theorem Env0.in1 {P : Program} {w : World} {K : PySem.W.Frag} {mg : Str → Option Value} {base : Heap} {A : Around} {outer : List Env} {s : Shared} {H : Hp} (e : Env0 P w K mg base A outer s H) :
    Env0 P w K mg base A.in1 outer s H := ⟨e.frames, e.mod, e.bs, e.bsz, e.funs, e.frf, e.hok, e.bare⟩
section
variable {X : Cx} {pins : List (Addr × Obj)} {σ : St} {H : Hp} {s s' : Shared}
theorem Inv.env0 (I : Inv X pins σ H s) : Env0 X.prog X.w X.K X.mg X.base X.A X.stack s H :=
  ⟨I.ok.frames, I.ok.mod, I.bs, Nat.le_trans I.ok.bsz I.sz, I.stack, I.stkFree, I.hok, I.bare⟩
theorem Inv.after {Q : VK} {u : Value} (I : Inv X pins σ H s) (h : CE X.stack X.prog X.w H s Q u s') : EP X pins σ Q u s' := by
  obtain ⟨v, H', os, bare, un, hok, r, q⟩ := h
  obtain ⟨hh, g, d, t, os'⟩ := s'
  obtain rfl : os' = s.os := os
  exact ⟨v, H', I.call (h' := hh) (g' := g) (d' := d) (t' := t) (ch := []) un hok bare (fun b z => absurd z (by simp)), r, q⟩
end
def tCall (sp : Sp) (dvs : List V) (E : XK) (t : TA) : TE := fun σ H Q => t σ H fun vs H1 => sp (vs ++ dvs) H1 Q E
def Binds (K : PySem.W.Frag) (fd : FuncData) (ps : List Str) (ds : List Value) : Prop :=
  ∀ (s : Shared) (us : List Value), K.In s.heap → (us ++ ds).length = ps.length → BindsTo s fd ⟨us, []⟩ (ps.zip (us ++ ds))
theorem Binds.all {K : PySem.W.Frag} {fd : FuncData} {ps : List Str} (h : ∀ us : List Value, us.length = ps.length → bindArgs fd ⟨us, []⟩ = pure (ps.zip us)) : Binds K fd ps [] := fun s us _ hl => by
  rw [List.append_nil] at hl ⊢
  exact .of_eq (h us hl)
def Passes (CX : CXT) (X : Cx) (E : XK) : Prop := ∀ (pins : List (Addr × Obj)) (σ : St) (H : Hp) (s : Shared) (e : Value) (s' : Shared), Inv X pins σ H s → CX X.stack H s E e s' → X.xe e s'
section
variable {X : Cx} {CX : CXT} {k : Nat} {f C : Addr} {fd : FuncData} {ps : List Str} {sp : Sp} {dvs : List V} {ds : List Value} {E : XK} {x m : Str} {p pos apos : Pos} {e o : Expr} {es : List Expr} {ta : TE} {t : TA}
theorem run_fn {pins : List (Addr × Obj)} {σ : St} {H : Hp} {s : Shared} {Q : VK} {us : List Value} {vs : List V} (F : FnOk X.prog X.w X.K X.mg X.base CX k f fd ps sp) (hr : Room k X.A) (hb : Binds X.K fd ps ds) (hd : Vals dvs ds) (hx : Passes CX X E)
    (I : Inv X pins σ H s) (r : Vals vs us) (h : sp (vs ++ dvs) H Q E) : wpAny (model X.prog X.w) X.A (call (.ref f) us) (EP X pins σ Q) X.xe s := by
  have r2 : Vals (vs ++ dvs) (us ++ ds) := r.append hd
  have hl : (us ++ ds).length = ps.length := by rw [← r2.length]; exact F.len _ _ _ _ h
  refine wpAny_call (codeAny_mono (F.run X.A X.stack s H ⟨us, []⟩ (us ++ ds) (vs ++ dvs) Q E hr I.env0 (hb s us I.kIn hl) r2 h) fun r s' hq => ?_)
  cases r with
  | error e => exact hx pins σ H s e s' I hq
  | ok fl =>
    cases fl with
    | ret u => exact I.after hq
    | next => exact False.elim hq
    | brk => exact False.elim hq
    | cont => exact False.elim hq
theorem pe_call (F : FnOk X.prog X.w X.K X.mg X.base CX k f fd ps sp) (hr : Room k X.A) (hg : Gl X x) (hm : X.mg x = some (.ref f)) (hk : PySem.W.keepIn X.K (.ref f) = true) (hb : Binds X.K fd ps ds) (hd : Vals dvs ds) (hx : Passes CX X E)
    (ha : PA X (e :: es) t) (hdb : (x == ("__debug__" : Str)) = false := by decide) (he : starEach (e :: es) X.env = (false, eval e X.env) :: starEach es X.env := by rfl) (hpl : (backTo pos (starEach es X.env)).any (·.1) = false := by rfl) :
    PE X (.Call (.Name x p) (e :: es) [] pos) (tCall sp dvs E t) := by
  intro pins s σ H Q I h
  refine wpAny_Call_Name_kw (ld_glob I hg hm ?_ hdb)
  refine PySem.W.callWith_K (h₀ := X.base) I.ok.mod.kin hk (thn (ha pos pins s σ H _ I h) fun us s1 ⟨vs, H1, I1, r, q⟩ => ⟨I1.kIn, ?_⟩) he hpl
  exact run_fn F hr hb hd hx I1 r q
end
section
variable {X : Cx} {CX : CXT} {k : Nat} {f C : Addr} {fd : FuncData} {ps ks : List Str} {sp : Sp} {E : XK} {x m : Str} {p pos apos kpos : Pos} {e o : Expr} {es : List Expr} {kws : List Keyword} {te ta : TE} {t tk : TA} {nm : Option Str}
variable {g : List Value → List Value → List Value} {gV : List V → List V → List V}
end
structure FnScope (N P : List Str) (sc : Scope) : Prop where
  kind : sc.kind = .function
  co : sc.isCoroutine = false
  gen : sc.isGenerator = false
  nd : N.Nodup
  pre : N.take P.length = P
  par : ∀ x ∈ P, sc.names.lookup x = some .local ∨ sc.names.lookup x = some .cell
  nofree : ∀ y ∈ sc.names, y.2 ≠ .free
theorem bindL_out {kindOf : Str → Option NameKind} {x : Str} : ∀ {binds : List (Str × Value)} {m : Str → Option Value}, (∀ v, (x, v) ∉ binds) → bindL kindOf binds m x = m x
  | [], _, _ => rfl
  | (n, v) :: r, m, h => by
    unfold bindL
    rw [bindL_out fun w hw => h w (List.mem_cons_of_mem _ hw)]
    split
    · have : x ≠ n := by rintro rfl; exact h v List.mem_cons_self
      simp [this]
    · rfl
theorem bindC_out {kindOf : Str → Option NameKind} {x : Str} : ∀ {binds : List (Str × Value)} {m : Str → Option Value}, (∀ v, (x, v) ∉ binds) → bindC kindOf binds m x = m x
  | [], _, _ => rfl
  | (n, v) :: r, m, h => by
    unfold bindC
    rw [bindC_out fun w hw => h w (List.mem_cons_of_mem _ hw)]
    split
    · rfl
    · have : x ≠ n := by rintro rfl; exact h v List.mem_cons_self
      simp [this]
theorem bindL_get {kindOf : Str → Option NameKind} {x : Str} {v : Value} : ∀ {P : List Str} {vs : List Value} {i : Nat} {m : Str → Option Value}, P.Nodup → P[i]? = some x → vs[i]? = some v → kindOf x = some .local →
    bindL kindOf (P.zip vs) m x = some v
  | [], _, _, _, _, h, _, _ => by simp at h
  | _ :: _, [], _, _, _, _, h, _ => by simp at h
  | p :: P, w :: vs, 0, m, nd, h1, h2, hk => by
    simp at h1 h2; subst h1; subst h2
    show bindL kindOf ((p, w) :: P.zip vs) m p = _
    unfold bindL
    rw [bindL_out fun v hv => (List.nodup_cons.mp nd).1 (List.of_mem_zip hv).1, if_pos hk]
    simp
  | p :: P, w :: vs, i + 1, m, nd, h1, h2, hk => by
    show bindL kindOf ((p, w) :: P.zip vs) m x = _
    unfold bindL
    exact bindL_get (i := i) (List.nodup_cons.mp nd).2 (by simpa using h1) (by simpa using h2) hk
theorem bindC_get {kindOf : Str → Option NameKind} {x : Str} {v : Value} : ∀ {P : List Str} {vs : List Value} {i : Nat} {m : Str → Option Value}, P.Nodup → P[i]? = some x → vs[i]? = some v → kindOf x ≠ some .local →
    bindC kindOf (P.zip vs) m x = some v
  | [], _, _, _, _, h, _, _ => by simp at h
  | _ :: _, [], _, _, _, _, h, _ => by simp at h
  | p :: P, w :: vs, 0, m, nd, h1, h2, hk => by
    simp at h1 h2; subst h1; subst h2
    show bindC kindOf ((p, w) :: P.zip vs) m p = _
    unfold bindC
    rw [bindC_out fun v hv => (List.nodup_cons.mp nd).1 (List.of_mem_zip hv).1, if_neg hk]
    simp
  | p :: P, w :: vs, i + 1, m, nd, h1, h2, hk => by
    show bindC kindOf ((p, w) :: P.zip vs) m x = _
    unfold bindC
    exact bindC_get (i := i) (List.nodup_cons.mp nd).2 (by simpa using h1) (by simpa using h2) hk
def start (N : List Str) (vs : List V) : St := vs.map some ++ List.replicate (N.length - vs.length) none
def cxOf (CX : CXT) (P : Program) (w : World) (K : PySem.W.Frag) (mg : Str → Option Value) (base : Heap) (N : List Str) (qual : Str) (scope : Scope) (f : Addr) (cd : Value) (A : Around) (outer : List Env) (s : Shared) (H : Hp) (E : XK) : Cx where
  prog := P
  w := w
  K := K
  mg := mg
  base := base
  A := A.deeper (envOfC qual scope s.heap.objs.size f cd)
  N := N
  s₀ := s
  H₀ := H
  env := envOfC qual scope s.heap.objs.size f cd
  outer := outer
  stack := envOfC qual scope s.heap.objs.size f cd :: outer
  ex := []
  calm := true
  fn := fun _ => true
  pn := []
  xe := fun e s' => wpAny (model P w) (A.deeper (envOfC qual scope s.heap.objs.size f cd)) (leaving (envOfC qual scope s.heap.objs.size f cd) e) (fun _ s'' => CX outer H s E e s'') (fun e' s'' => CX outer H s E e' s'') s'
theorem cell_has {sc : Scope} {n : Nat} {x : Str} (h : sc.names.lookup x = some .cell) : ∃ c, (cellsFrom n sc.names []).lookup x = some c := by
  have q := PySem.W.cellsFrom_some sc.names n [] (.inl h)
  exact Option.isSome_iff_exists.mp q
theorem inv_start {CX : CXT} {P : Program} {w : World} {K : PySem.W.Frag} {mg : Str → Option Value} {base : Heap} {N ps : List Str} {qual : Str} {scope : Scope} {f : Addr} {cd : Value} {A : Around} {outer : List Env} {s s1 : Shared} {H : Hp} {E : XK} {us : List Value} {vs : List V}
    (S : FnScope N ps scope) (hd : A.handled = none) (e0 : Env0 P w K mg base A outer s H) (hl : vs.length = ps.length) (r : Vals vs us)
    (x : InCallC s s.heap.objs.size (bindL (envOfC qual scope s.heap.objs.size f cd).kindOf (ps.zip us) fun _ => none) (cellsFrom (s.heap.objs.size + 1) scope.names []) (bindC (envOfC qual scope s.heap.objs.size f cd).kindOf (ps.zip us) fun _ => none) s1) :
    Inv (cxOf CX P w K mg base N qual scope f cd A outer s H E) [] (start N vs) H s1 := by
  have hpl : ps.length ≤ N.length := by have := congrArg List.length S.pre; rw [List.length_take] at this; omega
  obtain ⟨h1, tk, rfl, hk⟩ := x.done
  have noA : ∀ b : Addr, b ∉ (cxOf CX P w K mg base N qual scope f cd A outer s H E).ex := fun b z => absurd (show b ∈ ([] : List Addr) from z) (by simp)
  refine ⟨⟨e0.mod, S.kind, rfl, rfl, Nat.le_refl _, fun y z c h1 h2 => ?_, fun y hy => ?_, fun y c _ h => ?_, fun _ => hd, Around.frames_deeper e0.frames, .inr ⟨rfl, rfl⟩, fun b z => absurd z (noA b), e0.bs, e0.bsz, fun b _ _ => noA b, fun b z => absurd z (noA b), e0.funs, e0.frf⟩,
    rfl, e0.bare, Un.kept hk, ⟨_, x.toInCall.ns, fun i y v h1 h2 h3 => ?_⟩, fun y c h => ⟨_, x.cell y c h⟩, e0.hok.fresh (Nat.le_refl _), fun y c h => ?_, fun p hp => absurd (show p ∈ ([] : List (Addr × Obj)) from hp) (by simp), e0.hok.kept hk, ?_⟩
  · exact name_of_addr x.apart (PySem.mem_of_lookup h1) (PySem.mem_of_lookup h2)
  · have hy : scope.names.lookup y = some .cell ∨ scope.names.lookup y = some .free := hy
    rcases hy with hy | hy
    · exact cell_has hy
    · exact absurd rfl (S.nofree _ (PySem.mem_of_lookup hy))
  · exact Nat.le_of_lt (x.above y c (PySem.mem_of_lookup h))
  · have hi : i < vs.length := by
      unfold start at h2
      by_cases hi : i < vs.length
      · exact hi
      · rw [List.getElem?_append_right (by simpa using hi)] at h2
        rw [List.getElem?_replicate] at h2
        split at h2 <;> cases h2
    have ha : vs[i]? = some v := by
      unfold start at h2
      rw [List.getElem?_append_left (by simpa using hi), List.getElem?_map] at h2
      cases e : vs[i]? with
      | none => rw [e] at h2; cases h2
      | some a => rw [e] at h2; cases h2; rfl
    obtain ⟨u, hu, rv⟩ := r.get ha
    have hp : ps[i]? = some y := by
      rw [← S.pre, List.getElem?_take_of_lt (by omega)]; exact h1
    have ndP : ps.Nodup := by rw [← S.pre]; exact S.nd.sublist (List.take_sublist _ _)
    refine ⟨u, rv, ?_⟩
    rcases S.par y (List.mem_of_getElem? hp) with k | k
    · exact .inl ⟨k, bindL_get ndP hp hu k⟩
    · obtain ⟨c, e⟩ := cell_has (n := s.heap.objs.size + 1) k
      refine .inr ⟨.inl k, c, e, ?_⟩
      have q := x.cell y c e
      rw [bindC_get ndP hp hu (by show scope.names.lookup y ≠ _; rw [k]; decide)] at q
      exact q
  · exact e0.hok.fresh (Nat.le_of_lt (x.above y c (PySem.mem_of_lookup h)))
  · unfold start
    show _ = N.length
    rw [List.length_append, List.length_map, List.length_replicate]
    omega
theorem fn_of {CX : CXT} {P : Program} {w : World} {K : PySem.W.Frag} {mg : Str → Option Value} {base : Heap} {k : Nat} {f : Addr} {name qual : Str} {params : Arguments} {body : List Stmt} {scope : Scope} {dV kV doc pm cdv ct oc : Value} {an od : Option Addr}
    {osl : Array (Option Value)} {N ps : List Str} {sp : Sp} (lk : K.lookup f = some ⟨oc, od, .func (PySem.W.fnOf name qual params body scope dV kV doc pm an cdv ct), osl⟩) (hcd : PySem.W.codeIn K cdv qual = true) (S : FnScope N ps scope)
    (len : ∀ vs H Q E, sp vs H Q E → vs.length = ps.length)
    (hbody : ∀ (A : Around) (outer : List Env) (s : Shared) (H : Hp) (vs : List V) (Q : VK) (E : XK), Room k (A.deeper (envOfC qual scope s.heap.objs.size f cdv)) → sp vs H Q E →
      ∃ t, PSs (cxOf CX P w K mg base N qual scope f cdv A outer s H E) body t ∧ t { nx := fun _ H' => Q .non H', rt := Q } (start N vs) H) :
    FnOk P w K mg base CX (k + 1) f (PySem.W.fnOf name qual params body scope dV kV doc pm an cdv ct) ps sp := by
  refine ⟨len, fun A outer s H args us vs Q E hr e0 hb r hsp => ?_⟩
  have hl := len _ _ _ _ hsp
  have KX : K.In s.heap := e0.mod.kin.keeps fun b o e => (e0.bs b o e).1
  have lim : s.heap.NoLimit := e0.mod.nolimit.keeps fun b o e => (e0.bs b o e).1
  have hkind : ∀ y ∈ ps.zip us, scope.names.lookup y.1 = some .local ∨ (scope.names.lookup y.1 = some .cell ∧ ((cellsFrom (s.heap.objs.size + 1) scope.names []).lookup y.1).isSome = true) := fun ⟨n, v⟩ hy => by
    rcases S.par n (List.of_mem_zip hy).1 with q | q
    · exact .inl q
    · exact .inr ⟨q, PySem.W.cellsFrom_some _ _ _ (.inl q)⟩
  refine codeAny_call_function hr.depth (KX _ _ lk) rfl S.co S.gen rfl (PySem.W.codeRec_of KX hcd) (hb _ _ _ _ ?_)
  refine wpAny_newFunctionEnv_cells S.kind hkind fun env he s1 x => ?_
  subst he
  refine ⟨lim.keeps x.toInCall.keep, codeAny_func ?_⟩
  obtain ⟨t, ht, hq⟩ := hbody A outer s H vs Q E (hr.deeper _) hsp
  have I : Inv (cxOf CX P w K mg base N qual scope f cdv A outer s H E) [] (start N vs) H s1 := inv_start S hr.hd e0 hl r x
  refine wpAny_mono (ht [] s1 (start N vs) H _ I hq) (fun fl s' hs => ?_) fun e s' hs => hs
  have fin : ∀ {σ' : St} {H' : Hp} {v : V} {u : Value}, Inv (cxOf CX P w K mg base N qual scope f cdv A outer s H E) [] σ' H' s' → RelV v u → Q v H' → CE outer P w H s Q u s' :=
    fun {σ' H' v u} J rv q => ⟨v, H', J.os, J.bare, J.base, J.hok, rv, q⟩
  cases fl with
  | ret u =>
    obtain ⟨v, σ', H', J, rv, q⟩ := hs
    exact fin J rv q
  | next =>
    obtain ⟨σ', H', J, q⟩ := hs
    exact fin (v := V.non) (u := Value.none) J rfl q
  | brk =>
    obtain ⟨_, _, _, q⟩ := hs
    exact False.elim q
  | cont =>
    obtain ⟨_, _, _, q⟩ := hs
    exact False.elim q
end L2
namespace L2
open PySem PySem.Spec PyProof.Rows
section
variable {X : Cx} {x : Str} {p pos : Pos} {e : Expr} {es : List Expr} {t : TA} {id T : String} {r : List V → Hp → VK → Prop}
def tCB (r : List V → Hp → VK → Prop) (t : TA) : TE := fun σ H Q => t σ H fun vs H1 => r vs H1 Q
theorem pe_callB (hc : CallR X (.builtin id) r) (hg : Gl X x) (hm : X.mg x = none) (hv : bootBuiltins x = some (.builtin id)) (ha : PA X (e :: es) t) (hn : x ≠ "__name__" := by decide) (hdb : (x == ("__debug__" : Str)) = false := by decide)
    (he : starEach (e :: es) X.env = (false, eval e X.env) :: starEach es X.env := by rfl) (hpl : (backTo pos (starEach es X.env)).any (·.1) = false := by rfl) : PE X (.Call (.Name x p) (e :: es) [] pos) (tCB r t) := by
  intro pins s σ H Q I h
  refine wpAny_Call_Name_kw (ld_blt I hg hm hv ?_ hn hdb)
  exact PyProof.Rows.callWith_builtin1 (thn (ha pos pins s σ H _ I h) fun us s1 ⟨vs, H1, I1, r1, q1⟩ => hc pins s1 σ H1 vs us Q I1 r1 q1) he hpl
theorem pe_callTy (hc : CallR X (.type T) r) (hg : Gl X x) (hm : X.mg x = none) (hv : bootBuiltins x = some (.type T)) (ha : PA X (e :: es) t) (hn : x ≠ "__name__" := by decide) (hdb : (x == ("__debug__" : Str)) = false := by decide)
    (he : starEach (e :: es) X.env = (false, eval e X.env) :: starEach es X.env := by rfl) (hpl : (backTo pos (starEach es X.env)).any (·.1) = false := by rfl) : PE X (.Call (.Name x p) (e :: es) [] pos) (tCB r t) := by
  intro pins s σ H Q I h
  refine wpAny_Call_Name_kw (ld_blt I hg hm hv ?_ hn hdb)
  exact PyProof.Rows.callWith_type1 (thn (ha pos pins s σ H _ I h) fun us s1 ⟨vs, H1, I1, r1, q1⟩ => hc pins s1 σ H1 vs us Q I1 r1 q1) he hpl
end
end L2
namespace HT
open PySem PyProof.Rows
section
open PySem.SeqAt
open PySem.AutoSeq1 (wpAny_loadPart')
open PySem.MeetsSeq PySem.MeetsSeq2 PySem.MeetsSeq3
end
section
variable {prog : Program} {w : World} {A : Around} {E : Value → Shared → Prop} {s : Shared}
def sIx (n d : Nat) : Option Int → Nat
  | none => d
  | some v => if v < 0 then (v + (n : Int)).toNat else min v.toNat n
theorem sIx_none (n d : Nat) : sIx n d none = d := rfl
theorem sIx_nat (n d k : Nat) : sIx n d (some (k : Int)) = min k n := by
  show (if (k : Int) < 0 then ((k : Int) + (n : Int)).toNat else min (k : Int).toNat n) = min k n
  rw [if_neg (by omega), Int.toNat_natCast]
theorem sIx_le (n d : Nat) (hd : d ≤ n) (o : Option Int) : sIx n d o ≤ n := by
  cases o with
  | none => exact hd
  | some v =>
    show (if v < 0 then (v + (n : Int)).toNat else min v.toNat n) ≤ n
    by_cases hv : v < 0
    · rw [if_pos hv]; omega
    · rw [if_neg hv]; exact Nat.min_le_right _ _
theorem clip_eq (v : Int) (n d : Nat) : (if v < 0 then max (v + (n : Int)) 0 else min v (n : Int)) = ((sIx n d (some v) : Nat) : Int) := by
  show (if v < 0 then max (v + (n : Int)) 0 else min v (n : Int)) = (((if v < 0 then (v + (n : Int)).toNat else min v.toNat n) : Nat) : Int)
  by_cases hv : v < 0
  · simp only [if_pos hv]; omega
  · simp only [if_neg hv]; omega
theorem adjust_gen (lo hi : Option Int) (n : Nat) : Builtin.Slice.sliceAdjust lo hi 1 (n : Int) = (((sIx n 0 lo : Nat) : Int), ((sIx n n hi : Nat) : Int)) := by
  have h1 : ¬ ((1 : Int) < 0) := by omega
  unfold Builtin.Slice.sliceAdjust
  simp only [h1, if_false]
  refine Prod.ext ?_ ?_
  · cases lo with
    | none => rfl
    | some v => exact clip_eq v n 0
  · cases hi with
    | none => rfl
    | some v => exact clip_eq v n n
theorem places_gen (i j : Nat) : Builtin.Slice.slicePlaces (i : Int) (j : Int) 1 = j - i := by
  unfold Builtin.Slice.slicePlaces
  have h1 : (1 : Int) > 0 := by omega
  simp only [h1, if_true, Int.ediv_one]
  split <;> omega
theorem slicePart_ {v : Value} {o : Option Int} {Q : Option Int → Shared → Prop} (p : IsPart v o) (h : Q o s) : wpAny (model prog w) A (Builtin.Slice.slicePartIndex v) Q E s := by
  cases p with
  | none => exact slicePart_none h
  | int i t => exact slicePart_int h
theorem sliceApplied_gen {sl : Addr} {vl vu : Value} {lo hi : Option Int} {n : Nat} {Q : Int × Int × Nat → Shared → Prop} (hs : s.heap.IsSliceOf sl vl vu .none) (pl : IsPart vl lo) (pu : IsPart vu hi)
    (h : Q (((sIx n 0 lo : Nat) : Int), 1, sIx n n hi - sIx n 0 lo) s) : wpAny (model prog w) A (Builtin.Slice.sliceApplied (.ref sl) (pure (n : Int))) Q E s := by
  obtain ⟨os, hos, hcs, hds⟩ := id hs
  unfold Builtin.Slice.sliceApplied Builtin.Slice.sliceFields
  refine wpAny_bind (wpAny_bind (wpAny_field hos hds (x := vl) rfl (wpAny_bind (wpAny_field hos hds (x := vu) rfl (wpAny_bind (wpAny_field hos hds (x := .none) rfl (wpAny_pure ?_)))))))
  refine wpAny_bind (slicePart_none ?_)
  show wpAny _ _ (if ((1 : Int) == 0) = true then _ else _) _ _ s
  rw [if_neg (by decide)]
  refine wpAny_bind (slicePart_ pl (wpAny_bind (slicePart_ pu (wpAny_bind (wpAny_pure ?_)))))
  show wpAny _ _ (match Builtin.Slice.sliceAdjust lo hi 1 (n : Int) with | (lo, hi) => pure (lo, (1 : Int), Builtin.Slice.slicePlaces lo hi 1)) _ _ s
  rw [adjust_gen lo hi n]
  show wpAny _ _ (pure (((sIx n 0 lo : Nat) : Int), (1 : Int), Builtin.Slice.slicePlaces ((sIx n 0 lo : Nat) : Int) ((sIx n n hi : Nat) : Int) 1)) _ _ s
  rw [places_gen]
  exact wpAny_pure h
theorem pick_gen (xs : Array Value) (i k : Nat) : ((List.range k).filterMap fun (m : Nat) => xs[((i : Int) + (m : Int) * 1).toNat]?).toArray = ((xs.toList.drop i).take k).toArray := by
  have e : (fun (m : Nat) => xs[((i : Int) + (m : Int) * 1).toNat]?) = fun m => xs[i + m]? := by
    funext m
    have : ((i : Int) + (m : Int) * 1).toNat = i + m := by omega
    rw [this]
  rw [e]
  have := pick_run xs i k
  rw [List.filterMap_map] at this
  have e2 : ((fun x => xs[x]?) ∘ fun x => i + x) = fun m => xs[i + m]? := rfl
  rw [e2] at this
  rw [this]
theorem getItem_tuple_cut {t sl : Addr} {items : Array Value} {vl vu : Value} {lo hi : Option Int} {Q : Value → Shared → Prop} (ht : IsTup s.heap t items) (hs : s.heap.IsSliceOf sl vl vu .none) (pl : IsPart vl lo) (pu : IsPart vu hi)
    (hw : ¬ (sIx items.size 0 lo = 0 ∧ sIx items.size items.size hi = items.size))
    (h : Q (.ref s.heap.objs.size) { s with heap := s.heap.push { cls := .type "tuple", data := .seq ((items.toList.drop (sIx items.size 0 lo)).take (sIx items.size items.size hi - sIx items.size 0 lo)).toArray } })
    (hsz : items.size ≤ sizeLine) : wpAny (model prog w) A (getItem (.ref t) (.ref sl)) Q E s := by
  have htake : sizeOk (.seq ((items.toList.drop (sIx items.size 0 lo)).take (sIx items.size items.size hi - sIx items.size 0 lo)).toArray) := by
    show ((items.toList.drop (sIx items.size 0 lo)).take (sIx items.size items.size hi - sIx items.size 0 lo)).toArray.size ≤ sizeLine
    rw [List.size_toArray, List.length_take, List.length_drop, Array.length_toList]
    omega
  have hj : sIx items.size items.size hi ≤ items.size := sIx_le _ _ (Nat.le_refl _) hi
  obtain ⟨os, hos, hcs, hds⟩ := id hs
  have hTs : s.TypeIs (.ref sl) "slice" := ⟨os, hos, hcs⟩
  unfold getItem
  try with_reducible refine wpAny_holding ?_
  first | refine wpAny_bind (wpAny_pure ?_) | skip
  refine wpAny_bind (wpAny_sequenceKey ht.typeIs (by decide) ?_)
  refine wpAny_bind (wpAny_callSpecial?_slot (name := Str.ofString "__getitem__") ht.typeIs PyProof.Rows.slot_tuple_getitem
    (wpAny_call_entry PyProof.Rows.slot_tuple_getitem ht.typeIs entry_tuple_getitem ?_ (args_tuple_getitem _ _)))
  show wpAny _ _ (Builtin.Tuple.tupleItemsOf (.ref t) >>= _) _ _ s
  refine wpAny_bind (tupleItemsOf_ ht ?_)
  refine wpAny_bind (wpAny_typeOf hTs ?_)
  rw [if_pos (by decide)]
  refine wpAny_bind (sliceApplied_gen hs pl pu ?_)
  have hno : ¬ ((((sIx items.size 0 lo : Nat) : Int) == 0 && (1 : Int) == 1 && (sIx items.size items.size hi - sIx items.size 0 lo) == items.size) = true) := by
    intro q
    rw [Bool.and_eq_true, Bool.and_eq_true] at q
    have q1 : ((sIx items.size 0 lo : Nat) : Int) = 0 := eq_of_beq q.1.1
    have q2 : sIx items.size items.size hi - sIx items.size 0 lo = items.size := eq_of_beq q.2
    exact hw ⟨by omega, by omega⟩
  show wpAny _ _ (if (((sIx items.size 0 lo : Nat) : Int) == 0 && (1 : Int) == 1 && (sIx items.size items.size hi - sIx items.size 0 lo) == items.size) = true then _ else _) _ _ s
  rw [if_neg hno, pick_gen]
  first
    | exact wpAny_bind (m := Builtin.Tuple.tupleExact _) (wpAny_newObj_type (wpAny_pure ⟨_, rfl, wpAny_pure h⟩) htake)
    | exact wpAny_bind (m := Builtin.Tuple.tupleExact _) (wpAny_newObj_type (wpAny_bind (wpAny_pure (wpAny_pure ⟨_, rfl, wpAny_pure h⟩))) htake)
    | exact wpAny_bind (wpAny_bind (m := Builtin.Tuple.tupleExact _) (wpAny_newObj_type (wpAny_pure (wpAny_pure ⟨_, rfl, wpAny_pure h⟩)) htake))
    | exact wpAny_bind (wpAny_bind (m := Builtin.Tuple.tupleExact _) (wpAny_newObj_type (wpAny_pure ⟨_, rfl, wpAny_pure h⟩) htake))
end
end HT
namespace L2
open PySem PySem.Spec PyProof.Rows
abbrev TO := St → Hp → (Option Int → Hp → Prop) → Prop
def PO (X : Cx) (e : Option Expr) (t : TO) : Prop :=
  ∀ (pins : List (Addr × Obj)) (s : Shared) (σ : St) (H : Hp) (Q : Option Int → Hp → Prop), Inv X pins σ H s → t σ H Q →
    wpAny (model X.prog X.w) X.A (evalPart e X.env) (fun u s' => ∃ o H', Inv X pins σ H' s' ∧ IsPart u o ∧ Q o H') X.xe s
def tNoPart : TO := fun _ H Q => Q none H
def tPart (t : TE) : TO := fun σ H Q => t σ H fun x H1 => ∃ i, x = .int i ∧ Q (some i) H1
theorem intsAre_of {ns : List Int} : ∀ {us : List Value}, Vals (ns.map V.int) us → IntsAre us ns := by
  induction ns with
  | nil => intro us r; rw [List.map_nil] at r; cases r; exact .nil
  | cons n ns ih =>
    intro us r
    rw [List.map_cons] at r
    cases r with
    | cons r1 r2 =>
      obtain ⟨t, e⟩ := r1
      subst e
      exact .cons n t (ih r2)
section
variable {X : Cx} {e : Expr} {te : TE} {lo hi : Option Expr} {tl th : TO} {pos p2 : Pos}
theorem po_none : PO X none tNoPart := by
  intro pins s σ H Q I h
  rw [evalPart_none]
  exact wpAny_pure ⟨none, H, I, .none, h⟩
theorem po_some (h : PE X e te) : PO X (some e) (tPart te) := by
  intro pins s σ H Q I hw
  rw [evalPart_some]
  refine thn (h pins s σ H _ I hw) fun u s1 ⟨x, H1, I1, r1, q1⟩ => ?_
  obtain ⟨i, rfl, q⟩ := q1
  obtain ⟨t, rfl⟩ := r1
  exact ⟨some i, H1, I1, .int i t, q⟩
def SlR (X : Cx) (r : V → Option Int → Option Int → Hp → VK → Prop) : Prop :=
  ∀ (pins : List (Addr × Obj)) (s : Shared) (σ : St) (H : Hp) (x : V) (v vl vu : Value) (lo hi : Option Int) (sl : Addr) (Q : VK), Inv X pins σ H s → RelV x v → s.heap.IsSliceOf sl vl vu .none → IsPart vl lo → IsPart vu hi → r x lo hi H Q →
    ∃ T id, typeLookup (.type T) "__getitem__" = pure (some (.builtin id)) ∧ s.TypeIs v T ∧ wpAny (model X.prog X.w) X.A (getItem v (.ref sl)) (EP X pins σ Q) X.xe s
theorem SlR.or {r r' : V → Option Int → Option Int → Hp → VK → Prop} (h : SlR X r) (h' : SlR X r') : SlR X (fun x lo hi H Q => r x lo hi H Q ∨ r' x lo hi H Q) := by
  intro pins s σ H x v vl vu lo hi sl Q I rx hs pl pu q
  rcases q with q | q
  · exact h pins s σ H x v vl vu lo hi sl Q I rx hs pl pu q
  · exact h' pins s σ H x v vl vu lo hi sl Q I rx hs pl pu q
def tSl (r : V → Option Int → Option Int → Hp → VK → Prop) (te : TE) (tl th : TO) : TE := fun σ H Q => te σ H fun x H1 => tl σ H1 fun l H2 => th σ H2 fun u H3 => r x l u H3 Q
theorem pe_slice {r : V → Option Int → Option Int → Hp → VK → Prop} (hr : SlR X r) (he : PE X e te) (hl : PO X lo tl) (hu : PO X hi th) : PE X (.Subscript e (.Slice lo hi none p2) pos) (tSl r te tl th) := by
  intro pins s σ H Q I h
  refine Subscript_ (thn (he pins s σ H _ I h) fun v s1 ⟨x, H1, I1, r1, q1⟩ => ?_)
  refine wpAny_Slice (thn (hl pins s1 σ H1 _ I1 q1) fun vl s2 ⟨l, H2, I2, pl, q2⟩ => thn (hu pins s2 σ H2 _ I2 q2) fun vu s3 ⟨u, H3, I3, pu, q3⟩ => ?_)
  rw [evalPart_none]
  refine wpAny_pure ?_
  have I4 : Inv X pins σ H3 { s3 with heap := s3.heap.push { cls := .type "slice", data := .fields #[vl, vu, .none] } } := I3.kept (t' := s3.toks) fun b ob q => Heap.get?_push_of_some _ q
  obtain ⟨T, id, hT, ht, hg⟩ := hr pins { s3 with heap := s3.heap.push { cls := .type "slice", data := .fields #[vl, vu, .none] } } σ H3 x v vl vu l u s3.heap.objs.size Q I4 r1 (Heap.IsSliceOf.new ..) pl pu q3
  show wpAny (model X.prog X.w) X.A (subscriptTail e (.Slice lo hi none p2) v (.ref s3.heap.objs.size)) (EP X pins σ Q) X.xe { s3 with heap := s3.heap.push { cls := .type "slice", data := .fields #[vl, vu, .none] } }
  exact tail_any (ops := [.ref s3.heap.objs.size, v]) ht hT hg (by with_unfolding_all rfl)
def cutV (xs : List V) (lo hi : Option Int) : List V := (xs.drop (HT.sIx xs.length 0 lo)).take (HT.sIx xs.length xs.length hi - HT.sIx xs.length 0 lo)
theorem cutV_length (xs : List V) (lo hi : Option Int) : (cutV xs lo hi).length ≤ xs.length := by
  unfold cutV
  rw [List.length_take, List.length_drop]
  omega
def rSlT (K : PySem.W.Frag) : V → Option Int → Option Int → Hp → VK → Prop := fun x lo hi H Q => ∃ a xs, x = .ref a ∧ SqT K H a xs ∧
  ¬ (HT.sIx xs.length 0 lo = 0 ∧ HT.sIx xs.length xs.length hi = xs.length) ∧ ∀ p, H p = none → Q (.ref p) (upd H p (.tup (cutV xs lo hi)))
theorem sl_tup : SlR X (rSlT X.K) := by
  intro pins s σ H x v vl vu lo hi sl Q I rx hs pl pu h
  obtain ⟨a, xs, rfl, hx, hw, q⟩ := h
  cases rx
  obtain ⟨its, r, ht, hz⟩ := I.tuple hx
  have hlen : its.toArray.size = xs.length := by rw [List.size_toArray]; exact r.length.symm
  refine ⟨"tuple", _, PyProof.Rows.slot_tuple_getitem.lookup, ht.typeIs, ?_⟩
  refine HT.getItem_tuple_cut ht hs pl pu (by rw [hlen]; exact hw) ?_ (by rw [hlen]; exact hz)
  rw [hlen]
  refine ⟨.ref s.heap.objs.size, _, I.laid (t' := s.toks) (o := .tup (cutV xs lo hi)) (fun b ob q => Heap.get?_push_of_some _ q) (Nat.le_refl _) ?_, rfl, q _ (I.hok.fresh (Nat.le_refl _))⟩
  exact ⟨Nat.le_trans (cutV_length xs lo hi) hz, _, (r.drop (HT.sIx xs.length 0 lo)).take (HT.sIx xs.length xs.length hi - HT.sIx xs.length 0 lo), IsTup.new _ _⟩
end
end L2
namespace L2
open PySem PySem.Spec PyProof.Rows
def ixN (n : Nat) (i : Int) : Option Nat := if 0 ≤ i then (if i < n then some i.toNat else none) else if -(n : Int) ≤ i then some (i + n).toNat else none
def atI {α : Type} (xs : List α) (i : Int) : Option α := (ixN xs.length i).bind fun j => xs[j]?
theorem ixN_seq {n : Nat} {i : Int} {j : Nat} (h : ixN n i = some j) : seqIndex? i n = some j ∧ j < n ∧ -(n : Int) ≤ i ∧ i < n := by
  unfold ixN at h
  by_cases h0 : 0 ≤ i
  · rw [if_pos h0] at h
    by_cases h1 : i < n
    · rw [if_pos h1] at h
      have e : i.toNat = j := Option.some.inj h
      exact ⟨by rw [seqIndex_of h0 h1, e], by omega, by omega, h1⟩
    · rw [if_neg h1] at h; cases h
  · rw [if_neg h0] at h
    by_cases h1 : -(n : Int) ≤ i
    · rw [if_pos h1] at h
      have e : (i + n).toNat = j := Option.some.inj h
      exact ⟨by rw [seqIndex_neg (by omega) h1, e], by omega, h1, by omega⟩
    · rw [if_neg h1] at h; cases h
theorem atI_get {α : Type} {xs : List α} {i : Int} {v : α} (h : atI xs i = some v) : ∃ j, seqIndex? i xs.length = some j ∧ xs[j]? = some v ∧ j < xs.length ∧ -(xs.length : Int) ≤ i ∧ i < xs.length := by
  unfold atI at h
  cases e : ixN xs.length i with
  | none => rw [e] at h; cases h
  | some j =>
    rw [e] at h
    obtain ⟨h1, h2, h3, h4⟩ := ixN_seq e
    exact ⟨j, h1, h, h2, h3, h4⟩
theorem atI_nat {α : Type} {xs : List α} {j : Nat} {v : α} (h : xs[j]? = some v) : atI xs (j : Int) = some v := by
  have hj : j < xs.length := (List.getElem?_eq_some_iff.mp h).1
  have e : ixN xs.length (j : Int) = some j := by
    unfold ixN
    rw [if_pos (by omega), if_pos (by omega)]; simp
  unfold atI; rw [e]; exact h
def PlainIx (b : Expr) : Prop := ∀ o i, subscripted b false o i = operate [o, i] (getItem o i)
def IxR (X : Cx) (r : R2) : Prop :=
  ∀ (value slice : Expr) (pins : List (Addr × Obj)) (s : Shared) (σ : St) (H : Hp) (x y : V) (v u : Value) (Q : VK), Inv X pins σ H s → RelV x v → RelV y u → r x y H Q →
    subscripted slice false v u = operate [v, u] (getItem v u) → wpAny (model X.prog X.w) X.A (subscriptTail value slice v u) (EP X pins σ Q) X.xe s
def MtR (X : Cx) (id : String) (r : V → List V → Hp → VK → Prop) : Prop :=
  ∀ (pins : List (Addr × Obj)) (s : Shared) (σ : St) (H : Hp) (x : V) (xs : List V) (v : Value) (us : List Value) (Q : VK), Inv X pins σ H s → RelV x v → Vals xs us → r x xs H Q →
    wpAny (model X.prog X.w) X.A (call (.builtin id) (v :: us)) (EP X pins σ Q) X.xe s
section
variable {X : Cx} {a b : Expr} {ta tb : TE} {pos : Pos}
theorem IxR.or {r r' : R2} (h : IxR X r) (h' : IxR X r') : IxR X (fun x y H Q => r x y H Q ∨ r' x y H Q) := by
  intro value slice pins s σ H x y v u Q I rx ry q hs
  rcases q with q | q
  · exact h value slice pins s σ H x y v u Q I rx ry q hs
  · exact h' value slice pins s σ H x y v u Q I rx ry q hs
theorem MtR.or {id : String} {r r' : V → List V → Hp → VK → Prop} (h : MtR X id r) (h' : MtR X id r') : MtR X id (fun x xs H Q => r x xs H Q ∨ r' x xs H Q) := by
  intro pins s σ H x xs v us Q I rx rs q
  rcases q with q | q
  · exact h pins s σ H x xs v us Q I rx rs q
  · exact h' pins s σ H x xs v us Q I rx rs q
theorem pe_ix {r : R2} (hr : IxR X r) (ha : PE X a ta) (hb : PE X b tb) (hs : PlainIx b) : PE X (.Subscript a b pos) (tOp r ta tb) := by
  intro pins s σ H Q I h
  exact Subscript_ (binT ha hb I h fun v u s2 x y H2 I2 rx ry q => hr a b pins s2 σ H2 x y v u Q I2 rx ry q (hs _ _))
def rIxL (K : PySem.W.Frag) : R2 := fun x y H Q => ∃ p xs i v, x = .ref p ∧ y = .int i ∧ SqL K H p xs ∧ atI xs i = some v ∧ Q v H
def rIxT (K : PySem.W.Frag) : R2 := fun x y H Q => ∃ p xs i v, x = .ref p ∧ y = .int i ∧ SqT K H p xs ∧ atI xs i = some v ∧ Q v H
def rIxS : R2 := fun x y H Q => ∃ z i c, x = .str z ∧ y = .int i ∧ z.length ≤ sizeLine ∧ atI z.cps.toList i = some c ∧ Q (.str ⟨#[c]⟩) H
theorem ix_list : IxR X (rIxL X.K) := by
  intro value slice pins s σ H x y v u Q I rx ry h hs
  obtain ⟨p, xs, i, z, rfl, rfl, hq, he, q⟩ := h
  cases rx
  obtain ⟨t, rfl⟩ := ry
  obtain ⟨its, r, pl, hz⟩ := I.list hq
  obtain ⟨j, h1, h2, h3, h4, h5⟩ := atI_get he
  obtain ⟨w, ew, rw'⟩ := r.get h2
  have hl := r.length
  have hn := line63
  have fin : EP X pins σ Q w s := ⟨z, H, I, rw', q⟩
  by_cases h0 : 0 ≤ i
  · have hj : i.toNat = j := by
      rw [seqIndex_of h0 h5] at h1
      exact Option.some.inj h1
    exact item_listR pl.isList h0 (by omega) (by rw [hj]; simpa using ew) fin hs
  · have hj : (i + (its.toArray.size : Int)).toNat = j := by
      rw [seqIndex_neg (by omega) h4] at h1
      rw [List.size_toArray, ← hl]
      exact Option.some.inj h1
    exact subscriptTail_builtinR (x := w) pl.isList.typeIs slot_list_getitem.lookup
      (wpAny_getItem_list_neg (Q := fun r s' => r = w ∧ EP X pins σ Q r s') pl.isList (by omega) (by rw [List.size_toArray] <;> omega) (by omega) (by rw [hj]; simpa using ew) ⟨rfl, fin⟩) hs
theorem ix_tup : IxR X (rIxT X.K) := by
  intro value slice pins s σ H x y v u Q I rx ry h hs
  obtain ⟨p, xs, i, z, rfl, rfl, hq, he, q⟩ := h
  cases rx
  obtain ⟨t, rfl⟩ := ry
  obtain ⟨its, r, pl, hz⟩ := I.tuple hq
  obtain ⟨j, h1, h2, h3, h4, h5⟩ := atI_get he
  obtain ⟨w, ew, rw'⟩ := r.get h2
  have hl := r.length
  have hn := line63
  have fin : EP X pins σ Q w s := ⟨z, H, I, rw', q⟩
  exact subscriptTail_builtinR (x := w) pl.typeIs slot_tuple_getitem.lookup
    (getItem_tuple (j := j) (Q := fun r s' => r = w ∧ EP X pins σ Q r s') pl (by omega) (by omega) (by rw [List.size_toArray, ← hl]; exact h1) (by simpa using ew) ⟨rfl, fin⟩) hs
theorem ix_str : IxR X rIxS := by
  intro value slice pins s σ H x y v u Q I rx ry h hs
  obtain ⟨z, i, c, rfl, rfl, hz, he, q⟩ := h
  obtain ⟨t, rfl⟩ := rx
  obtain ⟨t', rfl⟩ := ry
  obtain ⟨j, h1, h2, h3, h4, h5⟩ := atI_get he
  have hl : z.cps.toList.length = z.length := by simp [Str.length]
  rw [hl] at h1 h4 h5
  have hn := line63
  exact tail_any (typeIs_str s z t) slot_str_getitem.lookup (getItem_str (c := c) (by
    have e1 : decide (i < -(2 ^ 63 : Int)) = false := decide_eq_false (by omega)
    have e2 : decide (i ≥ 2 ^ 63) = false := decide_eq_false (by omega)
    rw [e1, e2, Bool.or_false]) (by rw [h1]; simpa using h2) ⟨.str ⟨#[c]⟩, H, I.tok _, ⟨_, rfl⟩, q⟩) hs
def rIx (K : PySem.W.Frag) : R2 := fun x y H Q => rIxL K x y H Q ∨ rIxT K x y H Q ∨ rIxS x y H Q
theorem ix_seq : IxR X (rIx X.K) := ix_list.or (ix_tup.or ix_str)
theorem mapSeq_set (its : List Value) (n j : Nat) (u : Value) : Obj.mapSeq (·.setIfInBounds j u) { cls := .type "list", data := .seq its.toArray n } = { cls := .type "list", data := .seq (its.set j u).toArray n } := by
  simp [Obj.mapSeq]
theorem Inv.lst {pins : List (Addr × Obj)} {σ : St} {H : Hp} {s : Shared} {p : Addr} {xs : List V} (I : Inv X pins σ H s) (h : H p = some (.lst xs)) :
    ∃ (its : List Value) (n : Nat), Vals xs its ∧ s.heap.get? p = some { cls := .type "list", data := .seq its.toArray n } ∧ xs.length ≤ sizeLine := by
  obtain ⟨z, its, n, r, e⟩ := I.hok p _ h
  exact ⟨its, n, r, e, z⟩
theorem Inv.lstUpd {pins : List (Addr × Obj)} {σ : St} {H : Hp} {s : Shared} {p : Addr} {xs ys : List V} {its its' : List Value} {n n' : Nat} {f : Obj → Obj} (I : Inv X pins σ H s) (h : H p = some (.lst xs))
    (ho : s.heap.get? p = some { cls := .type "list", data := .seq its.toArray n }) (hf : f { cls := .type "list", data := .seq its.toArray n } = { cls := .type "list", data := .seq its'.toArray n' }) (r : Vals ys its') (hz : ys.length ≤ sizeLine) (t : Nat) :
    Inv X pins σ (upd H p (.lst ys)) { s with heap := s.heap.update p f, toks := t } := by
  have e : (s.heap.update p f).get? p = some { cls := .type "list", data := .seq its'.toArray n' } := by
    rw [Heap.get?_update_self f ho (by rw [hf] <;> rfl), hf]
  refine I.write (x := p) (e := p) (by rw [h]; trivial) (.inl rfl) (fun b u hb q => (Heap.get?_update_other _ _ (Ne.symm hb)).trans q) ⟨_, e⟩ ?_
  exact ⟨hz, its', n', r, e⟩
def rSetL : V → V → V → Hp → (Hp → Prop) → Prop := fun o i v H Q => ∃ p xs k j, o = .ref p ∧ i = .int k ∧ H p = some (.lst xs) ∧ ixN xs.length k = some j ∧ Q (upd H p (.lst (xs.set j v)))
theorem set_list : PSet X rSetL := by
  intro pins s σ H o i v ov iv u Q I ro ri rv h
  obtain ⟨p, xs, k, j, rfl, rfl, hp, hj, q⟩ := h
  cases ro
  obtain ⟨t, rfl⟩ := ri
  obtain ⟨its, n, r, ho, hz⟩ := I.lst hp
  obtain ⟨h1, h2, h3, h4⟩ := ixN_seq hj
  have hl := r.length
  have hn := line63
  have I' : Inv X pins σ (upd H p (.lst (xs.set j v))) { s with heap := s.heap.update p (Obj.mapSeq (·.setIfInBounds j u)) } :=
    I.lstUpd hp ho (mapSeq_set its n j u) (r.set rv j) (by rw [List.length_set]; exact hz) s.toks
  by_cases h0 : 0 ≤ k
  · have hk : k.toNat = j := by
      rw [seqIndex_of h0 h4] at h1
      exact Option.some.inj h1
    exact PySem.W.ki_setAt ho h0 (by omega) (by rw [List.size_toArray, ← hl]; exact h4) (by rw [hk]; exact ⟨_, I', q⟩)
  · have hk : (k + (its.toArray.size : Int)).toNat = j := by
      rw [seqIndex_neg (by omega) h3] at h1
      rw [List.size_toArray, ← hl]
      exact Option.some.inj h1
    exact PySem.W.ki_setBack ho (by omega) (by rw [List.size_toArray, ← hl]; exact h3) (by omega) (by rw [hk]; exact ⟨_, I', q⟩)
theorem slice_bounds (lo hi : Option Int) (n : Nat) : (sliceBounds lo hi none n).1 = ((HT.sIx n 0 lo : Nat) : Int) ∧ (sliceBounds lo hi none n).2.1 = ((HT.sIx n n hi : Nat) : Int) ∧ (sliceBounds lo hi none n).2.2 = 1 := by
  refine ⟨?_, ?_, rfl⟩
  · cases lo with
    | none => simp [sliceBounds, HT.sIx]
    | some i =>
      simp only [sliceBounds, HT.sIx, Option.getD_none, show (1 : Int) > 0 by decide, if_true]
      by_cases h : i < 0
      · simp only [h, if_true] <;> omega
      · simp only [h, if_false] <;> omega
  · cases hi with
    | none => simp [sliceBounds, HT.sIx]
    | some i =>
      simp only [sliceBounds, HT.sIx, Option.getD_none, show (1 : Int) > 0 by decide, if_true]
      by_cases h : i < 0
      · simp only [h, if_true] <;> omega
      · simp only [h, if_false] <;> omega
theorem slicePick_cut (its : List Value) (lo hi : Option Int) : slicePick its.toArray lo hi none = ((its.drop (HT.sIx its.length 0 lo)).take (HT.sIx its.length its.length hi - HT.sIx its.length 0 lo)).toArray := by
  obtain ⟨h1, h2, h3⟩ := slice_bounds lo hi its.toArray.size
  unfold slicePick
  rw [h1, h2, h3]
  simp only [sliceRange_one, pick_run, List.size_toArray] <;> rfl
def rSlL (K : PySem.W.Frag) : V → Option Int → Option Int → Hp → VK → Prop := fun x lo hi H Q => ∃ a xs, x = .ref a ∧ SqL K H a xs ∧ ∀ p, H p = none → Q (.ref p) (upd H p (.lst (cutV xs lo hi)))
theorem sl_list : SlR X (rSlL X.K) := by
  intro pins s σ H x v vl vu lo hi sl Q I rx hs pl pu h
  obtain ⟨a, xs, rfl, hx, q⟩ := h
  cases rx
  obtain ⟨its, r, ht, hz⟩ := I.list hx
  have hlen := r.length
  refine ⟨"list", _, slot_list_getitem.lookup, ht.isList.typeIs, ?_⟩
  refine wpAny_getItem_list_slice ht.isList hs pl pu .none (by simp) ?_ (by rw [List.size_toArray] <;> omega)
  rw [slicePick_cut, ← hlen]
  refine ⟨.ref s.heap.objs.size, _, I.laid (t' := s.toks) (o := .lst (cutV xs lo hi)) (fun b ob q => Heap.get?_push_of_some _ q) (Nat.le_refl _) ?_, rfl, q _ (I.hok.fresh (Nat.le_refl _))⟩
  exact ⟨Nat.le_trans (cutV_length xs lo hi) hz, _, 0, (r.drop (HT.sIx xs.length 0 lo)).take (HT.sIx xs.length xs.length hi - HT.sIx xs.length 0 lo), Heap.get?_push_size _ rfl⟩
def flatV : V → Bool
  | .non => true
  | .bl _ => true
  | .int _ => true
  | .str _ => true
  | _ => false
def eqV : V → V → Bool
  | .non, .non => true
  | .bl a, .bl b => a == b
  | .bl a, .int b => (if a then 1 else 0) == b
  | .int a, .bl b => a == (if b then 1 else 0)
  | .int a, .int b => a == b
  | .str a, .str b => a == b
  | _, _ => false
theorem eqAt_V {A : Around} {s : Shared} {y x : V} {u v : Value} (ry : RelV y u) (rx : RelV x v) (fy : flatV y = true) (fx : flatV x = true) : SeqAt.EqAt A s u v (eqV y x) := by
  cases y with
  | non =>
    cases ry
    cases x with
    | non => cases rx; exact SeqAt.EqAt.same _
    | bl b => cases rx; exact SeqAt.EqAt.none_bool b
    | int b => obtain ⟨t, rfl⟩ := rx; exact SeqAt.EqAt.none_int b t
    | str b => obtain ⟨t, rfl⟩ := rx; exact SeqAt.EqAt.none_str b t
    | _ => exact absurd (show false = true from fx) Bool.false_ne_true
  | bl a =>
    cases ry
    cases x with
    | non => cases rx; exact SeqAt.EqAt.bool_none a
    | bl b => cases rx; exact SeqAt.EqAt.bool_bool a b
    | int b => obtain ⟨t, rfl⟩ := rx; exact SeqAt.EqAt.bool_int a b t
    | str b => obtain ⟨t, rfl⟩ := rx; exact SeqAt.EqAt.bool_str a b t
    | _ => exact absurd (show false = true from fx) Bool.false_ne_true
  | int a =>
    obtain ⟨t', rfl⟩ := ry
    cases x with
    | non => cases rx; exact SeqAt.EqAt.int_none a t'
    | bl b => cases rx; exact SeqAt.EqAt.int_bool a t' b
    | int b => obtain ⟨t, rfl⟩ := rx; exact SeqAt.EqAt.int_int a t' b t
    | str b => obtain ⟨t, rfl⟩ := rx; exact SeqAt.EqAt.int_str a t' b t
    | _ => exact absurd (show false = true from fx) Bool.false_ne_true
  | str a =>
    obtain ⟨t', rfl⟩ := ry
    cases x with
    | non => cases rx; exact SeqAt.EqAt.str_none a t'
    | bl b => cases rx; exact SeqAt.EqAt.str_bool a t' b
    | int b => obtain ⟨t, rfl⟩ := rx; exact SeqAt.EqAt.str_int a t' b t
    | str b => obtain ⟨t, rfl⟩ := rx; exact SeqAt.EqAt.str_str a t' b t
    | _ => exact absurd (show false = true from fx) Bool.false_ne_true
  | _ => exact absurd (show false = true from fy) Bool.false_ne_true
theorem op_notIn_str : OpR X (compareOp .NotIn) (fun x y H Q => ∃ i j, x = .str i ∧ y = .str j ∧ Q (.bl (!(!(Builtin.Str.occurrences j i 0 j.length 1).isEmpty))) H) := by
  intro pins s σ H x y v u Q I rx ry h
  obtain ⟨i, j, rfl, rfl, q⟩ := h
  obtain ⟨t, rfl⟩ := rx
  obtain ⟨t', rfl⟩ := ry
  exact notIn_str ⟨.bl _, H, I, rfl, q⟩
theorem call_len_str : CallR X (.builtin "len") (fun xs H Q => ∃ z, xs = [.str z] ∧ z.length ≤ sizeLine ∧ Q (.int z.length) H) := by
  intro pins s σ H xs us Q I r h
  obtain ⟨z, rfl, hz, q⟩ := h
  obtain ⟨u, rfl, t, rfl⟩ := vals1 r
  have hn := line63
  exact len_str (by omega) ⟨.int z.length, H, I.tok _, ⟨_, rfl⟩, q⟩
theorem CallR.or {f : Value} {r r' : List V → Hp → VK → Prop} (h : CallR X f r) (h' : CallR X f r') : CallR X f (fun xs H Q => r xs H Q ∨ r' xs H Q) := by
  intro pins s σ H xs us Q I rs q
  rcases q with q | q
  · exact h pins s σ H xs us Q I rs q
  · exact h' pins s σ H xs us Q I rs q
theorem call_tuple_of : CallR X (.type "tuple") (fun xs H Q => ∃ p ys, xs = [.ref p] ∧ ((SqL X.K H p ys ∧ ∀ l, H l = none → Q (.ref l) (upd H l (.tup ys))) ∨ (SqT X.K H p ys ∧ Q (.ref p) H))) := by
  intro pins s σ H xs us Q I r h
  obtain ⟨p, ys, rfl, h⟩ := h
  obtain ⟨u, rfl, rx⟩ := vals1 r
  cases rx
  rcases h with ⟨hq, q⟩ | ⟨hq, q⟩
  · obtain ⟨its, r', pl, hz⟩ := I.list hq
    have hlen := r'.length
    refine call_tuple_list pl.isList (fun h' kp => ?_) (by simp only [List.size_toArray] <;> omega)
    have I1 : Inv X pins σ H { s with heap := h' } := I.kept (t' := s.toks) kp
    have I2 : Inv X pins σ (upd H h'.objs.size (.tup ys)) { s with heap := h'.push { cls := .type "tuple", data := .seq its.toArray } } :=
      I1.laid (t' := s.toks) (fun b o e => Heap.get?_push_of_some _ e) (Nat.le_refl _) (show ObjOk X.prog X.w _ _ _ (.tup ys) from ⟨hz, its, r', IsTup.new _ _⟩)
    exact ⟨.ref h'.objs.size, _, I2, rfl, q _ (I1.hok.fresh (Nat.le_refl _))⟩
  · obtain ⟨its, r', pl, hz⟩ := I.tuple hq
    exact call_tuple_same pl ⟨.ref p, H, I, rfl, q⟩
def tyV (K : PySem.W.Frag) (T : String) (x : V) (H : Hp) : Prop := match x with
  | .str _ => T = "str"
  | .int _ => T = "int"
  | .ref p => (T = "list" ∧ ∃ xs, SqL K H p xs) ∨ (T = "tuple" ∧ ∃ o, K.lookup p = some o ∧ o.cls = .type "tuple" ∧ o.dict = none) ∨
      (T = "dict" ∧ ((∃ kvs, H p = some (.dK kvs)) ∨ ∃ kvs, H p = some (.dT kvs))) ∨ (T = "set" ∧ ∃ S n, H p = some (.set S n))
  | _ => False
theorem tyV_is {pins : List (Addr × Obj)} {σ : St} {H : Hp} {s : Shared} {T : String} {x : V} {v : Value} (I : Inv X pins σ H s) (r : RelV x v) (ty : tyV X.K T x H) :
    s.TypeIs v T ∧ ∀ a, v = .ref a → ∃ ob, s.heap.get? a = some ob ∧ ob.dict = none := by
  cases x with
  | str z =>
    obtain ⟨t, rfl⟩ := r
    cases (show T = "str" from ty)
    exact ⟨typeIs_str s z t, fun _ e => nomatch e⟩
  | int i =>
    obtain ⟨t, rfl⟩ := r
    cases (show T = "int" from ty)
    exact ⟨typeIs_int s i t, fun _ e => nomatch e⟩
  | ref p =>
    cases r
    rcases ty with ⟨rfl, xs, hq⟩ | ⟨rfl, o, hk, hc, hd⟩ | ⟨rfl, hk⟩ | ⟨rfl, S, n, hk⟩
    · obtain ⟨its, _, pl, _⟩ := I.list hq
      refine ⟨pl.isList.typeIs, fun a e => ?_⟩
      cases e
      obtain ⟨o, n, e, c, hd, _⟩ := pl
      exact ⟨o, e, hd⟩
    · refine ⟨⟨o, I.kIn p o hk, hc⟩, fun a e => ?_⟩
      cases e
      exact ⟨o, I.kIn _ o hk, hd⟩
    · have z : ∃ o, s.heap.get? p = some o ∧ o.ExactDict := by
        rcases hk with ⟨kvs, hk⟩ | ⟨kvs, hk⟩
        · obtain ⟨_, _, _, _, o, _, _, e, ex, _⟩ := I.hok p _ hk
          exact ⟨o, e, ex⟩
        · obtain ⟨_, _, _, _, o, _, _, e, ex, _⟩ := I.hok p _ hk
          exact ⟨o, e, ex⟩
      obtain ⟨o, e, ex⟩ := z
      refine ⟨⟨o, e, ex.1⟩, fun a e2 => ?_⟩
      cases e2
      exact ⟨o, e, ex.2.1⟩
    · obtain ⟨o, _, _, _, e, ex, _⟩ := I.hok p _ hk
      refine ⟨⟨o, e, ex.1⟩, fun a e2 => ?_⟩
      cases e2
      exact ⟨o, e, ex.2.1⟩
  | _ => exact False.elim ty
def tBM (K : PySem.W.Frag) (T : String) (r : V → List V → Hp → VK → Prop) (to : TE) (t : TA) : TE := fun σ H Q => to σ H fun x H1 => tyV K T x H1 ∧ t σ H1 fun xs H2 => r x xs H2 Q
variable {o e : Expr} {es : List Expr} {to : TE} {t : TA} {name : Str} {apos cpos : Pos} {T id : String} {r : V → List V → Hp → VK → Prop}
theorem pe_bm (pa : PlainAttrs T) (slot : Slot T name id) (hty : typeOf (.builtin id) = pure (.type "method_descriptor")) (hm : MtR X id r) (ho : PE X o to) (ha : PA X (e :: es) t)
    (hbase : attributeBase o name X.env (eval o X.env) = eval o X.env := by rfl)
    (hfew : ((backTo cpos (starEach (e :: es) X.env)).all (fun x => !x.1) && (backToKw cpos (keywordEach [] X.env)).all (fun x => x.1.isSome)
      && decide ((e :: es).length + ([] : List Keyword).length + (if ([] : List Keyword).isEmpty then 0 else 1) < 30)) = true := by rfl)
    (hline : (apos.endLine == cpos.line) = true := by rfl) (hs : starEach (e :: es) X.env = (false, eval e X.env) :: starEach es X.env := by rfl) (hplain : (backTo cpos (starEach es X.env)).any (·.1) = false := by rfl) :
    PE X (.Call (.Attribute o name apos) (e :: es) [] cpos) (tBM X.K T r to t) := by
  intro pins s σ H Q I h
  refine wpAny_Call_method_late hbase hfew hline rfl (thn (ho pins s σ H _ I h) fun v s1 ⟨x, H1, I1, r1, ty, q1⟩ => ?_)
  obtain ⟨h1, h2⟩ := tyV_is I1 r1 ty
  refine ⟨T, id, pa, slot, hty, h1, h2, ?_⟩
  have hA := ha cpos pins s1 σ H1 _ I1 q1
  rw [hs] at hA ⊢
  refine Calls.callWith_builtin (by show (false || (backTo cpos (starEach es X.env)).any (·.1)) = false; rw [hplain] <;> rfl) (Calls.evalArgs_plain ?_)
  exact thn hA fun us s2 ⟨vs, H2, I2, r2, q2⟩ => hm pins s2 σ H2 x vs v us Q I2 r1 r2 q2
/- xs.append(e), list.index on a module's tuple .. are MtR facts of 06m -/
end
end L2
namespace L2
open PySem PySem.Spec PyProof.Rows
def MtM (X : Cx) (id : String) (r : V → List V → Hp → VK → Prop) : Prop :=
  ∀ (pins : List (Addr × Obj)) (s : Shared) (σ : St) (H : Hp) (x : V) (xs : List V) (v : Value) (us : List Value) (Q : VK), Inv X pins σ H s → RelV x v → Vals xs us → r x xs H Q →
    wpAny (model X.prog X.w) X.A (call (.builtin id) (v :: us)) (EP X pins σ Q) X.xe s
theorem Vals.one : ∀ {x : V} {us : List Value}, Vals [x] us → ∃ u, us = [u] ∧ RelV x u
  | _, _, .cons r .nil => ⟨_, rfl, r⟩
theorem Vals.two : ∀ {x y : V} {us : List Value}, Vals [x, y] us → ∃ u v, us = [u, v] ∧ RelV x u ∧ RelV y v
  | _, _, _, .cons r (.cons q .nil) => ⟨_, _, rfl, r, q⟩
theorem Vals.zero : ∀ {us : List Value}, Vals [] us → us = []
  | _, .nil => rfl
theorem Vals.dropLast {xs : List V} {us : List Value} (h : Vals xs us) : Vals xs.dropLast us.dropLast := by
  induction h with
  | nil => exact .nil
  | cons r t ih =>
    cases t with
    | nil => exact .nil
    | cons q t' => exact .cons r ih
theorem Vals.reverse {xs : List V} {us : List Value} (h : Vals xs us) : Vals xs.reverse us.reverse := by
  induction h with
  | nil => exact .nil
  | cons r t ih => rw [List.reverse_cons, List.reverse_cons]; exact Vals.append ih (.cons r .nil)
theorem Vals.rep {xs : List V} {us : List Value} (h : Vals xs us) : ∀ k : Nat, Vals (List.replicate k xs).flatten (List.replicate k us).flatten
  | 0 => .nil
  | k + 1 => by
    rw [List.replicate_succ, List.replicate_succ, List.flatten_cons, List.flatten_cons]
    exact Vals.append h (Vals.rep h k)
theorem foldl_rep (its : List Value) : ∀ (k : Nat) (acc : List Value),
    List.foldl (fun x1 x2 => x1 ++ x2) acc.toArray (List.replicate k its.toArray) = (acc ++ (List.replicate k its).flatten).toArray
  | 0, acc => by simp
  | k + 1, acc => by
    have e : acc.toArray ++ its.toArray = (acc ++ its).toArray := by simp
    have e2 : (acc ++ its) ++ (List.replicate k its).flatten = acc ++ (List.replicate (k + 1) its).flatten := by
      rw [List.replicate_succ, List.flatten_cons, List.append_assoc]
    rw [← e2, ← foldl_rep its k (acc ++ its), ← e, List.replicate_succ, List.foldl_cons]
section
variable {X : Cx} {pins : List (Addr × Obj)} {σ : St} {H : Hp} {s : Shared} {l b : Addr} {xs ys zs : List V}
theorem Inv.lset {its its' : List Value} {n : Nat} {f : Array Value → Array Value} {t' : Nat} (I : Inv X pins σ H s) (hH : H l = some (.lst xs))
    (e : s.heap.get? l = some { cls := .type "list", data := .seq its.toArray n }) (hf : f its.toArray = its'.toArray) (hv : Vals ys its') (hz : ys.length ≤ sizeLine) :
    Inv X pins σ (upd H l (.lst ys)) { s with heap := s.heap.update l (Obj.mapSeq f), toks := t' } := by
  have q := PySem.IsL.update e f
  rw [hf] at q
  refine I.write (x := l) (e := l) (by rw [hH]; exact trivial) (.inl rfl) (fun b' u hb hu => (Heap.get?_update_other s.heap (Obj.mapSeq f) (Ne.symm hb)).trans hu) ⟨_, q⟩ ?_
  exact ⟨hz, its', _, hv, q⟩
theorem Inv.lnew {its : List Value} {t' : Nat} (I : Inv X pins σ H s) (hv : Vals ys its) (hz : ys.length ≤ sizeLine) :
    Inv X pins σ (upd H s.heap.objs.size (.lst ys)) { s with heap := s.heap.push { cls := .type "list", data := .seq its.toArray }, toks := t' } :=
  I.laid (fun _ _ q => Heap.get?_push_of_some _ q) (Nat.le_refl _) ⟨hz, its, 0, hv, Heap.get?_push_size _ rfl⟩
theorem Inv.fresh (I : Inv X pins σ H s) : H s.heap.objs.size = none := I.hok.fresh (Nat.le_refl _)
theorem Inv.lstM (I : Inv X pins σ H s) (hH : H l = some (.lst xs)) : xs.length ≤ sizeLine ∧ ∃ (its : List Value) (n : Nat), Vals xs its ∧ xs.length = its.length ∧ s.heap.get? l = some { cls := .type "list", data := .seq its.toArray n } := by
  obtain ⟨z, its, n, r, e⟩ := I.hok l _ hH
  exact ⟨z, its, n, r, r.length, e⟩
theorem notLongL {n : Nat} (h : n ≤ sizeLine) : Builtin.List.listTooLong n = false := by
  unfold Builtin.List.listTooLong
  exact decide_eq_false (by omega)
end
section
variable {X : Cx}
def rAppend : V → List V → Hp → VK → Prop := fun x vs H Q => ∃ l xs y, x = .ref l ∧ vs = [y] ∧ H l = some (.lst xs) ∧ xs.length < sizeLine ∧ Q .non (upd H l (.lst (xs ++ [y])))
theorem mt_append : MtM X "list.append" rAppend := by
  intro pins s σ H x vs v us Q I rx rv h
  obtain ⟨l, xs, y, rfl, rfl, hH, hz, q⟩ := h
  cases rx
  obtain ⟨u, rfl, ru⟩ := rv.one
  obtain ⟨z, its, n, r, hl, e⟩ := I.lstM hH
  refine call_meets F.slot_list_append ⟨_, e, rfl⟩ F.entry_list_append (F.args_list_append_2 _ _) (PySem.list_append l its.toArray n u (by rw [List.size_toArray]; omega)) ⟨e, ?_⟩
  refine ⟨.non, _, I.lset (its' := its ++ [u]) hH e (by simp) (r.append (.cons ru .nil)) ?_, rfl, q⟩
  rw [List.length_append, List.length_singleton]
  omega
def rCat : R2 := fun x y H Q => ∃ l b xs zs, x = .ref l ∧ y = .ref b ∧ H l = some (.lst xs) ∧ H b = some (.lst zs) ∧ xs.length + zs.length ≤ sizeLine ∧ ∀ p, H p = none → Q (.ref p) (upd H p (.lst (xs ++ zs)))
theorem op_cat : OpR X (binaryOp .Add) rCat := by
  intro pins s σ H x y v u Q I rx ry h
  obtain ⟨l, b, xs, zs, rfl, rfl, hH, hB, hz, q⟩ := h
  cases rx
  cases ry
  obtain ⟨z, its, n, r, hl, e⟩ := I.lstM hH
  obtain ⟨z2, its2, n2, r2, hl2, e2⟩ := I.lstM hB
  refine PySem.P.add_list e e2 ?_ (by rw [List.size_toArray, List.size_toArray]; omega)
  have ea : its.toArray ++ its2.toArray = (its ++ its2).toArray := by simp
  rw [ea]
  exact ⟨.ref _, _, I.lnew (t' := s.toks) (r.append r2) (by rw [List.length_append]; omega), rfl, q _ I.fresh⟩
def rRep : R2 := fun x y H Q => ∃ l k xs, x = .ref l ∧ y = .int k ∧ H l = some (.lst xs) ∧ -(2 ^ 63) ≤ k ∧ k < 2 ^ 63 ∧ xs.length * k.toNat ≤ sizeLine ∧
  ∀ p, H p = none → Q (.ref p) (upd H p (.lst (List.replicate k.toNat xs).flatten))
theorem len_rep {α : Type} (xs : List α) (k : Nat) : (List.replicate k xs).flatten.length = k * xs.length := by
  induction k with
  | zero => simp
  | succ k ih => rw [List.replicate_succ, List.flatten_cons, List.length_append, ih, Nat.succ_mul, Nat.add_comm]
theorem op_rep : OpR X (binaryOp .Mult) rRep := by
  intro pins s σ H x y v u Q I rx ry h
  obtain ⟨l, k, xs, rfl, rfl, hH, h1, h2, hz, q⟩ := h
  cases rx
  obtain ⟨t, rfl⟩ := ry
  obtain ⟨z, its, n, r, hl, e⟩ := I.lstM hH
  have hlen : its.toArray.size * k.toNat ≤ sizeLine := by rw [List.size_toArray, ← hl]; exact hz
  have hcap : ¬ its.toArray.size * k.toNat > (2 ^ 63 - 1) / 8 := by
    have : (sizeLine : Nat) ≤ (2 ^ 63 - 1) / 8 := by decide
    omega
  have hfit : ¬ (!Builtin.List.listFitsIndex k) = true := by
    rw [fitsIndex_both h1 h2]
    exact Bool.false_ne_true
  have hlong : ¬ Builtin.List.listTooLong (its.toArray.size * k.toNat) = true := by
    rw [notLongL hlen]
    exact Bool.false_ne_true
  have hnew : List.foldl (fun x1 x2 => x1 ++ x2) #[] (List.replicate (if its.toArray.isEmpty = true then 0 else k.toNat) its.toArray) = (List.replicate k.toNat its).flatten.toArray := by
    have f0 : ∀ m : Nat, List.foldl (fun x1 x2 => x1 ++ x2) #[] (List.replicate m its.toArray) = (List.replicate m its).flatten.toArray := fun m => by
      have := foldl_rep its m []
      rw [List.nil_append] at this
      exact this
    rw [f0]
    cases its with
    | nil => simp
    | cons a r' => rw [if_neg (by simp)]
  refine wpAny_binaryOp_repeat_ref (T := "list") (U := "int") (by decide) ⟨_, e, rfl⟩ (fun s' => typeIs_int s' k t) noFill_list_mul F.fills_int_mul F.slot_int_rmul repeat_list F.slot_int_index.lookup
    (call_meets F.slot_int_rmul (typeIs_int s k t) F.entry_int_rmul (F.args_int_rmul_2 _ _) (int___rmul___int_list k t l its.toArray n)
      ⟨e, rfl, ⟨_, e, rfl⟩, call_meets F.slot_list_mul ⟨_, e, rfl⟩ F.entry_list_mul (F.args_list_mul_2 _ _) (AutoListH.list___mul___list_int_3 l its.toArray n k t hfit hcap hlong) ⟨e, ?_⟩⟩)
  rw [hnew]
  exact ⟨.ref _, _, I.lnew (t' := s.toks) (r.rep k.toNat) (by rw [len_rep, Nat.mul_comm]; exact hz), rfl, q _ I.fresh⟩
end
section
variable {prog : Program} {w : World} {A : Around} {E : Value → Shared → Prop} {s : Shared}
end
section
variable {X : Cx}
end
end L2
namespace L2
open PySem PySem.Spec PyProof.Rows
section
variable {κ : Type} [DecidableEq κ]
def valV (kvs : List (κ × V)) (k : κ) : Option V := (kvs.find? fun kv => decide (kv.1 = k)).map (·.2)
def putK (kvs : List (κ × V)) (k : κ) (v : V) : List (κ × V) :=
  if (kvs.any fun kv => decide (kv.1 = k)) = true then kvs.map (fun kv => if kv.1 = k then (kv.1, v) else kv) else kvs ++ [(k, v)]
def dropK (kvs : List (κ × V)) (k : κ) : List (κ × V) := kvs.filter fun kv => decide (kv.1 ≠ k)
theorem valV_pos {p : κ × V} {r : List (κ × V)} {k : κ} (e : p.1 = k) : valV (p :: r) k = some p.2 := by simp [valV, List.find?_cons, e]
theorem valV_neg {p : κ × V} {r : List (κ × V)} {k : κ} (e : ¬ p.1 = k) : valV (p :: r) k = valV r k := by simp [valV, List.find?_cons, e]
theorem RelO.getD {o : Option V} {u : Option Value} {d : V} {d' : Value} (r : RelO o u) (rd : RelV d d') : RelV (o.getD d) (u.getD d') := by
  cases o with
  | none => cases u with
    | none => exact rd
    | some _ => exact (show False from r).elim
  | some _ => cases u with
    | none => exact (show False from r).elim
    | some _ => exact r
theorem KV.val {kvs : List (κ × V)} {vs : List (κ × Value)} (r : KV kvs vs) (k : κ) : RelO (valV kvs k) (valueAt vs k) := by
  unfold KV at r
  induction r with
  | nil => exact True.intro
  | @cons p q ps qs h t ih =>
    obtain ⟨h1, h2⟩ := h
    by_cases e : p.1 = k
    · have e' : q.1 = k := h1.symm.trans e
      have b : valueAt (q :: qs) k = some q.2 := by simp [valueAt, List.find?_cons, e']
      rw [valV_pos e, b]; exact h2
    · have e' : ¬ q.1 = k := fun z => e (h1.trans z)
      have b : valueAt (q :: qs) k = valueAt qs k := by simp [valueAt, List.find?_cons, e']
      rw [valV_neg e, b]; exact ih
theorem KV.any {kvs : List (κ × V)} {vs : List (κ × Value)} (r : KV kvs vs) (k : κ) : (kvs.any fun kv => decide (kv.1 = k)) = vs.any fun kv => decide (kv.1 = k) := by
  unfold KV at r
  induction r with
  | nil => rfl
  | cons h t ih => rw [List.any_cons, List.any_cons, ih, h.1]
theorem KV.drop {kvs : List (κ × V)} {vs : List (κ × Value)} (r : KV kvs vs) (k : κ) : KV (dropK kvs k) (without vs k) := by
  unfold KV at r ⊢
  unfold dropK without
  induction r with
  | nil => exact .nil
  | @cons p q ps qs h t ih =>
    obtain ⟨h1, h2⟩ := h
    rw [List.filter_cons, List.filter_cons]
    by_cases e : p.1 = k
    · have a : ¬ decide (p.1 ≠ k) = true := by simp [e]
      have b : ¬ decide (q.1 ≠ k) = true := by simp [h1.symm.trans e]
      rw [if_neg a, if_neg b]; exact ih
    · have e' : ¬ q.1 = k := fun z => e (h1.trans z)
      have a : decide (p.1 ≠ k) = true := by simp [e]
      have b : decide (q.1 ≠ k) = true := by simp [e']
      rw [if_pos a, if_pos b]; exact .cons ⟨h1, h2⟩ ih
theorem KV.keys {kvs : List (κ × V)} {vs : List (κ × Value)} (r : KV kvs vs) : kvs.map (·.1) = vs.map (·.1) := by
  unfold KV at r
  induction r with
  | nil => rfl
  | cons h t ih => rw [List.map_cons, List.map_cons, ih, h.1]
theorem KV.length {kvs : List (κ × V)} {vs : List (κ × Value)} (r : KV kvs vs) : kvs.length = vs.length := Paired.length r
end
abbrev KT (H : Hp) : List (List Key × V) → List (List Key × Addr × Value) → Prop := Paired fun p q => p.1 = q.1 ∧ H q.2.1 = some (.tup (p.1.map kV)) ∧ RelV p.2 q.2.2
theorem KT.val {H : Hp} {kvs : List (List Key × V)} {xs : List (List Key × Addr × Value)} (r : KT H kvs xs) (k : List Key) : RelO (valV kvs k) ((atKey xs k).map (·.2)) := by
  induction r with
  | nil => exact True.intro
  | @cons p q ps qs h t ih =>
    obtain ⟨h1, _, h2⟩ := h
    by_cases e : p.1 = k
    · have e' : q.1 = k := h1.symm.trans e
      have b : atKey (q :: qs) k = some q.2 := by simp [atKey, List.find?_cons, e']
      rw [valV_pos e, b]; exact h2
    · have e' : ¬ q.1 = k := fun z => e (h1.trans z)
      have b : atKey (q :: qs) k = atKey qs k := by simp [atKey, List.find?_cons, e']
      rw [valV_neg e, b]; exact ih
theorem KT.keeps {H H' : Hp} {kvs : List (List Key × V)} {xs : List (List Key × Addr × Value)} (r : KT H kvs xs) (ht : ∀ b ys, H b = some (.tup ys) → H' b = some (.tup ys)) : KT H' kvs xs :=
  Paired.mapP r fun _ _ z => ⟨z.1, ht _ _ z.2.1, z.2.2⟩
section
variable {P : Program} {w : World} {H : Hp} {h : Heap} {a : Addr}
end
def DGet (H : Hp) (a : Addr) (y : V) (r : Option V) : Prop :=
  (∃ kvs k, Rd H a (.dK kvs) ∧ y = kV k ∧ r = valV kvs k) ∨ ∃ kvs k b, Rd H a (.dT kvs) ∧ y = .ref b ∧ H b = some (.tup (k.map kV)) ∧ r = valV kvs k
def DPut (H : Hp) (a : Addr) (y v : V) (H' : Hp) : Prop :=
  (∃ kvs k, H a = some (.dK kvs) ∧ y = kV k ∧ kvs.length < sizeLine ∧ H' = upd H a (.dK (putK kvs k v))) ∨
  ∃ kvs k b, H a = some (.dT kvs) ∧ y = .ref b ∧ H b = some (.tup (k.map kV)) ∧ kvs.length < sizeLine ∧ H' = upd H a (.dT (putK kvs k v))
theorem DGet.k {H : Hp} {a : Addr} {kvs : List (Key × V)} {k : Key} (e : H a = some (.dK kvs)) : DGet H a (kV k) (valV kvs k) := .inl ⟨kvs, k, .inl e, rfl, rfl⟩
theorem DGet.t {H : Hp} {a b : Addr} {kvs : List (List Key × V)} {k : List Key} (e : H a = some (.dT kvs)) (eb : H b = some (.tup (k.map kV))) : DGet H a (.ref b) (valV kvs k) := .inr ⟨kvs, k, b, .inl e, rfl, eb, rfl⟩
theorem DPut.k {H : Hp} {a : Addr} {kvs : List (Key × V)} {k : Key} {v : V} (e : H a = some (.dK kvs)) (hl : kvs.length < sizeLine) : DPut H a (kV k) v (upd H a (.dK (putK kvs k v))) := .inl ⟨kvs, k, e, rfl, hl, rfl⟩
theorem DPut.t {H : Hp} {a b : Addr} {kvs : List (List Key × V)} {k : List Key} {v : V} (e : H a = some (.dT kvs)) (eb : H b = some (.tup (k.map kV))) (hl : kvs.length < sizeLine) :
    DPut H a (.ref b) v (upd H a (.dT (putK kvs k v))) := .inr ⟨kvs, k, b, e, rfl, eb, hl, rfl⟩
section
variable {X : Cx} {pins : List (Addr × Obj)} {σ : St} {H : Hp} {s : Shared} {a : Addr} {y v : V} {u r : Value} {o : Option V} {A : Around} {E : Value → Shared → Prop}
theorem Inv.big (I : Inv X pins σ H s) : sysModules < s.heap.objs.size := by
  have h : mainGlobals < s.heap.objs.size := (I.mod.glob.keeps I.bk).lt
  exact Nat.lt_trans (by decide) h
end
section
variable {X : Cx} {pins : List (Addr × Obj)} {σ : St} {H : Hp} {s : Shared} {a : Addr} {kvs : List (Key × V)} {k : Key} {u : Value} {A : Around} {E : Value → Shared → Prop}
end
section
variable {X : Cx} {o i e value : Expr} {pos pos' tpos : Pos} {td ty tv : TE}
end
section
variable {X : Cx} {pos : Pos}
end
section
variable {X : Cx} {pins : List (Addr × Obj)} {σ : St} {H : Hp} {s : Shared} {a : Addr} {y d : V} {u r : Value} {o : Option V} {A : Around} {E : Value → Shared → Prop}
end
section
variable {X : Cx} {o e f : Expr} {apos cpos : Pos} {td ty tx : TE}
end
section
variable {X : Cx} {pins : List (Addr × Obj)} {σ : St} {H : Hp} {s : Shared} {a : Addr} {kvs : List (Key × V)} {A : Around} {E : Value → Shared → Prop}
end
section
variable {X : Cx} {pins : List (Addr × Obj)} {σ : St} {H : Hp} {s : Shared} {a : Addr} {y : V} {u : Value} {A : Around} {E : Value → Shared → Prop}
end
end L2
namespace Att
open PySem PySem.W PySem.Calls PyProof.Rows
theorem ints_of_wellAll {P : Params} {h : Heap} : ∀ (ns : List Int) (vs : List Value), WellAll P h vs (ns.map WData.int) → IntsAre vs ns := by
  intro ns
  induction ns with
  | nil =>
    intro vs w
    rw [List.map_nil] at w
    cases w
    exact .nil
  | cons n ns ih =>
    intro vs w
    rw [List.map_cons] at w
    cases w with
    | cons a b =>
      cases a
      exact .cons _ _ (ih _ b)
theorem script_of {l : OpenLaw} {n : Nat} (hn : l.most = some n) {P : Params} {h : Heap} {args : List WData} {vals : List Value}
    (hpre : l.row.toRowW.claim.pre args = true) (hwl : WellAll P h vals args) :
    ∃ a vs ns, vals = [Value.ref a] ∧ args = [WData.list (ns.map WData.int)] ∧ h.get? a = some { cls := .type "list", data := .seq vs.toArray } ∧ IntsAre vs ns ∧ ns.length ≤ n := by
  have hsh : WShape.hasAll [] args [.list .int] = true := (pre_splitW hpre).1
  have hc : l.pre.holds [] { args := args } = true := (pre_splitW hpre).2
  obtain ⟨d, r, rfl, h1, h2⟩ := hasAllW_cons hsh
  obtain rfl := hasAllW_nil h2
  obtain ⟨xs, rfl, h3⟩ := hasW_list h1
  obtain ⟨ns, rfl⟩ := items_int h3
  have hlen : ns.length ≤ n := by
    unfold OpenLaw.pre at hc
    have h4 : (WTm.not (.lt (.lit (.int (n : Int))) (.len (.arg 0)))).holds [] { args := [.list (ns.map .int)] } = true := by
      have h4 := (holds_andW hc).1
      rw [hn] at h4
      exact h4
    have h5 := condW_of h4 (w_not (w_lt w_lit (w_len_list (w_arg rfl))))
    rw [List.length_map] at h5
    refine Nat.le_of_not_lt fun q => ?_
    have q' : (n : Int) < ((ns.length : Nat) : Int) := by omega
    first
      | (rw [decide_eq_true q'] at h5; exact absurd h5 (by decide))
      | (simp at h5; omega)
  cases hwl with
  | cons w1 w2 =>
    cases w2
    cases w1 with
    | list ho hall => exact ⟨_, _, ns, rfl, rfl, ho, ints_of_wellAll ns _ hall, hlen⟩
theorem post_true (l : OpenLaw) (args : List WData) : l.row.toRowW.claim.post args (.bool true) args = true :=
  postW_of (r := l.row.toRowW) (X := (true == true))
    (show WShape.has [] (.bool true) .bool = true by first | rfl | decide | simp [WShape.has, WShape.arms, WShape.armsAll])
    (show (WTm.eq .res (.lit (.bool true))).value [] { args := args, res := some (.bool true), after := args } = some (.bool (true == true)) from w_eq_bool (w_res rfl) w_lit) rfl
theorem attach_call {l : OpenLaw} {n : Nat} {q : Program} {loose : List Str} {XP : (Str → Option Value) → Heap → Prop} {YP : World → Heap → Prop} {d : DefRec}
    (hn : l.most = some n) (hdf : d.params.defaults = [])
    (call : ∀ (w : World) (s₀ s₁ : Shared) (mg mb : Str → Option Value) (fa : Addr) (o : Obj) (pm cd doc : Value) (a : Addr) (vs : List Value) (ns : List Int),
      Ground q loose [] XP w s₀ mg mb s₁.heap → YP w s₁.heap →
      s₁.heap.get? fa = some o → o.data = .func (docDef d.name d.params d.body d.scope pm cd doc) → s₁.heap.CodeRec cd d.name → mg d.name = some (.ref fa) →
      s₁.heap.get? a = some { cls := .type "list", data := .seq vs.toArray } → IntsAre vs ns → ns.length ≤ n → s₁.gens = #[] →
      codeAny (model l.prog w) callerA (.call (.ref fa) ⟨[.ref a], []⟩) (fun r s' => r = .ok (.ret (.bool true)) ∧ OldK s₁.heap s'.heap ∧ s'.os = s₁.os ∧ AllBare s'.gens) s₁) :
    WalkO q loose XP YP l.row.toRowW d [] (fun f vs => PySem.call f vs) := by
  intro w s₀ s₁ mg mb G Y fa o pm cd doc dV kV ho hd hcd hD hmg hg args vals as hpre hlay hrd hwl hlo
  obtain rfl : dV = .none := Dflts.none hD hdf
  obtain rfl : kV = .none := Dflts.noKw hD
  obtain ⟨a, vs, ns, rfl, rfl, hobj, hints, hlen⟩ := script_of hn hpre hwl
  refine enter_call (codeAny_mono (call w s₀ s₁ mg mb fa o pm cd doc a vs ns G Y ho (fd_plain hd) hcd hmg hobj hints hlen hg) fun r s' hq => ?_)
  obtain ⟨rfl, h2, h3, h4⟩ := hq
  exact ⟨.inl ⟨.bool true, .bool true, [], rfl, fun _ => rfl, .bool true, post_true l _, fun _ => ⟨List.Pairwise.nil, fun _ hm => (nomatch hm)⟩⟩, h2, h3, h4⟩
section
variable {prog : Program} {w : World} {A : Around} {E : Value → Shared → Prop} {s : Shared} {K : Frag}
end
end Att
namespace L2
open PySem PySem.Spec PyProof.Rows
theorem vals_ints : ∀ {vs : List Value} {ns : List Int}, IntsAre vs ns → Vals (ns.map V.int) vs
  | _, _, .nil => .nil
  | _, _, .cons n t h => .cons ⟨t, rfl⟩ (vals_ints h)
def Only (H : Hp) : Prop := ∀ b, H b = none ∨ ∃ o xs, H b = some (.frz o (.lst xs))
theorem law_call {P : Program} {w : World} {K : PySem.W.Frag} {mg mb : Str → Option Value} {CX : CXT} {k : Nat} {fa a : Addr} {fd : FuncData} {x : Str} {sp : Sp} {s₁ : Shared} {vs : List Value} {ns : List Int}
    (KX : K.In s₁.heap) (hns : s₁.heap.Ns mainGlobals mg) (hb : s₁.heap.Ns builtinsNs mb) (hbb : ∀ x : Str, x ≠ "__name__" → mb x = bootBuiltins x) (hlim : s₁.heap.NoLimit) (hbm : ∃ bm o, mg "__builtins__" = some (.ref bm) ∧ bm ≠ builtinsNs ∧ s₁.heap.get? bm = some o ∧ o.cls = .type "module" ∧ o.dict = some builtinsNs ∧ o.data = .plain) (hg : s₁.gens = #[])
    (ha : s₁.heap.get? a = some { cls := .type "list", data := .seq vs.toArray }) (hi : IntsAre vs ns) (hl : ns.length ≤ sizeLine) (hr : Room k callerA)
    (F : ∀ base : Heap, K.In base → base.Ns mainGlobals mg → FnOk P w K mg base CX k fa fd [x] sp) (hbind : ∀ (s : Shared) (u : Value), BindsTo s fd ⟨[u], []⟩ [(x, u)])
    (hsp : ∀ H : Hp, Only H → SqL K H a (ns.map V.int) → sp [.ref a] H (fun v _ => v = .bl true) fun _ _ _ => False)
    (hCX : ∀ H e s', CX [] H s₁ (fun _ _ _ => False) e s' → False) :
    codeAny (model P w) callerA (.call (.ref fa) ⟨[.ref a], []⟩) (fun r s' => r = .ok (.ret (.bool true)) ∧ OldK s₁.heap s'.heap ∧ s'.os = s₁.os ∧ AllBare s'.gens) s₁ := by
  have rv := vals_ints hi
  have lenV := hi.length
  -- from an abstract heap in which nothing but the script may be tracked
  have core : ∀ H : Hp, Only H → SqL K H a (ns.map V.int) → HOk P w H s₁.heap → (∀ b, H b ≠ none → b = a) → (H a ≠ none → K.lookup a = none) →
      codeAny (model P w) callerA (.call (.ref fa) ⟨[.ref a], []⟩) (fun r s' => r = .ok (.ret (.bool true)) ∧ OldK s₁.heap s'.heap ∧ s'.os = s₁.os ∧ AllBare s'.gens) s₁ := by
    intro H hO hS hok hA hK
    have base_of : ∀ {b : Addr} {o : Obj}, s₁.heap.get? b = some o → H b = none → (hidT s₁.heap H).get? b = some o := fun e n => hidT_get e n
    have noA : ∀ {b : Addr} {o : Obj} {es : Array DictEntry} {ep : Nat}, s₁.heap.get? b = some o → o.data = .dict es ep → H b = none := fun {b o es ep} e d => by
      cases q : H b with
      | none => rfl
      | some u =>
        have e' : b = a := hA b (by rw [q]; simp)
        subst e'
        rw [ha] at e; cases e
        have d' : Data.seq vs.toArray _ = Data.dict es ep := d
        cases d'
    have nsK : ∀ {b : Addr} {m : Str → Option Value}, s₁.heap.Ns b m → (hidT s₁.heap H).Ns b m := fun {b m} ⟨o, es, ep, e, d, r⟩ => ⟨o, es, ep, base_of e (noA e d), d, r⟩
    have hKb : K.In (hidT s₁.heap H) := fun b o e => base_of (KX b o e) (by
      cases q : H b with
      | none => rfl
      | some u =>
        have e' : b = a := hA b (by rw [q]; simp)
        subst e'
        rw [hK (by rw [q]; simp)] at e; cases e)
    have hbm' : ∃ bm o, mg "__builtins__" = some (.ref bm) ∧ bm ≠ builtinsNs ∧ (hidT s₁.heap H).get? bm = some o ∧ o.cls = .type "module" ∧ o.dict = some builtinsNs ∧ o.data = .plain := by
      obtain ⟨bm, ob, b1, b2, b3, b4, b5, b6⟩ := hbm
      refine ⟨bm, ob, b1, b2, base_of b3 ?_, b4, b5, b6⟩
      cases q : H bm with
      | none => rfl
      | some u =>
        have e' : bm = a := hA bm (by rw [q]; simp)
        rw [e', ha] at b3
        cases b3
        exact absurd (show Value.type "list" = Value.type "module" from b4) (by decide)
    have hM : Mod K mg (hidT s₁.heap H) := ⟨hKb, nsK hns, ⟨mb, nsK hb, hbb⟩, (let ⟨mc, h1, h2⟩ := hlim; ⟨mc, nsK h1, h2⟩), hbm'⟩
    have e0 : Env0 P w K mg (hidT s₁.heap H) callerA [] s₁ H := ⟨rfl, hM, fun b o e => of_hidT e, Nat.le_of_eq (hidT_size _ _), trivial, fun b hb => absurd (show b ∈ ([] : List Addr) from hb) (by simp), hok, .of_eq hg⟩
    refine codeAny_mono ((F _ hKb (nsK hns)).run callerA [] s₁ H ⟨[.ref a], []⟩ [.ref a] [.ref a] _ _ hr e0 (hbind s₁ (.ref a)) (.cons rfl .nil) (hsp H hO hS)) fun r s' h => ?_
    cases r with
    | error e => exact (hCX H e s' h).elim
    | ok fl =>
      cases fl with
      | next => exact False.elim h
      | brk => exact False.elim h
      | cont => exact False.elim h
      | ret u =>
        obtain ⟨v, H', os, bare, un, hok', r', q⟩ := h
        have q' : v = .bl true := q
        subst q'
        obtain rfl : u = Value.bool true := r'
        refine ⟨rfl, OldK.of_keep fun b o e => ?_, os, bare⟩
        cases q : H b with
        | none => exact un.keep b o e q (by intro z; exact absurd (show b ∈ ([] : List Addr) from z) (by simp)) (by simp)
        | some u =>
          rcases hO b with z | ⟨ob, xs, z⟩
          · rw [q] at z; cases z
          · have z2 := un.frzs b ob _ z
            obtain ⟨e1, _⟩ := hok b _ z
            obtain ⟨e2, _⟩ := hok' b _ z2
            rw [e] at e1; cases e1
            exact e2
  cases hk : K.lookup a with
  | some o =>
    -- the script is one of the module's own objects
    have e := KX a o hk
    rw [ha] at e
    cases e
    refine core (fun _ => none) (fun _ => .inl rfl) (.inr ⟨_, vs.toArray, _, hk, rfl, rfl, rfl, by rw [List.size_toArray, lenV]; exact hl, by simpa using rv⟩) (fun b u z => by have z' : (none : Option HO) = some u := z; cases z') (fun b z => absurd rfl z) fun z => absurd rfl z
  | none =>
    refine core (fun b => if b = a then some (.frz { cls := .type "list", data := .seq vs.toArray } (.lst (ns.map V.int))) else none) (fun b => ?_) (.inl (.inr ⟨{ cls := .type "list", data := .seq vs.toArray }, if_pos rfl⟩)) (fun b u z => ?_) (fun b z => ?_) fun _ => hk
    · by_cases hb : b = a
      · exact .inr ⟨_, _, if_pos hb⟩
      · exact .inl (if_neg hb)
    · by_cases hb : b = a
      · have z' := (if_pos hb).symm.trans z
        cases z'
        subst hb
        exact ⟨ha, by rw [List.length_map]; exact hl, vs, _, rv, ha⟩
      · have z' := (if_neg hb).symm.trans z
        cases z'
    · by_cases hb : b = a
      · exact hb
      · exact absurd (if_neg hb) z
end L2
namespace L2
open PySem PySem.Spec PyProof.Rows
abbrev KOf {K : PySem.W.Frag} {h : Heap} (_ : K.In h) : PySem.W.Frag := K
theorem walk_of {l : PySem.W.OpenLaw} {n k : Nat} {q : Program} {loose : List Str} {XP : (Str → Option Value) → Heap → Prop} {YP : World → Heap → Prop} {d : DefRec} {K : Params → PySem.W.Frag} {CX : World → CXT} {sp : World → Sp} {x : Str}
    (hn : l.most = some n) (hn2 : n ≤ sizeLine) (hdf : d.params.defaults = []) (hr : Room k callerA)
    (hY : ∀ (w : World) (h : Heap), YP w h → (K w.params).In h)
    (F : ∀ (w : World) (mg : Str → Option Value) (fa : Addr) (h : Heap), (K w.params).In h → h.Ns mainGlobals mg → mg d.name = some (.ref fa) →
      ∃ fd : FuncData, (∀ (s : Shared) (u : Value), BindsTo s fd ⟨[u], []⟩ [(x, u)]) ∧
        ∀ base : Heap, (K w.params).In base → base.Ns mainGlobals mg → FnOk l.prog w (K w.params) mg base (CX w) k fa fd [x] (sp w))
    (hsp : ∀ (w : World) (H : Hp) (a : Addr) (ns : List Int), ns.length ≤ n → Only H → SqL (K w.params) H a (ns.map V.int) → sp w [.ref a] H (fun v _ => v = .bl true) fun _ _ _ => False)
    (hCX : ∀ (w : World) (H : Hp) (s : Shared) (e : Value) (s' : Shared), CX w [] H s (fun _ _ _ => False) e s' → False) :
    PySem.W.WalkO q loose XP YP l.row.toRowW d [] (fun f vs => PySem.call f vs) := by
  refine Att.attach_call hn hdf fun w s₀ s₁ mg mb fa o pm cd doc a vs ns G Y ho hd hcd hmg hobj hints hlen hg => ?_
  have KX := hY w _ Y
  obtain ⟨fd, hb, hF⟩ := F w mg fa _ KX G.T.g hmg
  exact law_call KX G.T.g G.T.b G.T.builtins G.T.nolimit G.T.bmain hg hobj hints (Nat.le_trans hlen hn2) hr hF hb (fun H hO hS => hsp w H a ns hlen hO hS) fun H e s' => hCX w H s₁ e s'
end L2
/- THE LAST THEOREM (shape; LID, My.* are yours):
   My.Adr: a structure of the addresses that your layer names (classes, functions); My.Txt K t: a structure (Prop) of the equations over K;
   My.txt_mk : {K} {implicit addresses ..} (e1 : nsIn K mainGlobals "law" = some (some (.ref f))) (e2 : K.lookup f = some ⟨oc, od, .func (fnOf "law" "law" params body scope dV kV doc pm an cdv ct), sl⟩) (e3 : codeIn K cdv "law" = true) .. : ∃ t, My.Txt K t
set_option maxRecDepth 100000 in
set_option maxHeartbeats 0 in
theorem PySem.Challenge.cw_LID_holds : PySem.Challenge.rw_LID.Holds := by
  w_on; o_law; k_head; (case hw => w_witness2)
  k_fill
  refine L2.walk_of (l := PySem.Challenge.rw_LID) (n := 63) (k := 40) (x := "script") (CX := fun w => ..) (sp := fun _ => My.sp_law) rfl (by decide) rfl ⟨rfl, by decide, by decide⟩ (fun w h Y => PySem.W.kIn_of Y) ?F ?S ?C
  case F =>
    intro w mg fa h KX G hmg
    have T : ∃ t, My.Txt (L2.KOf KX) t := by
      dsimp only [L2.KOf]                          -- K must stand as «<heap const> w.params» for k_is
      refine' My.txt_mk ?e1 ?e2 ?e3 ..
      (case e1 => PySem.W.k_is)                    -- in the order: a name -> its address -> its object -> its parts
      (case e2 => PySem.W.k_is)
      ..
    obtain ⟨t, T⟩ := T
    have e0 := hmg.symm.trans (PySem.W.mg_of KX G T.law)
    cases e0                                       -- fa is the law's own address
    exact ⟨_, fun s u => .of_eq rfl, fun base kb nb => My.law_fn T kb nb⟩     -- if «.of_eq rfl» comes too early: refine' ⟨_, ?b, fun base kb nb => My.law_fn T kb nb⟩; exact fun s u => .of_eq rfl
  case S => exact fun w H a ns hl hO hS => ..
  case C => exact ..
(the tactic k_is has no namespace: write k_is) -/
namespace L2
open PySem PySem.Spec PyProof.Rows
def inClass (s : Stmt) (j : Nat) : Stmt := match s with
  | .ClassDef _ _ _ body _ _ _ _ _ _ _ => body.getD j (.Pass ⟨0, 0, 0, 0⟩)
  | _ => .Pass ⟨0, 0, 0, 0⟩
def defArgs (s : Stmt) : Arguments := match s with
  | .FunctionDef _ a _ _ _ _ _ _ _ _ => a
  | _ => { posonlyargs := [], args := [], vararg := none, kwonlyargs := [], kw_defaults := [], kwarg := none, defaults := [] }
def defBody (s : Stmt) : List Stmt := match s with
  | .FunctionDef _ _ b _ _ _ _ _ _ _ => b
  | _ => []
def defScope (s : Stmt) : Scope := match s with
  | .FunctionDef _ _ _ _ _ _ sc _ _ _ => sc
  | _ => { kind := .function, names := [], isGenerator := false, isCoroutine := false }
abbrev CX0 : CXT := fun _ _ _ _ _ _ => False
abbrev E0 : XK := fun _ _ _ => False
theorem pass0 {X : Cx} : Passes CX0 X E0 := fun _ _ _ _ _ _ _ h => h.elim
structure Fun (K : PySem.W.Frag) (x qual : Str) (st : Stmt) (f : Addr) (fd : FuncData) : Prop where
  ex : ∃ (oc : Value) (od : Option Addr) (kV doc pm : Value) (an : Option Addr) (cdv ct : Value) (osl : Array (Option Value)),
    fd = PySem.W.fnOf x qual (defArgs st) (defBody st) (defScope st) .none kV doc pm an cdv ct ∧ K.lookup f = some ⟨oc, od, .func fd, osl⟩ ∧ PySem.W.codeIn K cdv qual = true
  kp : PySem.W.keepIn K (.ref f) = true
section
variable {P : Program} {w : World} {K : PySem.W.Frag} {mg : Str → Option Value} {base : Heap}
theorem Fun.ok {x qual : Str} {st : Stmt} {f : Addr} {fd : FuncData} {N ps : List Str} {k : Nat} {sp : Sp} (F : Fun K x qual st f fd) (S : FnScope N ps (defScope st)) (len : ∀ vs H Q E, sp vs H Q E → vs.length = ps.length)
    (hbody : ∀ (cdv : Value) (A : Around) (outer : List Env) (s : Shared) (H : Hp) (vs : List V) (Q : VK) (E : XK), Room k (A.deeper (envOfC qual (defScope st) s.heap.objs.size f cdv)) → sp vs H Q E →
      ∃ t, PSs (cxOf CX0 P w K mg base N qual (defScope st) f cdv A outer s H E).nox (defBody st) t ∧ t { nx := fun _ H' => Q .non H', rt := Q } (start N vs) H) : FnOk P w K mg base CX0 (k + 1) f fd ps sp := by
  obtain ⟨oc, od, kV, doc, pm, an, cdv, ct, osl, rfl, lk, hcd⟩ := F.ex
  refine fn_of lk hcd S len fun A outer s H vs Q E hr hsp => ?_
  obtain ⟨t, h, q⟩ := hbody cdv A outer s H vs Q E hr hsp
  exact ⟨t, h.nox, q⟩
theorem Fun.binds {x qual : Str} {st : Stmt} {f : Addr} {fd : FuncData} {ps : List Str} (F : Fun K x qual st f fd)
    (h : ∀ (kV doc pm : Value) (an : Option Addr) (cdv ct : Value) (us : List Value), us.length = ps.length → bindArgs (PySem.W.fnOf x qual (defArgs st) (defBody st) (defScope st) .none kV doc pm an cdv ct) ⟨us, []⟩ = pure (ps.zip us)) : Binds K fd ps [] := by
  obtain ⟨oc, od, kV, doc, pm, an, cdv, ct, osl, rfl, lk, hcd⟩ := F.ex
  exact .all (h kV doc pm an cdv ct)
theorem fun_mk {x qual : Str} {st : Stmt} {f : Addr} {oc : Value} {od an : Option Addr} {osl : Array (Option Value)} {kV doc pm cdv ct : Value} (l : K.lookup f = some ⟨oc, od, .func (PySem.W.fnOf x qual (defArgs st) (defBody st) (defScope st) .none kV doc pm an cdv ct), osl⟩)
    (c : PySem.W.codeIn K cdv qual = true) (k : PySem.W.keepIn K (.ref f) = true) : Fun K x qual st f (PySem.W.fnOf x qual (defArgs st) (defBody st) (defScope st) .none kV doc pm an cdv ct) := ⟨⟨oc, od, kV, doc, pm, an, cdv, ct, osl, rfl, l, c⟩, k⟩
end
section
variable {X : Cx}
theorem pv (i : Nat) {x : Str} {pos : Pos} (hN : X.N[i]? = some x := by rfl) (hv : Vis X.env.scope x := by first | exact Or.inl rfl | exact Or.inr (Or.inl rfl) | exact Or.inr (Or.inr rfl)) (hd : (x == ("__debug__" : Str)) = false := by decide)
    (hcd : (x == ("__classdict__" : Str)) = false := by decide) : PE X (.Name x pos) (tVar i) := pe_var hN hv hd hcd
end
theorem iteF {A B : Prop} (h : B) : if false = true then A else B := by
  rw [if_neg Bool.false_ne_true]
  exact h
theorem iteT {A B : Prop} (h : A) : if true = true then A else B := by
  rw [if_pos rfl]
  exact h
def Same (H H' : Hp) : Prop := ∀ b o, H b = some o → H' b = some o
theorem Same.refl (H : Hp) : Same H H := fun _ _ h => h
theorem Same.trans {H H1 H2 : Hp} (a : Same H H1) (b : Same H1 H2) : Same H H2 := fun c o h => b c o (a c o h)
theorem Same.free {H H' : Hp} (e : Same H H') {l : Addr} (h : H' l = Option.none) : H l = Option.none := by
  cases q : H l with
  | none => rfl
  | some o =>
    rw [e l o q] at h
    cases h
theorem Same.seq {K : PySem.W.Frag} {H H' : Hp} {a : Addr} {xs : List V} (e : Same H H') (h : SqL K H a xs) : SqL K H' a xs := by
  rcases h with (h | ⟨o, h⟩) | h
  · exact .inl (.inl (e _ _ h))
  · exact .inl (.inr ⟨o, e _ _ h⟩)
  · exact .inr h
section
variable {κ : Type} [DecidableEq κ]
end
end L2
namespace L2
open PySem PySem.Spec PyProof.Rows
section
variable {prog : Program} {w : World} {A : Around} {R : Result → Shared → Prop} {s : Shared}
theorem compLoop_go {elt target iter : Expr} {ifs : List Expr} {scope : Scope} {pos : Pos} {it acc : Value} {env : Env} (I : Nat → Shared → Prop)
    (turn : ∀ n s, I n s → wpAny (model prog w) A (pyNext it) (fun r s₁ => match r with
      | none => R (.ok .next) s₁
      | some v => wpAny (model prog w) A (letOwnedTupleGo target it v) (fun _ s₁' => wpAny (model prog w) A (assign target env v) (fun _ s₂ =>
          wpAny (model prog w) A (forIn ifs true fun c r => if r = true then do let ok ← isTrue c env (eval c env); pure (ForInStep.yield ok) else pure (ForInStep.yield r)) (fun ok s₃ =>
            if ok = true then wpAny (model prog w) A (eval elt env) (fun x s₄ =>
              wpAny (model prog w) A (call (.builtin "list.append") [acc, x]) (fun _ s₅ => ∃ m, m < n ∧ I m s₅) (notedBy (model prog w) A env fun e s' => R (.error e) s') s₄) (notedBy (model prog w) A env fun e s' => R (.error e) s') s₃
            else ∃ m, m < n ∧ I m s₃) (notedBy (model prog w) A env fun e s' => R (.error e) s') s₂) (notedBy (model prog w) A env fun e s' => R (.error e) s') s₁') (notedBy (model prog w) A env fun e s' => R (.error e) s') s₁)
      (notedBy (model prog w) A env fun e s' => R (.error e) s') s)
    (n : Nat) (h : I n s) :
    codeAny (model prog w) A (.compLoop (.ListComp elt [⟨target, iter, ifs, 0⟩] scope pos) 0 it acc env) R s := by
  refine codeAny_loop rfl I (fun n s hI => ?_) n h
  show wpAny _ A ((compTurn (.ListComp elt [⟨target, iter, ifs, 0⟩] scope pos) 0 it acc env).onRaise (fun x => do noteFrame x env; theTreesLotGoes x)) _ _ s
  refine wpAny_noted ?_
  rw [compTurn_list]
  refine wpAny_bind (wpAny_standAt (wpAny_bind (wpAny_mono (turn n s hI) (fun r s₁ h₁ => ?_) fun _ _ h' => h')))
  cases r with
  | none => exact wpAny_pure h₁
  | some v =>
    refine wpAny_bind (wpAny_mono h₁ (fun _ s₁' h₁' => ?_) fun _ _ h' => h')
    refine wpAny_bind (wpAny_mono h₁' (fun _ s₂ h₂ => wpAny_bind (wpAny_mono h₂ (fun ok s₃ h₃ => ?_) fun _ _ h' => h')) fun _ _ h' => h')
    cases ok with
    | false => exact wpAny_pure ⟨rfl, h₃⟩
    | true =>
      exact wpAny_bind (wpAny_bind (wpAny_mono h₃ (fun x s₄ h₄ => wpAny_bind (wpAny_mono h₄ (fun _ s₅ h₅ => wpAny_pure (wpAny_pure ⟨rfl, h₅⟩)) fun _ _ h' => h')) fun _ _ h' => h'))
end
def clos (env : Env) : List (Str × NameKind) → List (Str × Addr) → List (Str × Addr)
  | [], cs => cs
  | (n, k) :: r, cs => clos env r (if (k == NameKind.free) = true then (n, (env.cells.lookup n).getD 0) :: cs else cs)
theorem closure_eq {scope : Scope} {env : Env} (h : ∀ x ∈ scope.names, x.2 = .free → ∃ c, env.cells.lookup x.1 = some c) : closureFor scope env = pure (clos env scope.names []) := by
  simp only [closureFor]
  generalize ([] : List (Str × Addr)) = cs
  revert h cs
  generalize scope.names = names
  intro h
  induction names with
  | nil => intro cs; rfl
  | cons x r ih =>
    intro cs
    obtain ⟨n, k⟩ := x
    have ih := ih fun y hy => h y (List.mem_cons_of_mem _ hy)
    rw [List.forIn_cons]
    by_cases hk : k = .free
    · subst hk
      obtain ⟨c, hc⟩ := h (n, .free) List.mem_cons_self rfl
      have hc' : env.cells.lookup n = some c := hc
      have e : clos env ((n, NameKind.free) :: r) cs = clos env r ((n, c) :: cs) := by
        show clos env r (if (NameKind.free == NameKind.free) = true then (n, (env.cells.lookup n).getD 0) :: cs else cs) = _
        rw [hc']
        rfl
      rw [e, ← ih]
      simp only [cellOf, hc', beq_self_eq_true, if_true]
      rfl
    · have hb : (k == NameKind.free) = false := by simpa using hk
      have e : clos env ((n, k) :: r) cs = clos env r cs := by
        show clos env r (if (k == NameKind.free) = true then (n, (env.cells.lookup n).getD 0) :: cs else cs) = _
        rw [hb]
        rfl
      rw [e, ← ih]
      simp only [hb, Bool.false_eq_true, if_false]
      rfl
theorem clos_mem {env : Env} {x : Str} {c : Addr} : ∀ (names : List (Str × NameKind)) (cs : List (Str × Addr)), (∀ y ∈ names, y.2 = .free → ∃ c, env.cells.lookup y.1 = some c) → (x, c) ∈ clos env names cs → (x, c) ∈ cs ∨ env.cells.lookup x = some c
  | [], cs, _, h => .inl h
  | (n, k) :: r, cs, hf, h => by
    have h' : (x, c) ∈ clos env r (if (k == NameKind.free) = true then (n, (env.cells.lookup n).getD 0) :: cs else cs) := h
    rcases clos_mem r _ (fun y hy => hf y (List.mem_cons_of_mem _ hy)) h' with q | q
    · by_cases hk : (k == NameKind.free) = true
      · rw [if_pos hk] at q
        rcases List.mem_cons.mp q with e | q
        · cases e
          obtain ⟨c, hc⟩ := hf (x, k) List.mem_cons_self (by simpa using hk)
          have hc' : env.cells.lookup x = some c := hc
          rw [hc']
          exact .inr rfl
        · exact .inl q
      · rw [if_neg hk] at q
        exact .inl q
    · exact .inr q
theorem clos_sub {env : Env} {p : Str × Addr} : ∀ (names : List (Str × NameKind)) (cs : List (Str × Addr)), p ∈ cs → p ∈ clos env names cs
  | [], _, h => h
  | (n, k) :: r, cs, h => by
    show p ∈ clos env r (if (k == NameKind.free) = true then (n, (env.cells.lookup n).getD 0) :: cs else cs)
    refine clos_sub r _ ?_
    split
    · exact List.mem_cons_of_mem _ h
    · exact h
theorem clos_has {env : Env} {x : Str} {c : Addr} : ∀ (names : List (Str × NameKind)) (cs : List (Str × Addr)), (x, NameKind.free) ∈ names → env.cells.lookup x = some c → (x, c) ∈ clos env names cs
  | [], _, h, _ => by cases h
  | (n, k) :: r, cs, h, hc => by
    show (x, c) ∈ clos env r (if (k == NameKind.free) = true then (n, (env.cells.lookup n).getD 0) :: cs else cs)
    rcases List.mem_cons.mp h with e | h
    · cases e
      refine clos_sub r _ ?_
      rw [if_pos (by simp), hc]
      exact List.mem_cons_self
    · exact clos_has r _ h hc
theorem lookup_of_all {x : Str} {c : Addr} : ∀ {l : List (Str × Addr)}, (x, c) ∈ l → (∀ d, (x, d) ∈ l → d = c) → l.lookup x = some c
  | [], h, _ => by cases h
  | (n, d) :: r, h, u => by
    rw [List.lookup_cons]
    by_cases e : x = n
    · subst e
      rw [beq_self_eq_true]
      rw [u d List.mem_cons_self]
    · rw [show (x == n) = false by simpa using e]
      rcases List.mem_cons.mp h with q | q
      · cases q
        exact absurd rfl e
      · exact lookup_of_all q fun d hd => u d (List.mem_cons_of_mem _ hd)
theorem clos_lookup {env : Env} {names : List (Str × NameKind)} {x : Str} {c : Addr} (hf : ∀ y ∈ names, y.2 = .free → ∃ c, env.cells.lookup y.1 = some c) (hx : (x, NameKind.free) ∈ names) (hc : env.cells.lookup x = some c) : (clos env names []).lookup x = some c :=
  lookup_of_all (clos_has names [] hx hc) fun d hd => by
    rcases clos_mem names [] hf hd with q | q
    · cases q
    · rw [hc] at q
      exact (Option.some.inj q).symm
theorem clos_of {env : Env} {names : List (Str × NameKind)} {x : Str} {c : Addr} (hf : ∀ y ∈ names, y.2 = .free → ∃ c, env.cells.lookup y.1 = some c) (h : (clos env names []).lookup x = some c) : env.cells.lookup x = some c := by
  rcases clos_mem names [] hf (PySem.mem_of_lookup h) with q | q
  · cases q
  · exact q
end L2
namespace L2
open PySem PySem.Spec PyProof.Rows
def cxC (X : Cx) (scope : Scope) (N : List Str) (fp : List Addr) (C : Addr) (s : Shared) (H : Hp) : Cx where
  prog := X.prog
  w := X.w
  K := X.K
  mg := X.mg
  base := X.base
  A := X.A
  N := N
  s₀ := s
  H₀ := H
  env := compEnvC scope (clos X.env scope.names []) C X.env
  outer := X.stack
  stack := X.stack
  ex := fp
  fn := fun _ => false
  calm := X.calm
  pn := []
  xe := fun _ _ => False
theorem HOk.track {P : Program} {w : World} {H : Hp} {h : Heap} {a : Addr} {o : HO} (x : HOk P w H h) (hn : H a = none) (new : ObjOk P w (upd H a o) h a o) : HOk P w (upd H a o) h := fun b u e => by
  by_cases hb : b = a
  · subst hb; rw [upd_same] at e; cases e; exact new
  · rw [upd_ne hb] at e
    exact (x b u e).stay (fun c v _ q => q) (fun c q => by rw [upd_ne (ne_of_none q hn)]; exact q) fun c xs _ q => by rw [upd_ne (ne_of_none q hn)]; exact q
theorem Un.track {fs ex : List Addr} {H H1 : Hp} {h h1 : Heap} {a : Addr} {o : HO} (u : Un fs ex H H1 h h1) (hs : h.objs.size ≤ a) (hn : H1 a = none) : Un fs ex H (upd H1 a o) h h1 where
  keep := u.keep
  slot := u.slot
  free := fun b ob q n hx => by rw [upd_ne (Nat.ne_of_lt (Nat.lt_of_lt_of_le (Heap.lt_size q) hs))]; exact u.free b ob q n hx
  there := u.there
  tups := fun b xs q => by rw [upd_ne (ne_of_none (u.tups b xs q) hn)]; exact u.tups b xs q
  frzs := fun b ob xs q => by rw [upd_ne (ne_of_none (u.frzs b ob xs q) hn)]; exact u.frzs b ob xs q
  tbls := fun b ps q => by
    obtain ⟨m, e⟩ := u.tbls b ps q
    exact ⟨m, by rw [upd_ne (ne_of_none e hn)]; exact e⟩
theorem lookup_relabel_free {env : Env} : ∀ {names : List (Str × NameKind)} {x : Str}, names.lookup x = some .free →
    (names.map fun (n, k) => if (k == NameKind.free && env.scope.kind == .function && env.kindOf n == some .cell) then (n, NameKind.cell) else (n, k)).lookup x = some .cell ∨
    (names.map fun (n, k) => if (k == NameKind.free && env.scope.kind == .function && env.kindOf n == some .cell) then (n, NameKind.cell) else (n, k)).lookup x = some .free
  | [], _, h => by simp at h
  | (n, k) :: r, x, h => by
    have ih := @lookup_relabel_free env r x
    show List.lookup x ((if (k == NameKind.free && env.scope.kind == .function && env.kindOf n == some .cell) = true then (n, NameKind.cell) else (n, k)) :: _) = _ ∨ List.lookup x ((if (k == NameKind.free && env.scope.kind == .function && env.kindOf n == some .cell) = true then (n, NameKind.cell) else (n, k)) :: _) = _
    cases hx : x == n with
    | true =>
      simp only [List.lookup_cons, hx] at h
      cases h
      by_cases hc : (NameKind.free == NameKind.free && env.scope.kind == .function && env.kindOf n == some .cell) = true
      · rw [if_pos hc]; simp only [List.lookup_cons, hx]; exact .inl trivial
      · rw [if_neg hc]; simp only [List.lookup_cons, hx]; exact .inr trivial
    | false =>
      simp only [List.lookup_cons, hx] at h
      by_cases hc : (k == NameKind.free && env.scope.kind == .function && env.kindOf n == some .cell) = true
      · rw [if_pos hc]; simp only [List.lookup_cons, hx]; exact ih h
      · rw [if_neg hc]; simp only [List.lookup_cons, hx]; exact ih h
theorem relabel_has {env : Env} : ∀ {names : List (Str × NameKind)} {x : Str}, (∀ y ∈ names, y.2 ≠ .cell) →
    ((names.map fun (n, k) => if (k == NameKind.free && env.scope.kind == .function && env.kindOf n == some .cell) then (n, NameKind.cell) else (n, k)).lookup x = some .cell ∨
    (names.map fun (n, k) => if (k == NameKind.free && env.scope.kind == .function && env.kindOf n == some .cell) then (n, NameKind.cell) else (n, k)).lookup x = some .free) → (x, NameKind.free) ∈ names
  | [], _, _, h => by simp at h
  | (n, k) :: r, x, hc, h => by
    have ih := @relabel_has env r x fun y hy => hc y (List.mem_cons_of_mem _ hy)
    have h' : List.lookup x ((if (k == NameKind.free && env.scope.kind == .function && env.kindOf n == some .cell) = true then (n, NameKind.cell) else (n, k)) :: _) = _ ∨ List.lookup x ((if (k == NameKind.free && env.scope.kind == .function && env.kindOf n == some .cell) = true then (n, NameKind.cell) else (n, k)) :: _) = _ := h
    cases hx : x == n with
    | true =>
      have e : x = n := by simpa using hx
      subst e
      by_cases hq : (k == NameKind.free && env.scope.kind == .function && env.kindOf x == some .cell) = true
      · have hk : (k == NameKind.free) = true := by
          rw [Bool.and_assoc] at hq
          exact (Bool.and_eq_true _ _ ▸ hq).1
        rw [show k = NameKind.free by simpa using hk]
        exact List.mem_cons_self
      · rw [if_neg hq] at h'
        simp only [List.lookup_cons, hx] at h'
        rcases h' with z | z
        · cases z
          exact absurd rfl (hc _ List.mem_cons_self)
        · cases z
          exact List.mem_cons_self
    | false =>
      by_cases hq : (k == NameKind.free && env.scope.kind == .function && env.kindOf n == some .cell) = true
      · rw [if_pos hq] at h'; simp only [List.lookup_cons, hx] at h'; exact List.mem_cons_of_mem _ (ih h')
      · rw [if_neg hq] at h'; simp only [List.lookup_cons, hx] at h'; exact List.mem_cons_of_mem _ (ih h')
structure BlkScope (X : Cx) (scope : Scope) (N : List Str) (k : Nat) (idx : List Nat) : Prop where
  kind : scope.kind = .function
  nocell : ∀ y ∈ scope.names, y.2 ≠ .cell
  names : ∀ y ∈ scope.names, y.2 = .local → scope.names.lookup y.1 = some .local
  free : ∀ y ∈ scope.names, y.2 = .free → X.env.kindOf y.1 = some .cell ∨ X.env.kindOf y.1 = some .free
  nd : N.Nodup
  len : N.length = k + idx.length
  cap : ∀ (i : Nat) (x : Str), (N.drop k)[i]? = some x → ∃ j : Nat, idx[i]? = some j ∧ X.N[j]? = some x ∧ scope.names.lookup x = some .free
def cσ (k : Nat) (idx : List Nat) (σ : St) : St := List.replicate k none ++ idx.map fun j => (σ[j]?).join
section
variable {X : Cx} {pins : List (Addr × Obj)} {σ : St} {H : Hp} {s : Shared} {scope : Scope} {N : List Str} {k : Nat} {idx : List Nat} {fp : List Addr}
theorem BlkScope.cells (S : BlkScope X scope N k idx) (I : Inv X pins σ H s) : ∀ y ∈ scope.names, y.2 = .free → ∃ c, X.env.cells.lookup y.1 = some c := fun y hy h => I.ok.has y.1 (S.free y hy h)
theorem blk_start {C D : Addr} {h₁ : Heap} {tk : Nat} {oD : Obj} {m : Str → Option Value} (S : BlkScope X scope N k idx) (I : Inv X pins σ H s) (hf : ∀ b ∈ fp, FpOk X pins H b) (ho : ∀ b ∈ fp, ∃ o, s.heap.get? b = some o)
    (hC : s.heap.objs.size ≤ C) (hD : s.heap.objs.size ≤ D) (hDC : D ≠ C) (hn : h₁.Ns C m) (old : ∀ b o, s.heap.get? b = some o → h₁.get? b = some o) (eD : h₁.get? D = some oD) (dD : ∀ v, oD.data ≠ .cell v) :
    Inv (cxC X scope N fp C s H) [(D, oD)] (cσ k idx σ) H { s with heap := h₁, toks := tk } := by
  have hcl := S.cells I
  have nst : ∀ b, s.heap.objs.size ≤ b → b ∉ frs X.stack := fun b hb z => by
    obtain ⟨_, o, e, _⟩ := I.stack.mem z
    exact absurd (Nat.lt_of_lt_of_le (Heap.lt_size e) hb) (Nat.lt_irrefl _)
  refine ⟨⟨I.ok.mod, S.kind, I.ok.glob, I.ok.blt, hC, fun x y c h1 h2 => I.ok.inj x y c (clos_of hcl h1) (clos_of hcl h2), fun x hx => ?_, fun x c z _ => (by cases z), I.ok.hd, I.ok.frames, .inl rfl, fun b hb => ⟨?_, fun x c e => (hf b hb).2.2.2.2.1 x c (clos_of hcl e)⟩, I.bs,
    Nat.le_trans I.ok.bsz I.sz, fun b o e hb => ?_, fun b hb z => ?_, I.stack, I.stkFree⟩, rfl, I.bare, Un.kept old, ⟨m, hn, fun i x v h1 h2 h3 => ?_⟩, fun x c e => ?_, I.hok.fresh hC, fun x c e => I.freeC x c (clos_of hcl e), fun p hp => ?_, I.hok.kept old, ?_⟩
  · obtain ⟨c, e⟩ := hcl _ (relabel_has S.nocell hx) rfl
    exact ⟨c, clos_lookup hcl (relabel_has S.nocell hx) e⟩
  · obtain ⟨o, e⟩ := ho b hb
    exact Nat.ne_of_lt (Nat.lt_of_lt_of_le (Heap.lt_size e) hC)
  · rcases (hf b hb).2.2.2.1 with z | z
    · exact I.ok.noex b o e z
    · exact absurd (Nat.lt_of_lt_of_le (Heap.lt_size (I.ok.bs b o e).1) z) (Nat.lt_irrefl _)
  · rcases List.mem_cons.mp (I.stkSub b z) with q | q
    · exact (hf b hb).2.1 q
    · exact (hf b hb).2.2.1 q
  · have hi : k ≤ i := by
      by_cases hi : i < k
      · unfold cσ at h2
        rw [List.getElem?_append_left (by simpa using hi), List.getElem?_replicate, if_pos hi] at h2
        cases h2
      · omega
    obtain ⟨j, rfl⟩ : ∃ j, i = k + j := ⟨i - k, by omega⟩
    have h1' : N[k + j]? = some x := h1
    obtain ⟨l, e1, e2, e3⟩ := S.cap j x (by rw [List.getElem?_drop]; exact h1')
    have h2' : σ[l]? = some (some v) := by
      unfold cσ at h2
      rw [List.getElem?_append_right (by simp), List.getElem?_map] at h2
      simp only [List.length_replicate, Nat.add_sub_cancel_left, e1, Option.map_some, Option.some.injEq] at h2
      cases q : σ[l]? with
      | none => rw [q] at h2; cases h2
      | some z => rw [q] at h2; exact congrArg some h2
    obtain ⟨m0, hn0, hl⟩ := I.loc
    have hfree : (x, NameKind.free) ∈ scope.names := PySem.mem_of_lookup e3
    have hk := S.free _ hfree rfl
    obtain ⟨u, r, l⟩ := hl l x v e2 h2' (by rcases hk with z | z; exact .inr (.inl z); exact .inr (.inr z))
    refine ⟨u, r, .inr ⟨lookup_relabel_free e3, ?_⟩⟩
    rcases l with ⟨z, _⟩ | ⟨_, c, e, o, q, d⟩
    · rcases hk with y | y
      · rw [y] at z; cases z
      · rw [y] at z; cases z
    · exact ⟨c, clos_lookup hcl hfree e, o, old c o q, d⟩
  · obtain ⟨v, o, q, d⟩ := I.cell x c (clos_of hcl e)
    exact ⟨v, o, old c o q, d⟩
  · have hp' : p ∈ ([] : List (Addr × Obj)) ++ [(D, oD)] := hp
    have e : p = (D, oD) := by simpa using hp'
    subst e
    exact ⟨eD, I.hok.fresh hD, hDC, nst D hD, dD⟩
  · unfold cσ
    show _ = N.length
    rw [S.len]
    simp
theorem blk_end {C D : Addr} {s' : Shared} {σ' : St} {H' : Hp} {ys : List V} {its : List Value} {n : Nat} {pins' : List (Addr × Obj)} (I : Inv X pins σ H s) (hf : ∀ b ∈ fp, FpOk X pins H b) (J : Inv (cxC X scope N fp C s H) pins' σ' H' s')
    (hC : s.heap.objs.size ≤ C) (hD : s.heap.objs.size ≤ D) (hDC : D ≠ C) (hDn : H' D = none) (eD : s'.heap.get? D = some { cls := .type "list", data := .seq its.toArray n }) (r : Vals ys its) (hz : ys.length ≤ sizeLine) :
    Inv X pins σ (upd H' D (.lst ys)) s' ∧ FpOk X pins (upd H' D (.lst ys)) C := by
  have hk : HOk X.prog X.w (upd H' D (.lst ys)) s'.heap := HOk.track J.hok hDn ⟨hz, its, n, r, eD⟩
  have u : Un (frs X.stack) fp H (upd H' D (.lst ys)) s.heap s'.heap := Un.track J.base hD hDn
  refine ⟨I.call' J.os u hk J.bare fun b hb => ⟨(hf b hb).2.2.2.1, (hf b hb).2.1, (hf b hb).2.2.2.2.1, (hf b hb).2.2.2.2.2⟩, I.fpOk hC ?_⟩
  rw [upd_ne hDC.symm]
  exact J.free
end
def tCompW (J : It) (σ₀ : St) (g : TG) (tt : TT) (te : TE) (R : List V → Hp → Prop) (H1 : Hp) : Prop :=
  ∃ W : Nat → Nat → List V → Hp → Prop, (∃ m, W 0 m [] H1) ∧ ∀ i m ys H, W i m ys H → ys.length ≤ sizeLine ∧
    ((J.stop i H ∧ R ys H) ∨ (J.go i H ∧ ∃ N : List V → Hp → Prop, (∀ ys' H', N ys' H' → ∃ m', m' < m ∧ W (i + 1) m' ys' H') ∧
      ∀ x H', J.yld i H x H' → g x σ₀ H' fun σ2 H2 => tt σ2 H2 fun b H3 => if b = true then te σ2 H3 fun y H4 => N (ys ++ [y]) H4 else N ys H3))
def tComp (wi : TI) (k : Nat) (idx : List Nat) (g : TG) (tt : TT) (te : TE) : TE := fun σ H Q => wi σ H fun J H1 => tCompW J (cσ k idx σ) g tt te (fun ys H' => ∀ p, H' p = none → Q (.ref p) (upd H' p (.lst ys))) H1
def PTs (X : Cx) (ifs : List Expr) (t : TT) : Prop :=
  ∀ (pins : List (Addr × Obj)) (s : Shared) (σ : St) (H : Hp) (Q : Bool → Hp → Prop), Inv X pins σ H s → t σ H Q →
    wpAny (model X.prog X.w) X.A (forIn ifs true fun c r => if r = true then do let ok ← isTrue c X.env (eval c X.env); pure (ForInStep.yield ok) else pure (ForInStep.yield r)) (TP X pins σ Q) X.xe s
def tYes : TT := fun _ H Q => Q true H
theorem pts_nil {X : Cx} : PTs X [] tYes := fun _ _ _ H _ I h => wpAny_tests_nil ⟨H, I, h⟩
def Agr (k : Nat) (σ' σ : St) : Prop := σ'.length = σ.length ∧ ∀ i, k ≤ i → σ'[i]? = σ[i]?
theorem Agr.set {k i : Nat} {σ σb : St} {v : Option V} (h : Agr k σ σb) (hi : i < k) : Agr k (σ.set i v) σb := ⟨by rw [List.length_set]; exact h.1, fun j hj => by rw [List.getElem?_set_ne (by omega)]; exact h.2 j hj⟩
def Own (k : Nat) (g : TG) : Prop := ∀ x σ H (Q : St → Hp → Prop) (σb : St), Agr k σ σb → g x σ H Q → g x σ H fun σ' H' => Agr k σ' σb ∧ Q σ' H'
theorem own_name {k i : Nat} (h : i < k) : Own k (gName i) := fun _ _ _ _ _ a q => ⟨a.set h, q⟩
theorem lst_push (its : List Value) (u : Value) (n : Nat) : ({ cls := .type "list", data := .seq (its.toArray.push u) n } : Obj) = { cls := .type "list", data := .seq (its ++ [u]).toArray n } := by
  rw [List.push_toArray]
section
variable {X : Cx} {pins : List (Addr × Obj)} {σ : St} {H : Hp} {s : Shared} {scope : Scope} {N : List Str} {k : Nat} {idx : List Nat} {fp : List Addr}
theorem comp_block {elt target iter : Expr} {ifs : List Expr} {pos : Pos} {it : Addr} {tn : Nat → Heap → Prop} {J : It} {g : TG} {tt : TT} {te : TE} {R : List V → Hp → Prop} {E : Value → Shared → Prop} {RR : Value → Addr → Result → Shared → Prop}
    (S : BlkScope X scope N k idx) (hc : X.calm = true) (I : Inv X pins σ H s) (T : Turn X.prog X.w X.K target J fp it tn) (st : tn 0 s.heap) (hf : ∀ b ∈ fp, FpOk X pins H b)
    (hg : ∀ C, PG (cxC X scope N fp C s H) target g) (ho : Own k g) (ht : ∀ C, PTs (cxC X scope N fp C s H) ifs tt) (he : ∀ C, PE (cxC X scope N fp C s H) elt te)
    (hw : tCompW J (cσ k idx σ) g tt te R H)
    (hRR : ∀ D C s' m ys H', s'.heap.Ns C m → Inv X pins σ (upd H' D (.lst ys)) s' → FpOk X pins (upd H' D (.lst ys)) C → H' D = none → R ys H' → RR (.ref D) C (.ok .next) s') :
    wpAny (model X.prog X.w) X.A (newList []) (fun acc s₃ => wpAny (model X.prog X.w) X.A (newFunctionEnv scope X.env.globals (clos X.env scope.names []) [] X.env.qual none .none (some X.env)) (fun cenv s₄ =>
      codeAny (model X.prog X.w) X.A (.compStart (.ListComp elt [⟨target, iter, ifs, 0⟩] scope pos) 0 (.ref it) acc { cenv with scope := relabel scope X.env }) (RR acc cenv.locals) s₄) E s₃) E s := by
  refine wpAny_newObj_type (wpAny_newFunctionEnv S.nocell (by intro y hy; simp at hy) (fun h₁ hns₁ hsb₁ => ?_) S.kind)
  dsimp only at hns₁ hsb₁ ⊢
  generalize hH2 : s.heap.push { cls := .type "list", dict := none, data := .seq ([] : List Value).toArray } = H2 at hns₁ hsb₁ ⊢
  have hCs : H2.objs.size = s.heap.objs.size + 1 := by rw [← hH2, Heap.size_push]
  have hDC : s.heap.objs.size ≠ H2.objs.size := by rw [hCs]; exact Nat.ne_of_lt (Nat.lt_succ_self _)
  have hCle : s.heap.objs.size ≤ H2.objs.size := by rw [hCs]; exact Nat.le_succ _
  have below : ∀ b, b < s.heap.objs.size → b ≠ H2.objs.size := fun b hb => by rw [hCs]; exact Nat.ne_of_lt (Nat.lt_succ_of_lt hb)
  have old : ∀ b o, s.heap.get? b = some o → h₁.get? b = some o := fun b o e => hsb₁.extBut b o (below b (Heap.lt_size e)) (Heap.get?_push_of_some _ (hH2 ▸ Heap.get?_push_of_some _ e))
  have hacc : h₁.get? s.heap.objs.size = some { cls := .type "list", data := .seq ([] : List Value).toArray 0 } := hsb₁.extBut _ _ hDC (Heap.get?_push_of_some _ (hH2 ▸ Heap.get?_push_size _ rfl))
  have st₁ : tn 0 h₁ := T.keep _ _ _ st fun b _ o e => old b o e
  obtain ⟨W, ⟨m0, w0⟩, turn⟩ := hw
  have fp0 : ∀ b ∈ fp, b < s.heap.objs.size := fun b hb => by
    obtain ⟨o, e, _⟩ := T.obj _ _ st b hb
    exact Heap.lt_size e
  -- the iterator's records and the block's own objects
  have stat : ∀ {H' : Hp} {pl : List (Addr × Obj)}, (∀ b ∈ fp, H' b = none) → (∀ p ∈ pl, s.heap.objs.size ≤ p.1) → ∀ b ∈ fp, FpOk (cxC X scope N fp H2.objs.size s H) pl H' b := fun {H' pl} hn hp b hb => by
    refine ⟨hn b hb, below b (fp0 b hb), fun z => ?_, .inl hb, fun x c e => (hf b hb).2.2.2.2.1 x c (clos_of (S.cells I) e), fun p q z => ?_⟩
    · have z' : b ∈ frs X.stack := z
      rcases List.mem_cons.mp (I.stkSub b z') with q | q
      · exact (hf b hb).2.1 q
      · exact (hf b hb).2.2.1 q
    · have q' : p ∈ ([] : List (Addr × Obj)) ++ pl := q
      have h1 := hp p (by simpa using q')
      rw [z] at h1
      exact absurd (Nat.lt_of_lt_of_le (fp0 b hb) h1) (Nat.lt_irrefl _)
  have loop : ∀ s₃ : Shared, s₃ = { s with heap := h₁, toks := s.toks + ([] : List (Str × Value)).length } →
      codeAny (model X.prog X.w) X.A (.compLoop (.ListComp elt [⟨target, iter, ifs, 0⟩] scope pos) 0 (.ref it) (.ref s.heap.objs.size) (compEnvC scope (clos X.env scope.names []) H2.objs.size X.env))
        (RR (.ref s.heap.objs.size) H2.objs.size) s₃ := by
    rintro s₃ rfl
    refine compLoop_go (fun n s' => ∃ i ys its H' nn, Inv (cxC X scope N fp H2.objs.size s H) [(s.heap.objs.size, { cls := .type "list", data := .seq its.toArray nn })] (cσ k idx σ) H' s' ∧ tn i s'.heap ∧ (∀ b ∈ fp, H' b = none) ∧ Vals ys its ∧ W i n ys H') ?_ m0
      ⟨0, [], [], H, 0, blk_start S I hf (fun b hb => let ⟨o, e, _⟩ := T.obj _ _ st b hb; ⟨o, e⟩) hCle (Nat.le_refl _) hDC hns₁ old hacc (fun v z => by cases z), st₁, fun b hb => (hf b hb).1, .nil, w0⟩
    rintro n s' ⟨i, ys, its, H', nn, I', st', fr', rv, w'⟩
    obtain ⟨hz, alt⟩ := turn i n ys H' w'
    have pl : ∀ p ∈ [((s.heap.objs.size : Addr), ({ cls := .type "list", data := .seq its.toArray nn } : Obj))], s.heap.objs.size ≤ p.1 := fun p hp => by
      have e : p = ((s.heap.objs.size : Addr), ({ cls := .type "list", data := .seq its.toArray nn } : Obj)) := by simpa using hp
      rw [e]
      exact Nat.le_refl _
    rcases alt with ⟨stop, q⟩ | ⟨go, Nx, hN, step⟩
    · refine thn (T.done (cxC X scope N fp H2.objs.size s H) rfl rfl rfl hc i _ s' _ H' _ I' (stat fr' pl) st' stop) fun r s4 ⟨hr, I4⟩ => ?_
      subst hr
      obtain ⟨eD, nD, _⟩ := I4.pin _ (List.mem_append_right _ List.mem_cons_self)
      obtain ⟨a1, a2⟩ := blk_end I hf I4 hCle (Nat.le_refl _) hDC nD eD rv hz
      obtain ⟨m4, hn4, _⟩ := I4.loc
      exact hRR _ _ s4 m4 ys H' hn4 a1 a2 nD q
    · refine thn (T.item (cxC X scope N fp H2.objs.size s H) rfl rfl rfl hc i _ s' _ H' _ I' (stat fr' pl) st' go) fun r s4 ⟨u, hr, h4⟩ => ?_
      subst hr
      refine thn h4 fun _ s5 ⟨x, H5, I5, r5, y5, st5, fr5⟩ => ?_
      have I5' := I5.pinned (stat fr5 pl) (T.obj _ _ st5)
      have noE : ∀ {α : Type} {t : Sem α} {Q : α → Shared → Prop} {E' : Value → Shared → Prop} {sx : Shared}, wpAny (model X.prog X.w) X.A t Q (fun _ _ => False) sx → wpAny (model X.prog X.w) X.A t Q E' sx := fun h => wpAny_mono h (fun _ _ q => q) fun _ _ z => z.elim
      refine noE (thn (hg _ _ s5 _ H5 x u _ I5' r5 (ho x _ H5 _ _ ⟨rfl, fun _ _ => rfl⟩ (step x H5 y5))) fun _ s6 ⟨σ6, H6, I6, ag, q6⟩ => ?_)
      have back : ∀ {H7 : Hp} {s7 : Shared}, Inv (cxC X scope N fp H2.objs.size s H) ([((s.heap.objs.size : Addr), ({ cls := .type "list", data := .seq its.toArray nn } : Obj))] ++ pinsAt fp s5.heap) σ6 H7 s7 →
          Inv (cxC X scope N fp H2.objs.size s H) [((s.heap.objs.size : Addr), ({ cls := .type "list", data := .seq its.toArray nn } : Obj))] (cσ k idx σ) H7 s7 ∧ tn (i + 1) s7.heap ∧ ∀ b ∈ fp, H7 b = none := fun {H7 s7} I7 => by
        refine ⟨I7.unpinned.weak (by rw [ag.1]) fun j v e => ?_, T.keep _ _ _ st5 fun b hb o e => (I7.pin (b, o) (List.mem_append_right _ (List.mem_append_right _ (mem_pinsAt hb e)))).1, fun b hb => ?_⟩
        · have hj : k ≤ j := by
            by_cases hj : j < k
            · unfold cσ at e
              rw [List.getElem?_append_left (by simpa using hj), List.getElem?_replicate, if_pos hj] at e
              cases e
            · omega
          rw [ag.2 j hj]
          exact e
        · obtain ⟨o, e, d⟩ := T.obj _ _ st5 b hb
          exact (I7.pin (b, o) (List.mem_append_right _ (List.mem_append_right _ (mem_pinsAt hb e)))).2.1
      refine noE (thn (ht _ _ s6 σ6 H6 _ I6 q6) fun b s7 ⟨H7, I7, q7⟩ => ?_)
      cases b with
      | false =>
        rw [if_neg Bool.false_ne_true] at q7 ⊢
        obtain ⟨m', hm, w7⟩ := hN _ _ q7
        obtain ⟨b1, b2, b3⟩ := back I7
        exact ⟨m', hm, i + 1, ys, its, H7, nn, b1, b2, b3, rv, w7⟩
      | true =>
        rw [if_pos rfl] at q7 ⊢
        refine noE (thn (he _ _ s7 σ6 H7 _ I7 q7) fun y s8 ⟨z, H8, I8, r8, q8⟩ => ?_)
        obtain ⟨m', hm, w8⟩ := hN _ _ q8
        obtain ⟨b1, b2, b3⟩ := back I8
        obtain ⟨eD, nD, neD, nfD, _⟩ := b1.pin _ (List.mem_append_right _ List.mem_cons_self)
        have lenV := rv.length
        refine append_at (hsz := by rw [List.size_toArray, ← lenV]; exact hz) eD fun h9 hs9 hD9 => ?_
        have b1' : Inv (cxC X scope N fp H2.objs.size s H) [] (cσ k idx σ) H8 s8 := b1.pins_of fun p hp => by cases hp
        have I9 : Inv (cxC X scope N fp H2.objs.size s H) [] (cσ k idx σ) H8 { s8 with heap := h9 } := b1'.turned (t' := s8.toks) (fun b o hb e => (hs9.2 b hb).trans e) nD neD (.inr (Nat.le_refl _)) (fun x c e z => by
          obtain ⟨v, q⟩ := I.cell x c (clos_of (S.cells I) e)
          exact absurd (Nat.lt_of_lt_of_le q.lt (by rw [z]; exact Nat.le_refl _)) (Nat.lt_irrefl _)) (fun p hp => by
          have hp' : p ∈ ([] : List (Addr × Obj)) ++ [] := hp
          simp at hp')
        refine ⟨m', hm, i + 1, ys ++ [z], its ++ [y], H8, nn + 1, I9.pins_of fun p hp => ?_, T.keep _ _ _ b2 fun b hb o e => (hs9.2 b (Nat.ne_of_lt (fp0 b hb))).trans e, b3, rv.append (.cons r8 .nil), w8⟩
        have e : p = ((s.heap.objs.size : Addr), ({ cls := .type "list", data := .seq (its ++ [y]).toArray (nn + 1) } : Obj)) := by simpa using hp
        subst e
        exact ⟨by rw [← lst_push]; exact hD9, nD, neD, nfD, fun v z => by cases z⟩
  exact codeAny_compStart_list (loop _ rfl) (T.self _ 0 _ _ _ st₁ (loop _ rfl))
theorem pe_comp (k : Nat) (idx : List Nat) {N : List Str} {elt target iter : Expr} {ifs : List Expr} {pos : Pos} {wi : TI} {g : TG} {tt : TT} {te : TE} (S : BlkScope X scope N k idx) (hc : X.calm = true) (hi : PI X target iter wi)
    (hg : ∀ fp C s H, PG (cxC X scope N fp C s H) target g) (ho : Own k g) (ht : ∀ fp C s H, PTs (cxC X scope N fp C s H) ifs tt) (he : ∀ fp C s H, PE (cxC X scope N fp C s H) elt te)
    (hs : ∀ x, foldedSetIterable iter X.env x = pure x := by intro _; rfl) : PE X (.ListComp elt [⟨target, iter, ifs, 0⟩] scope pos) (tComp wi k idx g tt te) := by
  intro pins s σ H Q I h
  rw [eval_ListComp]
  refine wpAny_comprehension_free (use := none) rfl hs (closure_eq (S.cells I)) S.kind S.names (thn (hi pins s σ H _ I h) fun v s1 h1 => thn h1 fun itv s2 h2 => ?_)
  obtain ⟨it, fp, tn, J, H2, e, I2, T, st2, f2, w2⟩ := h2
  subst e
  refine comp_block (RR := fun acc C => compPost (model X.prog X.w) X.A X.xe none (EP X pins σ Q) acc C) S hc I2 T st2 f2 (fun C => hg fp C s2 H2) ho (fun C => ht fp C s2 H2) (fun C => he fp C s2 H2) w2 fun D C s' m ys H' hn I' fC hD q => ?_
  refine ⟨m, hn, fun h'' hs'' => ⟨.ref D, _, I'.turned (t' := s'.toks) (fun b o hb e => (hs''.2 b hb).trans e) fC.1 fC.2.1 fC.2.2.2.1 fC.2.2.2.2.1 fC.2.2.2.2.2, rfl, q D hD⟩⟩
theorem ps_setC (k : Nat) (idx : List Nat) {i : Nat} {x : Str} {N : List Str} {elt target iter : Expr} {ifs : List Expr} {pos pos' spos : Pos} {wi : TI} {g : TG} {tt : TT} {te : TE} (hN : X.N.Nodup) (hix : X.N[i]? = some x) (hx : Loc X.env.scope x)
    (S : BlkScope X scope N k idx) (hc : X.calm = true) (hi : PI X target iter wi)
    (hg : ∀ fp C s H, PG (cxC X scope N fp C s H) target g) (ho : Own k g) (ht : ∀ fp C s H, PTs (cxC X scope N fp C s H) ifs tt) (he : ∀ fp C s H, PE (cxC X scope N fp C s H) elt te)
    (hsw : swapsWith (.ListComp elt [⟨target, iter, ifs, 0⟩] scope pos) (some (.Name x pos')) spos.line X.env = pure true := by rfl)
    (hs : ∀ x, foldedSetIterable iter X.env x = pure x := by intro _; rfl) (hfn : X.fn x = true ∨ X.env.scope.names.lookup x = some .local := by first | exact .inl rfl | exact .inr rfl | assumption) :
    PS X (.Assign [.Name x pos'] (.ListComp elt [⟨target, iter, ifs, 0⟩] scope pos) spos) (tAsg (tComp wi k idx g tt te) (gName i)) := by
  intro pins s σ H D I h
  rw [exec_Assign_Name_used _ _ _ _ hsw]
  refine wpAny_bind (wpAny_standAt (wpAny_bind ?_))
  show wpAny _ X.A (do let _ ← comprehension (.ListComp elt [⟨target, iter, ifs, 0⟩] scope pos) scope X.env _ (newList []) false (eval iter X.env) (some (assign (.Name x pos') X.env))) _ _ s
  refine wpAny_bind (wpAny_mono (wpAny_comprehension_free (use := some (assign (.Name x pos') X.env)) (Q := fun _ s' => SP X pins D .next s') rfl hs (closure_eq (S.cells I)) S.kind S.names
    (thn (hi pins s σ H _ I h) fun v s1 h1 => thn h1 fun itv s2 h2 => ?_)) (fun _ s' hq => wpAny_pure (wpAny_pure hq)) fun _ _ e => e)
  obtain ⟨it, fp, tn, J, H2, e, I2, T, st2, f2, w2⟩ := h2
  subst e
  refine comp_block (RR := fun acc C => compPost (model X.prog X.w) X.A X.xe (some (assign (.Name x pos') X.env)) (fun _ s' => SP X pins D .next s') acc C) S hc I2 T st2 f2 (fun C => hg fp C s2 H2) ho (fun C => ht fp C s2 H2) (fun C => he fp C s2 H2) w2 fun D' C s' m ys H' hn I' fC hD q => ?_
  show wpAny _ X.A (assign (.Name x pos') X.env (.ref D')) _ _ s'
  refine wpAny_assign_Name (store_ok2 I' hN hix hx (show RelV (.ref D') (.ref D') from rfl) (fun s3 I3 ⟨a, sb, ha⟩ => ?_) hfn)
  have hCa : C ≠ a := by
    rcases ha with z | z
    · rw [z]; exact fC.2.1
    · exact (fC.2.2.2.2.1 x a z).symm
  refine ⟨m, hn.sameBut sb hCa, fun h'' hs'' => ⟨_, _, I3.turned (t' := s3.toks) (fun b o hb e => (hs''.2 b hb).trans e) fC.1 fC.2.1 fC.2.2.2.1 fC.2.2.2.2.1 fC.2.2.2.2.2, q D' hD⟩⟩
end
theorem comp_list {K : PySem.W.Frag} {a : Addr} {xs : List V} {σ₀ : St} {g : TG} {tt : TT} {te : TE} {R : List V → Hp → Prop} {H : Hp} (Pv : Nat → List V → Hp → Prop) (h0 : Pv 0 [] H) (hz : xs.length ≤ sizeLine)
    (hl : ∀ i ys H, i ≤ xs.length → Pv i ys H → SqL K H a xs ∧ ys.length ≤ i)
    (hs : ∀ i x ys H, xs[i]? = some x → Pv i ys H → g x σ₀ H fun σ2 H2 => tt σ2 H2 fun b H3 => if b = true then te σ2 H3 fun y H4 => Pv (i + 1) (ys ++ [y]) H4 else Pv (i + 1) ys H3)
    (hd : ∀ ys H, Pv xs.length ys H → R ys H) : tCompW (Itl K a) σ₀ g tt te R H := by
  refine ⟨fun i m ys H => m = xs.length - i ∧ i ≤ xs.length ∧ Pv i ys H, ⟨xs.length, by simp, Nat.zero_le _, h0⟩, ?_⟩
  rintro i m ys H ⟨rfl, hi, p⟩
  obtain ⟨q, ql⟩ := hl i ys H hi p
  refine ⟨by omega, ?_⟩
  by_cases hlt : i < xs.length
  · refine .inr ⟨⟨xs, xs[i], q, by simp [hlt]⟩, Pv (i + 1), fun ys' H' p' => ⟨xs.length - (i + 1), by omega, rfl, hlt, p'⟩, fun x H' y => ?_⟩
    obtain ⟨e, y⟩ := y
    subst e
    exact hs i x ys _ (y xs q) p
  · have e : i = xs.length := by omega
    subst e
    exact .inl ⟨⟨xs, q, Nat.le_refl _⟩, hd ys H p⟩
theorem comp_range {lo : Int} {n : Nat} {σ₀ : St} {g : TG} {tt : TT} {te : TE} {R : List V → Hp → Prop} {H : Hp} (Pv : Nat → List V → Hp → Prop) (h0 : Pv 0 [] H) (hz : n ≤ sizeLine)
    (hl : ∀ i ys H, i ≤ n → Pv i ys H → ys.length ≤ i)
    (hs : ∀ i ys H, i < n → Pv i ys H → g (.int (lo + i)) σ₀ H fun σ2 H2 => tt σ2 H2 fun b H3 => if b = true then te σ2 H3 fun y H4 => Pv (i + 1) (ys ++ [y]) H4 else Pv (i + 1) ys H3)
    (hd : ∀ ys H, Pv n ys H → R ys H) : tCompW (Itr lo n) σ₀ g tt te R H := by
  refine ⟨fun i m ys H => m = n - i ∧ i ≤ n ∧ Pv i ys H, ⟨n, by simp, Nat.zero_le _, h0⟩, ?_⟩
  rintro i m ys H ⟨rfl, hi, p⟩
  have ql := hl i ys H hi p
  refine ⟨by omega, ?_⟩
  by_cases hlt : i < n
  · refine .inr ⟨hlt, Pv (i + 1), fun ys' H' p' => ⟨n - (i + 1), by omega, rfl, hlt, p'⟩, fun x H' y => ?_⟩
    obtain ⟨e, y⟩ := y
    subst e y
    exact hs i ys _ hlt p
  · have e : i = n := by omega
    subst e
    exact .inl ⟨Nat.le_refl _, hd ys H p⟩
end L2
namespace L2
open PySem PySem.Spec PyProof.Rows
theorem bt_int : bootBuiltins "int" = some (.type "int") := by decide +kernel
theorem bt_bool : bootBuiltins "bool" = some (.type "bool") := by decide +kernel
theorem bt_str : bootBuiltins "str" = some (.type "str") := by decide +kernel
theorem bt_list : bootBuiltins "list" = some (.type "list") := by decide +kernel
theorem bt_tuple : bootBuiltins "tuple" = some (.type "tuple") := by decide +kernel
theorem bt_len : bootBuiltins "len" = some (.builtin "len") := by decide +kernel
theorem bt_abs : bootBuiltins "abs" = some (.builtin "abs") := by decide +kernel
theorem bt_max : bootBuiltins "max" = some (.builtin "max") := by decide +kernel
theorem bt_min : bootBuiltins "min" = some (.builtin "min") := by decide +kernel
theorem bt_all : bootBuiltins "all" = some (.builtin "all") := by decide +kernel
theorem bt_any : bootBuiltins "any" = some (.builtin "any") := by decide +kernel
theorem bt_isinstance : bootBuiltins "isinstance" = some (.builtin "isinstance") := by decide +kernel
section
variable {X : Cx}
def rAddG : R2 := fun x y H Q => rI0 (fun i j => .int (i + j)) x y H Q ∨ rCat x y H Q
theorem op_addG : OpR X (binaryOp .Add) rAddG := op_add.or op_cat
def rMulG : R2 := fun x y H Q => rI CMul (fun i j => .int (i * j)) x y H Q ∨ rRep x y H Q
theorem op_mulG : OpR X (binaryOp .Mult) rMulG := op_mul.or op_rep
def rSlG (K : PySem.W.Frag) : V → Option Int → Option Int → Hp → VK → Prop := fun x lo hi H Q => rSlL K x lo hi H Q ∨ rSlT K x lo hi H Q
theorem sl_G : SlR X (rSlG X.K) := sl_list.or sl_tup
def EqN (K : PySem.W.Frag) (H : Hp) : Nat → V → V → Bool → Prop
  | 0, x, y, b => flatV x = true ∧ flatV y = true ∧ b = eqV x y
  | n + 1, x, y, b => (flatV x = true ∧ flatV y = true ∧ b = eqV x y) ∨
    ∃ (p q : Addr) (xs ys : List V) (e : Nat → Bool), x = .ref p ∧ y = .ref q ∧ ((SqL K H p xs ∧ SqL K H q ys) ∨ (SqT K H p xs ∧ SqT K H q ys)) ∧
      (∀ (j : Nat) u v, xs[j]? = some u → ys[j]? = some v → EqN K H n u v (e j)) ∧ b = (xs.length == ys.length && (List.range xs.length).all e)
theorem eqV_refl {x : V} (h : flatV x = true) : eqV x x = true := by
  cases x with
  | non => rfl
  | bl b => cases b <;> rfl
  | int i => exact beq_self_eq_true i
  | str z => exact beq_self_eq_true z
  | _ => exact absurd (show false = true from h) Bool.false_ne_true
theorem eqN_refl {pins : List (Addr × Obj)} {σ : St} {H : Hp} {s : Shared} (I : Inv X pins σ H s) : ∀ {n : Nat} {x : V} {b : Bool}, EqN X.K H n x x b → b = true
  | 0, x, b, ⟨h, _, e⟩ => by rw [e]; exact eqV_refl h
  | n + 1, x, b, h => by
    rcases h with ⟨h, _, e⟩ | ⟨p, q, xs, ys, e, e1, e2, hs, he, eb⟩
    · rw [e]; exact eqV_refl h
    · subst e1
      cases e2
      have exy : xs = ys := by
        rcases hs with ⟨h1, h2⟩ | ⟨h1, h2⟩
        · exact I.list_inj h1 h2
        · exact I.tuple_inj h1 h2
      subst exy
      rw [eb, beq_self_eq_true, Bool.true_and, List.all_eq_true]
      intro j hj
      have hj' : j < xs.length := List.mem_range.mp hj
      exact eqN_refl I (he j xs[j] xs[j] (List.getElem?_eq_getElem hj') (List.getElem?_eq_getElem hj'))
theorem eqN_at {pins : List (Addr × Obj)} {σ : St} {H : Hp} {s : Shared} (I : Inv X pins σ H s) : ∀ {n : Nat} {A : Around} {x y : V} {u v : Value} {b : Bool}, A.units + n < cLine → RelV x u → RelV y v → EqN X.K H n x y b → SeqAt.EqAt A s u v b
  | 0, A, x, y, u, v, b, _, rx, ry, ⟨h1, h2, e⟩ => by rw [e]; exact eqAt_V rx ry h1 h2
  | n + 1, A, x, y, u, v, b, hu, rx, ry, h => by
    rcases id h with ⟨h1, h2, e⟩ | ⟨p, q, xs, ys, e, e1, e2, hs, he, eb⟩
    · rw [e]; exact eqAt_V rx ry h1 h2
    · subst e1 e2
      cases rx
      cases ry
      by_cases hpq : p = q
      · subst hpq
        rw [eqN_refl I h]
        exact SeqAt.EqAt.same _
      · refine SeqAt.EqAt.of_refs hpq ?_
        have items : ∀ {us vs : List Value}, Vals xs us → Vals ys vs → ∀ j (h1 : j < us.toArray.size) (h2 : j < vs.toArray.size), SeqAt.EqAt A.in1 s us.toArray[j] vs.toArray[j] (e j) := fun {us vs} r1 r2 j h1 h2 => by
          have l1 := r1.length
          have l2 := r2.length
          rw [List.size_toArray] at h1 h2
          have g1 : xs[j]? = some xs[j] := List.getElem?_eq_getElem (by omega)
          have g2 : ys[j]? = some ys[j] := List.getElem?_eq_getElem (by omega)
          obtain ⟨u', eu, ru⟩ := r1.get g1
          obtain ⟨v', ev, rv⟩ := r2.get g2
          have eu' : us.toArray[j] = u' := by
            rw [List.getElem_toArray]
            exact Option.some.inj ((List.getElem?_eq_getElem h1).symm.trans eu)
          have ev' : vs.toArray[j] = v' := by
            rw [List.getElem_toArray]
            exact Option.some.inj ((List.getElem?_eq_getElem h2).symm.trans ev)
          rw [eu', ev']
          exact eqN_at I (n := n) (by show A.units + 1 + n < cLine; omega) ru rv (he j _ _ g1 g2)
        rcases hs with ⟨h1, h2⟩ | ⟨h1, h2⟩
        · obtain ⟨us, r1, p1, _⟩ := I.list h1
          obtain ⟨vs, r2, p2, _⟩ := I.list h2
          have l1 := r1.length
          have l2 := r2.length
          by_cases hl : xs.length = ys.length
          · rw [eb, hl, beq_self_eq_true, Bool.true_and, ← hl, show xs.length = us.toArray.size by rw [List.size_toArray]; exact l1]
            exact SeqAt.RcAt.lists p1.isList p2.isList (by rw [List.size_toArray, List.size_toArray]; omega) (by omega) (items r1 r2)
          · rw [eb, show (xs.length == ys.length) = false by simpa using hl, Bool.false_and]
            exact SeqAt.RcAt.lists_lengths p1.isList p2.isList (by rw [List.size_toArray, List.size_toArray]; simp; omega) (by omega)
        · obtain ⟨us, r1, p1, _⟩ := I.tuple h1
          obtain ⟨vs, r2, p2, _⟩ := I.tuple h2
          have l1 := r1.length
          have l2 := r2.length
          have q := SeqAt.RcAt.tuples (s := s) (A := A) (l := p) (b := q) (e := e) p1 p2 (by omega) (items r1 r2)
          rw [List.size_toArray, List.size_toArray, ← l1, ← l2] at q
          by_cases hl : xs.length = ys.length
          · rw [eb, hl, beq_self_eq_true, Bool.true_and]
            rw [hl, Nat.min_self, beq_self_eq_true, Bool.and_true] at q
            exact q
          · have hb : (xs.length == ys.length) = false := by simpa using hl
            rw [eb, hb, Bool.false_and]
            rw [hb, Bool.and_false] at q
            exact q
def rEqG (K : PySem.W.Frag) : R2 := fun x y H Q => ∃ b, EqN K H 8 x y b ∧ Q (.bl b) H
def rNeG (K : PySem.W.Frag) : R2 := fun x y H Q => ∃ b, EqN K H 8 x y b ∧ Q (.bl (!b)) H
theorem eqN_items {pins : List (Addr × Obj)} {σ : St} {H : Hp} {s : Shared} {n : Nat} {A : Around} {xs ys : List V} {us vs : List Value} {e : Nat → Bool} (I : Inv X pins σ H s) (hu : A.units + 1 + n < cLine)
    (he : ∀ (j : Nat) u v, xs[j]? = some u → ys[j]? = some v → EqN X.K H n u v (e j)) (r1 : Vals xs us) (r2 : Vals ys vs) : ∀ j (h1 : j < us.toArray.size) (h2 : j < vs.toArray.size), SeqAt.EqAt A.in1 s us.toArray[j] vs.toArray[j] (e j) := fun j h1 h2 => by
  have l1 := r1.length
  have l2 := r2.length
  rw [List.size_toArray] at h1 h2
  have g1 : xs[j]? = some xs[j] := List.getElem?_eq_getElem (by omega)
  have g2 : ys[j]? = some ys[j] := List.getElem?_eq_getElem (by omega)
  obtain ⟨u', eu, ru⟩ := r1.get g1
  obtain ⟨v', ev, rv⟩ := r2.get g2
  have eu' : us.toArray[j] = u' := by
    rw [List.getElem_toArray]
    exact Option.some.inj ((List.getElem?_eq_getElem h1).symm.trans eu)
  have ev' : vs.toArray[j] = v' := by
    rw [List.getElem_toArray]
    exact Option.some.inj ((List.getElem?_eq_getElem h2).symm.trans ev)
  rw [eu', ev']
  exact eqN_at I (n := n) (by show A.units + 1 + n < cLine; omega) ru rv (he j _ _ g1 g2)
theorem rcAt_V {A : Around} {s : Shared} {y x : V} {u v : Value} (ry : RelV y u) (rx : RelV x v) (fy : flatV y = true) (fx : flatV x = true) : SeqAt.RcAt A s u v (eqV y x) := by
  cases y with
  | non =>
    cases ry
    cases x with
    | non => cases rx; exact SeqAt.RcAt.none_none
    | bl b => cases rx; exact SeqAt.RcAt.none_bool b
    | int b => obtain ⟨t, rfl⟩ := rx; exact SeqAt.RcAt.none_int b t
    | str b => obtain ⟨t, rfl⟩ := rx; exact SeqAt.RcAt.none_str b t
    | _ => exact absurd (show false = true from fx) Bool.false_ne_true
  | bl a =>
    cases ry
    cases x with
    | non => cases rx; exact SeqAt.RcAt.bool_none a
    | bl b => cases rx; exact SeqAt.RcAt.bool_bool a b
    | int b => obtain ⟨t, rfl⟩ := rx; exact SeqAt.RcAt.bool_int a b t
    | str b => obtain ⟨t, rfl⟩ := rx; exact SeqAt.RcAt.bool_str a b t
    | _ => exact absurd (show false = true from fx) Bool.false_ne_true
  | int a =>
    obtain ⟨t', rfl⟩ := ry
    cases x with
    | non => cases rx; exact SeqAt.RcAt.int_none a t'
    | bl b => cases rx; exact SeqAt.RcAt.int_bool a t' b
    | int b => obtain ⟨t, rfl⟩ := rx; exact SeqAt.RcAt.int_int a t' b t
    | str b => obtain ⟨t, rfl⟩ := rx; exact SeqAt.RcAt.int_str a t' b t
    | _ => exact absurd (show false = true from fx) Bool.false_ne_true
  | str a =>
    obtain ⟨t', rfl⟩ := ry
    cases x with
    | non => cases rx; exact SeqAt.RcAt.str_none a t'
    | bl b => cases rx; exact SeqAt.RcAt.str_bool a t' b
    | int b => obtain ⟨t, rfl⟩ := rx; exact SeqAt.RcAt.str_int a t' b t
    | str b => obtain ⟨t, rfl⟩ := rx; exact SeqAt.RcAt.str_str a t' b t
    | _ => exact absurd (show false = true from fx) Bool.false_ne_true
  | _ => exact absurd (show false = true from fy) Bool.false_ne_true
theorem rcNeAt_V {A : Around} {s : Shared} {y x : V} {u v : Value} (ry : RelV y u) (rx : RelV x v) (fy : flatV y = true) (fx : flatV x = true) : SeqAt.RcNeAt A s u v (!eqV y x) := by
  cases y with
  | non =>
    cases ry
    cases x with
    | non => cases rx; exact SeqAt.RcNeAt.none_none
    | bl b => cases rx; exact SeqAt.RcNeAt.none_bool b
    | int b => obtain ⟨t, rfl⟩ := rx; exact SeqAt.RcNeAt.none_int b t
    | str b => obtain ⟨t, rfl⟩ := rx; exact SeqAt.RcNeAt.none_str b t
    | _ => exact absurd (show false = true from fx) Bool.false_ne_true
  | bl a =>
    cases ry
    cases x with
    | non => cases rx; exact SeqAt.RcNeAt.bool_none a
    | bl b => cases rx; exact SeqAt.RcNeAt.bool_bool a b
    | int b => obtain ⟨t, rfl⟩ := rx; exact SeqAt.RcNeAt.bool_int a b t
    | str b => obtain ⟨t, rfl⟩ := rx; exact SeqAt.RcNeAt.bool_str a b t
    | _ => exact absurd (show false = true from fx) Bool.false_ne_true
  | int a =>
    obtain ⟨t', rfl⟩ := ry
    cases x with
    | non => cases rx; exact SeqAt.RcNeAt.int_none a t'
    | bl b => cases rx; exact SeqAt.RcNeAt.int_bool a t' b
    | int b => obtain ⟨t, rfl⟩ := rx; exact SeqAt.RcNeAt.int_int a t' b t
    | str b => obtain ⟨t, rfl⟩ := rx; exact SeqAt.RcNeAt.int_str a t' b t
    | _ => exact absurd (show false = true from fx) Bool.false_ne_true
  | str a =>
    obtain ⟨t', rfl⟩ := ry
    cases x with
    | non => cases rx; exact SeqAt.RcNeAt.str_none a t'
    | bl b => cases rx; exact SeqAt.RcNeAt.str_bool a t' b
    | int b => obtain ⟨t, rfl⟩ := rx; exact SeqAt.RcNeAt.str_int a t' b t
    | str b => obtain ⟨t, rfl⟩ := rx; exact SeqAt.RcNeAt.str_str a t' b t
    | _ => exact absurd (show false = true from fx) Bool.false_ne_true
  | _ => exact absurd (show false = true from fy) Bool.false_ne_true
theorem op_eqG (hu : X.A.units + 9 < cLine) : OpR X (compareOp .Eq) (rEqG X.K) := by
  intro pins s σ H x y v u Q I rx ry h
  obtain ⟨b, h, q⟩ := h
  have fin : EP X pins σ Q (.bool b) s := ⟨.bl b, H, I, rfl, q⟩
  rcases h with ⟨h1, h2, e⟩ | ⟨p, l, xs, ys, e, e1, e2, hs, he, eb⟩
  · exact rcAt_V rx ry h1 h2 X.prog X.w X.xe _ (by rw [← e]; exact fin)
  · subst e1 e2
    cases rx
    cases ry
    rcases hs with ⟨h1, h2⟩ | ⟨h1, h2⟩
    · obtain ⟨us, r1, p1, _⟩ := I.list h1
      obtain ⟨vs, r2, p2, _⟩ := I.list h2
      have l1 := r1.length
      have l2 := r2.length
      by_cases hl : xs.length = ys.length
      · refine SeqAt.RcAt.lists p1.isList p2.isList (by rw [List.size_toArray, List.size_toArray]; omega) (by omega) (eqN_items I (n := 7) (A := X.A) (by omega) he r1 r2) X.prog X.w X.xe _ ?_
        rw [List.size_toArray, ← l1]
        rw [eb, hl, beq_self_eq_true, Bool.true_and, ← hl] at fin
        exact fin
      · refine SeqAt.RcAt.lists_lengths p1.isList p2.isList (by rw [List.size_toArray, List.size_toArray]; simp; omega) (by omega) X.prog X.w X.xe _ ?_
        rw [eb, show (xs.length == ys.length) = false by simpa using hl, Bool.false_and] at fin
        exact fin
    · obtain ⟨us, r1, p1, _⟩ := I.tuple h1
      obtain ⟨vs, r2, p2, _⟩ := I.tuple h2
      have l1 := r1.length
      have l2 := r2.length
      refine SeqAt.RcAt.tuples p1 p2 (by omega) (eqN_items I (n := 7) (A := X.A) (by omega) he r1 r2) X.prog X.w X.xe _ ?_
      rw [List.size_toArray, List.size_toArray, ← l1, ← l2]
      rw [eb] at fin
      by_cases hl : xs.length = ys.length
      · rw [hl, beq_self_eq_true, Bool.true_and] at fin
        rw [hl, Nat.min_self, beq_self_eq_true, Bool.and_true]
        exact fin
      · have hb : (xs.length == ys.length) = false := by simpa using hl
        rw [hb, Bool.false_and] at fin
        rw [hb, Bool.and_false]
        exact fin
theorem op_neG (hu : X.A.units + 9 < cLine) : OpR X (compareOp .NotEq) (rNeG X.K) := by
  intro pins s σ H x y v u Q I rx ry h
  obtain ⟨b, h, q⟩ := h
  have fin : EP X pins σ Q (.bool (!b)) s := ⟨.bl (!b), H, I, rfl, q⟩
  rcases h with ⟨h1, h2, e⟩ | ⟨p, l, xs, ys, e, e1, e2, hs, he, eb⟩
  · exact rcNeAt_V rx ry h1 h2 X.prog X.w X.xe _ (by rw [← e]; exact fin)
  · subst e1 e2
    cases rx
    cases ry
    rcases hs with ⟨h1, h2⟩ | ⟨h1, h2⟩
    · obtain ⟨us, r1, p1, _⟩ := I.list h1
      obtain ⟨vs, r2, p2, _⟩ := I.list h2
      have l1 := r1.length
      have l2 := r2.length
      by_cases hl : xs.length = ys.length
      · refine SeqAt.RcNeAt.lists p1.isList p2.isList (by rw [List.size_toArray, List.size_toArray]; omega) (by omega) (eqN_items I (n := 7) (A := X.A) (by omega) he r1 r2) X.prog X.w X.xe _ ?_
        rw [List.size_toArray, ← l1]
        rw [eb, hl, beq_self_eq_true, Bool.true_and, ← hl] at fin
        exact fin
      · refine SeqAt.RcNeAt.lists_lengths p1.isList p2.isList (by rw [List.size_toArray, List.size_toArray]; simp; omega) (by omega) X.prog X.w X.xe _ ?_
        rw [eb, show (xs.length == ys.length) = false by simpa using hl, Bool.false_and] at fin
        exact fin
    · obtain ⟨us, r1, p1, _⟩ := I.tuple h1
      obtain ⟨vs, r2, p2, _⟩ := I.tuple h2
      have l1 := r1.length
      have l2 := r2.length
      refine SeqAt.RcNeAt.tuples p1 p2 (by omega) (eqN_items I (n := 7) (A := X.A) (by omega) he r1 r2) X.prog X.w X.xe _ ?_
      rw [List.size_toArray, List.size_toArray, ← l1, ← l2]
      rw [eb] at fin
      by_cases hl : xs.length = ys.length
      · rw [hl, beq_self_eq_true, Bool.true_and] at fin
        rw [hl, Nat.min_self, beq_self_eq_true, Bool.and_true]
        exact fin
      · have hb : (xs.length == ys.length) = false := by simpa using hl
        rw [hb, Bool.false_and] at fin
        rw [hb, Bool.and_false]
        exact fin
def IsI (K : PySem.W.Frag) (H : Hp) (x : V) (c : V) (b : Bool) : Prop := ∃ t, TyOf K H x t ∧ ((∃ T, c = .ty T ∧ PySem.W.kitOne K t (.type T) = some b) ∨ (∃ C, c = .ref C ∧ PySem.W.kitOne K t (.ref C) = some b))
theorem call_isi : CallR X (.builtin "isinstance") (fun xs H Q => ∃ x c b, xs = [x, c] ∧ IsI X.K H x c b ∧ Q (.bl b) H) := by
  intro pins s σ H xs us Q I r h
  obtain ⟨x, c, b, rfl, ⟨t, ty, hc⟩, q⟩ := h
  obtain ⟨u, w', rfl, rx, ry⟩ := vals2 r
  rcases hc with ⟨T, rfl, e⟩ | ⟨C, rfl, e⟩
  · cases ry
    exact isinst_ok I rx ty e fun tk => ⟨.bl b, H, I.tok _, rfl, q⟩
  · cases ry
    exact isinst_ok I rx ty e fun tk => ⟨.bl b, H, I.tok _, rfl, q⟩
end
end L2
namespace L2
open PySem PySem.Spec PyProof.Rows
section
variable {X : Cx}
def gIx (K : PySem.W.Frag) : V → V → Hp → VK → Prop := fun x y H Q => ∃ p xs i v, x = .ref p ∧ y = .int i ∧ SqL K H p xs ∧ 0 ≤ i ∧ xs[i.toNat]? = some v ∧ Q v H
theorem get_ix : PGet X (gIx X.K) := by
  intro pins s σ H x y v u Q I rx ry h
  obtain ⟨p, xs, i, z, rfl, rfl, hq, h0, he, q⟩ := h
  cases rx
  obtain ⟨t, rfl⟩ := ry
  obtain ⟨its, r, pl, hz⟩ := I.list hq
  obtain ⟨w, ew, rw'⟩ := r.get he
  have hl := r.length
  have hn := line63
  have hi : i.toNat < xs.length := (List.getElem?_eq_some_iff.mp he).1
  exact wpAny_getItem_list pl.isList h0 (by omega) (by simpa using ew) ⟨z, H, I, rw', q⟩
theorem hu9 {k : Nat} {A : Around} (hr : Room k A) : A.units + 9 < cLine := by have := hr.un; omega
end
section
variable {σ : St} {H : Hp} {nx bk ct : St → Hp → Prop} {rt : VK} {Q : VK} {QT : Bool → Hp → Prop} {QA : List V → Hp → Prop} {QG : St → Hp → Prop}
theorem rd_start {t : TS} {D : Ends} {σ σ' : St} (e : σ' = σ) (h : t D σ H) : t D σ' H := e ▸ h
theorem rd_seq {t u : TS} (h : t ⟨u ⟨nx, rt, bk, ct⟩, rt, bk, ct⟩ σ H) : tSeq t u ⟨nx, rt, bk, ct⟩ σ H := h
theorem rd_next (h : nx σ H) : tNext ⟨nx, rt, bk, ct⟩ σ H := h
theorem rd_asg {te : TE} {g : TG} (h : te σ H fun x H1 => g x σ H1 nx) : tAsg te g ⟨nx, rt, bk, ct⟩ σ H := h
theorem rd_drop {te : TE} (h : te σ H fun _ H1 => nx σ H1) : tDrop te ⟨nx, rt, bk, ct⟩ σ H := h
theorem rd_ret {te : TE} (h : te σ H rt) : tRet te ⟨nx, rt, bk, ct⟩ σ H := h
theorem rd_retN (h : rt .non H) : tRetN ⟨nx, rt, bk, ct⟩ σ H := h
theorem rd_break (h : bk σ H) : tBreak ⟨nx, rt, bk, ct⟩ σ H := h
theorem rd_cont (h : ct σ H) : tCont ⟨nx, rt, bk, ct⟩ σ H := h
theorem rd_ifS {c : TT} {t u : TS} (h : c σ H fun b H1 => if b = true then t ⟨nx, rt, bk, ct⟩ σ H1 else u ⟨nx, rt, bk, ct⟩ σ H1) : tIfS c t u ⟨nx, rt, bk, ct⟩ σ H := h
theorem rd_par {i j : Nat} {ta : TA} (h : ta σ H fun vs H1 => ∃ v w, vs = [v, w] ∧ nx ((σ.set i (some v)).set j (some w)) H1) : tPar i j ta ⟨nx, rt, bk, ct⟩ σ H := h
theorem rd_augS {to ti te : TE} {tget : V → V → Hp → VK → Prop} {tip : TIp} {tset : TSet} (h : to σ H fun o H1 => ti σ H1 fun i H2 => tget o i H2 fun x H3 => te σ H3 fun y H4 => tip x y H4 fun z H5 => tset o i z H5 fun H6 => nx σ H6) : tAugS to ti te tget tip tset ⟨nx, rt, bk, ct⟩ σ H := h
theorem rd_for {wi : TI} {g : TG} {tb : TS} (h : wi σ H fun J H1 => ∃ W : Nat → Nat → St → Hp → Prop, (∃ m, W 0 m σ H1) ∧ ∀ i m σ H, W i m σ H →
  (J.stop i H ∧ nx σ H) ∨ (J.go i H ∧ ∃ N : St → Hp → Prop, (∀ σ' H', N σ' H' → ∃ m', m' < m ∧ W (i + 1) m' σ' H') ∧ ∀ x H', J.yld i H x H' → g x σ H' fun σ2 H2 => tb ⟨N, rt, nx, N⟩ σ2 H2)) : tFor wi g tb ⟨nx, rt, bk, ct⟩ σ H := h
theorem rd_gname {i : Nat} {v : V} {σ' : St} (e : σ.set i (some v) = σ') (h : QG σ' H) : gName i v σ H QG := by unfold gName; rw [e]; exact h
theorem rd_gtup {K : PySem.W.Frag} {n : Nat} {t : TGs} {a : Addr} {xs : List V} (h1 : SqT K H a xs) (h2 : xs.length = n) (h : t xs σ H QG) : gTup K n t (.ref a) σ H QG := ⟨a, xs, rfl, h1, h2, h⟩
theorem rd_gnil (h : QG σ H) : gNil [] σ H QG := ⟨rfl, h⟩
theorem rd_gcons {t : TG} {u : TGs} {v : V} {r : List V} (h : t v σ H fun σ' H' => u r σ' H' QG) : gCons t u (v :: r) σ H QG := ⟨v, r, rfl, h⟩
theorem rd_gsub {to ti : TE} {t : TSet} {v : V} (h : to σ H fun o H1 => ti σ H1 fun i H2 => t o i v H2 fun H3 => QG σ H3) : gSub to ti t v σ H QG := h
theorem rd_setL {p : Addr} {xs : List V} {k : Int} {v : V} {j : Nat} {QH : Hp → Prop} (h1 : H p = some (.lst xs)) (h2 : ixN xs.length k = some j) (h : QH (upd H p (.lst (xs.set j v)))) : rSetL (.ref p) (.int k) v H QH := ⟨p, xs, k, j, rfl, rfl, h1, h2, h⟩
theorem rd_gIx {K : PySem.W.Frag} {p : Addr} {xs : List V} {i : Int} {v : V} (h1 : SqL K H p xs) (h0 : 0 ≤ i) (h2 : xs[i.toNat]? = some v) (h : Q v H) : gIx K (.ref p) (.int i) H Q := ⟨p, xs, i, v, rfl, rfl, h1, h0, h2, h⟩
theorem rd_ipI {f : Int → Int → Int} {i j : Int} (h : Q (.int (f i j)) H) : ipI f (.int i) (.int j) H Q := ⟨i, j, rfl, rfl, h⟩
-- expressions
theorem rd_var {i : Nat} {v : V} (e : σ[i]? = some (some v)) (h : Q v H) : tVar i σ H Q := ⟨v, e, h⟩
theorem rd_c {v : V} (h : Q v H) : tC v σ H Q := h
theorem rd_op {r : R2} {ta tb : TE} (h : ta σ H fun x H1 => tb σ H1 fun y H2 => r x y H2 Q) : tOp r ta tb σ H Q := h
theorem rd_un {r : V → Hp → VK → Prop} {ta : TE} (h : ta σ H fun x H1 => r x H1 Q) : tUn r ta σ H Q := h
theorem rd_rI0 {g : Int → Int → V} {i j : Int} (h : Q (g i j) H) : rI0 g (.int i) (.int j) H Q := ⟨i, j, rfl, rfl, h⟩
theorem rd_rI {C : Int → Int → Prop} {g : Int → Int → V} {i j : Int} (c : C i j) (h : Q (g i j) H) : rI C g (.int i) (.int j) H Q := ⟨i, j, rfl, rfl, c, h⟩
theorem rd_rU {g : Int → V} {i : Int} (h : Q (g i) H) : rU g (.int i) H Q := ⟨i, rfl, h⟩
theorem rd_addI {i j : Int} (h : Q (.int (i + j)) H) : rAddG (.int i) (.int j) H Q := .inl ⟨i, j, rfl, rfl, h⟩
theorem rd_addL {l b : Addr} {xs zs : List V} (h1 : H l = some (.lst xs)) (h2 : H b = some (.lst zs)) (hz : xs.length + zs.length ≤ sizeLine) (h : ∀ p, H p = none → Q (.ref p) (upd H p (.lst (xs ++ zs)))) : rAddG (.ref l) (.ref b) H Q := .inr ⟨l, b, xs, zs, rfl, rfl, h1, h2, hz, h⟩
theorem rd_mulI {i j : Int} (c : CMul i j) (h : Q (.int (i * j)) H) : rMulG (.int i) (.int j) H Q := .inl ⟨i, j, rfl, rfl, c, h⟩
theorem rd_eqF {K : PySem.W.Frag} {x y : V} (h1 : flatV x = true) (h2 : flatV y = true) (h : Q (.bl (eqV x y)) H) : rEqG K x y H Q := ⟨_, .inl ⟨h1, h2, rfl⟩, h⟩
theorem rd_neF {K : PySem.W.Frag} {x y : V} (h1 : flatV x = true) (h2 : flatV y = true) (h : Q (.bl (!eqV x y)) H) : rNeG K x y H Q := ⟨_, .inl ⟨h1, h2, rfl⟩, h⟩
theorem rd_ixL {K : PySem.W.Frag} {p : Addr} {xs : List V} {i : Int} {v : V} (h1 : SqL K H p xs) (h2 : atI xs i = some v) (h : Q v H) : rIx K (.ref p) (.int i) H Q := .inl ⟨p, xs, i, v, rfl, rfl, h1, h2, h⟩
theorem rd_ixT {K : PySem.W.Frag} {p : Addr} {xs : List V} {i : Int} {v : V} (h1 : SqT K H p xs) (h2 : atI xs i = some v) (h : Q v H) : rIx K (.ref p) (.int i) H Q := .inr (.inl ⟨p, xs, i, v, rfl, rfl, h1, h2, h⟩)
theorem rd_sl {r : V → Option Int → Option Int → Hp → VK → Prop} {te : TE} {tl th : TO} (h : te σ H fun x H1 => tl σ H1 fun l H2 => th σ H2 fun u H3 => r x l u H3 Q) : tSl r te tl th σ H Q := h
theorem rd_nopart {QO : Option Int → Hp → Prop} (h : QO none H) : tNoPart σ H QO := h
theorem rd_part {t : TE} {QO : Option Int → Hp → Prop} (h : t σ H fun x H1 => ∃ i, x = .int i ∧ QO (some i) H1) : tPart t σ H QO := h
theorem rd_slL {K : PySem.W.Frag} {a : Addr} {xs : List V} {lo hi : Option Int} (h1 : SqL K H a xs) (h : ∀ p, H p = none → Q (.ref p) (upd H p (.lst (cutV xs lo hi)))) : rSlG K (.ref a) lo hi H Q := .inl ⟨a, xs, rfl, h1, h⟩
theorem rd_andV {ta tb : TE} (h : ta σ H fun x H1 => ∃ c, x = .bl c ∧ if c = true then tb σ H1 Q else Q (.bl false) H1) : tAndV ta tb σ H Q := h
theorem rd_orV {ta tb : TE} (h : ta σ H fun x H1 => ∃ c, x = .bl c ∧ if c = true then Q (.bl true) H1 else tb σ H1 Q) : tOrV ta tb σ H Q := h
theorem rd_notV {ta : TE} (h : ta σ H fun x H1 => ∃ c, x = .bl c ∧ Q (.bl (!c)) H1) : tNotV ta σ H Q := h
theorem rd_ifE {t : TT} {ta tb : TE} (h : t σ H fun c H1 => if c = true then ta σ H1 Q else tb σ H1 Q) : tIf t ta tb σ H Q := h
theorem rd_chain {r r' : R2} {ta tb tc : TE} (h : ta σ H fun x H1 => tb σ H1 fun y H2 => r x y H2 fun z H3 => ∃ k, z = .bl k ∧ (if k = true then tc σ H3 fun w' H4 => r' y w' H4 Q else Q (.bl false) H3)) : tChain r r' ta tb tc σ H Q := h
-- tests
theorem rd_test {t : TE} (h : t σ H fun x H' => ∃ k, x = .bl k ∧ QT k H') : tTest t σ H QT := h
theorem rd_tB {t : TE} (h : t σ H fun x H' => ∃ k, x = .bl k ∧ QT k H') : tB t σ H QT := h
theorem rd_and {t u : TT} (h : t σ H fun c H1 => if c = true then u σ H1 QT else QT false H1) : tAnd t u σ H QT := h
theorem rd_or {t u : TT} (h : t σ H fun c H1 => if c = true then QT true H1 else u σ H1 QT) : tOr t u σ H QT := h
theorem rd_not {t : TT} (h : t σ H fun c H1 => QT (!c) H1) : tNot t σ H QT := h
theorem rd_yes (h : QT true H) : tYes σ H QT := h
theorem rd_bl {b : Bool} {P : Bool → Prop} (h : P b) : ∃ k, V.bl b = V.bl k ∧ P k := ⟨b, rfl, h⟩
theorem rd_int1 {i : Int} {P : Int → Prop} (h : P i) : ∃ k, V.int i = V.int k ∧ P k := ⟨i, rfl, h⟩
theorem rd_l1 {i : Int} {P : Int → Prop} (h : P i) : ∃ k, [V.int i] = [V.int k] ∧ P k := ⟨i, rfl, h⟩
theorem rd_l2 {i j : Int} {P : Int → Int → Prop} (h : P i j) : ∃ k l, [V.int i, V.int j] = [V.int k, V.int l] ∧ P k l := ⟨i, j, rfl, h⟩
theorem rd_bl2 {b : Bool} {P : Bool → Prop} {R : Prop} (h : P b) : R ∨ ∃ k, [V.bl b] = [V.bl k] ∧ P k := .inr ⟨b, rfl, h⟩
theorem rd_nil (h : QA [] H) : tNil σ H QA := h
theorem rd_cons {ta : TE} {tr : TA} (h : ta σ H fun x H1 => tr σ H1 fun xs H2 => QA (x :: xs) H2) : tCons ta tr σ H QA := h
theorem rd_tup {t : TA} (h : t σ H fun xs H1 => xs.length ≤ sizeLine ∧ ∀ p, H1 p = none → Q (.ref p) (upd H1 p (.tup xs))) : tTup t σ H Q := h
theorem rd_lst {t : TA} (h : t σ H fun xs H1 => xs.length ≤ sizeLine ∧ ∀ p, H1 p = none → Q (.ref p) (upd H1 p (.lst xs))) : tLst t σ H Q := h
theorem rd_call {sp : Sp} {E : XK} {t : TA} (h : t σ H fun vs H1 => sp vs H1 Q E) : tCall sp [] E t σ H Q := by
  unfold tCall
  simpa only [List.append_nil] using h
theorem rd_cb {r : List V → Hp → VK → Prop} {t : TA} (h : t σ H fun vs H1 => r vs H1 Q) : tCB r t σ H Q := h
theorem rd_comp {wi : TI} {k : Nat} {idx : List Nat} {g : TG} {tt : TT} {te : TE} (h : wi σ H fun J H1 => tCompW J (cσ k idx σ) g tt te (fun ys H' => ∀ p, H' p = none → Q (.ref p) (upd H' p (.lst ys))) H1) : tComp wi k idx g tt te σ H Q := h
theorem rd_iRng1 {ta : TA} {R : It → Hp → Prop} (h : ta σ H fun vs H1 => ∃ j : Int, vs = [.int j] ∧ -(2 ^ 62) ≤ j ∧ j < 2 ^ 62 ∧ R (Itr 0 j.toNat) H1) : iRng1 ta σ H R := h
theorem rd_iRng2 {ta : TA} {R : It → Hp → Prop} (h : ta σ H fun vs H1 => ∃ i j : Int, vs = [.int i, .int j] ∧ (-(2 ^ 62) ≤ i ∧ i < 2 ^ 62 ∧ -(2 ^ 62) ≤ j ∧ j < 2 ^ 62) ∧ R (Itr i (j - i).toNat) H1) : iRng2 ta σ H R := h
theorem rd_size {n : Nat} {P : Prop} (h1 : n ≤ sizeLine) (h : P) : n ≤ sizeLine ∧ P := ⟨h1, h⟩
theorem sz_le {n : Nat} (h : n ≤ 16777216) : n ≤ sizeLine := by rw [sizeLine_eq]; exact h
end
section
variable {A B : Prop} {c : Prop} [Decidable c]
theorem rd_dec (h1 : c → A) (h2 : ¬ c → B) : if decide c = true then A else B := by
  by_cases h : c
  · rw [if_pos (decide_eq_true h)]; exact h1 h
  · rw [if_neg (by simpa using h)]; exact h2 h
theorem rd_bool {b : Bool} (h1 : b = true → A) (h2 : b = false → B) : if b = true then A else B := by
  cases b
  · exact iteF (h2 rfl)
  · exact iteT (h1 rfl)
end
def blkOk (sc : Scope) (NX : List Str) (scope : Scope) (N : List Str) (k : Nat) (idx : List Nat) : Bool :=
  scope.names.all (fun y => !(y.2 == .cell)) && scope.names.all (fun y => !(y.2 == .local) || scope.names.lookup y.1 == some .local) &&
  scope.names.all (fun y => !(y.2 == .free) || (sc.names.lookup y.1 == some .cell || sc.names.lookup y.1 == some .free)) &&
  decide N.Nodup && decide (N.length = k + idx.length) && (List.range idx.length).all fun i =>
    match (N.drop k)[i]?, idx[i]? with
    | some x, some j => decide (NX[j]? = some x) && scope.names.lookup x == some .free
    | _, _ => false
theorem blk_sc {X : Cx} {scope : Scope} {N : List Str} {k : Nat} {idx : List Nat} {sc : Scope} {NX : List Str} (hsc : X.env.scope = sc) (hN : X.N = NX) (hk : scope.kind = .function) (h : blkOk sc NX scope N k idx = true) : BlkScope X scope N k idx := by
  unfold blkOk at h
  simp only [Bool.and_eq_true, decide_eq_true_eq] at h
  obtain ⟨⟨⟨⟨⟨h1, h2⟩, h3⟩, h4⟩, h5⟩, h6⟩ := h
  rw [List.all_eq_true] at h1 h2 h3 h6
  refine ⟨hk, fun y hy e => ?_, fun y hy e => ?_, fun y hy e => ?_, h4, h5, fun i x e => ?_⟩
  · have := h1 y hy
    rw [e] at this
    simp at this
  · have := h2 y hy
    rw [e] at this
    simpa using this
  · have := h3 y hy
    rw [e] at this
    show X.env.scope.names.lookup y.1 = _ ∨ X.env.scope.names.lookup y.1 = _
    rw [hsc]
    simpa using this
  · have hi : i < (N.drop k).length := (List.getElem?_eq_some_iff.mp e).1
    have hi2 : i < idx.length := by rw [List.length_drop] at hi; omega
    have q := h6 i (List.mem_range.mpr hi2)
    rw [e, List.getElem?_eq_getElem hi2] at q
    simp only [Bool.and_eq_true, decide_eq_true_eq] at q
    exact ⟨idx[i], List.getElem?_eq_getElem hi2, by rw [hN]; exact q.1, by simpa using q.2⟩
theorem ne_none {H : Hp} {a b : Addr} {o : HO} (h' : H b = none) (h : H a = some o) : a ≠ b := ne_of_none h h'
theorem Same.at {H H' : Hp} {b : Addr} {o : HO} (e : Same H H') (h : H b = some o) : H' b = some o := e b o h
def Keep (p : Addr) (H H' : Hp) : Prop := ∀ b o, H b = some o → b ≠ p → H' b = some o
theorem Keep.at {p : Addr} {H H' : Hp} {b : Addr} {o : HO} (e : Keep p H H') (h : H b = some o) (n : b ≠ p) : H' b = some o := e b o h n
theorem Same.new {H : Hp} {p : Addr} {o : HO} (h : H p = none) : Same H (upd H p o) := fun b u e => by rw [upd_ne (ne_of_none e h)]; exact e
theorem Keep.upd {H : Hp} {p : Addr} {o : HO} : Keep p H (upd H p o) := fun b u e n => by rw [upd_ne n]; exact e
theorem Keep.trans {p : Addr} {H H1 H2 : Hp} (a : Keep p H H1) (b : Keep p H1 H2) : Keep p H H2 := fun c o h n => b c o (a c o h n) n
theorem Same.keep {p : Addr} {H H' : Hp} (a : Same H H') : Keep p H H' := fun c o h _ => a c o h
end L2
namespace L2
open PySem PySem.Spec PyProof.Rows
section
variable {σ : St} {H : Hp} {nx bk ct : St → Hp → Prop} {rt : VK}
theorem rd_seqJ {t u : TS} (J : St → Hp → Prop) (h1 : ∀ N : St → Hp → Prop, (∀ σ' H', J σ' H' → N σ' H') → t ⟨N, rt, bk, ct⟩ σ H) (h2 : ∀ σ' H', J σ' H' → u ⟨nx, rt, bk, ct⟩ σ' H') : tSeq t u ⟨nx, rt, bk, ct⟩ σ H := h1 _ h2
end
theorem comp_pure {K : PySem.W.Frag} {a : Addr} {xs : List V} {σ₀ : St} {g : TG} {tt : TT} {te : TE} {R : List V → Hp → Prop} {H : Hp} (f : V → V) (hS : SqL K H a xs) (hz : xs.length ≤ sizeLine)
    (hs : ∀ x (N : V → Hp → Prop) (N' : Hp → Prop), x ∈ xs → N (f x) H → g x σ₀ H fun σ2 H2 => tt σ2 H2 fun b H3 => if b = true then te σ2 H3 fun y H4 => N y H4 else N' H3)
    (hd : R (xs.map f) H) : tCompW (Itl K a) σ₀ g tt te R H := by
  refine comp_list (fun i ys H' => H' = H ∧ ys = (xs.take i).map f) ⟨rfl, by simp⟩ hz (fun i ys H' hi ⟨e1, e2⟩ => ?_) (fun i x ys H' hx ⟨e1, e2⟩ => ?_) (fun ys H' ⟨e1, e2⟩ => ?_)
  · subst e1 e2
    exact ⟨hS, by simp; omega⟩
  · subst e1 e2
    refine hs x (fun y H4 => H4 = H' ∧ (xs.take i).map f ++ [y] = (xs.take (i + 1)).map f) (fun H3 => H3 = H' ∧ (xs.take i).map f = (xs.take (i + 1)).map f) (List.mem_of_getElem? hx) ⟨rfl, ?_⟩
    rw [List.take_add_one, hx, List.map_append]
    rfl
  · subst e1 e2
    rw [List.take_length]
    exact hd
theorem pe_gint {X : Cx} {x : Str} {n : Int} {pos : Pos} (hg : Gl X x) (hm : ∃ t, X.mg x = some (.int n t)) (hd : (x == ("__debug__" : Str)) = false := by decide) : PE X (.Name x pos) (tC (.int n)) := by
  obtain ⟨t, hm⟩ := hm
  exact pe_glob (v := .int n) hg hm ⟨t, rfl⟩ hd
section
variable {X : Cx} {K : PySem.W.Frag} {H : Hp} {Q : VK}
def rLen (K : PySem.W.Frag) : List V → Hp → VK → Prop := fun xs H Q => ∃ x n, xs = [x] ∧ LenV K x H n ∧ Q (.int n) H
theorem call_lenG : CallR X (.builtin "len") (rLen X.K) := call_len
theorem rd_lenL {p : Addr} {xs : List V} (h : SqL K H p xs) (q : Q (.int xs.length) H) : rLen K [.ref p] H Q := ⟨_, _, rfl, .inl ⟨_, h, rfl⟩, q⟩
theorem rd_lenT {p : Addr} {xs : List V} (h : SqT K H p xs) (q : Q (.int xs.length) H) : rLen K [.ref p] H Q := ⟨_, _, rfl, .inr ⟨_, h, rfl⟩, q⟩
def rAbs : List V → Hp → VK → Prop := fun xs H Q => ∃ i, xs = [.int i] ∧ Q (.int (if i < 0 then -i else i)) H
theorem call_absG : CallR X (.builtin "abs") rAbs := call_abs
theorem rd_abs {i : Int} (h : Q (.int (if i < 0 then -i else i)) H) : rAbs [.int i] H Q := ⟨i, rfl, h⟩
def rMax : List V → Hp → VK → Prop := fun xs H Q => ∃ i j, xs = [.int i, .int j] ∧ Q (.int (if j > i then j else i)) H
theorem call_maxG (hc : X.calm = true) : CallR X (.builtin "max") rMax := call_max2 hc
theorem rd_max {i j : Int} (h : Q (.int (max i j)) H) : rMax [.int i, .int j] H Q := ⟨i, j, rfl, by
  rw [show (if j > i then j else i) = max i j by split <;> omega]; exact h⟩
def rMin : List V → Hp → VK → Prop := fun xs H Q => ∃ i j, xs = [.int i, .int j] ∧ Q (.int (if j < i then j else i)) H
theorem call_minG (hc : X.calm = true) : CallR X (.builtin "min") rMin := call_min2 hc
theorem rd_min {i j : Int} (h : Q (.int (min i j)) H) : rMin [.int i, .int j] H Q := ⟨i, j, rfl, by
  rw [show (if j < i then j else i) = min i j by split <;> omega]; exact h⟩
def rInt1 : List V → Hp → VK → Prop := fun xs H Q => (∃ i, xs = [.int i] ∧ Q (.int i) H) ∨ ∃ k, xs = [.bl k] ∧ Q (.int (if k then 1 else 0)) H
theorem call_intG : CallR X (.type "int") rInt1 := call_int1
theorem rd_intI {i : Int} (h : Q (.int i) H) : rInt1 [.int i] H Q := .inl ⟨i, rfl, h⟩
theorem rd_intB {b : Bool} (h : Q (.int (if b then 1 else 0)) H) : rInt1 [.bl b] H Q := .inr ⟨b, rfl, h⟩
def rIsi (K : PySem.W.Frag) : List V → Hp → VK → Prop := fun xs H Q => ∃ x c b, xs = [x, c] ∧ IsI K H x c b ∧ Q (.bl b) H
theorem call_isiG : CallR X (.builtin "isinstance") (rIsi X.K) := call_isi
theorem rd_isi {x c : V} {b : Bool} (h1 : IsI K H x c b) (h : Q (.bl b) H) : rIsi K [x, c] H Q := ⟨x, c, b, rfl, h1, h⟩
end
theorem eqN_nil {K : PySem.W.Frag} {H : Hp} {p q : Addr} {xs : List V} (h1 : SqL K H p xs) (h2 : SqL K H q []) : EqN K H 8 (.ref p) (.ref q) xs.isEmpty :=
  .inr ⟨p, q, xs, [], fun _ => true, rfl, rfl, .inl ⟨h1, h2⟩, fun j u v _ e => by simp at e, by cases xs <;> simp⟩
theorem cut_head {xs : List V} {n : Nat} (h : xs.length ≤ n) : cutV xs none (some (n : Int)) = xs := by
  unfold cutV
  rw [HT.sIx_none, HT.sIx_nat, Nat.min_eq_right h, List.drop_zero, Nat.sub_zero, List.take_length]
end L2
namespace L2
open PySem PySem.Spec PyProof.Rows
section
variable {σ : St} {H : Hp} {nx : St → Hp → Prop} {rt : VK} {g : TG} {tb : TS} {Q : VK}
theorem rf_range {lo : Int} {n : Nat} (Pv : Nat → St → Hp → Prop) (h0 : Pv 0 σ H)
    (hs : ∀ i σ H, i < n → Pv i σ H → g (.int (lo + i)) σ H fun σ2 H2 => tb ⟨Pv (i + 1), rt, nx, Pv (i + 1)⟩ σ2 H2) (hd : ∀ σ H, Pv n σ H → nx σ H) :
    ∃ W : Nat → Nat → St → Hp → Prop, (∃ m, W 0 m σ H) ∧ ∀ i m σ H, W i m σ H →
      ((Itr lo n).stop i H ∧ nx σ H) ∨ ((Itr lo n).go i H ∧ ∃ N : St → Hp → Prop, (∀ σ' H', N σ' H' → ∃ m', m' < m ∧ W (i + 1) m' σ' H') ∧ ∀ x H', (Itr lo n).yld i H x H' → g x σ H' fun σ2 H2 => tb ⟨N, rt, nx, N⟩ σ2 H2) :=
  for_range (D := ⟨nx, rt, fun _ _ => False, fun _ _ => False⟩) Pv h0 hs hd
theorem rf_list {K : PySem.W.Frag} {a : Addr} {xs : List V} (Pv : Nat → St → Hp → Prop) (h0 : Pv 0 σ H) (hl : ∀ i σ H, i ≤ xs.length → Pv i σ H → SqL K H a xs)
    (hs : ∀ i x σ H, xs[i]? = some x → Pv i σ H → g x σ H fun σ2 H2 => tb ⟨Pv (i + 1), rt, nx, Pv (i + 1)⟩ σ2 H2) (hd : ∀ σ H, Pv xs.length σ H → nx σ H) :
    ∃ W : Nat → Nat → St → Hp → Prop, (∃ m, W 0 m σ H) ∧ ∀ i m σ H, W i m σ H →
      ((Itl K a).stop i H ∧ nx σ H) ∨ ((Itl K a).go i H ∧ ∃ N : St → Hp → Prop, (∀ σ' H', N σ' H' → ∃ m', m' < m ∧ W (i + 1) m' σ' H') ∧ ∀ x H', (Itl K a).yld i H x H' → g x σ H' fun σ2 H2 => tb ⟨N, rt, nx, N⟩ σ2 H2) :=
  for_list (D := ⟨nx, rt, fun _ _ => False, fun _ _ => False⟩) Pv h0 hl hs hd
theorem rd_eqI {K : PySem.W.Frag} {i j : Int} (h : Q (.bl (decide (i = j))) H) : rEqG K (.int i) (.int j) H Q := ⟨_, .inl ⟨rfl, rfl, rfl⟩, h⟩
theorem rd_neI {K : PySem.W.Frag} {i j : Int} (h : Q (.bl (!decide (i = j))) H) : rNeG K (.int i) (.int j) H Q := ⟨_, .inl ⟨rfl, rfl, rfl⟩, h⟩
end
end L2
namespace L2
open PySem PySem.Spec PyProof.Rows
def noStar : Expr → Bool
  | .Starred _ _ => false
  | _ => true
theorem star_cons {e : Expr} {es : List Expr} {env : Env} (h : noStar e = true) : starEach (e :: es) env = (false, eval e env) :: starEach es env := by
  cases e <;> first | rfl | exact absurd h Bool.false_ne_true
theorem back_any {env : Env} {pos : Pos} : ∀ {es : List Expr}, es.all noStar = true → (backTo pos (starEach es env)).any (·.1) = false
  | [], _ => rfl
  | e :: es, h => by
    rw [List.all_cons, Bool.and_eq_true] at h
    rw [star_cons h.1]
    have ih := back_any (env := env) (pos := pos) h.2
    unfold backTo at ih ⊢
    rw [List.map_cons, List.any_cons]
    rw [ih]
    rfl
section
variable {X : Cx} {CX : CXT} {k : Nat} {f C : Addr} {fd : FuncData} {ps : List Str} {sp : Sp} {dvs : List V} {ds : List Value} {E : XK} {x m : Str} {p pos apos : Pos} {e o : Expr} {es : List Expr} {ta te : TE} {t : TA}
theorem pa_c (ha : PE X e te) (hr : PA X es t) (hs : noStar e = true := by rfl) : PA X (e :: es) (tCons te t) := pa_cons ha hr (star_cons hs)
theorem all_tl {e : Expr} {es : List Expr} (h : (e :: es).all noStar = true) : noStar e = true ∧ es.all noStar = true := by
  rw [List.all_cons, Bool.and_eq_true] at h
  exact h
theorem pe_callN (F : FnOk X.prog X.w X.K X.mg X.base CX k f fd ps sp) (hr : Room k X.A) (hg : Gl X x) (hm : X.mg x = some (.ref f)) (hk : PySem.W.keepIn X.K (.ref f) = true) (hb : Binds X.K fd ps ds) (hd : Vals dvs ds) (hx : Passes CX X E)
    (ha : PA X (e :: es) t) (hn : (e :: es).all noStar = true := by rfl) (hdb : (x == ("__debug__" : Str)) = false := by decide) : PE X (.Call (.Name x p) (e :: es) [] pos) (tCall sp dvs E t) :=
  pe_call F hr hg hm hk hb hd hx ha hdb (star_cons (all_tl hn).1) (back_any (all_tl hn).2)
variable {id T : String} {r : List V → Hp → VK → Prop}
theorem pe_callBN (hc : CallR X (.builtin id) r) (hg : Gl X x) (hm : X.mg x = none) (hv : bootBuiltins x = some (.builtin id)) (ha : PA X (e :: es) t) (hn : (e :: es).all noStar = true := by rfl) (hne : x ≠ "__name__" := by decide) (hdb : (x == ("__debug__" : Str)) = false := by decide) :
    PE X (.Call (.Name x p) (e :: es) [] pos) (tCB r t) := pe_callB hc hg hm hv ha hne hdb (star_cons (all_tl hn).1) (back_any (all_tl hn).2)
theorem pe_callTyN (hc : CallR X (.type T) r) (hg : Gl X x) (hm : X.mg x = none) (hv : bootBuiltins x = some (.type T)) (ha : PA X (e :: es) t) (hn : (e :: es).all noStar = true := by rfl) (hne : x ≠ "__name__" := by decide) (hdb : (x == ("__debug__" : Str)) = false := by decide) :
    PE X (.Call (.Name x p) (e :: es) [] pos) (tCB r t) := pe_callTy hc hg hm hv ha hne hdb (star_cons (all_tl hn).1) (back_any (all_tl hn).2)
variable {tg a b : Expr}
theorem pi_range1N (hg : Gl X "range") (hm : X.mg "range" = none) (ha : PA X [a] t) (hn : noStar a = true := by rfl) : PI X tg (.Call (.Name "range" p) [a] [] pos) (iRng1 t) := pi_range1 hg hm ha (star_cons hn)
end
end L2
namespace L2
open PySem PySem.Spec PyProof.Rows
section
variable {X : Cx} {pos : Pos} {x1 : Nat} {e1 e2 e3 e4 e5 e6 e7 e8 : Expr} {t1 t2 t3 t4 t5 t6 t7 t8 : TE}
theorem lst1 (h1 : PE X e1 t1) (n1 : noStar e1 = true := by rfl) : PE X (.List [e1] pos) (tLst (tCons t1 tNil)) := pe_lst (pa_c h1 pa_nil n1)
theorem lst2 (h1 : PE X e1 t1) (h2 : PE X e2 t2) (n1 : noStar e1 = true := by rfl) (n2 : noStar e2 = true := by rfl) : PE X (.List [e1, e2] pos) (tLst (tCons t1 (tCons t2 tNil))) := pe_lst (pa_c h1 (pa_c h2 pa_nil n2) n1)
theorem tup2 {k1} (h1 : PE X e1 t1) (h2 : PE X e2 t2) (n1 : noStar e1 = true := by rfl) (n2 : noStar e2 = true := by rfl) : PE X (.Tuple [e1, e2] k1 pos) (tTup (tCons t1 (tCons t2 tNil))) := pe_tup (pa_c h1 (pa_c h2 pa_nil n2) n1)
theorem lst3 (h1 : PE X e1 t1) (h2 : PE X e2 t2) (h3 : PE X e3 t3) (n1 : noStar e1 = true := by rfl) (n2 : noStar e2 = true := by rfl) (n3 : noStar e3 = true := by rfl) : PE X (.List [e1, e2, e3] pos) (tLst (tCons t1 (tCons t2 (tCons t3 tNil)))) := pe_lst (pa_c h1 (pa_c h2 (pa_c h3 pa_nil n3) n2) n1)
theorem tup3 {k1} (h1 : PE X e1 t1) (h2 : PE X e2 t2) (h3 : PE X e3 t3) (n1 : noStar e1 = true := by rfl) (n2 : noStar e2 = true := by rfl) (n3 : noStar e3 = true := by rfl) : PE X (.Tuple [e1, e2, e3] k1 pos) (tTup (tCons t1 (tCons t2 (tCons t3 tNil)))) := pe_tup (pa_c h1 (pa_c h2 (pa_c h3 pa_nil n3) n2) n1)
theorem lst4 (h1 : PE X e1 t1) (h2 : PE X e2 t2) (h3 : PE X e3 t3) (h4 : PE X e4 t4) (n1 : noStar e1 = true := by rfl) (n2 : noStar e2 = true := by rfl) (n3 : noStar e3 = true := by rfl) (n4 : noStar e4 = true := by rfl) : PE X (.List [e1, e2, e3, e4] pos) (tLst (tCons t1 (tCons t2 (tCons t3 (tCons t4 tNil))))) := pe_lst (pa_c h1 (pa_c h2 (pa_c h3 (pa_c h4 pa_nil n4) n3) n2) n1)
theorem tup5 {k1} (h1 : PE X e1 t1) (h2 : PE X e2 t2) (h3 : PE X e3 t3) (h4 : PE X e4 t4) (h5 : PE X e5 t5) (n1 : noStar e1 = true := by rfl) (n2 : noStar e2 = true := by rfl) (n3 : noStar e3 = true := by rfl) (n4 : noStar e4 = true := by rfl) (n5 : noStar e5 = true := by rfl) : PE X (.Tuple [e1, e2, e3, e4, e5] k1 pos) (tTup (tCons t1 (tCons t2 (tCons t3 (tCons t4 (tCons t5 tNil)))))) := pe_tup (pa_c h1 (pa_c h2 (pa_c h3 (pa_c h4 (pa_c h5 pa_nil n5) n4) n3) n2) n1)
end
end L2
namespace L2
open PySem PySem.Spec PyProof.Rows
section
variable {X : Cx} {pins : List (Addr × Obj)} {σ : St} {H : Hp} {s : Shared} {h' : Heap}
theorem Inv.turnedNew {t' : Nat} {ch : List Addr} {T : Addr} {o : HO} (I : Inv X pins σ H s) (k : ∀ b u, b ∉ ch → s.heap.get? b = some u → h'.get? b = some u)
    (hch : ∀ b ∈ ch, FpOk X pins H b) (hT : s.heap.objs.size ≤ T) (new : ObjOk X.prog X.w (upd H T o) h' T o) : Inv X pins σ (upd H T o) { s with heap := h', toks := t' } := by
  have hn : H T = none := I.hok.fresh hT
  have nit : ∀ b u, H b = some u → b ∉ ch := fun b u e z => by rw [(hch b z).1] at e; cases e
  have neT : ∀ b u, H b = some u → b ≠ T := fun b u e => ne_of_none e hn
  refine I.step (g' := s.gens) (d' := s.drawn) (ch := ch) (fun b hb => ?_) (fun b u _ _ hc e _ => k b u hc e) (fun b u _ _ hc e _ => ⟨u.slots, k b u hc e⟩) (fun b u hc e n => ?_)
    (fun b u hc e => ⟨u, k b u hc e⟩) (fun b xs e => ?_) (fun b u v e => ?_) (fun b ps e => ⟨#[], ?_⟩) (fun m hm => ?_) (fun b u e => ?_) I.bare
  · obtain ⟨f0, f1, f2, f3, f4, f5⟩ := hch b hb
    exact ⟨f3, f1, f4, f5⟩
  · rw [upd_ne (Nat.ne_of_lt (Nat.lt_of_lt_of_le (Heap.lt_size e) hT))]; exact n
  · rw [upd_ne (neT _ _ e)]; exact e
  · rw [upd_ne (neT _ _ e)]; exact e
  · rw [upd_ne (neT _ _ e), e]; simp
  · obtain ⟨u, es, ep, ho, r⟩ := hm
    exact ⟨u, es, ep, k _ u (fun z => (hch _ z).2.1 rfl) ho, r⟩
  · by_cases hb : b = T
    · subst hb; rw [upd_same] at e; cases e; exact new
    · rw [upd_ne hb] at e
      refine (I.hok b u e).stay (fun c v hc q => k c v ?_ q) (fun c q => by rw [upd_ne (ne_of_none q hn)]; exact q) fun c xs _ q => by rw [upd_ne (ne_of_none q hn)]; exact q
      rcases hc with z | z
      · rw [z]; exact nit b u e
      · exact nit c _ z
end
def Ite (K : PySem.W.Frag) (a : Addr) : It :=
  ⟨fun i H => ∃ xs x, SqL K H a xs ∧ xs[i]? = some x, fun i H x H' => ∃ T v, H T = none ∧ x = .ref T ∧ H' = upd H T (.tup [.int i, v]) ∧ ∀ xs, SqL K H a xs → xs[i]? = some v, fun i H => ∃ xs, SqL K H a xs ∧ xs.length ≤ i⟩
section
variable {X : Cx} {elts : List Expr} {x1 : Nat} {tp : Pos}
def iEnum (K : PySem.W.Frag) (ta : TA) : TI := fun σ H R => ta σ H fun vs H1 => ∃ a, vs = [.ref a] ∧ (∃ xs, SqL K H1 a xs) ∧ R (Ite K a) H1
end
section
variable {σ : St} {H : Hp} {nx : St → Hp → Prop} {rt : VK} {g : TG} {tb : TS} {Q : VK} {K : PySem.W.Frag}
def EnQ (K : PySem.W.Frag) (R : It → Hp → Prop) : List V → Hp → Prop := fun vs H1 => ∃ a, vs = [.ref a] ∧ (∃ xs, SqL K H1 a xs) ∧ R (Ite K a) H1
def LiQ (K : PySem.W.Frag) (R : It → Hp → Prop) : V → Hp → Prop := fun x H1 => ∃ a, x = .ref a ∧ (∃ xs, SqL K H1 a xs) ∧ R (Itl K a) H1
def TiQ (K : PySem.W.Frag) (R : It → Hp → Prop) : V → Hp → Prop := fun x H1 => ∃ a, x = .ref a ∧ (∃ xs, SqT K H1 a xs) ∧ R (Itt K a) H1
theorem rd_iEnum {ta : TA} {R : It → Hp → Prop} (h : ta σ H (EnQ K R)) : iEnum K ta σ H R := h
theorem rd_iListQ {tl : TE} {R : It → Hp → Prop} (h : tl σ H (LiQ K R)) : iList K tl σ H R := h
theorem rd_iTupQ {tl : TE} {R : It → Hp → Prop} (h : tl σ H (TiQ K R)) : iTup K tl σ H R := h
theorem rd_li {a : Addr} {xs : List V} {R : It → Hp → Prop} (h1 : SqL K H a xs) (h : R (Itl K a) H) : LiQ K R (.ref a) H := ⟨a, rfl, ⟨xs, h1⟩, h⟩
end
section
variable {X : Cx}
theorem vals_bools : ∀ {bs : List Bool} {us : List Value}, Vals (bs.map V.bl) us → us = bs.map Value.bool
  | [], _, .nil => rfl
  | b :: bs, _, .cons r t => by cases r; rw [vals_bools t]; rfl
def rAll (K : PySem.W.Frag) : List V → Hp → VK → Prop := fun xs H Q => ∃ (p : Addr) (bs : List Bool), xs = [.ref p] ∧ SqL K H p (bs.map V.bl) ∧ Q (.bl (bs.all id)) H
theorem call_allG (hc : X.calm = true) : CallR X (.builtin "all") (rAll X.K) := by
  intro pins s σ H xs us Q I r h
  obtain ⟨p, bs, rfl, hq, q⟩ := h
  obtain ⟨u, rfl, rx⟩ := vals1 r
  cases rx
  obtain ⟨its, r', pl, hz⟩ := I.list hq
  have e := vals_bools r'
  subst e
  have hl := pl.isList
  have hlt : p < s.heap.objs.size := by obtain ⟨_, e, _⟩ := id hl; exact Heap.lt_size e
  refine call_all_walk (wpAny_pyIter_list hl ?_)
  refine ⟨s.heap.objs.size, [s.heap.objs.size, p], [s.heap.objs.size], (bs.map Value.bool).toArray.size, _, _, fun i => (bs[i]?).getD true, rfl, Walks.list (A := X.A.in1) (I.ok.hd hc) _ p (Nat.ne_of_lt hlt) (bs.map Value.bool).toArray,
    ⟨⟨_, Heap.get?_push_size _ rfl, rfl, rfl⟩, hl.push _⟩, fun i v s' Q' E' hP hQ => ?_, fun h' tk hk => ?_⟩
  · have hP' : (bs.map Value.bool)[i]? = some v := by simpa using hP
    rw [List.getElem?_map] at hP'
    cases hb : bs[i]? with
    | none => rw [hb] at hP'; cases hP'
    | some b =>
      rw [hb] at hP'
      cases hP'
      simp only [hb, Option.getD_some] at hQ
      exact wpAny_truthy_bool hQ
  · have e : ((List.range (bs.map Value.bool).toArray.size).all fun i => (bs[i]?).getD true) = bs.all id := by
      rw [List.size_toArray, List.length_map]; exact LSm.range_all bs
    rw [e]
    exact ⟨.bl _, H, I.kept (t' := tk) (LSm.kept_iter hk), rfl, q⟩
theorem rd_all {K : PySem.W.Frag} {H : Hp} {Q : VK} {p : Addr} {bs : List Bool} (h1 : SqL K H p (bs.map V.bl)) (h : Q (.bl (bs.all id)) H) : rAll K [.ref p] H Q := ⟨p, bs, rfl, h1, h⟩
end
section
variable {X : Cx} {e st : Expr} {te : TE} {ts : TO} {pos p2 : Pos}
end
section
variable {X : Cx} {o e : Expr} {to : TE} {t : TA} {apos cpos : Pos}
theorem pe_app (ho : PE X o to) (ha : PA X [e] t) (hn : noStar e = true := by rfl) (hbase : attributeBase o "append" X.env (eval o X.env) = eval o X.env := by rfl) (hline : (apos.endLine == cpos.line) = true := by rfl) :
    PE X (.Call (.Attribute o "append" apos) [e] [] cpos) (tBM X.K "list" rAppend to t) :=
  pe_bm PySem.F.plainAttrs_list PySem.F.slot_list_append PySem.F.type_list_append mt_append ho ha hbase (by rw [star_cons hn]; rfl) hline (star_cons hn) (by rfl)
end
section
variable {K : PySem.W.Frag} {σ : St} {H : Hp} {Q : VK}
theorem rd_bm {T : String} {r : V → List V → Hp → VK → Prop} {to : TE} {t : TA} (h : to σ H fun x H1 => tyV K T x H1 ∧ t σ H1 fun xs H2 => r x xs H2 Q) : tBM K T r to t σ H Q := h
theorem rd_tyL {p : Addr} {xs : List V} {P : Prop} (h : SqL K H p xs) (q : P) : tyV K "list" (.ref p) H ∧ P := ⟨.inl ⟨rfl, xs, h⟩, q⟩
theorem rd_app {l : Addr} {xs : List V} {y : V} (h : H l = some (.lst xs)) (hz : xs.length < sizeLine) (q : Q .non (upd H l (.lst (xs ++ [y])))) : rAppend (.ref l) [y] H Q := ⟨l, xs, y, rfl, rfl, h, hz, q⟩
end
end L2
namespace L2
open PySem PySem.Spec PyProof.Rows
section
variable {K : PySem.W.Frag} {σ : St} {H : Hp} {Q : VK} {nx bk ct : St → Hp → Prop} {rt : VK}
theorem iteNT {A B : Prop} (h : B) : if (!true) = true then A else B := iteF h
theorem iteNF {A B : Prop} (h : A) : if (!false) = true then A else B := iteT h
theorem iteGF {A B : Prop} {b : Bool} (e : b = false) (h : B) : if b = true then A else B := by rw [e]; exact iteF h
theorem iteGT {A B : Prop} {b : Bool} (e : b = true) (h : A) : if b = true then A else B := by rw [e]; exact iteT h
theorem bools_of : ∀ {xs : List V}, (∀ x ∈ xs, x = .bl true) → xs = (List.replicate xs.length true).map V.bl
  | [], _ => rfl
  | x :: xs, h => by
    rw [List.length_cons, List.replicate_succ, List.map_cons, ← bools_of (fun y hy => h y (List.mem_cons_of_mem _ hy)), h x (List.mem_cons_self ..)]
theorem rd_allT {p : Addr} {xs : List V} (h1 : SqL K H p xs) (h2 : ∀ x ∈ xs, x = .bl true) (h : Q (.bl true) H) : rAll K [.ref p] H Q := by
  refine ⟨p, List.replicate xs.length true, rfl, ?_, ?_⟩
  · rw [← bools_of h2]; exact h1
  · rw [show (List.replicate xs.length true).all id = true by simp]; exact h
end
end L2
namespace L2
open PySem PySem.Spec PyProof.Rows
section
variable {X : Cx} {pins : List (Addr × Obj)} {σ : St} {H : Hp} {s : Shared} {A : Around} {E : Value → Shared → Prop} {Q : Value → Shared → Prop} {b : Bool}
theorem isinstT_ok {tp : Addr} {dd : Option Addr} {its : List Value} {nn : Nat} {sl : Array (Option Value)} {x : V} {u t : Value} (I : Inv X pins σ H s) (rx : RelV x u) (ty : TyOf X.K H x t) (htp : s.heap.get? tp = some ⟨.type "tuple", dd, .seq its.toArray nn, sl⟩) (e : PySem.W.kitAny X.K t its = some b) (h : ∀ tk, Q (.bool b) { s with toks := tk }) :
    wpAny (model X.prog X.w) A (call (.builtin "isinstance") [u, .ref tp]) Q E s := by
  cases ty with
  | non => cases (show u = Value.none from rx); exact PySem.W.kia_tup PySem.W.kitx_none I.kIn True.intro htp e (fun z => nomatch z) h
  | bl y => cases (show u = Value.bool y from rx); exact PySem.W.kia_tup PySem.W.kitx_bool I.kIn True.intro htp e (fun z => nomatch z) h
  | int i => obtain ⟨t, q⟩ := (show ∃ t, u = Value.int i t from rx); cases q; exact PySem.W.kia_tup PySem.W.kitx_int I.kIn True.intro htp e (fun z => nomatch z) h
  | str y => obtain ⟨t, q⟩ := (show ∃ t, u = Value.str y t from rx); cases q; exact PySem.W.kia_tup PySem.W.kitx_str I.kIn True.intro htp e (fun z => nomatch z) h
  | flt y => obtain ⟨t, q⟩ := (show ∃ t, u = Value.float y t from rx); cases q; exact PySem.W.kia_tup PySem.W.kitx_float I.kIn True.intro htp e (fun z => nomatch z) h
  | @lst a xs ea =>
    cases (show u = Value.ref a from rx)
    obtain ⟨_, _, n, _, h1⟩ := (show ObjOk X.prog X.w H s.heap a (.lst xs) from I.hok a _ ea)
    exact PySem.W.kia_tup PySem.W.kitx_list I.kIn ⟨_, h1, rfl⟩ htp e (fun z => nomatch z) h
  | @frz a ob xs ea =>
    cases (show u = Value.ref a from rx)
    obtain ⟨_, _, _, n, _, h1⟩ := (show ObjOk X.prog X.w H s.heap a (.frz ob (.lst xs)) from I.hok a _ ea)
    exact PySem.W.kia_tup PySem.W.kitx_list I.kIn ⟨_, h1, rfl⟩ htp e (fun z => nomatch z) h
  | @tup a xs ea =>
    cases (show u = Value.ref a from rx)
    obtain ⟨_, _, _, p⟩ := (show ObjOk X.prog X.w H s.heap a (.tup xs) from I.hok a _ ea)
    obtain ⟨o, h1, h2, _⟩ := p
    exact PySem.W.kia_tup PySem.W.kitx_tuple I.kIn ⟨o, h1, h2⟩ htp e (fun z => nomatch z) h
  | @dK a kvs ea =>
    cases (show u = Value.ref a from rx)
    obtain ⟨_, _, vs, _, p⟩ := (show ObjOk X.prog X.w H s.heap a (.dK kvs) from I.hok a _ ea)
    obtain ⟨o, es, ep, h1, h2, _⟩ := p
    exact PySem.W.kia_tup PySem.W.kitx_dict I.kIn ⟨o, h1, h2.1⟩ htp e (fun z => nomatch z) h
  | @dT a kvs ea =>
    cases (show u = Value.ref a from rx)
    obtain ⟨_, _, xs, _, o, es, ep, h1, h2, _⟩ := (show ObjOk X.prog X.w H s.heap a (.dT kvs) from I.hok a _ ea)
    exact PySem.W.kia_tup PySem.W.kitx_dict I.kIn ⟨o, h1, h2.1⟩ htp e (fun z => nomatch z) h
  | @ins a C dx fs ea cl ha hn htk hm =>
    cases (show u = Value.ref a from rx)
    obtain ⟨mA, O, _⟩ := ins_get I.hok ea
    obtain ⟨od, J, _⟩ := O.look
    exact PySem.W.kia_tup (PySem.W.kitx_own (cl.get _) cl.hd ha hn htk hm) I.kIn J htp e (fun z => nomatch z) h
end
section
variable {X : Cx} {K : PySem.W.Frag} {H : Hp} {Q : VK}
theorem vals_types : ∀ {Ts : List String} {us : List Value}, Vals (Ts.map V.ty) us → us = Ts.map Value.type
  | [], _, .nil => rfl
  | T :: Ts, _, .cons r t => by cases r; rw [vals_types t]; rfl
def rIsiT (K : PySem.W.Frag) : List V → Hp → VK → Prop := fun xs H Q => ∃ (x : V) (p : Addr) (Ts : List String) (t : Value) (b : Bool), xs = [x, .ref p] ∧ H p = some (.tup (Ts.map V.ty)) ∧ TyOf K H x t ∧ PySem.W.kitAny K t (Ts.map Value.type) = some b ∧ Q (.bl b) H
theorem call_isiT : CallR X (.builtin "isinstance") (rIsiT X.K) := by
  intro pins s σ H xs us Q I r h
  obtain ⟨x, p, Ts, t, b, rfl, hp, ty, e, q⟩ := h
  obtain ⟨u, w', rfl, rx, ry⟩ := vals2 r
  cases ry
  obtain ⟨hz, its, rv, ⟨o, ho, hc, n, hd⟩⟩ := (show ObjOk X.prog X.w H s.heap p (.tup (Ts.map V.ty)) from I.hok p _ hp)
  have ei := vals_types rv
  subst ei
  obtain ⟨oc, od, odt, osl⟩ := o
  replace hc : oc = .type "tuple" := hc
  replace hd : odt = .seq (Ts.map Value.type).toArray n := hd
  subst hc hd
  exact isinstT_ok I rx ty ho e fun tk => ⟨.bl b, H, I.tok _, rfl, q⟩
theorem rd_isiT {x : V} {p : Addr} {Ts : List String} {t : Value} {b : Bool} (hp : H p = some (.tup (Ts.map V.ty))) (ty : TyOf K H x t) (e : PySem.W.kitAny K t (Ts.map Value.type) = some b) (h : Q (.bl b) H) : rIsiT K [x, .ref p] H Q := ⟨x, p, Ts, t, b, rfl, hp, ty, e, h⟩
def isB : V → V → Option Bool
  | .non, .non => some true
  | .bl a, .bl b => some (a == b)
  | .bl _, .non => some false
  | .int _, .non => some false
  | .str _, .non => some false
  | .ref _, .non => some false
  | _, _ => none
def rIs : R2 := fun x y H Q => ∃ b, isB x y = some b ∧ Q (.bl b) H
def rIsNot : R2 := fun x y H Q => ∃ b, isB x y = some b ∧ Q (.bl (!b)) H
theorem op_isG : OpR X (compareOp .Is) rIs := by
  intro pins s σ H x y v u Q I rx ry h
  obtain ⟨b, e, q⟩ := h
  have fin : EP X pins σ Q (.bool b) s := ⟨.bl b, H, I, rfl, q⟩
  cases x with
  | non => cases y with
    | non => cases e; cases rx; cases ry; exact is_none_gen fin
    | _ => cases e
  | bl a => cases y with
    | bl c => cases e; cases rx; cases ry; exact is_bool fin
    | non => cases e; cases rx; cases ry; exact is_none_gen fin
    | _ => cases e
  | int i => cases y with
    | non => cases e; obtain ⟨t, rfl⟩ := rx; cases ry; exact is_none_gen fin
    | _ => cases e
  | str i => cases y with
    | non => cases e; obtain ⟨t, rfl⟩ := rx; cases ry; exact is_none_gen fin
    | _ => cases e
  | ref i => cases y with
    | non => cases e; cases rx; cases ry; exact is_none_gen fin
    | _ => cases e
  | _ => cases y <;> cases e
theorem rd_is {x y : V} {b : Bool} (e : isB x y = some b) (h : Q (.bl b) H) : rIs x y H Q := ⟨b, e, h⟩
theorem rd_isNot {x y : V} {b : Bool} (e : isB x y = some b) (h : Q (.bl (!b)) H) : rIsNot x y H Q := ⟨b, e, h⟩
end
end L2
namespace L2
open PySem PySem.Spec PyProof.Rows
section
variable {X : Cx}
end
end L2
namespace L2
open PySem PySem.Spec PyProof.Rows
section
variable {prog : Program} {w : World} {A : Around} {E : Value → Shared → Prop}
end
section
variable {X : Cx} {pos : Pos}
end
end L2
namespace L2
open PySem PySem.Spec PyProof.Rows
section
variable {X : Cx}
def rRng : List V → Hp → VK → Prop := fun xs H Q => ∃ i j : Int, xs = [.int i, .int j] ∧ ∀ p, H p = none → Q (.ref p) (upd H p (.rng i j))
theorem rd_rng {H : Hp} {Q : VK} {i j : Int} (h : ∀ p, H p = none → Q (.ref p) (upd H p (.rng i j))) : rRng [.int i, .int j] H Q := ⟨i, j, rfl, h⟩
end
section
variable {X : Cx} {pins : List (Addr × Obj)} {σ : St} {H : Hp} {s : Shared} {h' : Heap}
theorem Inv.turnedAll {t' : Nat} {ch : List Addr} (I : Inv X pins σ H s) (k : ∀ b u, b ∉ ch → s.heap.get? b = some u → h'.get? b = some u)
    (hch : ∀ b ∈ ch, FpOk X pins H b) : Inv X pins σ H { s with heap := h', toks := t' } := by
  have nit : ∀ b u, H b = some u → b ∉ ch := fun b u e z => by rw [(hch b z).1] at e; cases e
  refine I.step (g' := s.gens) (d' := s.drawn) (ch := ch) (fun b hb => ?_) (fun b u _ _ hc e _ => k b u hc e) (fun b u _ _ hc e _ => ⟨u.slots, k b u hc e⟩) (fun b u hc e n => n)
    (fun b u hc e => ⟨u, k b u hc e⟩) (fun b xs e => e) (fun b u v e => e) (fun b ps e => ⟨#[], by rw [e]; simp⟩) (fun m hm => ?_) (fun b u e => ?_) I.bare
  · obtain ⟨f0, f1, f2, f3, f4, f5⟩ := hch b hb
    exact ⟨f3, f1, f4, f5⟩
  · obtain ⟨u, es, ep, ho, r⟩ := hm
    exact ⟨u, es, ep, k _ u (fun z => (hch _ z).2.1 rfl) ho, r⟩
  · refine (I.hok b u e).stay (fun c v hc q => k c v ?_ q) (fun c q => q) fun c xs _ q => q
    rcases hc with z | z
    · rw [z]; exact nit b u e
    · exact nit c _ z
end
structure Z5 (z TI TO i1 i2 : Addr) : Prop where
  TIz : TI ≠ z
  TOz : TO ≠ z
  i1z : i1 ≠ z
  i2z : i2 ≠ z
  TITO : TI ≠ TO
  TIi1 : TI ≠ i1
  TIi2 : TI ≠ i2
  TOi1 : TO ≠ i1
  TOi2 : TO ≠ i2
  i12 : i1 ≠ i2
theorem Z5.apart {z TI TO i1 i2 l1 l2 : Addr} (d : Z5 z TI TO i1 i2) {h : Heap} {f0 a b : Value} {k1 k2 : Nat} {m1 m2 : Addr} {xs ys : Array Value} (hz : IsZip h z TI TO f0) (hTO : IsPair h TO a b) (h1 : h.IsListIter i1 m1 k1) (h2 : h.IsListIter i2 m2 k2)
    (hl1 : h.IsList l1 xs) (hl2 : h.IsList l2 ys) : ZipApart z TI TO i1 i2 l1 l2 := by
  have key : ∀ {l : Addr} {vs : Array Value}, h.IsList l vs → l ≠ z ∧ l ≠ TO ∧ l ≠ i1 ∧ l ≠ i2 := fun {l vs} hl => by
    obtain ⟨o, ho, hc, n, hd⟩ := hl
    refine ⟨fun e => ?_, fun e => ?_, fun e => ?_, fun e => ?_⟩
    · rw [e, hz] at ho; cases ho; cases hd
    · rw [e, hTO] at ho
      cases ho
      exact absurd (show Value.type "tuple" = Value.type "list" from hc) (by decide)
    · obtain ⟨o1, e1, c1, d1⟩ := h1
      rw [e, e1] at ho; cases ho; rw [d1] at hd; cases hd
    · obtain ⟨o1, e1, c1, d1⟩ := h2
      rw [e, e1] at ho; cases ho; rw [d1] at hd; cases hd
  obtain ⟨a1, a2, a3, a4⟩ := key hl1
  obtain ⟨b1, b2, b3, b4⟩ := key hl2
  exact ⟨d.TIz, d.TOz, d.i1z, d.i2z, d.TITO, d.TIi1, d.TIi2, d.TOi1, d.TOi2, d.i12, a1, a2, a3, a4, b1, b2, b3, b4⟩
section
variable {X : Cx} {elts : List Expr} {x1 : Nat} {tp : Pos}
theorem bt_zip : bootBuiltins "zip" = some (.type "zip") := by decide +kernel
end
section
variable {σ : St} {H : Hp} {nx : St → Hp → Prop} {rt : VK} {g : TG} {tb : TS} {Q : VK} {K : PySem.W.Frag}
end
end L2
namespace L2
open PySem PySem.Spec PyProof.Rows
section
variable {X : Cx} {e : Expr} {te : TE}
def tPartN (t : TE) : TO := fun σ H Q => t σ H fun x H1 => (x = .non ∧ Q none H1) ∨ ∃ i, x = .int i ∧ Q (some i) H1
theorem rd_partN {σ : St} {H : Hp} {QO : Option Int → Hp → Prop} (h : te σ H fun x H1 => (x = .non ∧ QO none H1) ∨ ∃ i, x = .int i ∧ QO (some i) H1) : tPartN te σ H QO := h
theorem rd_pnN {H : Hp} {QO : Option Int → Hp → Prop} (h : QO none H) : (V.non = .non ∧ QO none H) ∨ ∃ i, V.non = .int i ∧ QO (some i) H := .inl ⟨rfl, h⟩
theorem rd_pnI {H : Hp} {QO : Option Int → Hp → Prop} {i : Int} (h : QO (some i) H) : (V.int i = .non ∧ QO none H) ∨ ∃ j, V.int i = .int j ∧ QO (some j) H := .inr ⟨i, rfl, h⟩
end
end L2
namespace L2.Q
open PySem PySem.Spec PyProof.Rows L2
structure QE (X : Cx) (e : Expr) (t : TE) : Prop where
  h : PE X e t
structure QT (X : Cx) (e : Expr) (t : TT) : Prop where
  h : PT X e t
structure QW (X : Cx) (e : Expr) (t : TT) : Prop where
  h : PW X e t
structure QA (X : Cx) (es : List Expr) (t : TA) : Prop where
  h : PA X es t
structure QS (X : Cx) (st : Stmt) (t : TS) : Prop where
  h : PS X st t
structure QSs (X : Cx) (st : List Stmt) (t : TS) : Prop where
  h : PSs X st t
structure QG (X : Cx) (tg : Expr) (g : TG) : Prop where
  h : PG X tg g
structure QGs (X : Cx) (tg : List Expr) (g : TGs) : Prop where
  h : PGs X tg g
structure QI (X : Cx) (tg it : Expr) (w : TI) : Prop where
  h : PI X tg it w
structure QTs (X : Cx) (ifs : List Expr) (t : TT) : Prop where
  h : PTs X ifs t
structure QO (X : Cx) (o : Option Expr) (t : TO) : Prop where
  h : PO X o t
section
variable {X : Cx} {CX : CXT} {k : Nat} {f C : Addr} {fd : FuncData} {ps : List Str} {sp : Sp} {dvs : List V} {ds : List Value} {E : XK} {x m : Str} {p pos apos p2 spos : Pos} {a b c e o : Expr} {es rest : List Expr} {ta tb tc te to ti : TE} {t : TA} {tA tB tt : TT} {id T : String} {r r' : R2} {rc : List V → Hp → VK → Prop} {st : Stmt} {sts sts2 : List Stmt} {ts us : TS} {g : TG} {gs : TGs} {wi : TI} {tg iter : Expr}
theorem QW.pt {e : Expr} {t : TT} (q : QW X e t) : QT X e t := ⟨q.h.pt⟩
theorem pw_pt {e : Expr} {t : TT} (q : QW X e t) : QT X e t := ⟨q.h.pt⟩
theorem pv (i : Nat) (hN : X.N[i]? = some x := by rfl) (hv : Vis X.env.scope x := by first | exact Or.inl rfl | exact Or.inr (Or.inl rfl) | exact Or.inr (Or.inr rfl)) (hd : (x == ("__debug__" : Str)) = false := by decide)
    (hcd : (x == ("__classdict__" : Str)) = false := by decide) : QE X (.Name x pos) (tVar i) := ⟨pe_var hN hv hd hcd⟩
theorem pe_int {i j} : QE X (.Constant (.int i) j pos) (tC (.int i)) := ⟨L2.pe_int⟩
theorem pe_bl {b j} : QE X (.Constant (.bool b) j pos) (tC (.bl b)) := ⟨L2.pe_bl⟩
theorem pe_non {j} : QE X (.Constant .none j pos) (tC .non) := ⟨L2.pe_non⟩
theorem pe_str {x j} : QE X (.Constant (.str x) j pos) (tC (.str x)) := ⟨L2.pe_str⟩
theorem pe_glob {v : V} {u : Value} (hg : Gl X x) (hm : X.mg x = some u) (r : RelV v u) (hd : (x == ("__debug__" : Str)) = false := by decide) : QE X (.Name x pos) (tC v) := ⟨L2.pe_glob hg hm r hd⟩
theorem pe_gint {n : Int} (hg : Gl X x) (hm : ∃ t, X.mg x = some (.int n t)) (hd : (x == ("__debug__" : Str)) = false := by decide) : QE X (.Name x pos) (tC (.int n)) := ⟨L2.pe_gint hg hm hd⟩
theorem pe_bltn {v : V} {u : Value} (hg : Gl X x) (hm : X.mg x = none) (hv : bootBuiltins x = some u) (r : RelV v u) (hn : x ≠ "__name__" := by decide) (hd : (x == ("__debug__" : Str)) = false := by decide) : QE X (.Name x pos) (tC v) := ⟨L2.pe_bltn hg hm hv r hn hd⟩
theorem pe_op {op : Operator} (ho : OpR X (binaryOp op) r) (ha : QE X a ta) (hb : QE X b tb) : QE X (.BinOp a op b pos) (tOp r ta tb) := ⟨L2.pe_op ho ha.h hb.h⟩
theorem pe_un {op : UnaryOp} {ru : V → Hp → VK → Prop} (ho : UnR X (unaryOp op) ru) (ha : QE X a ta) : QE X (.UnaryOp op a pos) (tUn ru ta) := ⟨L2.pe_un ho ha.h⟩
theorem pe_one {op} (h : QE X a ta) : QE X (.BoolOp op [a] pos) ta := ⟨L2.pe_one h.h⟩
theorem pe_and (ha : QE X a ta) (hb : QE X (.BoolOp .And (b :: rest) pos) tb) : QE X (.BoolOp .And (a :: b :: rest) pos) (tAndV ta tb) := ⟨L2.pe_and ha.h hb.h⟩
theorem pe_ifExp (hc : QT X c tA) (ha : QE X a ta) (hb : QE X b tb) : QE X (.IfExp c a b pos) (tIf tA ta tb) := ⟨L2.pe_ifExp hc.h ha.h hb.h⟩
theorem pe_cmpR {op : CmpOp} (ho : OpR X (compareOp op) r) (ha : QE X a ta) (hb : QE X b tb) (hm : behindInMarks op b = false) : QE X (.Compare a [op] [b] pos) (tOp r ta tb) := ⟨L2.pe_cmpR ho ha.h hb.h hm⟩
theorem pt_cmpR {op : CmpOp} (ho : OpR X (compareOp op) r) (ha : QE X a ta) (hb : QE X b tb) (hm : behindInMarks op b = false) : QT X (.Compare a [op] [b] pos) (tTest (tOp r ta tb)) := ⟨L2.pt_cmpR ho ha.h hb.h hm⟩
theorem pt_val (h : QE X e te) (he : ∀ whole, isTrue e X.env whole = (do let v ← whole; standAt e.pos; holding [v] (truthy v)) := by intro _; rfl) : QT X e (L2.tB te) := ⟨L2.pt_val h.h he⟩
theorem pt_not (ha : QT X a tA) : QT X (.UnaryOp .Not a pos) (tNot tA) := ⟨L2.pt_not ha.h⟩
theorem pw_and1 (ha : QT X a tA) : QW X (.BoolOp .And [a] pos) tA := ⟨L2.pw_and1 ha.h⟩
theorem pw_or1 (ha : QT X a tA) : QW X (.BoolOp .Or [a] pos) tA := ⟨L2.pw_or1 ha.h⟩
theorem pw_and (ha : QT X a tA) (hb : QW X (.BoolOp .And (b :: rest) pos) tB) : QW X (.BoolOp .And (a :: b :: rest) pos) (tAnd tA tB) := ⟨L2.pw_and ha.h hb.h⟩
theorem pw_or (ha : QT X a tA) (hb : QW X (.BoolOp .Or (b :: rest) pos) tB) : QW X (.BoolOp .Or (a :: b :: rest) pos) (tOr tA tB) := ⟨L2.pw_or ha.h hb.h⟩
theorem pa_nil : QA X [] tNil := ⟨L2.pa_nil⟩
theorem pa_c (ha : QE X e te) (hr : QA X es t) (hs : noStar e = true := by rfl) : QA X (e :: es) (tCons te t) := ⟨L2.pa_c ha.h hr.h hs⟩
theorem pe_callN (F : FnOk X.prog X.w X.K X.mg X.base CX k f fd ps sp) (hr : Room k X.A) (hg : Gl X x) (hm : X.mg x = some (.ref f)) (hk : PySem.W.keepIn X.K (.ref f) = true) (hb : Binds X.K fd ps ds) (hd : Vals dvs ds) (hx : Passes CX X E)
    (ha : QA X (e :: es) t) (hn : (e :: es).all noStar = true := by rfl) (hdb : (x == ("__debug__" : Str)) = false := by decide) : QE X (.Call (.Name x p) (e :: es) [] pos) (tCall sp dvs E t) := ⟨L2.pe_callN F hr hg hm hk hb hd hx ha.h hn hdb⟩
theorem pe_callBN (hc : CallR X (.builtin id) rc) (hg : Gl X x) (hm : X.mg x = none) (hv : bootBuiltins x = some (.builtin id)) (ha : QA X (e :: es) t) (hn : (e :: es).all noStar = true := by rfl) (hne : x ≠ "__name__" := by decide) (hdb : (x == ("__debug__" : Str)) = false := by decide) :
    QE X (.Call (.Name x p) (e :: es) [] pos) (tCB rc t) := ⟨L2.pe_callBN hc hg hm hv ha.h hn hne hdb⟩
theorem pe_callTyN (hc : CallR X (.type T) rc) (hg : Gl X x) (hm : X.mg x = none) (hv : bootBuiltins x = some (.type T)) (ha : QA X (e :: es) t) (hn : (e :: es).all noStar = true := by rfl) (hne : x ≠ "__name__" := by decide) (hdb : (x == ("__debug__" : Str)) = false := by decide) :
    QE X (.Call (.Name x p) (e :: es) [] pos) (tCB rc t) := ⟨L2.pe_callTyN hc hg hm hv ha.h hn hne hdb⟩
theorem pe_ix (hr : IxR X r) (ha : QE X a ta) (hb : QE X b tb) (hs : PlainIx b) : QE X (.Subscript a b pos) (tOp r ta tb) := ⟨L2.pe_ix hr ha.h hb.h hs⟩
theorem po_none : QO X none tNoPart := ⟨L2.po_none⟩
theorem po_some (h : QE X e te) : QO X (some e) (tPart te) := ⟨L2.po_some h.h⟩
theorem pe_slice {rs : V → Option Int → Option Int → Hp → VK → Prop} {lo hi : Option Expr} {tl th : TO} (hr : SlR X rs) (he : QE X e te) (hl : QO X lo tl) (hu : QO X hi th) : QE X (.Subscript e (.Slice lo hi none p2) pos) (tSl rs te tl th) := ⟨L2.pe_slice hr he.h hl.h hu.h⟩
theorem pe_lst (h : QA X es t) : QE X (.List es pos) (tLst t) := ⟨L2.pe_lst h.h⟩
theorem pe_tup {k1} (h : QA X es t) : QE X (.Tuple es k1 pos) (tTup t) := ⟨L2.pe_tup h.h⟩
theorem pi_range1N (hg : Gl X "range") (hm : X.mg "range" = none) (ha : QA X [a] t) (hn : noStar a = true := by rfl) : QI X tg (.Call (.Name "range" p) [a] [] pos) (iRng1 t) := ⟨L2.pi_range1N hg hm ha.h hn⟩
theorem pi_list (hl : QE X e te) : QI X tg e (iList X.K te) := ⟨L2.pi_list hl.h⟩
theorem pg_name {i : Nat} (hN : X.N.Nodup) (hi : X.N[i]? = some x) (hx : Loc X.env.scope x) (hf : X.fn x = true ∨ X.env.scope.names.lookup x = some .local := by first | exact .inl rfl | exact .inr rfl | assumption) : QG X (.Name x pos) (gName i) := ⟨L2.pg_name hN hi hx hf⟩
theorem pgs_nil : QGs X [] gNil := ⟨L2.pgs_nil⟩
theorem pgs_cons {e : Expr} {es : List Expr} {t : TG} {u : TGs} (h1 : QG X e t) (h2 : QGs X es u) (hs : (assignEach (e :: es) X.env).map (·.2) = assign e X.env :: (assignEach es X.env).map (·.2) := by rfl) : QGs X (e :: es) (gCons t u) := ⟨L2.pgs_cons h1.h h2.h hs⟩
theorem pg_tup {k1 n : Nat} (hc : X.calm = true) (h : QGs X es gs) (hn : (assignEach es X.env).length = n := by rfl) (hst : (assignEach es X.env).findIdx? (·.1) = none := by rfl) : QG X (.Tuple es k1 pos) (gTup X.K n gs) := ⟨L2.pg_tup hc h.h hn hst⟩
theorem pg_sub {i : Expr} {tset : TSet} (ho : QE X o to) (hi : QE X i ti) (hs : PSet X tset)
    (ha : ∀ v, assign (.Subscript o i pos) X.env v = (do
      let ov ← holding [v] (eval o X.env)
      let iv ← holding [v, ov] (eval i X.env)
      standAt pos
      holding [v, ov, iv] (setItem ov iv v)
      release [v, ov, iv] []) := by intro _; rfl) : QG X (.Subscript o i pos) (gSub to ti tset) := ⟨L2.pg_sub ho.h hi.h hs ha⟩
theorem pts_nil : QTs X [] tYes := ⟨L2.pts_nil⟩
theorem root {D : Ends} {σ : St} {H : Hp} (q : QSs X sts ts) (h : ts D σ H) : ∃ t, PSs X sts t ∧ t D σ H := ⟨ts, q.h, h⟩
theorem imp {ts' : TS} (q : QSs X sts ts) (h : ∀ D σ H, ts' D σ H → ts D σ H) : QSs X sts ts' := ⟨fun pins s σ H D I z => q.h pins s σ H D I (h D σ H z)⟩
theorem pss_nil : QSs X [] tNext := ⟨L2.pss_nil⟩
theorem pss_cons (h1 : QS X st ts) (h2 : QSs X sts us) : QSs X (st :: sts) (tSeq ts us) := ⟨L2.pss_cons h1.h h2.h⟩
theorem pss_one (h1 : QS X st ts) : QSs X [st] ts := ⟨L2.pss_one h1.h⟩
theorem ps_expr (he : QE X e te) (hs : swapsWith e none pos.line X.env = pure false := by rfl) : QS X (.Expr e pos) (tDrop te) := ⟨L2.ps_expr he.h hs⟩
theorem ps_ret (he : QE X e te) : QS X (.Return (some e) pos) (tRet te) := ⟨L2.ps_ret he.h⟩
theorem ps_if (hc : QT X c tt) (ha : QSs X sts ts) (hb : QSs X sts2 us) : QS X (.If c sts sts2 pos) (tIfS tt ts us) := ⟨L2.ps_if hc.h ha.h hb.h⟩
theorem ps_set {i : Nat} {pos' : Pos} (hN : X.N.Nodup) (hi : X.N[i]? = some x) (hx : Loc X.env.scope x) (he : QE X e te) (hs : swapsWith e (some (.Name x pos')) pos.line X.env = pure false := by rfl) (hf : X.fn x = true ∨ X.env.scope.names.lookup x = some .local := by first | exact .inl rfl | exact .inr rfl | assumption) :
    QS X (.Assign [.Name x pos'] e pos) (tAsg te (gName i)) := ⟨L2.ps_set hN hi hx he.h hs hf⟩
theorem ps_asg (he : QE X e te) (hg : QG X tg g) (hs : swapsWithSole [tg] e pos.line X.env = pure false := by rfl) (hw : swappedStores [tg] e X.env = pure none := by rfl)
    (h1 : (assignEach [tg] X.env).map (·.2) = [assign tg X.env] := by rfl) : QS X (.Assign [tg] e pos) (tAsg te g) := ⟨L2.ps_asg he.h hg.h hs hw h1⟩
theorem ps_augS {i : Expr} {tget : V → V → Hp → VK → Prop} {tip : TIp} {tset : TSet} {op : Operator} {tpos : Pos} (ho : QE X o to) (hi : QE X i ti) (hg : PGet X tget) (he : QE X e te) (hp : PIp X op tip) (hs : PSet X tset)
    (ha : ∀ ov iv new, augStore i ov iv new = (do holding [new, ov, iv] (setItem ov iv new); release [new, ov, iv] []; pure .next) := by intros; rfl) : QS X (.AugAssign (.Subscript o i tpos) op e pos) (tAugS to ti te tget tip tset) := ⟨L2.ps_augS ho.h hi.h hg he.h hp hs ha⟩
theorem ps_for (hp : PassesOwn (model X.prog X.w) X.A X.env X.xe) (hc : X.calm = true) (hi : QI X tg iter wi) (hg : QG X tg g) (hb : QSs X sts ts)
    (hs : ∀ x, foldedSetIterable iter X.env x = pure x := by intro _; rfl) : QS X (.For tg iter sts [] pos) (tFor wi g ts) := ⟨L2.ps_for hp hc hi.h hg.h hb.h hs⟩
variable {scope : Scope} {elt target : Expr} {ifs : List Expr} {N : List Str}
theorem pe_comp {k : Nat} {idx : List Nat} {N : List Str} (S : BlkScope X scope N k idx) (hc : X.calm = true) (hi : QI X target iter wi)
    (hg : ∀ fp C s H, QG (cxC X scope N fp C s H) target g) (ho : Own k g) (ht : ∀ fp C s H, QTs (cxC X scope N fp C s H) ifs tt) (he : ∀ fp C s H, QE (cxC X scope N fp C s H) elt te)
    (hs : ∀ x, foldedSetIterable iter X.env x = pure x := by intro _; rfl) : QE X (.ListComp elt [⟨target, iter, ifs, 0⟩] scope pos) (tComp wi k idx g tt te) :=
  ⟨L2.pe_comp k idx S hc hi.h (fun fp C s H => (hg fp C s H).h) ho (fun fp C s H => (ht fp C s H).h) (fun fp C s H => (he fp C s H).h) hs⟩
theorem ps_setC {k : Nat} {idx : List Nat} {i : Nat} {N : List Str} {pos' : Pos} (hN : X.N.Nodup) (hix : X.N[i]? = some x) (hx : Loc X.env.scope x)
    (S : BlkScope X scope N k idx) (hc : X.calm = true) (hi : QI X target iter wi)
    (hg : ∀ fp C s H, QG (cxC X scope N fp C s H) target g) (ho : Own k g) (ht : ∀ fp C s H, QTs (cxC X scope N fp C s H) ifs tt) (he : ∀ fp C s H, QE (cxC X scope N fp C s H) elt te)
    (hsw : swapsWith (.ListComp elt [⟨target, iter, ifs, 0⟩] scope pos) (some (.Name x pos')) spos.line X.env = pure true := by rfl)
    (hs : ∀ x, foldedSetIterable iter X.env x = pure x := by intro _; rfl) (hfn : X.fn x = true ∨ X.env.scope.names.lookup x = some .local := by first | exact .inl rfl | exact .inr rfl | assumption) :
    QS X (.Assign [.Name x pos'] (.ListComp elt [⟨target, iter, ifs, 0⟩] scope pos) spos) (tAsg (tComp wi k idx g tt te) (gName i)) :=
  ⟨L2.ps_setC k idx hN hix hx S hc hi.h (fun fp C s H => (hg fp C s H).h) ho (fun fp C s H => (ht fp C s H).h) (fun fp C s H => (he fp C s H).h) hsw hs hfn⟩
variable {x1 : Nat} {e1 e2 e3 e4 e5 e6 e7 e8 : Expr} {t1 t2 t3 t4 t5 t6 t7 t8 : TE}
theorem lst1 (h1 : QE X e1 t1) (n1 : noStar e1 = true := by rfl) : QE X (.List [e1] pos) (tLst (tCons t1 tNil)) := ⟨L2.lst1 h1.h n1⟩
theorem lst2 (h1 : QE X e1 t1) (h2 : QE X e2 t2) (n1 : noStar e1 = true := by rfl) (n2 : noStar e2 = true := by rfl) : QE X (.List [e1, e2] pos) (tLst (tCons t1 (tCons t2 tNil))) := ⟨L2.lst2 h1.h h2.h n1 n2⟩
theorem tup2 {k1} (h1 : QE X e1 t1) (h2 : QE X e2 t2) (n1 : noStar e1 = true := by rfl) (n2 : noStar e2 = true := by rfl) : QE X (.Tuple [e1, e2] k1 pos) (tTup (tCons t1 (tCons t2 tNil))) := ⟨L2.tup2 h1.h h2.h n1 n2⟩
theorem lst3 (h1 : QE X e1 t1) (h2 : QE X e2 t2) (h3 : QE X e3 t3) (n1 : noStar e1 = true := by rfl) (n2 : noStar e2 = true := by rfl) (n3 : noStar e3 = true := by rfl) : QE X (.List [e1, e2, e3] pos) (tLst (tCons t1 (tCons t2 (tCons t3 tNil)))) := ⟨L2.lst3 h1.h h2.h h3.h n1 n2 n3⟩
theorem tup3 {k1} (h1 : QE X e1 t1) (h2 : QE X e2 t2) (h3 : QE X e3 t3) (n1 : noStar e1 = true := by rfl) (n2 : noStar e2 = true := by rfl) (n3 : noStar e3 = true := by rfl) : QE X (.Tuple [e1, e2, e3] k1 pos) (tTup (tCons t1 (tCons t2 (tCons t3 tNil)))) := ⟨L2.tup3 h1.h h2.h h3.h n1 n2 n3⟩
theorem lst4 (h1 : QE X e1 t1) (h2 : QE X e2 t2) (h3 : QE X e3 t3) (h4 : QE X e4 t4) (n1 : noStar e1 = true := by rfl) (n2 : noStar e2 = true := by rfl) (n3 : noStar e3 = true := by rfl) (n4 : noStar e4 = true := by rfl) : QE X (.List [e1, e2, e3, e4] pos) (tLst (tCons t1 (tCons t2 (tCons t3 (tCons t4 tNil))))) := ⟨L2.lst4 h1.h h2.h h3.h h4.h n1 n2 n3 n4⟩
theorem tup5 {k1} (h1 : QE X e1 t1) (h2 : QE X e2 t2) (h3 : QE X e3 t3) (h4 : QE X e4 t4) (h5 : QE X e5 t5) (n1 : noStar e1 = true := by rfl) (n2 : noStar e2 = true := by rfl) (n3 : noStar e3 = true := by rfl) (n4 : noStar e4 = true := by rfl) (n5 : noStar e5 = true := by rfl) : QE X (.Tuple [e1, e2, e3, e4, e5] k1 pos) (tTup (tCons t1 (tCons t2 (tCons t3 (tCons t4 (tCons t5 tNil)))))) := ⟨L2.tup5 h1.h h2.h h3.h h4.h h5.h n1 n2 n3 n4 n5⟩
end
end L2.Q
namespace L2.Q
open PySem PySem.Spec PyProof.Rows L2
section
variable {X : Cx} {CX : CXT} {k : Nat} {f C : Addr} {fd : FuncData} {ps : List Str} {sp : Sp} {dvs : List V} {ds : List Value} {E : XK} {x m : Str} {p pos apos p2 spos cpos tp : Pos} {a b c e o st : Expr} {es rest elts : List Expr} {ta tb tc te to ti : TE} {t : TA} {x1 : Nat} {ts : TO}
theorem pe_app (ho : QE X o to) (ha : QA X [e] t) (hn : noStar e = true := by rfl) (hbase : attributeBase o "append" X.env (eval o X.env) = eval o X.env := by rfl) (hline : (apos.endLine == cpos.line) = true := by rfl) :
    QE X (.Call (.Attribute o "append" apos) [e] [] cpos) (tBM X.K "list" rAppend to t) := ⟨L2.pe_app ho.h ha.h hn hbase hline⟩
end
end L2.Q
namespace L2.Q
open PySem PySem.Spec PyProof.Rows L2
section
variable {X : Cx} {K' : PySem.W.Frag} {x m n : Str} {p pos apos p2 spos cpos tp pos' : Pos} {a b c e o st iter tg : Expr} {es rest elts : List Expr} {ta tb tc te to ti : TE} {t : TA} {x1 : Nat} {ts : TO}
theorem pe_ixK (ha : QE X a ta) (hb : QE X b tb) (hs : PlainIx b) (hK : X.K = K' := by rfl) : QE X (.Subscript a b pos) (tOp (rIx K') ta tb) := by subst hK; exact ⟨L2.pe_ix ix_seq ha.h hb.h hs⟩
theorem pi_listK (hl : QE X e te) (hK : X.K = K' := by rfl) : QI X tg e (iList K' te) := by subst hK; exact ⟨L2.pi_list hl.h⟩
theorem pg_tupK {k1 n : Nat} {gs : TGs} (hc : X.calm = true) (h : QGs X es gs) (hn : (assignEach es X.env).length = n := by rfl) (hst : (assignEach es X.env).findIdx? (·.1) = none := by rfl) (hK : X.K = K' := by rfl) : QG X (.Tuple es k1 pos) (gTup K' n gs) := by subst hK; exact ⟨L2.pg_tup hc h.h hn hst⟩
theorem pe_appK (ho : QE X o to) (ha : QA X [e] t) (hn : noStar e = true := by rfl) (hbase : attributeBase o "append" X.env (eval o X.env) = eval o X.env := by rfl) (hline : (apos.endLine == cpos.line) = true := by rfl) (hK : X.K = K' := by rfl) :
    QE X (.Call (.Attribute o "append" apos) [e] [] cpos) (tBM K' "list" rAppend to t) := by subst hK; exact ⟨L2.pe_app ho.h ha.h hn hbase hline⟩
end
end L2.Q
namespace L2.Q
open PySem PySem.Spec PyProof.Rows L2
section
variable {X : Cx} {K' : PySem.W.Frag} {p pos tp : Pos} {a b : Expr} {elts : List Expr} {t : TA} {x1 : Nat}
end
end L2.Q
namespace L2
open PySem
section
variable {prog : Program} {w : World} {A : Around} {E : Value → Shared → Prop} {s : Shared}
theorem nextOf_tuple_item {it t : Addr} {i : Nat} {items} {x : Value} {Q : Value → Shared → Prop} (hit : s.heap.IsTupleIter it t i)
    (ht : s.heap.IsTuple t items) (hx : items[i]? = some x)
    (hQ : ∀ h', h'.IsTupleIter it t (i + 1) → Heap.SameBut it s.heap h' → Q x { s with heap := h' }) :
    wpAny (model prog w) A (Builtin.SmallTypes.nextOf (.ref it)) Q E s := by
  obtain ⟨o, ho, hc, hd⟩ := id hit
  obtain ⟨ol, hol, _, nl, hdl⟩ := ht
  unfold Builtin.SmallTypes.nextOf
  refine wpAny_bind (wpAny_callSpecial?_slot (name := Str.ofString "__next__") hit.typeIs F.slot_tuple_iterator_next
    (wpAny_call_entry F.slot_tuple_iterator_next hit.typeIs F.entry_tuple_iterator_next ?_ (F.args_tuple_iterator_next_1 _)))
  show wpAny _ _ (field (.ref it) 0 >>= _) _ _ s
  refine wpAny_bind (wpAny_field ho hd (x := .ref t) rfl ?_)
  show wpAny _ _ (if (Value.ref t == Value.none) = true then _ else _) _ _ s
  rw [if_neg (show ¬ ((Value.ref t == Value.none) = true) from Bool.false_ne_true)]
  show wpAny _ _ (field (.ref it) 1 >>= _) _ _ s
  refine wpAny_bind (wpAny_field ho hd (x := .int i 0) rfl ?_)
  show wpAny _ _ (seqItems? (.ref t) >>= _) _ _ s
  refine wpAny_bind (wpAny_seqItems hol hdl ?_)
  simp only [Int.toNat_natCast, hx]
  refine wpAny_bind (wpAny_setField ho hd (by simp) (wpAny_pure ⟨x, rfl, wpAny_pure (hQ _ ?_ (Heap.SameBut.update ..))⟩))
  exact ⟨_, Heap.get?_update_self _ ho (Obj.isFreed_of_fields (Obj.data_mapFields hd _)), (Obj.cls_mapFields ..).trans hc, by
    rw [Obj.data_mapFields hd]; simp [rawInt]⟩
theorem nextOf_tuple_end {it t : Addr} {i : Nat} {items} {Q : Value → Shared → Prop} (hh : A.handled = none)
    (hit : s.heap.IsTupleIter it t i) (ht : s.heap.IsTuple t items) (hx : items[i]? = none)
    (hE : ∀ h' e, Heap.ExtBut it s.heap h' → (∃ o, h'.get? e = some o ∧ o.cls = .type "StopIteration") → E (.ref e) { s with heap := h' }) :
    wpAny (model prog w) A (Builtin.SmallTypes.nextOf (.ref it)) Q E s := by
  obtain ⟨o, ho, hc, hd⟩ := id hit
  obtain ⟨ol, hol, _, nl, hdl⟩ := ht
  unfold Builtin.SmallTypes.nextOf
  refine wpAny_bind (wpAny_callSpecial?_slot (name := Str.ofString "__next__") hit.typeIs F.slot_tuple_iterator_next
    (wpAny_call_entry F.slot_tuple_iterator_next hit.typeIs F.entry_tuple_iterator_next ?_ (F.args_tuple_iterator_next_1 _)))
  show wpAny _ _ (field (.ref it) 0 >>= _) _ _ s
  refine wpAny_bind (wpAny_field ho hd (x := .ref t) rfl ?_)
  show wpAny _ _ (if (Value.ref t == Value.none) = true then _ else _) _ _ s
  rw [if_neg (show ¬ ((Value.ref t == Value.none) = true) from Bool.false_ne_true)]
  show wpAny _ _ (field (.ref it) 1 >>= _) _ _ s
  refine wpAny_bind (wpAny_field ho hd (x := .int i 0) rfl ?_)
  show wpAny _ _ (seqItems? (.ref t) >>= _) _ _ s
  refine wpAny_bind (wpAny_seqItems hol hdl ?_)
  simp only [Int.toNat_natCast, hx]
  refine wpAny_bind (wpAny_rule (wpAny_bind (wpAny_setField ho hd (by simp) ?_)))
  show wpAny _ _ (newExc (.type "StopIteration") [] >>= _) _ _ _
  refine wpAny_bind ?_
  simp only [newExc, newTuple]
  refine wpAny_bind (wpAny_newObj_type ?_ (by size_fits))
  refine wpAny_bind (m := firstArgMember _ _) (wpAny_of_eq (a := Value.none) (by first | rfl | (simp only [firstArgMember]; rfl)) ?_)
  refine wpAny_newObj_type ?_ (by size_fits)
  simp only [raiseNew]
  refine wpAny_bind (wpAny_handled ?_)
  first | rw [show A.in1.handled = none from hh] | rw [hh]
  refine wpAny_bind (wpAny_pure (wpAny_throw ?_))
  exact hE _ _ (((Heap.SameBut.update ..).extBut.push _).push _) ⟨_, Heap.get?_push_size _ rfl, rfl⟩
end
def SIt (h : Heap) (k : Bool) (it src : Addr) (i : Nat) : Prop := if k = true then h.IsListIter it src i else h.IsTupleIter it src i
def SSrc (h : Heap) (k : Bool) (src : Addr) (items : Array Value) : Prop := if k = true then h.IsList src items else h.IsTuple src items
theorem SIt.at {h h' : Heap} {k : Bool} {it src : Addr} {i : Nat} (x : SIt h k it src i) (e : ∀ o, h.get? it = some o → h'.get? it = some o) : SIt h' k it src i := by
  cases k with
  | true => obtain ⟨o, ho, r⟩ := (show h.IsListIter it src i from x); exact (show h'.IsListIter it src i from ⟨o, e o ho, r⟩)
  | false => obtain ⟨o, ho, r⟩ := (show h.IsTupleIter it src i from x); exact (show h'.IsTupleIter it src i from ⟨o, e o ho, r⟩)
theorem SSrc.at {h h' : Heap} {k : Bool} {src : Addr} {items : Array Value} (x : SSrc h k src items) (e : ∀ o, h.get? src = some o → h'.get? src = some o) : SSrc h' k src items := by
  cases k with
  | true => obtain ⟨o, ho, r⟩ := (show h.IsList src items from x); exact (show h'.IsList src items from ⟨o, e o ho, r⟩)
  | false => obtain ⟨o, ho, r⟩ := (show h.IsTuple src items from x); exact (show h'.IsTuple src items from ⟨o, e o ho, r⟩)
theorem SIt.obj {h : Heap} {k : Bool} {it src : Addr} {i : Nat} (x : SIt h k it src i) : ∃ o vs, h.get? it = some o ∧ o.data = .fields vs := by
  cases k with
  | true => obtain ⟨o, ho, _, r⟩ := (show h.IsListIter it src i from x); exact ⟨o, _, ho, r⟩
  | false => obtain ⟨o, ho, _, r⟩ := (show h.IsTupleIter it src i from x); exact ⟨o, _, ho, r⟩
section
variable {prog : Program} {w : World} {A : Around} {E : Value → Shared → Prop} {s : Shared}
theorem nextOf_item {k : Bool} {it src : Addr} {i : Nat} {items : Array Value} {x : Value} {Q : Value → Shared → Prop} (hit : SIt s.heap k it src i) (hs : SSrc s.heap k src items) (hx : items[i]? = some x)
    (hQ : ∀ h', SIt h' k it src (i + 1) → Heap.SameBut it s.heap h' → Q x { s with heap := h' }) : wpAny (model prog w) A (Builtin.SmallTypes.nextOf (.ref it)) Q E s := by
  cases k with
  | true => exact wpAny_nextOf_list_item hit hs hx hQ
  | false => exact nextOf_tuple_item hit hs hx hQ
theorem nextOf_end {k : Bool} {it src : Addr} {i : Nat} {items : Array Value} {Q : Value → Shared → Prop} (hh : A.handled = none) (hit : SIt s.heap k it src i) (hs : SSrc s.heap k src items) (hx : items[i]? = none)
    (hE : ∀ h' e, Heap.ExtBut it s.heap h' → (∃ o, h'.get? e = some o ∧ o.cls = .type "StopIteration") → E (.ref e) { s with heap := h' }) : wpAny (model prog w) A (Builtin.SmallTypes.nextOf (.ref it)) Q E s := by
  cases k with
  | true => exact wpAny_nextOf_list_end hh hit hs hx hE
  | false => exact nextOf_tuple_end hh hit hs hx hE
end
abbrev ZS := Bool × Addr × Addr
structure ZA (z TI TO : Addr) (L : List ZS) : Prop where
  TIz : TI ≠ z
  TOz : TO ≠ z
  TITO : TI ≠ TO
  it : ∀ t ∈ L, t.2.1 ≠ z ∧ t.2.1 ≠ TI ∧ t.2.1 ≠ TO
  nd : (L.map (·.2.1)).Nodup
abbrev IsTupN (h : Heap) (T : Addr) (vs : Array Value) : Prop := h.get? T = some { cls := .type "tuple", data := .seq vs }
def ZSrc (z TO : Addr) (L : List ZS) : Prop := ∀ t ∈ L, t.2.2 ≠ z ∧ t.2.2 ≠ TO ∧ ∀ u ∈ L, t.2.2 ≠ u.2.1
theorem nd_inj : ∀ {l : List Addr}, l.Nodup → ∀ {i j : Nat} {a : Addr}, l[i]? = some a → l[j]? = some a → i = j
  | [], _, _, _, _, h, _ => by simp at h
  | b :: l, n, 0, 0, _, _, _ => rfl
  | b :: l, n, 0, j + 1, a, h1, h2 => by
    simp at h1 h2
    subst h1
    exact absurd (List.mem_of_getElem? h2) (List.nodup_cons.mp n).1
  | b :: l, n, i + 1, 0, a, h1, h2 => by
    simp at h1 h2
    subst h2
    exact absurd (List.mem_of_getElem? h1) (List.nodup_cons.mp n).1
  | b :: l, n, i + 1, j + 1, a, h1, h2 => by
    simp at h1 h2
    rw [nd_inj (List.nodup_cons.mp n).2 h1 h2]
section
variable {prog : Program} {w : World} {A : Around} {E : Value → Shared → Prop} {s : Shared}
theorem updN {T : Addr} {arr : Array Value} {x : Value} {j : Nat} {Q : Unit → Shared → Prop} (hT : IsTupN s.heap T arr) (hz : arr.size ≤ 1000)
    (h : ∀ h', IsTupN h' T (arr.setIfInBounds j x) → Heap.SameBut T s.heap h' → Q () { s with heap := h' }) : wpAny (model prog w) A (updateSeq T (·.setIfInBounds j x)) Q E s := by
  refine wpAny_updateSeq hT rfl (h _ ?_ (Heap.SameBut.update ..)) (by rw [sizeLine_eq]; omega) (by rw [Array.size_setIfInBounds, sizeLine_eq]; omega)
  show (s.heap.update T _).get? T = _
  rw [Heap.get?_update_self _ hT rfl]
  simp [Obj.mapSeq]
structure ZMid (z TI TO : Addr) (L : List ZS) (k : Nat) (xs : Nat → Value) (h₀ : Heap) (j : Nat) (h : Heap) : Prop where
  zz : IsZip h z TI TO .ellipsis
  to : ∃ arr : Array Value, IsTupN h TO arr ∧ arr.size = L.length ∧ ∀ i, i < j → arr[i]? = some (xs i)
  it : ∀ i t, L[i]? = some t → SIt h t.1 t.2.1 t.2.2 (if i < j then k + 1 else k)
  off : ∀ c o, c ≠ z → c ≠ TO → (∀ t ∈ L, c ≠ t.2.1) → h₀.get? c = some o → h.get? c = some o
  sz : h.objs.size = h₀.objs.size
theorem zip_next {z TI TO : Addr} {L : List ZS} {k : Nat} {items : Nat → Array Value} {xs : Nat → Value} {arr : Array Value} {Q : Value → Shared → Prop} (hh : A.handled = none) (D : ZA z TI TO L) (S : ZSrc z TO L) (hne : L ≠ []) (hlen : L.length ≤ 1000)
    (hz : IsZip s.heap z TI TO .none) (hTI : IsTupN s.heap TI (L.map fun t => Value.ref t.2.1).toArray) (hTO : IsTupN s.heap TO arr) (harr : arr.size = L.length)
    (hit : ∀ t ∈ L, SIt s.heap t.1 t.2.1 t.2.2 k) (hsrc : ∀ i t, L[i]? = some t → SSrc s.heap t.1 t.2.2 (items i))
    (hx : ∀ i, i < L.length → ∀ x, (items i)[k]? = some x → x = xs i)
    (hQ : (∀ i, i < L.length → (items i)[k]? = some (xs i)) → ∀ h' arr', IsZip h' z TI TO (rawInt s.heap.objs.size) → IsTupN h' TO arr' → arr'.size = L.length → (∀ i, i < L.length → arr'[i]? = some (xs i)) → (∀ t ∈ L, SIt h' t.1 t.2.1 t.2.2 (k + 1)) → IsTupN h' s.heap.objs.size arr' → h'.objs.size = s.heap.objs.size + 1 →
      (∀ c o, c ≠ z → c ≠ TO → (∀ t ∈ L, c ≠ t.2.1) → s.heap.get? c = some o → h'.get? c = some o) → Q (.ref s.heap.objs.size) { s with heap := h' })
    (hE : (∃ i, i < L.length ∧ (items i)[k]? = none) → ∀ h' e, (∀ c o, c ≠ z → c ≠ TO → (∀ t ∈ L, c ≠ t.2.1) → s.heap.get? c = some o → h'.get? c = some o) → (∃ o, h'.get? e = some o ∧ o.cls = .type "StopIteration") → E (.ref e) { s with heap := h' }) :
    wpAny (model prog w) A (Builtin.«zip.__next__» ⟨[.ref z], []⟩) (fun fin s' => ∃ v, fin = .done (.ret v) ∧ Q v s') E s := by
  show wpAny _ _ (field (.ref z) 2 >>= _) _ _ _
  refine wpAny_bind (wpAny_field hz rfl (x := .bool false) rfl ?_)
  show wpAny _ _ (field (.ref z) 3 >>= _) _ _ _
  refine wpAny_bind (wpAny_field hz rfl (x := .ref TI) rfl ?_)
  refine wpAny_bind (wpAny_seqItems hTI rfl ?_)
  have hemp : (L.map fun t => Value.ref t.2.1).toArray.isEmpty = false := by
    cases L with
    | nil => exact absurd rfl hne
    | cons t L => rfl
  simp only [hemp, Bool.false_eq_true, if_false]
  show wpAny _ _ (Builtin.SmallTypes.ownedTupleIsFree (.ref z) >>= _) _ _ _
  refine wpAny_bind ?_
  unfold Builtin.SmallTypes.ownedTupleIsFree
  refine wpAny_bind (wpAny_field hz rfl (x := .none) rfl (wpAny_pure ?_))
  simp only [if_true]
  refine wpAny_bind (wpAny_rule ?_)
  refine wpAny_bind (wpAny_field hz rfl (x := .ref TO) rfl ?_)
  refine wpAny_bind (wpAny_setField_rec hz (by simp) fun h₁ hz₁ hs₁ => ?_)
  replace hz₁ : IsZip h₁ z TI TO .ellipsis := hz₁
  replace hs₁ : Heap.SameBut z s.heap h₁ := hs₁
  refine wpAny_bind ?_
  refine wpAny_forIn_list _ (fun rest b s' => b = ((none, ()) : Option Fin × Unit) ∧ ∃ j, rest = ((L.map fun t => Value.ref t.2.1).zipIdx).drop j ∧ j ≤ L.length ∧ (∀ i, i < j → (items i)[k]? = some (xs i)) ∧ ZMid z TI TO L k xs s.heap j s'.heap ∧ s' = { s with heap := s'.heap }) _ ?turn ?fin _ _ ⟨rfl, 0, rfl, Nat.zero_le _, fun i hi => absurd hi (Nat.not_lt_zero _), ?start, rfl⟩
  case start =>
    exact ⟨hz₁, ⟨arr, hs₁.extBut _ _ D.TOz hTO, harr, fun i hi => absurd hi (Nat.not_lt_zero _)⟩, fun i t ht => by
      rw [if_neg (Nat.not_lt_zero _)]
      exact (hit t (List.mem_of_getElem? ht)).at fun o e => hs₁.extBut _ _ (D.it t (List.mem_of_getElem? ht)).1 e, fun c o c1 _ _ e => hs₁.extBut _ _ c1 e, hs₁.1⟩
  case turn =>
    rintro x rest b s' ⟨rfl, j, er, hj, hxs, M, es⟩
    have hll : ((L.map fun t => Value.ref t.2.1).zipIdx).length = L.length := by simp
    have hjl : j < ((L.map fun t => Value.ref t.2.1).zipIdx).length := by
      apply Nat.lt_of_not_le
      intro h
      rw [List.drop_eq_nil_of_le h] at er
      cases er
    rw [List.drop_eq_getElem_cons hjl] at er
    injection er with e1 e2
    have hjL : j < L.length := by rw [← hll]; exact hjl
    have ht : L[j]? = some L[j] := List.getElem?_eq_getElem hjL
    have hmem := List.getElem_mem hjL
    have e3 : ((L.map fun t => Value.ref t.2.1).zipIdx)[j] = (Value.ref L[j].2.1, j) := by simp
    rw [e3] at e1
    generalize L[j] = t at ht hmem e1
    subst e1 e2
    obtain ⟨h', g', d', t', o'⟩ := s'
    injection es with _ e4 e5 e6 e7
    subst e4 e5 e6 e7
    replace M : ZMid z TI TO L k xs s.heap j h' := M
    have hitj := M.it j t ht
    rw [if_neg (Nat.lt_irrefl _)] at hitj
    have hsj : SSrc h' t.1 t.2.2 (items j) := (hsrc j t ht).at fun o e => M.off _ o (S t hmem).1 (S t hmem).2.1 (S t hmem).2.2 e
    refine wpAny_bind (wpAny_onRaise ?_)
    show wpAny _ _ (Builtin.SmallTypes.nextOf (.ref t.2.1) >>= _) _ _ _
    cases hxk : (items j)[k]? with
    | none =>
      refine wpAny_bind (nextOf_end (s := ⟨h', s.gens, s.drawn, s.toks, s.os⟩) hh hitj hsj hxk fun h2 e eb he => ?_)
      replace eb : Heap.ExtBut t.2.1 h' h2 := eb
      obtain ⟨oe, hoe, hce⟩ := he
      have hz2 : IsZip h2 z TI TO .ellipsis := eb _ _ (Ne.symm (D.it t hmem).1) M.zz
      have hez : e ≠ z := fun q => by subst q; rw [hz2] at hoe; cases hoe; simp at hce
      refine wpAny_setField_rec hz2 (by simp) fun h3 _ hs3 => hE ⟨j, hjL, hxk⟩ h3 e (fun c o c1 c2 c3 q => hs3.extBut _ _ c1 (eb _ _ (c3 t hmem) (M.off c o c1 c2 c3 q))) ⟨oe, hs3.extBut _ _ hez hoe, hce⟩
    | some x =>
      have ex := hx j hjL x hxk
      subst ex
      refine wpAny_bind (nextOf_item (s := ⟨h', s.gens, s.drawn, s.toks, s.os⟩) hitj hsj hxk fun h2 it2 sb2 => wpAny_pure ?_)
      replace sb2 : Heap.SameBut t.2.1 h' h2 := sb2
      obtain ⟨arr2, hTO2, ha2, hv2⟩ := M.to
      have hTO3 : IsTupN h2 TO arr2 := sb2.extBut _ _ (Ne.symm (D.it t hmem).2.2) hTO2
      refine wpAny_bind (wpAny_seqItems hTO3 rfl ?_)
      refine wpAny_bind (updN (s := ⟨h2, s.gens, s.drawn, s.toks, s.os⟩) hTO3 (by omega) fun h3 hTO4 sb3 => ?_)
      replace sb3 : Heap.SameBut TO h2 h3 := sb3
      refine wpAny_bind (wpAny_letGo (wpAny_pure ?_))
      refine ⟨rfl, j + 1, rfl, hjL, fun i hi => ?_, ⟨?_, ⟨_, hTO4, ?_, fun i hi => ?_⟩, fun i u hu => ?_, fun c o c1 c2 c3 q => ?_, ?_⟩, rfl⟩
      · by_cases e : i = j
        · subst e; exact hxk
        · exact hxs i (by omega)
      · exact sb3.extBut _ _ (Ne.symm D.TOz) (sb2.extBut _ _ (Ne.symm (D.it t hmem).1) M.zz)
      · rw [Array.size_setIfInBounds]; exact ha2
      · by_cases e : i = j
        · subst e
          rw [Array.getElem?_setIfInBounds_self_of_lt (by omega)]
        · rw [Array.getElem?_setIfInBounds_ne (Ne.symm e)]
          exact hv2 i (by omega)
      · have mu := List.mem_of_getElem? hu
        have nT : u.2.1 ≠ TO := (D.it u mu).2.2
        by_cases e : i = j
        · subst e
          rw [ht] at hu
          cases hu
          rw [if_pos (Nat.lt_succ_self _)]
          exact it2.at fun o q => sb3.extBut _ _ nT q
        · have ne : u.2.1 ≠ t.2.1 := fun q => by
            have n := D.nd
            have q1 : (L.map (·.2.1))[i]? = some u.2.1 := by rw [List.getElem?_map, hu]; rfl
            have q2 : (L.map (·.2.1))[j]? = some u.2.1 := by rw [List.getElem?_map, ht, q]; rfl
            exact e (nd_inj n q1 q2)
          have := M.it i u hu
          rw [show (if i < j + 1 then k + 1 else k) = if i < j then k + 1 else k by split <;> split <;> omega]
          exact this.at fun o q => sb3.extBut _ _ nT (sb2.extBut _ _ ne q)
      · exact sb3.extBut _ _ c2 (sb2.extBut _ _ (c3 t hmem) (M.off c o c1 c2 c3 q))
      · show h3.objs.size = _
        rw [sb3.1, sb2.1]; exact M.sz
  case fin =>
    rintro b s' ⟨rfl, j, er, hj, hxs, M, es⟩
    have hjL : j = L.length := by
      have : ((L.map fun t => Value.ref t.2.1).zipIdx).length ≤ j := List.drop_eq_nil_iff.mp er.symm
      simp at this
      omega
    subst hjL
    obtain ⟨h', g', d', t', o'⟩ := s'
    injection es with _ e4 e5 e6 e7
    subst e4 e5 e6 e7
    replace M : ZMid z TI TO L k xs s.heap L.length h' := M
    obtain ⟨arr2, hTO2, ha2, hv2⟩ := M.to
    show wpAny _ _ (seqItems? (.ref TO) >>= _) _ _ _
    refine wpAny_bind (wpAny_seqItems hTO2 rfl ?_)
    refine wpAny_bind (wpAny_newTuple ?_ (by rw [Array.length_toList, sizeLine_eq]; omega))
    have hzlt : z < h'.objs.size := Heap.lt_size M.zz
    show wpAny _ _ (Builtin.SmallTypes.ownedTupleHandOut (.ref z) (.ref h'.objs.size) >>= _) _ _ _
    refine wpAny_bind ?_
    unfold Builtin.SmallTypes.ownedTupleHandOut
    have hz6 : IsZip (h'.push { cls := .type "tuple", data := .seq arr2.toList.toArray }) z TI TO .ellipsis := Heap.get?_push_of_some _ M.zz
    refine wpAny_bind (wpAny_setField_rec hz6 (by simp) fun h7 hz7 hs7 => ?_)
    replace hz7 : IsZip h7 z TI TO (rawInt h'.objs.size) := hz7
    refine wpAny_setField_rec hz7 (by simp) fun h8 hz8 hs8 => ?_
    replace hz8 : IsZip h8 z TI TO (rawInt h'.objs.size) := hz8
    have up : ∀ c o, c ≠ z → h'.get? c = some o → h8.get? c = some o := fun c o c1 e => hs8.extBut _ _ c1 (hs7.extBut _ _ c1 (Heap.get?_push_of_some _ e))
    have hT8 : IsTupN h8 h'.objs.size arr2 := hs8.extBut _ _ (Nat.ne_of_gt hzlt) (hs7.extBut _ _ (Nat.ne_of_gt hzlt) (by
      have := Heap.get?_push_size h' (o := { cls := .type "tuple", data := .seq arr2.toList.toArray }) rfl
      simpa using this))
    have hz9 : h8.objs.size = h'.objs.size + 1 := by rw [hs8.1, hs7.1, Heap.size_push]
    rw [M.sz] at hz8 hT8 hz9
    refine wpAny_pure ⟨_, rfl, ?_⟩
    show Q (.ref h'.objs.size) _
    rw [M.sz]
    refine hQ (fun i hi => hxs i hi) h8 arr2 hz8 (up _ _ D.TOz hTO2) ha2 hv2 (fun t ht => ?_) hT8 hz9 fun c o c1 c2 c3 e => up c o c1 (M.off c o c1 c2 c3 e)
    obtain ⟨i, hi⟩ := List.getElem?_of_mem ht
    have := M.it i t hi
    rw [if_pos (List.getElem?_eq_some_iff.mp hi).1] at this
    exact this.at fun o e => up _ o (D.it t ht).1 e
end
def ZSt (z TI TO : Addr) (L : List ZS) (i : Nat) (h : Heap) : Prop :=
  IsZip h z TI TO .none ∧ IsTupN h TI (L.map fun t => Value.ref t.2.1).toArray ∧ (∃ arr, IsTupN h TO arr ∧ arr.size = L.length) ∧ ∀ t ∈ L, SIt h t.1 t.2.1 t.2.2 i
abbrev itObj (k : Bool) (src : Addr) : Obj := { cls := .type (if k = true then "list_iterator" else "tuple_iterator"), data := .fields #[.ref src, .int 0 0] }
theorem SIt.new {h : Heap} {k : Bool} {it src : Addr} (e : h.get? it = some (itObj k src)) : SIt h k it src 0 := by
  cases k with
  | true => exact (show h.IsListIter it src 0 from ⟨_, e, rfl, rfl⟩)
  | false => exact (show h.IsTupleIter it src 0 from ⟨_, e, rfl, rfl⟩)
section
variable {prog : Program} {w : World} {A : Around} {E : Value → Shared → Prop} {s : Shared}
theorem pyIter_src {k : Bool} {src : Addr} {items : Array Value} {Q : Value → Shared → Prop} (h : SSrc s.heap k src items) (hQ : Q (.ref s.heap.objs.size) { s with heap := s.heap.push (itObj k src) }) : wpAny (model prog w) A (pyIter (.ref src)) Q E s := by
  cases k with
  | true => exact wpAny_pyIter_list h hQ
  | false => exact wpAny_pyIter_tuple h hQ
end
abbrev zg1 (h : Heap) (t : Bool × Addr) : Heap := h.push (itObj t.1 t.2)
abbrev zg2 (h : Heap) (t u : Bool × Addr) : Heap := (zg1 h t).push (itObj u.1 u.2)
abbrev zk1 (h : Heap) (t u : Bool × Addr) : Heap := (zg2 h t u).push { cls := .type "tuple", data := .seq #[.ref h.objs.size, .ref (zg1 h t).objs.size] }
abbrev zk2 (h : Heap) (t u : Bool × Addr) : Heap := (zk1 h t u).push { cls := .type "tuple", data := .seq #[.none, .none] }
abbrev zk3 (h : Heap) (t u : Bool × Addr) : Heap := (zk2 h t u).push { cls := .type "zip", data := .fields #[.none, .bool false, .bool false, .ref (zg2 h t u).objs.size, .ref (zk1 h t u).objs.size] }
theorem meets_zipN2 (t u : Bool × Addr) (xs ys : Array Value) :
    Meets (Builtin.«zip.__new__» ⟨[.type "zip", .ref t.2, .ref u.2], []⟩) (fun _ R s => SSrc s.heap t.1 t.2 xs ∧ SSrc s.heap u.1 u.2 ys ∧
      R (.ok (.ret (.ref (zk2 s.heap t u).objs.size))) { s with heap := zk3 s.heap t u }) :=
  .of_wp fun prog w A R s h => by
    obtain ⟨hp, g, d, tk, os⟩ := s; obtain ⟨hl1, hl2, h⟩ := h
    have hsub := sub_zip
    have hL1 : SSrc (Shared.heap ⟨hp, g, d, tk, os⟩) t.1 t.2 xs := hl1
    have hL2 : SSrc (Shared.heap ⟨hp.push (itObj t.1 t.2), g, d, tk, os⟩) u.1 u.2 ys := SSrc.at hl2 fun o e => Heap.get?_push_of_some _ e
    wp_walk using pyIter_src hL1, pyIter_src hL2
    exact ⟨_, rfl, h⟩
section
variable {prog : Program} {w : World} {A : Around} {E : Value → Shared → Prop} {s : Shared}
theorem call_zipN2 {t u : Bool × Addr} {xs ys : Array Value} {Q : Value → Shared → Prop} (h1 : SSrc s.heap t.1 t.2 xs) (h2 : SSrc s.heap u.1 u.2 ys)
    (h : ∀ h', ZSt (s.heap.objs.size + 4) (s.heap.objs.size + 2) (s.heap.objs.size + 3) [(t.1, s.heap.objs.size, t.2), (u.1, s.heap.objs.size + 1, u.2)] 0 h' → (∀ c o, s.heap.get? c = some o → h'.get? c = some o) → Q (.ref (s.heap.objs.size + 4)) { s with heap := h' }) :
    wpAny (model prog w) A (call (.type "zip") [.ref t.2, .ref u.2]) Q E s := by
  refine callType_new F.called_zip (by decide) (F.typeCall_zip_2 _ _) (F.newCall_zip_2 _ _) (fun obj => F.args_object_init_3 obj _ _) F.entry_zip_new
    (meets_zipN2 t u xs ys) ⟨h1, h2, ?_⟩
  have z1 : (zg1 s.heap t).objs.size = s.heap.objs.size + 1 := Heap.size_push ..
  have z2 : (zg2 s.heap t u).objs.size = s.heap.objs.size + 2 := by rw [Heap.size_push, z1]
  have z3 : (zk1 s.heap t u).objs.size = s.heap.objs.size + 3 := by rw [Heap.size_push, z2]
  have z4 : (zk2 s.heap t u).objs.size = s.heap.objs.size + 4 := by rw [Heap.size_push, z3]
  have g5 : (zk3 s.heap t u).get? (zk2 s.heap t u).objs.size = some _ := Heap.get?_push_size _ rfl
  have g4 : (zk3 s.heap t u).get? (zk1 s.heap t u).objs.size = some _ := Heap.get?_push_of_some _ (Heap.get?_push_size _ rfl)
  have g3 : (zk3 s.heap t u).get? (zg2 s.heap t u).objs.size = some _ := Heap.get?_push_of_some _ (Heap.get?_push_of_some _ (Heap.get?_push_size _ rfl))
  have g2 : (zk3 s.heap t u).get? (zg1 s.heap t).objs.size = some (itObj u.1 u.2) := Heap.get?_push_of_some _ (Heap.get?_push_of_some _ (Heap.get?_push_of_some _ (Heap.get?_push_size _ rfl)))
  have g1 : (zk3 s.heap t u).get? s.heap.objs.size = some (itObj t.1 t.2) := Heap.get?_push_of_some _ (Heap.get?_push_of_some _ (Heap.get?_push_of_some _ (Heap.get?_push_of_some _ (Heap.get?_push_size _ rfl))))
  show _ ∧ _
  rw [z2, z3, z4] at g5
  rw [z1, z2] at g3
  rw [z3] at g4
  rw [z1] at g2
  rw [z4]
  refine ⟨⟨_, g5, rfl⟩, h _ ⟨g5, g3, ⟨_, g4, rfl⟩, fun x hx => ?_⟩ fun c o x =>
    Heap.get?_push_of_some _ (Heap.get?_push_of_some _ (Heap.get?_push_of_some _ (Heap.get?_push_of_some _ (Heap.get?_push_of_some _ x))))⟩
  simp only [List.mem_cons, List.not_mem_nil, or_false] at hx
  rcases hx with rfl | rfl
  · exact SIt.new g1
  · exact SIt.new g2
end
theorem nadd {n a b : Nat} (h : a ≠ b) : @Ne Addr (n + a) (n + b) := fun e => h (Nat.add_left_cancel e)
theorem za2 (n : Nat) (t u : Bool × Addr) : ZA (n + 4) (n + 2) (n + 3) [(t.1, n, t.2), (u.1, n + 1, u.2)] := by
  refine ⟨nadd (by decide), nadd (by decide), nadd (by decide), fun x hx => ?_, ?_⟩
  · simp only [List.mem_cons, List.not_mem_nil, or_false] at hx
    rcases hx with rfl | rfl
    · exact ⟨nadd (a := 0) (by decide), nadd (a := 0) (by decide), nadd (a := 0) (by decide)⟩
    · exact ⟨nadd (by decide), nadd (by decide), nadd (by decide)⟩
  · simp
end L2
namespace L2
open PySem PySem.Spec PyProof.Rows
def Src (H : Hp) (k : Bool) (a : Addr) (xs : List V) : Prop := H a = some (if k = true then .lst xs else .tup xs)
theorem Src.inj {H : Hp} {k : Bool} {a : Addr} {xs ys : List V} (h : Src H k a xs) (h' : Src H k a ys) : xs = ys := by
  unfold Src at h h'
  rw [h] at h'
  cases k with
  | true => injection h' with e; injection e
  | false => injection h' with e; injection e
theorem Src.lst {H : Hp} {a : Addr} {xs : List V} (h : H a = some (.lst xs)) : Src H true a xs := h
theorem Src.tup {H : Hp} {a : Addr} {xs : List V} (h : H a = some (.tup xs)) : Src H false a xs := h
theorem Inv.src {X : Cx} {pins : List (Addr × Obj)} {σ : St} {H : Hp} {s : Shared} {k : Bool} {a : Addr} {xs : List V} (I : Inv X pins σ H s) (h : Src H k a xs) : ∃ its : List Value, Vals xs its ∧ SSrc s.heap k a its.toArray ∧ xs.length ≤ sizeLine := by
  cases k with
  | true =>
    obtain ⟨its, r, p, z⟩ := I.list (SqL.of h)
    exact ⟨its, r, p.isList, z⟩
  | false =>
    obtain ⟨its, r, p, z⟩ := I.tuple (SqT.of h)
    exact ⟨its, r, p, z⟩
theorem vals_of_get : ∀ {xs : List V} {us : List Value}, xs.length = us.length → (∀ (j : Nat) (x : V) (u : Value), xs[j]? = some x → us[j]? = some u → RelV x u) → Vals xs us
  | [], [], _, _ => .nil
  | x :: xs, u :: us, h, f => .cons (f 0 x u rfl rfl) (vals_of_get (by simpa using h) fun j y v h1 h2 => f (j + 1) y v (by simpa using h1) (by simpa using h2))
  | [], _ :: _, h, _ => by cases h
  | _ :: _, [], h, _ => by cases h
def ItZ (L : List (Bool × Addr)) : It :=
  ⟨fun i H => ∀ t ∈ L, ∃ xs x, Src H t.1 t.2 xs ∧ xs[i]? = some x,
   fun i H v H' => ∃ T vs, H T = none ∧ v = .ref T ∧ H' = upd H T (.tup vs) ∧ vs.length = L.length ∧ ∀ (j : Nat) (t : Bool × Addr) (xs : List V), L[j]? = some t → Src H t.1 t.2 xs → ∃ x, xs[i]? = some x ∧ vs[j]? = some x,
   fun i H => (∀ t ∈ L, ∃ xs, Src H t.1 t.2 xs) ∧ ∃ t ∈ L, ∃ xs, Src H t.1 t.2 xs ∧ xs.length ≤ i⟩
def zL (L : List ZS) : List (Bool × Addr) := L.map fun t => (t.1, t.2.2)
theorem zL_mem {L : List ZS} {t : ZS} (h : t ∈ L) : (t.1, t.2.2) ∈ zL L := List.mem_map.mpr ⟨t, h, rfl⟩
theorem zL_get {L : List ZS} {j : Nat} {t : Bool × Addr} (h : (zL L)[j]? = some t) : ∃ u, L[j]? = some u ∧ t = (u.1, u.2.2) := by
  unfold zL at h
  rw [List.getElem?_map] at h
  cases e : L[j]? with
  | none => rw [e] at h; cases h
  | some u => rw [e] at h; cases h; exact ⟨u, rfl, rfl⟩
abbrev zFp (z TI TO : Addr) (L : List ZS) : List Addr := z :: TI :: TO :: L.map (·.2.1)
theorem zFp_it {z TI TO : Addr} {L : List ZS} {t : ZS} (h : t ∈ L) : t.2.1 ∈ zFp z TI TO L := by
  simp only [zFp, List.mem_cons]
  exact .inr (.inr (.inr (List.mem_map.mpr ⟨t, h, rfl⟩)))
theorem ZSt.obj {z TI TO : Addr} {L : List ZS} {i : Nat} {h : Heap} (st : ZSt z TI TO L i h) : ∀ b ∈ zFp z TI TO L, ∃ o, h.get? b = some o ∧ ∀ v, o.data ≠ .cell v := fun b hb => by
  obtain ⟨hz, hTI, ⟨arr, hTO, _⟩, hit⟩ := st
  simp only [zFp, List.mem_cons] at hb
  rcases hb with rfl | rfl | rfl | hb
  · exact ⟨_, hz, fun v z => by cases z⟩
  · exact ⟨_, hTI, fun v z => by cases z⟩
  · exact ⟨_, hTO, fun v z => by cases z⟩
  · obtain ⟨t, ht, rfl⟩ := List.mem_map.mp hb
    obtain ⟨o, vs, e, d⟩ := (hit t ht).obj
    exact ⟨o, e, fun v z => by rw [d] at z; cases z⟩
theorem turn_zipN {P : Program} {w : World} {K : PySem.W.Frag} {elts : List Expr} {x1 : Nat} {tp : Pos} (L : List ZS) (z TI TO : Addr) (D : ZA z TI TO L) (hne : L ≠ []) (hlen : L.length ≤ 1000) :
    Turn P w K (.Tuple elts x1 tp) (ItZ (zL L)) (zFp z TI TO L) z (ZSt z TI TO L) where
  mem := by simp [zFp]
  obj := fun i h st => st.obj
  keep := fun i h h' st k => by
    obtain ⟨hz, hTI, ⟨arr, hTO, ha⟩, hit⟩ := st
    exact ⟨k z (by simp [zFp]) _ hz, k TI (by simp [zFp]) _ hTI, ⟨arr, k TO (by simp [zFp]) _ hTO, ha⟩, fun t ht => (hit t ht).at fun o q => k _ (zFp_it ht) o q⟩
  item := by
    intro X hP hw hK hc i pins s σ H E I hf st hg
    subst hP hw hK
    have lts : ∀ b ∈ zFp z TI TO L, b < s.heap.objs.size := fun b hb => by obtain ⟨o, e, _⟩ := st.obj b hb; exact Heap.lt_size e
    obtain ⟨hz, hTI, ⟨arr, hTO, harr⟩, hit⟩ := st
    have key : ∀ j : Nat, ∃ r : List Value × Value × V, ∀ t, L[j]? = some t → SSrc s.heap t.1 t.2.2 r.1.toArray ∧ (∀ xs, Src H t.1 t.2.2 xs → xs[i]? = some r.2.2) ∧ r.1[i]? = some r.2.1 ∧ RelV r.2.2 r.2.1 ∧ t.2.2 ∉ zFp z TI TO L := fun j => by
      cases e : L[j]? with
      | none => exact ⟨([], .none, .non), fun t h => by cases h⟩
      | some t =>
        obtain ⟨xs, x, hs, hx⟩ := hg _ (zL_mem (List.mem_of_getElem? e))
        obtain ⟨its, r, src, _⟩ := I.src hs
        obtain ⟨u, hu, ru⟩ := r.get hx
        refine ⟨(its, u, x), fun t' h => ?_⟩
        cases h
        refine ⟨src, fun ys hy => by rw [hy.inj hs]; exact hx, hu, ru, fun hm => ?_⟩
        have := (hf _ hm).1
        unfold Src at hs
        rw [show H t.2.2 = some (if t.1 = true then .lst xs else .tup xs) from hs] at this
        cases this
    obtain ⟨f, hfk⟩ := Classical.axiomOfChoice key
    have S : ZSrc z TO L := fun t ht => by
      obtain ⟨j, hj⟩ := List.getElem?_of_mem ht
      have n := (hfk j t hj).2.2.2.2
      refine ⟨fun e => n (by rw [e]; simp [zFp]), fun e => n (by rw [e]; simp [zFp]), fun u hu e => n (by rw [e]; exact zFp_it hu)⟩
    have inL : ∀ j, j < L.length → ∃ t, L[j]? = some t := fun j hj => ⟨_, List.getElem?_eq_getElem hj⟩
    unfold pyNext
    have hT : s.TypeIs (.ref z) "zip" := ⟨_, hz, rfl⟩
    refine wpAny_bind (wpAny_attempt (wpAny_callSpecial?_slot (name := Str.ofString "__next__") hT F.slot_zip_next
      (wpAny_call_entry F.slot_zip_next hT F.entry_zip_next (zip_next (items := fun j => (f j).1.toArray) (xs := fun j => (f j).2.1) (I.ok.hd hc) D S hne hlen hz hTI hTO harr hit (fun j t hj => (hfk j t hj).1) (fun j hj x hx => ?_)
        (fun _ h1 arr' a1 a2 a3 a4 a5 a6 a7 hk => wpAny_pure ⟨_, rfl, wpAny_letOwnedTupleGo_zip a1 fun g2 hz2 hs2 => ?_⟩) (fun hE => ?_)) (F.args_zip_next_1 _))))
    · obtain ⟨t, ht⟩ := inL j hj
      have e := (hfk j t ht).2.2.1
      have hx' : (f j).1[i]? = some x := by simpa using hx
      rw [e] at hx'
      exact (Option.some.inj hx').symm
    · replace hs2 : Heap.SameBut z h1 g2 := hs2
      have hT2 : g2.IsTuple s.heap.objs.size arr' := ⟨_, (hs2.2 _ (Nat.ne_of_gt (lts z (by simp [zFp])))).trans a6, rfl, _, rfl⟩
      have kk : ∀ b o, b ∉ zFp z TI TO L → s.heap.get? b = some o → g2.get? b = some o := fun b o hb q => by
        have n1 : b ≠ z := fun e => hb (by rw [e]; simp [zFp])
        exact (hs2.2 b n1).trans (hk b o n1 (fun e => hb (by rw [e]; simp [zFp])) (fun t ht e => hb (by rw [e]; exact zFp_it ht)) q)
      have rv : Vals ((List.range L.length).map fun j => (f j).2.2) arr'.toList := by
        refine vals_of_get (by simp [a3]) fun j x u hx hu => ?_
        rw [List.getElem?_map] at hx
        by_cases hj : j < L.length
        · rw [List.getElem?_range hj] at hx
          cases hx
          obtain ⟨t, ht⟩ := inL j hj
          have e := a4 j hj
          have hu' : arr'[j]? = some u := by simpa using hu
          rw [e] at hu'
          cases hu'
          exact (hfk j t ht).2.2.2.1
        · rw [List.getElem?_eq_none (by simpa using hj)] at hx
          cases hx
      have I2 : Inv X pins σ (upd H s.heap.objs.size (.tup ((List.range L.length).map fun j => (f j).2.2))) { s with heap := g2 } :=
        I.turnedNew (t' := s.toks) kk hf (Nat.le_refl _) (show ObjOk X.prog X.w _ g2 _ (.tup _) from ⟨sz_le (by simp; omega), arr'.toList, rv, by simpa using show IsTup g2 s.heap.objs.size arr' from hT2⟩)
      have hfr : H s.heap.objs.size = none := I.hok.fresh (Nat.le_refl _)
      refine ⟨.ref s.heap.objs.size, _, I2, rfl, ⟨_, _, hfr, rfl, rfl, by simp [zL], fun j t xs hj hs => ?_⟩, ⟨hz2, ?_, ⟨arr', hs2.extBut _ _ D.TOz a2, a3⟩, fun t ht => (a5 t ht).at fun o q => (hs2.2 _ (D.it t ht).1).trans q⟩, fun b hb => ?_⟩
      · obtain ⟨u, hu, rfl⟩ := zL_get hj
        have hjl : j < L.length := (List.getElem?_eq_some_iff.mp hu).1
        refine ⟨(f j).2.2, (hfk j u hu).2.1 xs hs, ?_⟩
        rw [List.getElem?_map, List.getElem?_range hjl]
        rfl
      · exact hs2.extBut _ _ D.TIz (hk _ _ D.TIz D.TITO (fun t ht => Ne.symm (D.it t ht).2.1) hTI)
      · rw [upd_ne (Nat.ne_of_lt (lts b hb))]
        exact (hf b hb).1
    · exfalso
      obtain ⟨j, hj, e⟩ := hE
      obtain ⟨t, ht⟩ := inL j hj
      have e' : (f j).1[i]? = none := by simpa using e
      rw [(hfk j t ht).2.2.1] at e'
      cases e'
  done := by
    intro X hP hw hK hc i pins s σ H E I hf st hg
    subst hP hw hK
    obtain ⟨hz, hTI, ⟨arr, hTO, harr⟩, hit⟩ := st
    obtain ⟨hall, t0, ht0, xs0, hs0, hl0⟩ := hg
    have key : ∀ j : Nat, ∃ r : List Value, ∀ t, L[j]? = some t → SSrc s.heap t.1 t.2.2 r.toArray ∧ (∀ xs, Src H t.1 t.2.2 xs → xs.length = r.length) ∧ t.2.2 ∉ zFp z TI TO L := fun j => by
      cases e : L[j]? with
      | none => exact ⟨[], fun t h => by cases h⟩
      | some t =>
        obtain ⟨xs, hs⟩ := hall _ (zL_mem (List.mem_of_getElem? e))
        obtain ⟨its, r, src, _⟩ := I.src hs
        refine ⟨its, fun t' h => ?_⟩
        cases h
        refine ⟨src, fun ys hy => by rw [hy.inj hs]; exact r.length, fun hm => ?_⟩
        have := (hf _ hm).1
        unfold Src at hs
        rw [show H t.2.2 = some (if t.1 = true then .lst xs else .tup xs) from hs] at this
        cases this
    obtain ⟨f, hfk⟩ := Classical.axiomOfChoice key
    have S : ZSrc z TO L := fun t ht => by
      obtain ⟨j, hj⟩ := List.getElem?_of_mem ht
      have n := (hfk j t hj).2.2
      refine ⟨fun e => n (by rw [e]; simp [zFp]), fun e => n (by rw [e]; simp [zFp]), fun u hu e => n (by rw [e]; exact zFp_it hu)⟩
    unfold pyNext
    have hT : s.TypeIs (.ref z) "zip" := ⟨_, hz, rfl⟩
    refine wpAny_bind (wpAny_attempt (wpAny_callSpecial?_slot (name := Str.ofString "__next__") hT F.slot_zip_next
      (wpAny_call_entry F.slot_zip_next hT F.entry_zip_next (zip_next (items := fun j => (f j).toArray) (xs := fun j => ((f j)[i]?).getD .none) (I.ok.hd hc) D S hne hlen hz hTI hTO harr hit (fun j t hj => (hfk j t hj).1) (fun j hj x hx => ?_)
        (fun hall' => ?_) (fun hE h1 e hk he => ?_)) (F.args_zip_next_1 _))))
    · have hx' : (f j)[i]? = some x := by simpa using hx
      rw [hx']; rfl
    · exfalso
      obtain ⟨u, hu, rfl⟩ := List.mem_map.mp ht0
      obtain ⟨j, hj⟩ := List.getElem?_of_mem hu
      have e1 := (hfk j u hj).2.1 xs0 hs0
      have e2 := hall' j (List.getElem?_eq_some_iff.mp hj).1
      have e3 : (f j)[i]? = some (((f j)[i]?).getD .none) := by simpa using e2
      rw [List.getElem?_eq_none (by omega)] at e3
      cases e3
    · obtain ⟨o, ho, hcl⟩ := he
      refine wpAny_bind (wpAny_isInstance (T := "StopIteration") (b := true) ⟨o, ho, hcl⟩ isSubtype_stop ?_)
      refine wpAny_pure ⟨rfl, I.turnedAll (t' := s.toks) (ch := zFp z TI TO L) (fun b o hb q => ?_) hf⟩
      exact hk b o (fun e => hb (by rw [e]; simp [zFp])) (fun e => hb (by rw [e]; simp [zFp])) (fun t ht e => hb (by rw [e]; exact zFp_it ht)) q
  self := fun _ _ _ _ _ st h => wpAny_pyIter_zip st.1 h
section
variable {X : Cx} {elts : List Expr} {x1 : Nat} {tp : Pos} {k1 k2 k3 : Bool}
def ZiQ2 (k1 k2 : Bool) (R : It → Hp → Prop) : List V → Hp → Prop := fun vs H1 => ∃ a b xs ys, vs = [.ref a, .ref b] ∧ Src H1 k1 a xs ∧ Src H1 k2 b ys ∧ R (ItZ [(k1, a), (k2, b)]) H1
def iZip2 (k1 k2 : Bool) (ta : TA) : TI := fun σ H R => ta σ H (ZiQ2 k1 k2 R)
theorem pi_zip2 {a b : Expr} {ta : TA} {p pos : Pos} (hg : Gl X "zip") (hm : X.mg "zip" = none) (ha : PA X [a, b] ta) (hn : noStar a = true := by rfl) (hn2 : noStar b = true := by rfl) : PI X (.Tuple elts x1 tp) (.Call (.Name "zip" p) [a, b] [] pos) (iZip2 k1 k2 ta) := by
  intro pins s σ H R I h
  have hs2 : starEach [b] X.env = [(false, eval b X.env)] := star_cons hn2
  have hs : starEach [a, b] X.env = [(false, eval a X.env), (false, eval b X.env)] := by rw [star_cons hn, hs2]
  refine Call_ (ld_blt I hg hm bt_zip (PyProof.Rows.callWith_type1 (thn (ha pos pins s σ H _ I h) fun us s1 ⟨vs, H1, I1, r1, q1⟩ => ?_) (by rw [hs, hs2]) (by rw [hs2]; rfl)))
  obtain ⟨l1, l2, xs, ys, e, hq1, hq2, q⟩ := q1
  subst e
  obtain ⟨u, v, rfl, ru, rv⟩ := vals2 r1
  cases ru
  cases rv
  obtain ⟨its, _, pl, _⟩ := I1.src hq1
  obtain ⟨its2, _, pl2, _⟩ := I1.src hq2
  refine call_zipN2 (t := (k1, l1)) (u := (k2, l2)) pl pl2 fun h' st hk => ?_
  refine wpAny_pyIter_zip st.1 ?_
  refine ⟨_, _, _, _, H1, rfl, I1.kept (t' := s1.toks) hk, turn_zipN _ _ _ _ (za2 s1.heap.objs.size (k1, l1) (k2, l2)) (by simp) (by simp), st, fun b hb => ?_, q⟩
  have hle : s1.heap.objs.size ≤ b := by
    simp only [zFp, List.map_cons, List.map_nil, List.mem_cons, List.not_mem_nil, or_false] at hb
    rcases hb with rfl | rfl | rfl | rfl | rfl <;> first | exact Nat.le_add_right _ _ | exact Nat.le_refl _
  exact I1.fpOk hle (I1.hok.fresh hle)
end
section
variable {σ : St} {H : Hp} {nx : St → Hp → Prop} {rt : VK} {g : TG} {tb : TS} {Q : VK} {k1 k2 k3 : Bool} {a b c : Addr} {xs ys zs : List V} {n : Nat}
theorem rd_iZip2 {ta : TA} {R : It → Hp → Prop} (h : ta σ H (ZiQ2 k1 k2 R)) : iZip2 k1 k2 ta σ H R := h
theorem rd_zi2 {R : It → Hp → Prop} (h1 : Src H k1 a xs) (h2 : Src H k2 b ys) (h : R (ItZ [(k1, a), (k2, b)]) H) : ZiQ2 k1 k2 R [.ref a, .ref b] H := ⟨a, b, xs, ys, rfl, h1, h2, h⟩
theorem itz2_go {i : Nat} (h1 : Src H k1 a xs) (h2 : Src H k2 b ys) {x y : V} (e1 : xs[i]? = some x) (e2 : ys[i]? = some y) : (ItZ [(k1, a), (k2, b)]).go i H := fun t ht => by
  simp only [List.mem_cons, List.not_mem_nil, or_false] at ht
  rcases ht with rfl | rfl
  · exact ⟨xs, x, h1, e1⟩
  · exact ⟨ys, y, h2, e2⟩
theorem itz2_yld {i : Nat} (h1 : Src H k1 a xs) (h2 : Src H k2 b ys) {v : V} {H' : Hp} (h : (ItZ [(k1, a), (k2, b)]).yld i H v H') : ∃ T x y, H T = none ∧ v = .ref T ∧ H' = upd H T (.tup [x, y]) ∧ xs[i]? = some x ∧ ys[i]? = some y := by
  obtain ⟨T, vs, nT, e1, e2, hl, hv⟩ := h
  obtain ⟨x, hx, v0⟩ := hv 0 _ xs rfl h1
  obtain ⟨y, hy, v1⟩ := hv 1 _ ys rfl h2
  match vs, hl with
  | [p, q], _ => cases v0; cases v1; exact ⟨T, _, _, nT, e1, e2, hx, hy⟩
theorem itz2_stop {i : Nat} (h1 : Src H k1 a xs) (h2 : Src H k2 b ys) (hm : xs.length ≤ i ∨ ys.length ≤ i) : (ItZ [(k1, a), (k2, b)]).stop i H := by
  refine ⟨fun t ht => ?_, ?_⟩
  · simp only [List.mem_cons, List.not_mem_nil, or_false] at ht
    rcases ht with rfl | rfl
    · exact ⟨xs, h1⟩
    · exact ⟨ys, h2⟩
  · rcases hm with h | h
    · exact ⟨(k1, a), by simp, xs, h1, h⟩
    · exact ⟨(k2, b), by simp, ys, h2, h⟩
theorem rf_zip2 (n1 : n ≤ xs.length) (n2 : n ≤ ys.length) (nm : xs.length = n ∨ ys.length = n) (Pv : Nat → St → Hp → Prop) (h0 : Pv 0 σ H) (hl : ∀ i σ H, i ≤ n → Pv i σ H → Src H k1 a xs ∧ Src H k2 b ys)
    (hs : ∀ i x y σ H T, xs[i]? = some x → ys[i]? = some y → Pv i σ H → H T = none → g (.ref T) σ (upd H T (.tup [x, y])) fun σ2 H2 => tb ⟨Pv (i + 1), rt, nx, Pv (i + 1)⟩ σ2 H2) (hd : ∀ σ H, Pv n σ H → nx σ H) :
    ∃ W : Nat → Nat → St → Hp → Prop, (∃ m, W 0 m σ H) ∧ ∀ i m σ H, W i m σ H →
      ((ItZ [(k1, a), (k2, b)]).stop i H ∧ nx σ H) ∨ ((ItZ [(k1, a), (k2, b)]).go i H ∧ ∃ N : St → Hp → Prop, (∀ σ' H', N σ' H' → ∃ m', m' < m ∧ W (i + 1) m' σ' H') ∧ ∀ x H', (ItZ [(k1, a), (k2, b)]).yld i H x H' → g x σ H' fun σ2 H2 => tb ⟨N, rt, nx, N⟩ σ2 H2) := by
  refine ⟨fun i m σ H => m = n - i ∧ i ≤ n ∧ Pv i σ H, ⟨n, by simp, Nat.zero_le _, h0⟩, ?_⟩
  rintro i m σ H ⟨rfl, hi, p⟩
  obtain ⟨q1, q2⟩ := hl i σ H hi p
  by_cases hlt : i < n
  · refine .inr ⟨itz2_go q1 q2 (List.getElem?_eq_getElem (show i < xs.length by omega)) (List.getElem?_eq_getElem (show i < ys.length by omega)), Pv (i + 1), fun σ' H' p' => ⟨n - (i + 1), by omega, rfl, hlt, p'⟩, fun x H' y => ?_⟩
    obtain ⟨T, u, v, hT, e1, e2, y1, y2⟩ := itz2_yld q1 q2 y
    subst e1 e2
    exact hs i u v σ H T y1 y2 p hT
  · have e : i = n := by omega
    subst e
    exact .inl ⟨itz2_stop q1 q2 (by omega), hd σ H p⟩
end
section
variable {σ₀ : St} {g : TG} {tt : TT} {te : TE} {R : List V → Hp → Prop} {H : Hp} {k1 k2 k3 : Bool} {a b c : Addr} {xs ys zs : List V} {n : Nat}
end
section
variable {X : Cx}
def rTupOf (K : PySem.W.Frag) : List V → Hp → VK → Prop := fun xs H Q => ∃ p ys, xs = [.ref p] ∧ ((SqL K H p ys ∧ ∀ l, H l = none → Q (.ref l) (upd H l (.tup ys))) ∨ (SqT K H p ys ∧ Q (.ref p) H))
theorem call_tupG : CallR X (.type "tuple") (rTupOf X.K) := call_tuple_of
theorem rd_tupL {K : PySem.W.Frag} {H : Hp} {Q : VK} {p : Addr} {ys : List V} (h1 : SqL K H p ys) (h : ∀ l, H l = none → Q (.ref l) (upd H l (.tup ys))) : rTupOf K [.ref p] H Q := ⟨p, ys, rfl, .inl ⟨h1, h⟩⟩
end
end L2
namespace L2.Q
open PySem PySem.Spec PyProof.Rows L2
section
variable {X : Cx} {p pos tp : Pos} {a b c : Expr} {elts : List Expr} {t : TA} {x1 : Nat} {k1 k2 k3 : Bool}
theorem pi_zip2 (hg : Gl X "zip") (hm : X.mg "zip" = none) (ha : QA X [a, b] t) (hn : noStar a = true := by rfl) (hn2 : noStar b = true := by rfl) : QI X (.Tuple elts x1 tp) (.Call (.Name "zip" p) [a, b] [] pos) (iZip2 k1 k2 t) := ⟨L2.pi_zip2 hg hm ha.h hn hn2⟩
theorem ps_par {i j : Nat} {x y : Str} {px py pt : Pos} {kt k2 pt2} (hc : X.calm = true) (hN : X.N.Nodup) (hi : X.N[i]? = some x) (hj : X.N[j]? = some y) (hij : i ≠ j)
    (hx : X.env.scope.names.lookup x = some .local) (hy : X.env.scope.names.lookup y = some .local) (ha : QA X [a, b] t)
    (hw : swappedStores [.Tuple [.Name x px, .Name y py] kt pt] (.Tuple [a, b] k2 pt2) X.env = pure (some [x, y]) := by rfl)
    (hs : swapsWithSole [.Tuple [.Name x px, .Name y py] kt pt] (.Tuple [a, b] k2 pt2) pos.line X.env = pure false := by rfl) :
    QS X (.Assign [.Tuple [.Name x px, .Name y py] kt pt] (.Tuple [a, b] k2 pt2) pos) (tPar i j t) := ⟨L2.ps_par hc hN hi hj hij hx hy ha.h hw hs⟩
end
end L2.Q
namespace L2
open PySem PySem.Spec PyProof.Rows
theorem nw {H : Hp} {p : Addr} (o : HO) (n : H p = none) : ∃ H2, upd H p o = H2 ∧ Same H H2 ∧ H2 p = some o := ⟨_, rfl, Same.new n, upd_same⟩
theorem wr (H : Hp) (p : Addr) (o : HO) : ∃ H2, upd H p o = H2 ∧ Keep p H H2 ∧ H2 p = some o := ⟨_, rfl, Keep.upd, upd_same⟩
end L2
namespace L2
open PySem PySem.Spec PyProof.Rows
end L2
namespace L2
open PySem PySem.Spec PyProof.Rows
def Nx (N : St → Hp → Prop) (σ : St) (H : Hp) : Prop := N σ H
structure Tail (N b : St → Hp → Prop) : Prop where
  h : ∀ σ H, b σ H → N σ H
theorem rd_seqH {nx bk ct : St → Hp → Prop} {rt : VK} {σ : St} {H : Hp} {t u : TS} (h : ∀ N, Tail N (u ⟨nx, rt, bk, ct⟩) → t ⟨Nx N, rt, bk, ct⟩ σ H) : tSeq t u ⟨nx, rt, bk, ct⟩ σ H := h _ ⟨fun _ _ h => h⟩
theorem rd_nx {N b : St → Hp → Prop} {σ : St} {H : Hp} (t : Tail N b) (h : b σ H) : Nx N σ H := t.h _ _ h
end L2
namespace L2
open PySem PySem.Spec PyProof.Rows
section
variable {prog : Program} {w : World} {A : Around} {E : Value → Shared → Prop} {s : Shared} {K : PySem.W.Frag} {x C : Addr} {ox : Obj} {od : Option Obj}
end
section
variable {X : Cx}
end
end L2
namespace L2
open PySem PySem.Spec PyProof.Rows
section
variable {X : Cx} {pins : List (Addr × Obj)} {σ : St} {H : Hp} {s : Shared}
end
theorem ObjOk.obj {P : Program} {w : World} {H : Hp} {h : Heap} {a : Addr} {o : HO} (x : ObjOk P w H h a o) : ∃ u, h.get? a = some u := by
  cases o with
  | lst xs => obtain ⟨_, _, _, _, e⟩ := x; exact ⟨_, e⟩
  | tup xs => obtain ⟨_, _, _, u, e, _⟩ := x; exact ⟨u, e⟩
  | dK kvs => obtain ⟨_, _, _, _, u, _, _, e, _⟩ := x; exact ⟨u, e⟩
  | dT kvs => obtain ⟨_, _, _, _, u, _, _, e, _⟩ := x; exact ⟨u, e⟩
  | set S n => obtain ⟨u, _, _, _, e, _⟩ := x; exact ⟨u, e⟩
  | ins C dx fs => obtain ⟨_, _, _, e, _⟩ := x; exact ⟨_, e⟩
  | own y => exact x
  | xd fs => obtain ⟨_, ⟨u, _, _, e, _⟩, _⟩ := x; exact ⟨u, e⟩
  | rng lo hi => obtain ⟨_, _, _, e⟩ := x; exact ⟨_, e⟩
  | frz ob u => exact ⟨_, x.1⟩
  | tbl ps => exact ⟨_, x⟩
  | met f y => exact ⟨_, x⟩
  | ext φ => exact x.2.1
  | cod q => obtain ⟨o, _, _, e, _⟩ := x; exact ⟨o, e⟩
  | ctb pos q => obtain ⟨_, e, _⟩ := x; exact ⟨_, e⟩
theorem Inv.laidN {X : Cx} {pins : List (Addr × Obj)} {σ : St} {H : Hp} {s : Shared} {h' : Heap} {a : Addr} {o : HO} {t' : Nat} (I : Inv X pins σ H s) (k : ∀ b u, s.heap.get? b = some u → h'.get? b = some u) (hne : ∀ b u, s.heap.get? b = some u → b ≠ a)
    (new : ObjOk X.prog X.w (upd H a o) h' a o) : H a = none ∧ Inv X pins σ (upd H a o) { s with heap := h', toks := t' } := by
  have hn : H a = none := by
    cases e : H a with
    | none => rfl
    | some u =>
      obtain ⟨ob, z⟩ := (I.hok a u e).obj
      exact absurd rfl (hne a ob z)
  refine ⟨hn, I.un ⟨fun b u q _ _ _ => k b u q, fun b u q _ _ _ => ⟨u.slots, k b u q⟩, fun b u q n _ => ?_, fun b u q _ => ⟨u, k b u q⟩, fun b xs q => ?_, fun b u xs q => ?_, fun b ps q => ⟨#[], ?_⟩⟩ fun b u e => ?_⟩
  · rw [upd_ne (hne b u q)]; exact n
  · rw [upd_ne (ne_of_none q hn)]; exact q
  · rw [upd_ne (ne_of_none q hn)]; exact q
  · rw [upd_ne (ne_of_none q hn), q]; simp
  · by_cases hb : b = a
    · subst hb; rw [upd_same] at e; cases e; exact new
    · rw [upd_ne hb] at e
      exact (I.hok b u e).stay (fun c v _ q => k c v q) (fun c q => by rw [upd_ne (ne_of_none q hn)]; exact q) fun c xs _ q => by rw [upd_ne (ne_of_none q hn)]; exact q
section
variable {X : Cx} {tg : Expr}
end
section
variable {σ : St} {H : Hp} {nx : St → Hp → Prop} {rt : VK} {g : TG} {tb : TS}
end
section
variable {X : Cx}
end
section
variable {X : Cx} {o e : Expr} {to : TE} {apos cpos : Pos}
end
section
variable {K : PySem.W.Frag} {σ : St} {H : Hp} {Q : VK}
end
end L2
namespace L2.Q
open PySem PySem.Spec PyProof.Rows
section
variable {X : Cx} {K' : PySem.W.Frag} {tg o i value l : Expr} {to td ty tv tl : TE} {pos pos' apos cpos : Pos}
end
end L2.Q
namespace L2
open PySem PySem.Spec PyProof.Rows
section
variable {σ : St} {H : Hp} {Q : VK} {nx bk ct : St → Hp → Prop} {rt : VK}
end
end L2
namespace L2
open PySem PySem.Spec PyProof.Rows
structure ErrCls (K : PySem.W.Frag) (C : Addr) : Prop where
  ga : PySem.W.findIn K (.ref C) "__getattribute__" = some (some (.builtin "BaseException.__getattribute__"))
  gx : PySem.W.findIn K (.ref C) "__getattr__" = some none
  ex : PySem.W.mroIn K C (.type "BaseException") = some true
section
variable {prog : Program} {w : World} {A : Around} {E : Value → Shared → Prop} {s : Shared} {K : PySem.W.Frag} {x C : Addr} {ox : Obj} {od : Option Obj} {name : Str} {v : Value} {expr : Bool}
end
def errMro : List Value → Bool
  | .ref _ :: r => errMro r
  | l => l == [.type "ValueError", .type "Exception", .type "BaseException", .type "object"]
section
variable {prog : Program} {w : World} {A : Around} {E : Value → Shared → Prop} {s : Shared} {K : PySem.W.Frag} {x C : Addr} {o : Obj} {name : Str} {v : Value}
open PySem.Builtin PySem.Builtin.ObjectAttr in
end
section
variable {prog : Program} {w : World} {A : Around} {E : Value → Shared → Prop} {s : Shared} {K : PySem.W.Frag}
variable {nm q : Str} {C N fI : Addr} {bs bm bmB : List Value} {hdct : Bool} {sn : List Str} {sub : List Value} {ab : Bool} {col : Option Bool} {dd : Option Addr} {k0 k1 k2 k3 k5 : Option Value} {B newId initId : String}
end
structure Lft (fs : List Addr) (e : Addr) (oe : Obj) (h h' : Heap) : Prop where
  keep : ∀ b o, b ∉ fs → b ≠ e → h.get? b = some o → h'.get? b = some o
  slot : ∀ b o, b ∈ fs → h.get? b = some o → ∃ sl, h'.get? b = some { o with slots := sl }
  err : ∃ vs T oT ts, h'.get? e = some { oe with data := .fields vs } ∧ vs[1]? = some (.ref T) ∧ T ≠ e ∧ h.objs.size ≤ T ∧ h'.get? T = some oT ∧ oT.data = .fields ts ∧ ts[3]? = some .none
section
variable {M : Model} {A : Around} {E : Value → Shared → Prop} {s : Shared} {base : Heap} {env : Env} {outer : List Env} {L e : Addr} {oe : Obj} {vs : Array Value} {Q : Unit → Shared → Prop}
theorem entry_err {head : Value} {hadNext : Bool} (hfr : A.frames = some (env :: outer)) (hl : s.heap.FunFrames base (env :: outer)) (hf : env.frame = some L) (he : s.heap.get? e = some oe) (hd : oe.data = .fields vs) (hz : 1 < vs.size)
    (h : ∀ h', Lft (frs (env :: outer)) e oe s.heap h' → Q () { s with heap := h' }) :
    wpAny M A (do let a ← frameOf env; let pl ← entryPlaceOf L hadNext; let b ← EntryCells.newEntry head a .none (rawInt L) .none pl; setField (.ref e) 1 b) (fun _ s' => wpAny M A (setFlight (.ref e) none) Q E s') E s := by
  have hene : e ∉ frs (env :: outer) := fun hm => by
    obtain ⟨_, o, ho, hnf⟩ := hl.mem hm
    rw [he] at ho
    cases ho
    exact hnf vs hd
  refine wpAny_bind (wpAny_frameOf_fun hfr hl hf fun h2 hs => wpAny_bind (wpAny_entryPlaceOf fun pl hpl => ?_))
  unfold EntryCells.newEntry newFields
  refine wpAny_bind (wpAny_newObj_type ?_ (hpl.sizeOk5 _ _ _ _ _))
  have he2 : h2.get? e = some oe := (hs.2.1 e hene).trans he
  have nT : h2.objs.size ≠ e := Nat.ne_of_gt (Heap.lt_size he2)
  refine wpAny_setField (Heap.get?_push_of_some _ he2) hd hz ?_
  generalize hTs : ([head, Value.ref L, Value.none, rawInt L, Value.none] ++ if pl.isEmpty = true then List.replicate 6 Value.none else pl).toArray = ts0
  have h3 : 3 < ts0.size := by rw [← hTs]; simp only [List.size_toArray, List.length_append, List.length_cons, List.length_nil]; omega
  have em : Obj.mapFields (·.setIfInBounds 1 (Value.ref h2.objs.size)) oe = { oe with data := .fields (vs.setIfInBounds 1 (Value.ref h2.objs.size)) } := by
    obtain ⟨c, di, dt, sl⟩ := oe
    cases hd
    rfl
  generalize hA : h2.push { cls := .type "traceback", data := .fields ts0 } = hA'
  have ka : ∀ b o, h2.get? b = some o → hA'.get? b = some o := fun b o z => by rw [← hA]; exact Heap.get?_push_of_some _ z
  have kT : hA'.get? h2.objs.size = some { cls := .type "traceback", data := .fields ts0 } := by rw [← hA]; exact Heap.get?_push_size _ rfl
  show wpAny M A (setFlight (.ref e) none) Q E { s with heap := hA'.update e (Obj.mapFields (·.setIfInBounds 1 (Value.ref h2.objs.size))) }
  have he3 : (hA'.update e (Obj.mapFields (·.setIfInBounds 1 (Value.ref h2.objs.size)))).get? e = some { oe with data := .fields (vs.setIfInBounds 1 (Value.ref h2.objs.size)) } := by
    rw [← em]
    exact Heap.get?_update_self _ (ka _ _ he2) (by rw [em]; rfl)
  have hT3 : (hA'.update e (Obj.mapFields (·.setIfInBounds 1 (Value.ref h2.objs.size)))).get? h2.objs.size = some { cls := .type "traceback", data := .fields ts0 } := (Heap.get?_update_other _ _ (Ne.symm nT)).trans kT
  unfold setFlight
  refine wpAny_bind (wpAny_field he3 rfl (x := .ref h2.objs.size) (by simp [hz]) ?_)
  rw [if_pos (show (Value.ref h2.objs.size != Value.none) = true from by simp)]
  refine wpAny_setField hT3 rfl h3 (h _ ⟨fun b o hb hbe z => ?_, fun b o hb z => ?_, ?_⟩)
  · have z2 := (hs.2.1 b hb).trans z
    exact (Heap.get?_update_other _ _ (Nat.ne_of_gt (Heap.lt_size z2))).trans ((Heap.get?_update_other _ _ (Ne.symm hbe)).trans (ka _ _ z2))
  · obtain ⟨sl, z2⟩ := hs.2.2 b o z
    exact ⟨sl, (Heap.get?_update_other _ _ (Nat.ne_of_gt (Heap.lt_size z2))).trans ((Heap.get?_update_other _ _ (show e ≠ b from fun q => hene (by rw [q]; exact hb))).trans (ka _ _ z2))⟩
  · refine ⟨_, h2.objs.size, _, _, (Heap.get?_update_other _ _ nT).trans he3, by simp [hz], nT, Nat.le_of_eq hs.1.symm, Heap.get?_update_self _ hT3 rfl, rfl, by simp [h3]⟩
theorem leave_err (hfr : A.frames = some (env :: outer)) (hl : s.heap.FunFrames base (env :: outer)) (hf : env.frame = some L) (he : s.heap.get? e = some oe) (hd : oe.data = .fields vs) (h1 : vs[1]? = some .none)
    (h : ∀ h', Lft (frs (env :: outer)) e oe s.heap h' → Q () { s with heap := h' }) : wpAny M A (leaving env (.ref e)) Q E s := by
  unfold leaving noteFrame
  simp only [hf]
  refine wpAny_bind (wpAny_bind (wpAny_field he hd h1 ?_))
  rw [if_neg (by decide)]
  exact entry_err hfr hl hf he hd (Array.getElem?_eq_some_iff.mp h1).1 h
theorem look_err {T : Addr} {oT : Obj} {ts : Array Value} (hfr : A.frames = some (env :: outer)) (hl : s.heap.FunFrames base (env :: outer)) (hf : env.frame = some L) (he : s.heap.get? e = some oe) (hd : oe.data = .fields vs) (h1 : vs[1]? = some (.ref T))
    (hT : s.heap.get? T = some oT) (hdT : oT.data = .fields ts) (h3 : ts[3]? = some .none) (nTe : T ≠ e)
    (h : ∀ h2 h', (∀ b, b ≠ T → h2.get? b = s.heap.get? b) → h2.objs.size = s.heap.objs.size → Lft (frs (env :: outer)) e oe h2 h' → Q () { s with heap := h' }) :
    wpAny M A (noteFrame (.ref e) env) (fun _ s2 => wpAny M A (setFlight (.ref e) none) Q E s2) E s := by
  unfold noteFrame
  simp only [hf]
  refine wpAny_bind (wpAny_field he hd h1 ?_)
  rw [if_pos (show (Value.ref T != Value.none) = true from by simp)]
  refine wpAny_bind (wpAny_field hT hdT h3 ?_)
  rw [if_neg (show ¬ ((Value.none == rawInt L) = true) from by simp [rawInt])]
  refine wpAny_bind (wpAny_setField hT hdT (Array.getElem?_eq_some_iff.mp h3).1 ?_)
  have ot : ∀ b, b ≠ T → (s.heap.update T (Obj.mapFields (·.setIfInBounds 3 Value.none))).get? b = s.heap.get? b := fun b hb => Heap.get?_update_other _ _ (Ne.symm hb)
  refine entry_err (base := base) hfr (hl.of_keeps fun b o z hnf => ⟨o, (ot b fun q => ?_).trans z, rfl⟩) hf ((ot e (Ne.symm nTe)).trans he) hd (Array.getElem?_eq_some_iff.mp h1).1 fun h' lf => h _ h' ot (Heap.size_update ..) lf
  rw [q, hT] at z
  cases z
  exact hnf ts hdT
end
def ErrO (C : Addr) (od : Option Addr) (e : Addr) : HO := .ext fun h => ∃ o vs, h.get? e = some o ∧ o.cls = .ref C ∧ o.dict = od ∧ o.data = .fields vs
theorem errO_ok {P : Program} {w : World} {H : Hp} {h : Heap} {C e : Addr} {od : Option Addr} {o : Obj} {vs : Array Value} (h1 : h.get? e = some o) (h2 : o.cls = .ref C) (h3 : o.dict = od) (h4 : o.data = .fields vs) : ObjOk P w H h e (ErrO C od e) :=
  ⟨⟨o, vs, h1, h2, h3, h4⟩, ⟨o, h1⟩, fun _ _ z k => let ⟨o, vs, a, b, c, d⟩ := z; ⟨o, vs, k o a, b, c, d⟩⟩
theorem errO_at {P : Program} {w : World} {H : Hp} {h : Heap} {C e : Addr} {od : Option Addr} (x : ObjOk P w H h e (ErrO C od e)) : ∃ o vs, h.get? e = some o ∧ o.cls = .ref C ∧ o.dict = od ∧ o.data = .fields vs := x.1
section
variable {X : Cx} {pins : List (Addr × Obj)} {σ : St} {H : Hp} {s : Shared} {h' : Heap} {C e : Addr} {od : Option Addr} {oe : Obj}
theorem Inv.left (I : Inv X pins σ H s) (he : H e = some (ErrO C od e)) (ho : s.heap.get? e = some oe) (lf : Lft (frs X.stack) e oe s.heap h') : Inv X pins σ H { s with heap := h' } := by
  obtain ⟨o, vs, q1, q2, q3, q4⟩ := errO_at (I.hok e _ he)
  rw [ho] at q1
  cases q1
  have stk := I.stkFree
  obtain ⟨vs2, T, oT, ts, r1, _⟩ := lf.err
  have tr : ∀ b u, H b = some u → b ∉ frs X.stack := fun b u z hb => by rw [stk b hb] at z; cases z
  refine I.call (g' := s.gens) (d' := s.drawn) (t' := s.toks) (ch := []) ⟨fun b o z n hb _ => lf.keep b o hb (fun q => by rw [q, he] at n; cases n) z, fun b o z n hb _ => lf.slot b o hb z, fun b o z n _ => n, fun b o z _ => ?_, fun _ _ z => z, fun _ _ _ z => z, fun b ps z => ⟨#[], by rw [z]; simp⟩⟩ (fun a u z => ?_) I.bare (fun b z => nomatch z)
  · by_cases hb : b ∈ frs X.stack
    · obtain ⟨sl, q⟩ := lf.slot b o hb z; exact ⟨_, q⟩
    · by_cases hbe : b = e
      · subst hbe; exact ⟨_, r1⟩
      · exact ⟨o, lf.keep b o hb hbe z⟩
  · by_cases hae : a = e
    · subst hae
      rw [he] at z
      cases z
      exact errO_ok r1 q2 q3 rfl
    · refine (I.hok a u z).stay (fun b v hb q => ?_) (fun _ q => q) fun _ _ _ q => q
      rcases hb with rfl | hb
      · exact lf.keep _ v (tr _ _ z) hae q
      · exact lf.keep _ v (tr _ _ hb) (fun y => by rw [y, he] at hb; cases hb) q
end
def CXE (P : Program) (w : World) : CXT := fun outer H s E ev s' => ∃ (e C : Addr) (od : Option Addr) (H' : Hp) (oe : Obj) (vs : Array Value) (T : Addr) (oT : Obj) (ts : Array Value),
  ev = .ref e ∧ s'.os = s.os ∧ AllBare s'.gens ∧ Un (frs outer) [] H H' s.heap s'.heap ∧ HOk P w H' s'.heap ∧ H' e = some (ErrO C od e) ∧ s'.heap.get? e = some oe ∧ oe.data = .fields vs ∧ vs[1]? = some (.ref T) ∧ T ≠ e ∧
  s.heap.objs.size ≤ T ∧ H' T = none ∧ s'.heap.get? T = some oT ∧ oT.data = .fields ts ∧ ts[3]? = some .none ∧ E (.ref e) od H'
theorem raise_out {P : Program} {w : World} {K : PySem.W.Frag} {mg : Str → Option Value} {base : Heap} {N : List Str} {qual : Str} {scope : Scope} {f : Addr} {cd : Value} {A : Around} {outer : List Env} {s s' : Shared} {H H' : Hp} {E : XK} {pins : List (Addr × Obj)} {σ : St}
    {C e : Addr} {od : Option Addr} {oe : Obj} {vs : Array Value} (I : Inv (cxOf (CXE P w) P w K mg base N qual scope f cd A outer s H E) pins σ H' s') (he : H' e = some (ErrO C od e)) (ho : s'.heap.get? e = some oe) (hd : oe.data = .fields vs) (h1 : vs[1]? = some .none) (hE : E (.ref e) od H') :
    (cxOf (CXE P w) P w K mg base N qual scope f cd A outer s H E).xe (.ref e) s' := by
  refine leave_err (base := base) I.ok.frames I.stack rfl ho hd h1 fun h' lf => ?_
  have I2 := I.left he ho lf
  obtain ⟨vs2, T, oT, ts, r1, r2, r3, r4, r5, r6, r7⟩ := lf.err
  have sT : s.heap.objs.size ≤ T := Nat.le_trans I.sz r4
  have nT : s'.heap.get? T = none := Heap.get?_none_of_le r4
  have hT : H' T = none := by
    cases z : H' T with
    | none => rfl
    | some u =>
      obtain ⟨o2, z2⟩ := (I.hok T u z).obj
      rw [nT] at z2
      cases z2
  exact ⟨e, C, od, H', _, _, T, oT, ts, rfl, I2.os, I2.bare, I2.base, I2.hok, he, r1, rfl, r2, r3, sT, hT, r5, r6, r7, hE⟩
end L2
namespace L2
open PySem PySem.Spec PyProof.Rows
def veMro : List Value := [.type "ValueError", .type "Exception", .type "BaseException", .type "object"]
def excMkIn (K : PySem.W.Frag) (C : Addr) : Bool := match K.lookup C with
  | some ⟨.type "type", _, .cls cd, sl⟩ => (match cd.mro, sl.toList with
    | .ref C' :: bm, [_, _, _, _, some (.builtin n), _] => C' == C && n == "ValueError.__new__" && !cd.hasDel && PySem.W.tailIn K veMro bm
    | _, _ => false)
  | _ => false
theorem excMk_of {K : PySem.W.Frag} {h : Heap} {C : Addr} (X : K.In h) (q : excMkIn K C = true) : ∃ nm qn N bs bm hd sn sub ab col dd k0 k1 k2 k3 k5,
    h.get? C = some (excClassObj nm qn C N bs bm hd sn sub ab col dd k0 k1 k2 k3 k5 "ValueError.__new__") ∧ OwnTail h veMro bm := by
  unfold excMkIn at q
  split at q
  · rename_i dd cd sl ho
    split at q
    · rename_i C' bm k0 k1 k2 k3 n k5 hm hs
      simp only [Bool.and_eq_true, beq_iff_eq, Bool.not_eq_true'] at q
      obtain ⟨⟨⟨rfl, rfl⟩, hdel⟩, ht⟩ := q
      obtain ⟨nm, bs, mro, ns, qn, hd, sn, sub, ab, col, del⟩ := cd
      dsimp only at hm hdel
      subst hm hdel
      have hsl : sl = #[k0, k1, k2, k3, some (.builtin "ValueError.__new__"), k5] := by
        obtain ⟨l⟩ := sl
        simp only at hs
        rw [hs]
      subst hsl
      exact ⟨nm, qn, ns, bs, bm, hd, sn, sub, ab, col, dd, k0, k1, k2, k3, k5, X _ _ ho, PySem.W.tail_of_in X ht⟩
    · cases q
  · cases q
structure ErrK (K : PySem.W.Frag) (C : Addr) : Prop where
  z : ErrCls K C
  sa : PySem.W.findIn K (.ref C) "__setattr__" = some (some (.builtin "object.__setattr__"))
  ca : PySem.W.findIn K (.ref C) "__class__" = some (some (.builtin "object.__class__"))
  cg : PySem.W.specialIn K (.builtin "object.__class__") "__get__" = some (some (.builtin "getset_descriptor.__get__"))
  ct : PySem.W.takesIn K (.builtin "object.__class__") = some true
  mo : PySem.W.mroIn K C (.type "object") = some true
  hd : PySem.W.hasDictIn K C = true
  mm : (PySem.W.clsIn K C).any (fun cd => errMro cd.mro && cd.hasDict) = true
  made : excMkIn K C = true
  kp : PySem.W.keepIn K (.ref C) = true
def ErrN (C : Addr) (od : Option Addr) (e : Addr) : HO := .ext fun h => ∃ o t, h.get? e = some o ∧ o.cls = .ref C ∧ o.dict = od ∧ o.data = .fields #[.ref t, .none, .none, .none, .bool false, .none]
theorem errN_ok {P : Program} {w : World} {H : Hp} {h : Heap} {C e t : Addr} {od : Option Addr} {o : Obj} (h1 : h.get? e = some o) (h2 : o.cls = .ref C) (h3 : o.dict = od) (h4 : o.data = .fields #[.ref t, .none, .none, .none, .bool false, .none]) : ObjOk P w H h e (ErrN C od e) :=
  ⟨⟨o, t, h1, h2, h3, h4⟩, ⟨o, h1⟩, fun _ _ z k => let ⟨o, t, a, b, c, d⟩ := z; ⟨o, t, k o a, b, c, d⟩⟩
theorem errN_at {P : Program} {w : World} {H : Hp} {h : Heap} {C e : Addr} {od : Option Addr} (x : ObjOk P w H h e (ErrN C od e)) : ∃ o t, h.get? e = some o ∧ o.cls = .ref C ∧ o.dict = od ∧ o.data = .fields #[.ref t, .none, .none, .none, .bool false, .none] := x.1
theorem not_freed {o : Obj} {vs : Array Value} (h : o.data = .fields vs) : PySem.W.notCls o = true := by
  obtain ⟨c, d, dt, sl⟩ := o
  cases h
  rfl
section
variable {X : Cx} {pins : List (Addr × Obj)} {σ : St} {H : Hp} {s : Shared}
theorem Inv.errOld {C e : Addr} {od : Option Addr} (I : Inv X pins σ H s) (he : H e = some (ErrN C od e)) : Inv X pins σ (upd H e (ErrO C od e)) s := by
  obtain ⟨o, t, a, b, c, d⟩ := errN_at (I.hok e _ he)
  exact I.write (x := e) (e := e) (h' := s.heap) (t' := s.toks) (by rw [he]; trivial) (.inl rfl) (fun _ _ _ q => q) ⟨o, a⟩ (errO_ok a b c d)
end
end L2
namespace L2
open PySem PySem.Spec PyProof.Rows
def tMkE0 (C : Addr) : TE := fun _ H Q => ∀ x, H x = none → Q (.ref x) (upd H x (ErrN C none x))
section
variable {X : Cx} {k : Nat} {f C : Addr} {fd : FuncData} {ps : List Str} {sp : Sp} {x : Str} {p pos : Pos} {e : Expr} {es : List Expr} {t : TA} {te : TE}
theorem new_err {pins : List (Addr × Obj)} {σ : St} {H : Hp} {s : Shared} {h' : Heap} {e : Addr} {us : List Value} (I : Inv X pins σ H s) (m : Heap.MadeExcOf s.heap h' e (.ref C) us) :
    H e = none ∧ Inv X pins σ (upd H e (ErrN C none e)) { s with heap := h' } := by
  obtain ⟨kp, nE, t, he, _⟩ := m
  exact I.laidN (t' := s.toks) kp (fun b u q z => by rw [z, nE] at q; cases q) (errN_ok he rfl rfl rfl)
theorem excNo_of {K : PySem.W.Frag} {h : Heap} {C : Addr} (X : K.In h) (q : PySem.W.excIn K C veMro "ValueError.__new__" = true) : ∃ nm qn N bs bm hd sn sub ab col dd k0 k1 k2 k3 k5, ∃ mN : Str → Option Value,
    h.get? C = some (excClassObj nm qn C N bs bm hd sn sub ab col dd k0 k1 k2 k3 k5 "ValueError.__new__") ∧ h.Ns N mN ∧ mN "__init__" = none ∧ OwnTail h veMro bm := by
  unfold PySem.W.excIn at q
  split at q
  · rename_i dd cd sl ho
    split at q
    · rename_i C' bm k0 k1 k2 k3 n k5 hm hs
      simp only [Bool.and_eq_true, beq_iff_eq, Bool.not_eq_true'] at q
      obtain ⟨⟨⟨⟨⟨rfl, rfl⟩, hdel⟩, ht⟩, hok⟩, hni⟩ := q
      obtain ⟨nm, bs, mro, ns, qn, hd, sn, sub, ab, col, del⟩ := cd
      dsimp only at hm hdel hok hni
      subst hm hdel
      have hsl : sl = #[k0, k1, k2, k3, some (.builtin "ValueError.__new__"), k5] := by
        obtain ⟨l⟩ := sl
        simp only at hs
        rw [hs]
      subst hsl
      exact ⟨nm, qn, ns, bs, bm, hd, sn, sub, ab, col, dd, k0, k1, k2, k3, k5, _, X _ _ ho, .of_isNs (PySem.W.isNs_of_in X hok), PySem.W.nsMap_none_of_in X hok hni, PySem.W.tail_of_in X ht⟩
    · cases q
  · cases q
theorem pe_mkE0 (q : PySem.W.excIn X.K C veMro "ValueError.__new__" = true) (hk : PySem.W.keepIn X.K (.ref C) = true) (hg : Gl X x) (hm : X.mg x = some (.ref C)) (hdb : (x == ("__debug__" : Str)) = false := by decide) : PE X (.Call (.Name x p) [] [] pos) (tMkE0 C) := by
  intro pins s σ H Q I h
  refine wpAny_Call_Name_kw (ld_glob I hg hm ?_ hdb)
  refine PySem.W.callWith_K0 I.kIn hk ?_
  obtain ⟨nm, qn, N, bs, bm, hd, sn, sub, ab, col, dd, k0, k1, k2, k3, k5, mN, hC, hN, hni, T⟩ := excNo_of I.kIn q
  obtain ⟨hp, g, d, tk, os⟩ := s
  refine wpAny_call_exc_subT (rest := []) PySem.F.excBase_ValueError T hC hN hni fun h' e m => ?_
  obtain ⟨n1, I2⟩ := new_err I m
  exact ⟨V.ref e, _, I2, rfl, h e n1⟩
def Raises (X : Cx) (E : XK) : Prop := ∀ (pins : List (Addr × Obj)) (σ : St) (H : Hp) (s : Shared) (e C : Addr) (od : Option Addr) (oe : Obj) (vs : Array Value), Inv X pins σ H s → H e = some (ErrO C od e) → s.heap.get? e = some oe → oe.data = .fields vs → vs[1]? = some .none → E (.ref e) od H → X.xe (.ref e) s
theorem raises_cx {P : Program} {w : World} {K : PySem.W.Frag} {mg : Str → Option Value} {base : Heap} {N : List Str} {qual : Str} {scope : Scope} {f : Addr} {cd : Value} {A : Around} {outer : List Env} {s : Shared} {H : Hp} {E : XK} :
    Raises (cxOf (CXE P w) P w K mg base N qual scope f cd A outer s H E) E := fun _ _ _ _ _ _ _ _ _ I he ho hd h1 hE => raise_out I he ho hd h1 hE
def tRaise (K : PySem.W.Frag) (E : XK) (te : TE) : TS := fun _ σ H => te σ H fun v H1 => ∃ e C od, v = .ref e ∧ H1 e = some (ErrN C od e) ∧ ErrK K C ∧ E (.ref e) od (upd H1 e (ErrO C od e))
theorem raise_made {M : Model} {A : Around} {Ex : Value → Shared → Prop} {env : Env} {s : Shared} {x : Sem Value} {Q : Flow → Shared → Prop} {K : PySem.W.Frag} (hh : A.handled = none)
    (h : wpAny M A x (fun v s₁ => ∃ e C oe vs, v = .ref e ∧ K.In s₁.heap ∧ excMkIn K C = true ∧ s₁.heap.get? e = some oe ∧ oe.cls = .ref C ∧ oe.data = .fields vs ∧ vs[1]? = some .none ∧ Ex (.ref e) s₁) Ex s) :
    wpAny M A (raiseStmt env (some x) none) Q Ex s := by
  unfold raiseStmt
  refine wpAny_bind (wpAny_mono h (fun v s₁ h₁ => ?_) fun _ _ x => x)
  obtain ⟨e, C, oe, vs, rfl, X, hc, he, hcl, hd, h1, hE⟩ := h₁
  obtain ⟨nm, qn, N, bs, bm, hdd, sn, sub, ab, col, dd, k0, k1, k2, k3, k5, hC, T⟩ := excMk_of X hc
  have hcB : (Value.ref C :: bm).contains (.type "BaseException") = true := by rw [List.contains_cons, T.hasType (b := true) (by decide), Bool.or_true]
  obtain ⟨hp, g, d, tk, os⟩ := s₁
  obtain ⟨oc, od, odt, osl⟩ := oe
  cases hcl
  cases hd
  repeat (first | with_reducible refine wpAny_loadPart_at he ?_ | with_reducible refine wpAny_loadPart_at hC ?_ | (with_reducible refine wpAny_isSubtype_exc hC ?_; rw [hcB]) | wp_step)
  rw [h1]
  refine wpAny_pure ?_
  rw [if_neg (by decide)]
  exact wpAny_pure (wpAny_raiseNew_none hh hE)
theorem ps_raise {E : XK} (hx : Raises X E) (hc : X.calm = true) (he : PE X e te) : PS X (.Raise (some e) none pos) (tRaise X.K E te) := by
  intro pins s σ H D I h
  rw [arm_exec_Raise]
  refine wpAny_bind (wpAny_standAt ?_)
  refine raise_made (K := X.K) (I.ok.hd hc) ?_
  refine wpAny_bind (thn (he pins s σ H _ I h) fun u s1 ⟨v, H1, I1, rv, a, C, od, ev, ea, Z, q⟩ => ?_)
  subst ev
  obtain rfl : u = Value.ref a := rv
  obtain ⟨o, t, h1, h2, h3, h4⟩ := errN_at (I1.hok a _ ea)
  exact wpAny_bind (wpAny_standAt (wpAny_pure ⟨a, C, o, _, rfl, I1.kIn, Z.made, h1, h2, h4, rfl, hx pins σ _ s1 a C od o _ (I1.errOld ea) upd_same h1 h4 rfl q⟩))
end
end L2
namespace L2
open PySem PySem.Spec PyProof.Rows
def ErrAt (K : PySem.W.Frag) (C : Addr) (f : Str) : Prop := PySem.W.findIn K (.ref C) f = some none
def sErr (K : PySem.W.Frag) (ta tv : TE) (f : Str) : TS := fun D σ H => tv σ H fun y H1 => ta σ H1 fun x H2 => ∃ a C, x = .ref a ∧ H2 a = some (ErrN C none a) ∧ ErrK K C ∧ ErrAt K C f ∧
  ∀ dx, H2 dx = none → dx ≠ a → D.nx σ (upd (upd H2 dx (.xd [(f, y)])) a (ErrN C (some dx) a))
section
variable {X : Cx} {o e value : Expr} {f : Str} {pos pos' : Pos} {ta tv : TE}
end
end L2
namespace L2
open PySem PySem.Spec PyProof.Rows
section
variable {prog : Program} {w : World} {A : Around} {E : Value → Shared → Prop} {s : Shared} {K : PySem.W.Frag} {x D : Addr} {ox : Obj} {odo : Option Obj}
theorem err_class {Q : Option Value → Shared → Prop} (Z : ErrK K D) (X : K.In s.heap) (I : PySem.W.InstAt s.heap x ox D odo) (h : Q (some (.ref D)) { s with toks := s.toks + 1 }) : wpAny (model prog w) A (getAttr? (.ref x) "__class__") Q E s := by
  have hf : PySem.W.findObj K D odo "__class__" = some (.bind (.builtin "getset_descriptor.__get__") (.builtin "object.__class__")) := by
    obtain ⟨cd, hc, _⟩ := PySem.W.any_some Z.hd
    unfold PySem.W.findObj
    rw [hc, Option.bind_some, Z.ca, Option.bind_some]
    dsimp only
    rw [Z.cg, Option.bind_some]
    dsimp only
    rw [Z.ct, Option.bind_some]
  obtain ⟨hp, g, d, t, os⟩ := s
  have L0 := I.type (M := model prog w)
  have L1 := PySem.W.looks_findIn (M := model prog w) X Z.z.ga
  have L2 := PySem.W.looks_findIn (M := model prog w) X Z.z.gx
  have L3 := PySem.W.looks_mroIn (M := model prog w) X Z.z.ex
  have L4 := PySem.W.looks_find (M := model prog w) X I hf
  have f3 := PySem.F.attr_ValueError.ga.bind (.ref x)
  have hx1 : (onTheHeap (Value.ref D) && Value.builtin "BaseException.__getattribute__" == Value.builtin "object.__getattribute__") = false := by
    rw [show (Value.builtin "BaseException.__getattribute__" == Value.builtin "object.__getattribute__") = false by decide +kernel]; rfl
  unfold getAttr? getAttrBy? getAttrBy
  refine wpAny_bind (wpAny_mkText (wpAny_bind (wpAny_attempt (wpAny_holding (wpAny_bind (L0.at (wpAny_bind (L1.at ?_))))))))
  dsimp only
  rw [hx1, if_neg Bool.false_ne_true]
  unfold getAttrByItsOwn hookBefore
  rw [if_pos (show onTheHeap (Value.ref D) = true from rfl)]
  refine wpAny_bind (L2.at (wpAny_bind (wpAny_attempt (wpAny_holding ?_))))
  unfold callGetattribute boundAndCalled
  rw [if_neg (by simp)]
  refine wpAny_bind (wpAny_of_eq f3 (wpAny_call (codeAny_call_builtin PySem.F.attr_ValueError.ga.plain PySem.F.entry_bexc_ga ?_)))
  have hk : builtinKind "BaseException.__getattribute__" = some .slot := by decide +kernel
  have hs : splitId "BaseException.__getattribute__" = some ("BaseException", "__getattribute__") := by decide +kernel
  have ha := PySem.F.args_bexc_ga (.ref x) (.str "__class__" t)
  simp only [List.singleton_append, checkBuiltinCall, hk, hs]
  refine wpAny_bind ?_
  unfold isInstance
  refine wpAny_bind (PySem.W.Looks.at L0 (PySem.W.Looks.at L3 ?_))
  rw [if_neg (by simp)]
  refine wpAny_of_eq (a := ()) ha ?_
  unfold Builtin.«object.__getattribute__»
  refine wpAny_bind (wpAny_pure (wpAny_bind (wpAny_pure (wpAny_bind (PySem.W.Looks.at L0 (wpAny_bind (PySem.W.Looks.at L4 ?_)))))))
  show wpAny _ _ (holding [_] (call (.builtin "getset_descriptor.__get__") [.builtin "object.__class__", .ref x, .ref D]) >>= ret) _ _ _
  refine wpAny_bind (wpAny_holding (wpAny_call (PySem.W.class_get (ox := ox) (od := odo) X I Z.mo ?_)))
  exact wpAny_pure (PySem.W.handed_on rfl (wpAny_pure h))
theorem kitx_err (Z : ErrK K D) : PySem.W.KitX K (.ref x) (.ref D) (fun h => ∃ ox odo, PySem.W.InstAt h x ox D odo) where
  ty := fun _ _ _ ⟨_, _, I⟩ => I.type
  it := fun _ _ X _ => by
    obtain ⟨cdD, hcD, _⟩ := PySem.W.any_some Z.hd
    unfold PySem.W.clsIn at hcD
    split at hcD
    · rename_i c' d' cd' sl' ho
      intro A' Q' E' s' k q
      unfold isType loadHead
      exact wpAny_bind (wpAny_loadPart (k _ _ (X _ _ ho)) (wpAny_pure q))
    · cases hcD
  ne := fun h tp dd its n sl X htp => by
    obtain ⟨cdD, hcD, _⟩ := PySem.W.any_some Z.hd
    refine Bool.eq_false_iff.mpr fun q => ?_
    have e : D = tp := Value.ref.inj (beq_iff_eq.mp q)
    subst e
    unfold PySem.W.clsIn at hcD
    split at hcD
    · rename_i c' d' cd' sl' ho
      have z := (X _ _ ho).symm.trans htp
      cases z
    · cases hcD
  ca := fun X ⟨_, _, I⟩ k => err_class Z X I k
end
theorem err_at {P : Program} {w : World} {H : Hp} {h : Heap} {C e : Addr} {od : Option Addr} (hok : HOk P w H h) (he : H e = some (ErrO C od e)) (hd : ∀ dx, od = some dx → ∃ o, h.get? dx = some o) : ∃ o odo, PySem.W.InstAt h e o C odo := by
  obtain ⟨o, vs, a, b, c, d⟩ := errO_at (hok e _ he)
  cases od with
  | none => exact ⟨o, none, a, b, not_freed d, by rw [c]; trivial⟩
  | some dx =>
    obtain ⟨oo, ho⟩ := hd dx rfl
    exact ⟨o, some oo, a, b, not_freed d, by rw [c]; exact ho⟩
def DictOk (H : Hp) (od : Option Addr) : Prop := ∀ dx, od = some dx → ∃ fs, H dx = some (.xd fs)
theorem DictOk.none {H : Hp} : DictOk H none := fun _ z => nomatch z
theorem DictOk.some {H : Hp} {dx : Addr} {fs : List (Str × V)} (h : H dx = some (.xd fs)) : DictOk H (some dx) := fun _ z => by cases z; exact ⟨fs, h⟩
theorem DictOk.there {P : Program} {w : World} {H : Hp} {h : Heap} {od : Option Addr} (hok : HOk P w H h) (d : DictOk H od) : ∀ dx, od = Option.some dx → ∃ o, h.get? dx = Option.some o := fun dx z => by
  obtain ⟨fs, e⟩ := d dx z
  exact (hok dx _ e).obj
def rIsiE (K : PySem.W.Frag) : List V → Hp → VK → Prop := fun xs H Q => ∃ (a C : Addr) (od : Option Addr) (c : V) (cv : Value) (b : Bool), xs = [.ref a, c] ∧ H a = some (ErrO C od a) ∧ DictOk H od ∧ ErrK K C ∧ (∀ u, RelV c u → u = cv) ∧ PySem.W.kitOne K (.ref C) cv = some b ∧ Q (.bl b) H
def rIsiTE (K : PySem.W.Frag) : List V → Hp → VK → Prop := fun xs H Q => ∃ (a C p : Addr) (od : Option Addr) (cs : List V) (cv : List Value) (b : Bool), xs = [.ref a, .ref p] ∧ H a = some (ErrO C od a) ∧ DictOk H od ∧ ErrK K C ∧ H p = some (.tup cs) ∧ (∀ us, Vals cs us → us = cv) ∧ PySem.W.kitAny K (.ref C) cv = some b ∧ Q (.bl b) H
section
variable {X : Cx} {K : PySem.W.Frag} {H : Hp} {Q : VK}
theorem call_isiE : CallR X (.builtin "isinstance") (rIsiE X.K) := by
  intro pins s σ H xs us Q I r h
  obtain ⟨a, C, od, c, cv, b, rfl, ha, hd, Z, hc, e, q⟩ := h
  obtain ⟨u, w', rfl, rx, ry⟩ := vals2 r
  cases (show u = Value.ref a from rx)
  obtain rfl := hc _ ry
  exact PySem.W.kia_one (kitx_err Z) I.kIn (err_at I.hok ha (hd.there I.hok)) e (fun z => nomatch z) fun tk => ⟨.bl b, H, I.tok _, rfl, q⟩
theorem call_isiTE : CallR X (.builtin "isinstance") (rIsiTE X.K) := by
  intro pins s σ H xs us Q I r h
  obtain ⟨a, C, p, od, cs, cv, b, rfl, ha, hd, Z, hp, hc, e, q⟩ := h
  obtain ⟨u, w', rfl, rx, ry⟩ := vals2 r
  cases (show u = Value.ref a from rx)
  cases (show w' = Value.ref p from ry)
  obtain ⟨hz, its, rv, ⟨o, ho, hcl, n, hdt⟩⟩ := (show ObjOk X.prog X.w H s.heap p (.tup cs) from I.hok p _ hp)
  obtain rfl := hc _ rv
  obtain ⟨oc, oo, odt, osl⟩ := o
  replace hcl : oc = .type "tuple" := hcl
  replace hdt : odt = .seq its.toArray n := hdt
  subst hcl hdt
  exact PySem.W.kia_tup (kitx_err Z) I.kIn (err_at I.hok ha (hd.there I.hok)) ho e (fun z => nomatch z) fun tk => ⟨.bl b, H, I.tok _, rfl, q⟩
theorem rd_isiE {a C C' : Addr} {od : Option Addr} {b : Bool} (ha : H a = some (ErrO C od a)) (hd : DictOk H od) (Z : ErrK K C) (e : PySem.W.kitOne K (.ref C) (.ref C') = some b) (h : Q (.bl b) H) : rIsiE K [.ref a, .ref C'] H Q := ⟨a, C, od, .ref C', .ref C', b, rfl, ha, hd, Z, fun _ z => z, e, h⟩
theorem rd_isiEt {a C : Addr} {od : Option Addr} {b : Bool} {T : String} (ha : H a = some (ErrO C od a)) (hd : DictOk H od) (Z : ErrK K C) (e : PySem.W.kitOne K (.ref C) (.type T) = some b) (h : Q (.bl b) H) : rIsiE K [.ref a, .ty T] H Q := ⟨a, C, od, .ty T, .type T, b, rfl, ha, hd, Z, fun _ z => z, e, h⟩
theorem vals_refs : ∀ {cs : List Addr} {us : List Value}, Vals (cs.map V.ref) us → us = cs.map Value.ref
  | [], _, .nil => rfl
  | c :: cs, _, .cons r t => by cases r; rw [vals_refs t]; rfl
theorem rd_isiTE {a C p : Addr} {od : Option Addr} {cs : List Addr} {b : Bool} (ha : H a = some (ErrO C od a)) (hd : DictOk H od) (Z : ErrK K C) (hp : H p = some (.tup (cs.map V.ref))) (e : PySem.W.kitAny K (.ref C) (cs.map Value.ref) = some b) (h : Q (.bl b) H) : rIsiTE K [.ref a, .ref p] H Q :=
  ⟨a, C, p, od, cs.map V.ref, cs.map Value.ref, b, rfl, ha, hd, Z, hp, fun _ z => vals_refs z, e, h⟩
end
end L2
namespace L2
open PySem PySem.Spec PyProof.Rows
abbrev TW := St → Hp → Addr → Prop
structure TrFree (X : Cx) (pins : List (Addr × Obj)) (T : Addr) : Prop where
  up : X.s₀.heap.objs.size ≤ T
  loc : T ≠ X.env.locals
  cell : ∀ x c, X.env.cells.lookup x = some c → c ≠ T
  pin : ∀ p ∈ X.pn ++ pins, p.1 ≠ T
structure Held (X : Cx) (pins : List (Addr × Obj)) (H : Hp) (h : Heap) (e : Addr) : Prop where
  ex : ∃ (C : Addr) (od : Option Addr) (oe : Obj) (vs : Array Value) (T : Addr) (oT : Obj) (ts : Array Value), H e = some (ErrO C od e) ∧ h.get? e = some oe ∧ oe.data = .fields vs ∧ vs[1]? = some (.ref T) ∧ T ≠ e ∧ TrFree X pins T ∧ H T = none ∧ h.get? T = some oT ∧ oT.data = .fields ts ∧ ts[3]? = some .none
def Caught (X : Cx) (pins : List (Addr × Obj)) (W : TW) (ev : Value) (s' : Shared) : Prop := ∃ (e : Addr) (σ : St) (H' : Hp), ev = .ref e ∧ Inv X pins σ H' s' ∧ Held X pins H' s'.heap e ∧ W σ H' e
def Cx.tr (X : Cx) (pins : List (Addr × Obj)) (W : TW) : Cx := { X with pn := X.pn ++ pins, xe := Caught X pins W }
def Cx.hnd (X : Cx) (e : Addr) : Cx := { X with A := X.A.mark (some (.ref e)), calm := false, xe := fun _ _ => False }
section
variable {X : Cx} {pins pins' : List (Addr × Obj)} {σ : St} {H : Hp} {s : Shared} {W : TW} {e : Addr}
theorem Cx.Ok.tr (ok : X.Ok) : (X.tr pins W).Ok := ⟨ok.mod, ok.kind, ok.glob, ok.blt, ok.above, ok.inj, ok.has, ok.cab, ok.hd, ok.frames, ok.stk, ok.exf, ok.bs, ok.bsz, ok.noex, ok.exfs, ok.funs, ok.frf⟩
theorem Cx.Ok.untr (ok : (X.tr pins W).Ok) : X.Ok := ⟨ok.mod, ok.kind, ok.glob, ok.blt, ok.above, ok.inj, ok.has, ok.cab, ok.hd, ok.frames, ok.stk, ok.exf, ok.bs, ok.bsz, ok.noex, ok.exfs, ok.funs, ok.frf⟩
theorem Cx.Ok.hnd (ok : X.Ok) : (X.hnd e).Ok := ⟨ok.mod, ok.kind, ok.glob, ok.blt, ok.above, ok.inj, ok.has, ok.cab, (fun z => Bool.noConfusion z), ok.frames, ok.stk, ok.exf, ok.bs, ok.bsz, ok.noex, ok.exfs, ok.funs, ok.frf⟩
theorem Inv.tr (I : Inv X pins σ H s) : Inv (X.tr pins W) [] σ H s := ⟨I.ok.tr, I.os, I.bare, I.base, I.loc, I.cell, I.free, I.freeC, fun p hp => I.pin p (by rw [List.append_nil] at hp; exact hp), I.hok, I.len⟩
theorem Inv.untr (I : Inv (X.tr pins W) pins' σ H s) : Inv X pins σ H s := ⟨I.ok.untr, I.os, I.bare, I.base, I.loc, I.cell, I.free, I.freeC, fun p hp => I.pin p (List.mem_append_left _ hp), I.hok, I.len⟩
theorem Inv.hnd (I : Inv X pins σ H s) : Inv (X.hnd e) pins σ H s := ⟨I.ok.hnd, I.os, I.bare, I.base, I.loc, I.cell, I.free, I.freeC, I.pin, I.hok, I.len⟩
theorem Inv.unhnd (ok : X.Ok) (I : Inv (X.hnd e) pins σ H s) : Inv X pins σ H s := ⟨ok, I.os, I.bare, I.base, I.loc, I.cell, I.free, I.freeC, I.pin, I.hok, I.len⟩
theorem SP.untr {D : Ends} {f : Flow} {s' : Shared} (h : SP (X.tr pins W) [] D f s') : SP X pins D f s' := by
  cases f with
  | next => obtain ⟨σ', H', I, q⟩ := h; exact ⟨σ', H', I.untr, q⟩
  | brk => obtain ⟨σ', H', I, q⟩ := h; exact ⟨σ', H', I.untr, q⟩
  | cont => obtain ⟨σ', H', I, q⟩ := h; exact ⟨σ', H', I.untr, q⟩
  | ret u => obtain ⟨v, σ', H', I, r, q⟩ := h; exact ⟨v, σ', H', I.untr, r, q⟩
theorem caught_of {P : Program} {w : World} {E : XK} {ev : Value} {s' : Shared} (hP : X.prog = P) (hw : X.w = w) (I : Inv X pins σ H s) (h : CXE P w X.stack H s E ev s') (hE : ∀ e od H', E (.ref e) od H' → W σ H' e) : Caught X pins W ev s' := by
  subst hP hw
  obtain ⟨e, C, od, H', oe, vs, T, oT, ts, rfl, os, bare, un, hok, he, ho, hd, h1, nT, sT, hT, g1, g2, g3, hq⟩ := h
  have I2 : Inv X pins σ H' s' := I.call' os un hok bare (fun b z => nomatch z)
  have nn : ∀ b o, s.heap.get? b = some o → b ≠ T := fun b o z w' => absurd (Heap.lt_size z) (by rw [w']; exact Nat.not_lt.mpr sT)
  obtain ⟨m, ⟨oL, _, _, hoL, _⟩, _⟩ := id I.loc
  refine ⟨e, σ, H', rfl, I2, ⟨C, od, oe, vs, T, oT, ts, he, ho, hd, h1, nT, ⟨Nat.le_trans I.sz sT, (nn _ _ hoL).symm, fun x c z => ?_, fun p hp => nn _ _ (I.pin p hp).1⟩, hT, g1, g2, g3⟩, hE e od H' hq⟩
  obtain ⟨v, o, z2, _⟩ := I.cell x c z
  exact nn _ _ z2
theorem Inv.trace {T : Addr} {h' : Heap} (I : Inv X pins σ H s) (F : TrFree X pins T) (hT : H T = none) (k : ∀ b, b ≠ T → h'.get? b = s.heap.get? b) : Inv X pins σ H { s with heap := h' } :=
  I.turned (t' := s.toks) (it := T) (fun b o hb z => (k b hb).trans z) hT F.loc (.inr F.up) F.cell F.pin
theorem held_look {M : Model} {A : Around} {Ex : Value → Shared → Prop} {Q : Unit → Shared → Prop} {env : Env} {outer : List Env} {L : Addr} (hA : A.frames = some (env :: outer)) (hst : X.stack = env :: outer) (hf : env.frame = some L) (I : Inv X pins σ H s) (F : Held X pins H s.heap e)
    (h : ∀ s', Inv X pins σ H s' → Held X pins H s'.heap e → Q () s') :
    wpAny M A (noteFrame (.ref e) env) (fun _ s2 => wpAny M A (setFlight (.ref e) none) Q Ex s2) Ex s := by
  obtain ⟨C, od, oe, vs, T, oT, ts, he, ho, hd, h1, nT, TF, hT, g1, g2, g3⟩ := F.ex
  refine look_err (base := X.base) hA (by rw [← hst]; exact I.stack) hf ho hd h1 g1 g2 g3 nT fun h2 h' k2 sz2 lf => ?_
  have I2 := I.trace TF hT k2
  have ho2 : h2.get? e = some oe := (k2 e (Ne.symm nT)).trans ho
  have I3 := I2.left (s := { s with heap := h2 }) he ho2 (by rw [hst]; exact lf)
  obtain ⟨vs2, T2, oT2, ts2, r1, r2, r3, r4, r5, r6, r7⟩ := lf.err
  rw [sz2] at r4
  have nn : ∀ b o, s.heap.get? b = some o → b ≠ T2 := fun b o z w' => absurd (Heap.lt_size z) (by rw [w']; exact Nat.not_lt.mpr r4)
  obtain ⟨m, ⟨oL, _, _, hoL, _⟩, _⟩ := id I.loc
  refine h _ I3 ⟨C, od, _, vs2, T2, oT2, ts2, he, r1, rfl, r2, r3, ⟨Nat.le_trans I.sz r4, (nn _ _ hoL).symm, fun x c z => ?_, fun p hp => nn _ _ (I.pin p hp).1⟩, I.hok.fresh r4, r5, r6, r7⟩
  obtain ⟨v, o, z2, _⟩ := I.cell x c z
  exact nn _ _ z2
theorem held_land {M : Model} {A : Around} {Ex : Value → Shared → Prop} {Q : Unit → Shared → Prop} (I : Inv X pins σ H s) (F : Held X pins H s.heap e) (h : ∀ s', Inv X pins σ H s' → Q () s') : wpAny M A (setFlight (.ref e) none) Q Ex s := by
  obtain ⟨C, od, oe, vs, T, oT, ts, he, ho, hd, h1, nT, TF, hT, g1, g2, g3⟩ := F.ex
  refine wpAny_setFlight_none ho hd h1 g1 g2 (Array.getElem?_eq_some_iff.mp g3).1 (h _ ?_)
  exact I.trace TF hT fun b hb => Heap.get?_update_other _ _ (Ne.symm hb)
theorem name_goes {M : Model} {A : Around} {Ex : Value → Shared → Prop} {i : Nat} {n : Str} {pos : Pos} {Q : Unit → Shared → Prop} (I : Inv X pins σ H s) (hN : X.N.Nodup) (hi : X.N[i]? = some n) (hl : X.env.kindOf n = some .local)
    (h : ∀ s', Inv X pins (σ.set i none) H s' → Q () s') : wpAny M A (do bindName X.env n .none; unbindBehindTheSuite X.env n pos) Q Ex s := by
  obtain ⟨m, hn, hlk⟩ := id I.loc
  have hcls : (X.env.scope.kind == .class || (X.env.scope.kind == .module && X.env.locals != X.env.globals)) = false := by rw [I.ok.kind]; rfl
  have cne := I.cne
  refine wpAny_nameGoes_keeps hl hn hcls fun h' v hn' hs => ?_
  have tr : ∀ b o, H b = some o → b ≠ X.env.locals := fun b o z w' => by rw [w', I.free] at z; cases z
  refine h _ ⟨I.ok, I.os, I.bare, ⟨fun b o e n hb hx => ?_, fun b o e n hb hx => ?_, I.base.free, fun b o e hx => ?_, I.base.tups, I.base.frzs, I.base.tbls⟩, ⟨_, hn', fun j y v' e1 e2 e3 => ?_⟩, fun y c e => ?_, I.free, I.freeC, fun p hp => ?_, fun b ob z => ?_, by simpa using I.len⟩
  · exact (hs.2 b (Nat.ne_of_lt (Nat.lt_of_lt_of_le (Heap.lt_size e) I.ok.above))).trans (I.base.keep b o e n hb hx)
  · obtain ⟨sl, e1⟩ := I.base.slot b o e n hb hx
    exact ⟨sl, (hs.2 b (Nat.ne_of_lt (Nat.lt_of_lt_of_le (Heap.lt_size e) I.ok.above))).trans e1⟩
  · obtain ⟨o', e1⟩ := I.base.there b o e hx
    exact ⟨o', (hs.2 b (Nat.ne_of_lt (Nat.lt_of_lt_of_le (Heap.lt_size e) I.ok.above))).trans e1⟩
  · by_cases hj : j = i
    · subst hj
      exfalso
      by_cases hjl : j < σ.length
      · rw [List.getElem?_set_self hjl] at e2; cases e2
      · rw [List.getElem?_eq_none (by rw [List.length_set]; exact Nat.not_lt.mp hjl)] at e2; cases e2
    · rw [List.getElem?_set_ne (Ne.symm hj)] at e2
      obtain ⟨u', r', q⟩ := hlk j y v' e1 e2 e3
      refine ⟨u', r', ?_⟩
      rcases q with ⟨k, e⟩ | ⟨k, c, e, z⟩
      · refine .inl ⟨k, ?_⟩
        have : y ≠ n := fun e => hj (nodup_ix hN e1 (e ▸ hi))
        simp [this, e]
      · exact .inr ⟨k, c, e, z.sameBut hs (cne y c e)⟩
  · obtain ⟨w', z⟩ := I.cell y c e
    exact ⟨w', z.sameBut hs (cne y c e)⟩
  · obtain ⟨e, n, ne, nf, d⟩ := I.pin p hp
    exact ⟨(hs.2 p.1 ne).trans e, n, ne, nf, d⟩
  · refine (I.hok b ob z).stay (fun c v hc q => (hs.2 c ?_).trans q) (fun _ q => q) fun _ _ _ q => q
    rcases hc with rfl | hc
    · exact tr _ _ z
    · exact tr _ _ hc
end
abbrev TH := Ends → St → Hp → Addr → Prop
def PHs (X : Cx) (hs : List ExceptHandler) (th : TH) : Prop := ∀ (pins : List (Addr × Obj)) (s : Shared) (σ : St) (H : Hp) (D : Ends) (e : Addr), Inv X pins σ H s → Held X pins H s.heap e → th D σ H e → wpAny (model X.prog X.w) X.A (handleBy (.ref e) X.env hs) (SP X pins D) X.xe s
def tHno : TH := fun _ _ _ _ => False
def tHas (K : PySem.W.Frag) (C0 : Addr) (i : Nat) (ts : TS) (th : TH) : TH := fun D σ H e => ∃ C od b, H e = some (ErrO C od e) ∧ ErrK K C ∧ PySem.W.exmOne K (.ref C) (.ref C0) = some b ∧
  if b = true then ts ⟨fun σ' H' => D.nx (σ'.set i none) H', D.rt, fun σ' H' => D.bk (σ'.set i none) H', fun σ' H' => D.ct (σ'.set i none) H'⟩ (σ.set i (some (.ref e))) H else th D σ H e
def tTry (tb : TW → TS) (th : TH) : TS := fun D σ H => tb (fun σ' H' e => th D σ' H' e) D σ H
section
variable {X : Cx} {x n : Str} {C0 : Addr} {i : Nat} {b₀ : Stmt} {suite body : List Stmt} {np pos : Pos} {rest : List ExceptHandler} {h₀ : ExceptHandler} {hs : List ExceptHandler} {ts : TS} {th : TH} {tb : TW → TS}
theorem ph_no : PHs X [] tHno := fun _ _ _ _ _ _ _ _ h => h.elim
theorem ph_as (hg : Gl X x) (hm : X.mg x = some (.ref C0)) (hN : X.N.Nodup) (hi : X.N[i]? = some n) (hl : X.env.scope.names.lookup n = some .local) (hs : ∀ e, PSs (X.hnd e) (b₀ :: suite) ts) (hr : PHs X rest th) (hdb : (x == ("__debug__" : Str)) = false := by decide) :
    PHs X (.ExceptHandler (some (.Name x np)) (some n) (b₀ :: suite) pos :: rest) (tHas X.K C0 i ts th) := by
  intro pins s σ H D e I F h
  obtain ⟨C, od, b, he, Z, hx, q⟩ := h
  obtain ⟨o, vs, g1, g2, g3, g4⟩ := errO_at (I.hok e _ he)
  have LT : PySem.W.Looks (model X.prog X.w) s.heap (typeOf (.ref e)) (.ref C) := by rw [← g2]; exact (PySem.W.Looks.ld g1).andThen .now
  refine wpAny_handleBy_cons (codeAny_handlers_test (ld_glob (X := X.hnd e) (I.hnd (e := e)) hg hm ?_ hdb)) (by intro z; cases z)
  refine (PySem.W.exm_one I.kIn LT hx).here ?_
  cases b with
  | false => exact hr pins s σ H D e I F q
  | true =>
    refine codeAny_handlers_suite_as (held_land I F fun s1 I1 => ?_)
    refine store_ok (X := X.hnd e) (i := i) (v := .ref e) (I1.hnd (e := e)) hN hi (.inl hl) rfl (fun s2 I2 => ?_) (.inr hl)
    refine wpAny_mono (hs e pins s2 _ H _ I2 q) (fun f s3 z => ?_) fun _ _ z => z.elim
    cases f with
    | next => obtain ⟨σ', H', I3, q3⟩ := z; exact name_goes (I3.unhnd I.ok) hN hi hl fun s4 I4 => ⟨_, _, I4, q3⟩
    | brk => obtain ⟨σ', H', I3, q3⟩ := z; exact name_goes (I3.unhnd I.ok) hN hi hl fun s4 I4 => ⟨_, _, I4, q3⟩
    | cont => obtain ⟨σ', H', I3, q3⟩ := z; exact name_goes (I3.unhnd I.ok) hN hi hl fun s4 I4 => ⟨_, _, I4, q3⟩
    | ret u => obtain ⟨v, σ', H', I3, r3, q3⟩ := z; exact name_goes (I3.unhnd I.ok) hN hi hl fun s4 I4 => ⟨v, _, _, I4, r3, q3⟩
theorem ps_try (hst : X.stack = X.env :: X.outer) (hf : X.env.frame = some X.env.locals) (hb : ∀ pins W, PSs (X.tr pins W) body (tb W)) (hh : PHs X (h₀ :: hs) th) : PS X (.Try body (h₀ :: hs) [] [] pos) (tTry tb th) := by
  intro pins s σ H D I h
  refine wpAny_Try_except (wpAny_mono (hb pins _ [] s σ H D I.tr h) (fun f s1 z => ?_) fun ev s1 z => ?_)
  · have z := z.untr
    cases f with
    | next => exact wpAny_execs_nil z
    | brk => exact z
    | cont => exact z
    | ret u => exact z
  · obtain ⟨e, σ', H', rfl, I1, F, q⟩ := z
    refine held_look (env := X.env) (outer := X.outer) (by rw [← hst]; exact I.ok.frames) hst hf I1 F fun s2 I2 F2 => hh pins s2 σ' H' D e I2 F2 q
end
end L2
namespace L2
open PySem PySem.Spec PyProof.Rows
theorem Fun.okE {P : Program} {w : World} {K : PySem.W.Frag} {mg : Str → Option Value} {base : Heap} {x qual : Str} {st : Stmt} {f : Addr} {fd : FuncData} {N ps : List Str} {k : Nat} {sp : Sp} (F : Fun K x qual st f fd) (S : FnScope N ps (defScope st)) (len : ∀ vs H Q E, sp vs H Q E → vs.length = ps.length)
    (hbody : ∀ (cdv : Value) (A : Around) (outer : List Env) (s : Shared) (H : Hp) (vs : List V) (Q : VK) (E : XK), Room k (A.deeper (envOfC qual (defScope st) s.heap.objs.size f cdv)) → sp vs H Q E →
      ∃ t, PSs (cxOf (CXE P w) P w K mg base N qual (defScope st) f cdv A outer s H E) (defBody st) t ∧ t { nx := fun _ H' => Q .non H', rt := Q } (start N vs) H) : FnOk P w K mg base (CXE P w) (k + 1) f fd ps sp := by
  obtain ⟨oc, od, kV, doc, pm, an, cdv, ct, osl, rfl, lk, hcd⟩ := F.ex
  exact fn_of lk hcd S len fun A outer s H vs Q E hr hsp => hbody cdv A outer s H vs Q E hr hsp
def tCallX (sp : Sp) (W : TW) (t : TA) : TE := fun σ H Q => t σ H fun vs H1 => sp vs H1 Q (fun ev _ H' => ∃ e, ev = .ref e ∧ W σ H' e)
section
variable {X : Cx} {pn : List (Addr × Obj)} {W : TW} {k : Nat} {f C : Addr} {fd : FuncData} {ps : List Str} {sp : Sp} {x : Str} {p pos : Pos} {e : Expr} {es : List Expr} {t : TA}
theorem pe_callX (F : FnOk X.prog X.w X.K X.mg X.base (CXE X.prog X.w) k f fd ps sp) (hr : Room k X.A) (hg : Gl X x) (hm : X.mg x = some (.ref f)) (hk : PySem.W.keepIn X.K (.ref f) = true) (hb : Binds X.K fd ps [])
    (ha : PA (X.tr pn W) (e :: es) t) (hn : (e :: es).all noStar = true) (hdb : (x == ("__debug__" : Str)) = false := by decide) : PE (X.tr pn W) (.Call (.Name x p) (e :: es) [] pos) (tCallX sp W t) := by
  intro pins s σ H Q I h
  refine wpAny_Call_Name_kw (ld_glob I hg hm ?_ hdb)
  refine PySem.W.callWith_K (h₀ := X.base) I.ok.mod.kin hk (thn (ha pos pins s σ H _ I h) fun us s1 ⟨vs, H1, I1, r, q⟩ => ⟨I1.kIn, ?_⟩) (star_cons (all_tl hn).1) (back_any (all_tl hn).2)
  have hl : us.length = ps.length := by rw [← r.length]; exact F.len _ _ _ _ q
  refine wpAny_call (codeAny_mono (F.run X.A X.stack s1 H1 ⟨us, []⟩ us vs Q _ hr I1.env0 (by have := hb s1 us I1.kIn (by rw [List.append_nil]; exact hl); rwa [List.append_nil] at this) r q) fun r s' hq => ?_)
  cases r with
  | error ev => exact caught_of (E := fun ev _ H' => ∃ e, ev = Value.ref e ∧ W σ H' e) rfl rfl I1.untr hq fun e od H' z => by obtain ⟨e', z1, z2⟩ := z; cases z1; exact z2
  | ok fl =>
    cases fl with
    | ret u => exact I1.after hq
    | next => exact False.elim hq
    | brk => exact False.elim hq
    | cont => exact False.elim hq
end
structure RoomH (k : Nat) (A : Around) : Prop where
  dp : A.depth + 3 * k + 5 < recursionLimit
  un : A.units + 16 * k + 200 < cLine
theorem Room.h {k : Nat} {A : Around} (r : Room k A) : RoomH k A := ⟨r.dp, r.un⟩
theorem RoomH.mono {j k : Nat} {A : Around} (r : RoomH k A) (h : j ≤ k) : RoomH j A := ⟨by have := r.dp; omega, by have := r.un; omega⟩
theorem RoomH.mark {k : Nat} {A : Around} (r : RoomH k A) (o : Option Value) : RoomH k (A.mark o) := ⟨r.dp, r.un⟩
theorem RoomH.calm {k : Nat} {A : Around} (r : RoomH k A) : Room k { A with handled := none } := ⟨rfl, r.dp, r.un⟩
section
variable {X : Cx} {k : Nat} {f : Addr} {fd : FuncData} {ps : List Str} {sp : Sp} {x : Str} {p pos : Pos} {e : Expr} {es : List Expr} {t : TA}
end
end L2
namespace L2
open PySem PySem.Spec PyProof.Rows
theorem bt_ValueError : bootBuiltins "ValueError" = some (.type "ValueError") := by decide +kernel
section
variable {K : PySem.W.Frag} {σ : St} {H : Hp} {Q : VK} {nx bk ct : St → Hp → Prop} {rt : VK}
theorem rd_mkE0 {C : Addr} (h : ∀ x, H x = none → Q (.ref x) (upd H x (ErrN C none x))) : tMkE0 C σ H Q := h
theorem rd_raise {E : XK} {te : TE} (h : te σ H fun v H1 => ∃ e C od, v = .ref e ∧ H1 e = some (ErrN C od e) ∧ ErrK K C ∧ E (.ref e) od (upd H1 e (ErrO C od e))) : tRaise K E te ⟨nx, rt, bk, ct⟩ σ H := h
theorem rd_setE {ta tv : TE} {f : Str} (h : tv σ H fun y H1 => ta σ H1 fun x H2 => ∃ a C, x = .ref a ∧ H2 a = some (ErrN C none a) ∧ ErrK K C ∧ ErrAt K C f ∧ ∀ dx, H2 dx = none → dx ≠ a → nx σ (upd (upd H2 dx (.xd [(f, y)])) a (ErrN C (some dx) a))) : sErr K ta tv f ⟨nx, rt, bk, ct⟩ σ H := h
theorem rd_try {tb : TW → TS} {th : TH} (h : tb (fun σ' H' e => th ⟨nx, rt, bk, ct⟩ σ' H' e) ⟨nx, rt, bk, ct⟩ σ H) : tTry tb th ⟨nx, rt, bk, ct⟩ σ H := h
theorem rd_callX {sp : Sp} {W : TW} {t : TA} (h : t σ H fun vs H1 => sp vs H1 Q (fun ev _ H' => ∃ e, ev = .ref e ∧ W σ H' e)) : tCallX sp W t σ H Q := h
theorem rd_hasT {C0 C e : Addr} {od : Option Addr} {i : Nat} {ts : TS} {th : TH} (he : H e = some (ErrO C od e)) (Z : ErrK K C) (hx : PySem.W.exmOne K (.ref C) (.ref C0) = some true)
    (h : ts ⟨fun σ' H' => nx (σ'.set i none) H', rt, fun σ' H' => bk (σ'.set i none) H', fun σ' H' => ct (σ'.set i none) H'⟩ (σ.set i (some (.ref e))) H) : tHas K C0 i ts th ⟨nx, rt, bk, ct⟩ σ H e := ⟨C, od, true, he, Z, hx, iteT h⟩
theorem kitAny_f {t c : Value} {r : List Value} {b : Bool} (h1 : PySem.W.kitOne K t c = some false) (h2 : PySem.W.kitAny K t r = some b) : PySem.W.kitAny K t (c :: r) = some b := by
  unfold PySem.W.kitAny
  rw [h1]
  exact h2
end
end L2
namespace L2.Q
open PySem PySem.Spec PyProof.Rows L2
structure QHs (X : Cx) (hs : List ExceptHandler) (th : TH) : Prop where
  h : PHs X hs th
section
variable {X : Cx} {K' : PySem.W.Frag} {pn : List (Addr × Obj)} {W : TW} {k : Nat} {f C C0 : Addr} {fd : FuncData} {ps : List Str} {sp : Sp} {x n : Str} {p pos pos' np : Pos} {e o : Expr} {es : List Expr} {t : TA} {te ta : TE} {E : XK} {i : Nat} {b₀ : Stmt} {suite body : List Stmt} {rest hs : List ExceptHandler} {h₀ : ExceptHandler} {ts : TS} {th : TH} {tb : TW → TS}
theorem pe_mkE0 (q : PySem.W.excIn X.K C veMro "ValueError.__new__" = true) (hk : PySem.W.keepIn X.K (.ref C) = true) (hg : Gl X x) (hm : X.mg x = some (.ref C)) (hdb : (x == ("__debug__" : Str)) = false := by decide) : QE X (.Call (.Name x p) [] [] pos) (tMkE0 C) := ⟨L2.pe_mkE0 q hk hg hm hdb⟩
theorem ps_raise (hx : Raises X E) (hc : X.calm = true) (he : QE X e te) (hK : X.K = K' := by rfl) : QS X (.Raise (some e) none pos) (tRaise K' E te) := by subst hK; exact ⟨L2.ps_raise hx hc he.h⟩
theorem ph_no : QHs X [] tHno := ⟨L2.ph_no⟩
theorem ph_as (hg : Gl X x) (hm : X.mg x = some (.ref C0)) (hN : X.N.Nodup) (hi : X.N[i]? = some n) (hl : X.env.scope.names.lookup n = some .local) (hs : ∀ e, QSs (X.hnd e) (b₀ :: suite) ts) (hr : QHs X rest th) (hdb : (x == ("__debug__" : Str)) = false := by decide) (hK : X.K = K' := by rfl) :
    QHs X (.ExceptHandler (some (.Name x np)) (some n) (b₀ :: suite) pos :: rest) (tHas K' C0 i ts th) := by subst hK; exact ⟨L2.ph_as hg hm hN hi hl (fun e => (hs e).h) hr.h hdb⟩
theorem ps_try (hst : X.stack = X.env :: X.outer) (hf : X.env.frame = some X.env.locals) (hb : ∀ pins W, QSs (X.tr pins W) body (tb W)) (hh : QHs X (h₀ :: hs) th) : QS X (.Try body (h₀ :: hs) [] [] pos) (tTry tb th) := ⟨L2.ps_try hst hf (fun pins W => (hb pins W).h) hh.h⟩
theorem pe_callX (F : FnOk X.prog X.w X.K X.mg X.base (CXE X.prog X.w) k f fd ps sp) (hr : Room k X.A) (hg : Gl X x) (hm : X.mg x = some (.ref f)) (hk : PySem.W.keepIn X.K (.ref f) = true) (hb : Binds X.K fd ps [])
    (ha : QA (X.tr pn W) (e :: es) t) (hn : (e :: es).all noStar = true := by rfl) (hdb : (x == ("__debug__" : Str)) = false := by decide) : QE (X.tr pn W) (.Call (.Name x p) (e :: es) [] pos) (tCallX sp W t) := ⟨L2.pe_callX F hr hg hm hk hb ha.h hn hdb⟩
end
end L2.Q
namespace L2
open PySem PySem.Spec PyProof.Rows
section
variable {X : Cx}
def rAny (K : PySem.W.Frag) : List V → Hp → VK → Prop := fun xs H Q => ∃ (p : Addr) (bs : List Bool), xs = [.ref p] ∧ SqL K H p (bs.map V.bl) ∧ Q (.bl (bs.any id)) H
theorem call_anyG (hc : X.calm = true) : CallR X (.builtin "any") (rAny X.K) := by
  intro pins s σ H xs us Q I r h
  obtain ⟨p, bs, rfl, hq, q⟩ := h
  obtain ⟨u, rfl, rx⟩ := vals1 r
  cases rx
  obtain ⟨its, r', pl, hz⟩ := I.list hq
  have e := vals_bools r'
  subst e
  have hl := pl.isList
  have hlt : p < s.heap.objs.size := by obtain ⟨_, e, _⟩ := id hl; exact Heap.lt_size e
  refine call_any_walk (wpAny_pyIter_list hl ?_)
  refine ⟨s.heap.objs.size, [s.heap.objs.size, p], [s.heap.objs.size], (bs.map Value.bool).toArray.size, _, _, fun i => (bs[i]?).getD false, rfl, Walks.list (A := X.A.in1) (I.ok.hd hc) _ p (Nat.ne_of_lt hlt) (bs.map Value.bool).toArray,
    ⟨⟨_, Heap.get?_push_size _ rfl, rfl, rfl⟩, hl.push _⟩, fun i v s' Q' E' hP hQ => ?_, fun h' tk hk => ?_⟩
  · have hP' : (bs.map Value.bool)[i]? = some v := by simpa using hP
    rw [List.getElem?_map] at hP'
    cases hb : bs[i]? with
    | none => rw [hb] at hP'; cases hP'
    | some b =>
      rw [hb] at hP'
      cases hP'
      simp only [hb, Option.getD_some] at hQ
      exact wpAny_truthy_bool hQ
  · have e : ((List.range (bs.map Value.bool).toArray.size).any fun i => (bs[i]?).getD false) = bs.any id := by
      rw [List.size_toArray, List.length_map]; exact LSm.range_any bs
    rw [e]
    exact ⟨.bl _, H, I.kept (t' := tk) (LSm.kept_iter hk), rfl, q⟩
theorem rd_any {K : PySem.W.Frag} {H : Hp} {Q : VK} {p : Addr} {bs : List Bool} (h1 : SqL K H p (bs.map V.bl)) (h : Q (.bl (bs.any id)) H) : rAny K [.ref p] H Q := ⟨p, bs, rfl, h1, h⟩
end
end L2
namespace L2
open PySem PySem.Spec PyProof.Rows
theorem passes_cx {P : Program} {w : World} {K : PySem.W.Frag} {mg : Str → Option Value} {base : Heap} {N : List Str} {qual : Str} {scope : Scope} {f : Addr} {cd : Value} {A : Around} {outer : List Env} {s : Shared} {H : Hp} {E : XK} :
    Passes (CXE P w) (cxOf (CXE P w) P w K mg base N qual scope f cd A outer s H E) E := by
  intro pins σ H1 s1 ev s2 I h
  obtain ⟨e, C, od, H2, oe, vs, T, oT, ts, rfl, os, bare, un, hok, he, ho, hd, h1, nT, sT, hT, g1, g2, g3, hq⟩ := h
  have I2 : Inv (cxOf (CXE P w) P w K mg base N qual scope f cd A outer s H E) pins σ H2 s2 := I.call' os un hok bare (fun b z => nomatch z)
  have nn : ∀ b o, s1.heap.get? b = some o → b ≠ T := fun b o z w' => absurd (Heap.lt_size z) (by rw [w']; exact Nat.not_lt.mpr sT)
  obtain ⟨m, ⟨oL, _, _, hoL, _⟩, _⟩ := id I.loc
  have TF : TrFree (cxOf (CXE P w) P w K mg base N qual scope f cd A outer s H E) pins T := ⟨Nat.le_trans I.sz sT, (nn _ _ hoL).symm, fun x c z => by obtain ⟨v, o, z2, _⟩ := I.cell x c z; exact nn _ _ z2, fun p hp => nn _ _ (I.pin p hp).1⟩
  refine wpAny_bind (look_err (base := base) I2.ok.frames I2.stack rfl ho hd h1 g1 g2 g3 nT fun h2 h' k2 sz2 lf => ?_)
  have I3 := I2.trace TF hT k2
  have ho2 : h2.get? e = some oe := (k2 e (Ne.symm nT)).trans ho
  have I4 := I3.left (s := { s2 with heap := h2 }) he ho2 lf
  obtain ⟨vs2, T2, oT2, ts2, r1, r2, r3, r4, r5, r6, r7⟩ := lf.err
  rw [sz2] at r4
  exact ⟨e, C, od, H2, _, _, T2, oT2, ts2, rfl, I4.os, I4.bare, I4.base, I4.hok, he, r1, rfl, r2, r3, Nat.le_trans I2.sz r4, I2.hok.fresh r4, r5, r6, r7, hq⟩
end L2
namespace L2
open PySem PySem.Spec PyProof.Rows
section
variable {X : Cx} {o e : Expr} {to : TE} {t : TA} {apos cpos : Pos}
end
end L2
namespace L2.Q
open PySem PySem.Spec PyProof.Rows L2
end L2.Q
namespace L2
open PySem PySem.Spec PyProof.Rows
section
open PySem.SeqAt
open PySem.AutoSeq1 (wpAny_loadPart')
open PySem.MeetsSeq PySem.MeetsSeq2 PySem.MeetsSeq3
end
section
variable {X : Cx}
end
end L2
namespace L2
open PySem PySem.Spec PyProof.Rows
theorem vals_strs : ∀ l : List (Str × Tok), Vals ((l.map (·.1)).map V.str) (strValues l)
  | [] => .nil
  | p :: r => .cons ⟨p.2, rfl⟩ (vals_strs r)
theorem strs_vals : ∀ {ws : List Str} {us : List Value}, Vals (ws.map V.str) us → ∃ l : List (Str × Tok), us = strValues l ∧ l.map (·.1) = ws
  | [], _, .nil => ⟨[], rfl, rfl⟩
  | w :: ws, _, .cons r t => by
    obtain ⟨k, rfl⟩ := r
    obtain ⟨l, rfl, e⟩ := strs_vals t
    exact ⟨(w, k) :: l, rfl, by rw [List.map_cons, e]⟩
section
variable {X : Cx}
def rSplit : V → List V → Hp → VK → Prop := fun x vs H Q => ∃ (z y : Str), x = .str z ∧ vs = [.str y] ∧ (y.length == 0) = false ∧ z.length ≤ sizeLine ∧ (Txt.split z y).length ≤ sizeLine ∧ ∀ p, H p = none → Q (.ref p) (upd H p (.lst ((Txt.split z y).map V.str)))
theorem mt_split : MtM X "str.split" rSplit := by
  intro pins s σ H x vs v us Q I rx rv h
  obtain ⟨z, y, rfl, rfl, hy, hz, hn, q⟩ := h
  obtain ⟨t, rfl⟩ := rx
  obtain ⟨u, rfl, ru⟩ := rv.one
  obtain ⟨t2, rfl⟩ := ru
  have fr : H s.heap.objs.size = none := I.hok.fresh (Nat.le_refl _)
  have fin : ∀ (l : List (Str × Tok)) (k : Nat), l.map (·.1) = Txt.split z y → EP X pins σ Q (.ref s.heap.objs.size) { s with heap := s.heap.push { cls := .type "list", data := .seq (strValues l).toArray }, toks := k } := fun l k e => by
    refine ⟨.ref s.heap.objs.size, _, I.lnew (its := strValues l) (ys := (Txt.split z y).map V.str) (by rw [← e]; exact vals_strs l) (by rw [List.length_map]; exact hn), rfl, q _ fr⟩
  cases h1 : (decide (z.length < y.length) || decide (Builtin.Str.strKind z < Builtin.Str.strKind y))
  · cases hf : (Builtin.Str.occurrences z y 0 z.length (z.length + 1)).isEmpty
    · have e : Txt.split z y = Builtin.Str.partsBetween z (Builtin.Str.occurrences z y 0 z.length (z.length + 1)) y.length := (if_neg (ne_true_of_eq_false h1)).trans (if_neg (ne_true_of_eq_false hf))
      refine call_meets PySem.F.slot_str_split (typeIs_str _ _ _) PySem.F.entry_str_split (PySem.F.args_str_split_2 _ _) (PySem.meets_str_split_sep z y t t2 h1 hy hf hz (by rw [← e]; exact hn)) ?_
      have w := fin (numbered s.toks (Txt.split z y)) (s.toks + (Txt.split z y).length) (numbered_texts _ _)
      rw [← strsFrom_eq, e] at w
      exact w
    · exact call_meets PySem.F.slot_str_split (typeIs_str _ _ _) PySem.F.entry_str_split (PySem.F.args_str_split_2 _ _) (PySem.meets_str_split_not_found z y t t2 h1 hy hf)
        (fin [(z, t)] s.toks ((if_neg (ne_true_of_eq_false h1)).trans (if_pos hf)).symm)
  · exact call_meets PySem.F.slot_str_split (typeIs_str _ _ _) PySem.F.entry_str_split (PySem.F.args_str_split_2 _ _) (PySem.meets_str_split_cannot_occur z y t t2 h1)
      (fin [(z, t)] s.toks (if_pos h1).symm)
def rJoin (K : PySem.W.Frag) : V → List V → Hp → VK → Prop := fun x vs H Q => ∃ (z : Str) (p : Addr) (ws : List Str), x = .str z ∧ vs = [.ref p] ∧ SqL K H p (ws.map V.str) ∧ JoinOk z ws = true ∧ Q (.str (Txt.join z ws)) H
theorem mt_join : MtM X "str.join" (rJoin X.K) := by
  intro pins s σ H x vs v us Q I rx rv h
  obtain ⟨z, p, ws, rfl, rfl, hp, hj, q⟩ := h
  obtain ⟨t, rfl⟩ := rx
  obtain ⟨u, rfl, ru⟩ := rv.one
  cases ru
  obtain ⟨its, r, pl, hz⟩ := I.list hp
  obtain ⟨l, rfl, e⟩ := strs_vals r
  exact PySem.SC.join pl.isList e hj fun t' k => ⟨.str _, H, I.tok _, ⟨t', rfl⟩, q⟩
def rIntS : List V → Hp → VK → Prop := fun xs H Q => ∃ (z : Str) (n : Int), xs = [.str z] ∧ PySem.intText? z = some n ∧ z.length ≤ 640 ∧ Q (.int n) H
theorem call_intS : CallR X (.type "int") rIntS := by
  intro pins s σ H xs us Q I r h
  obtain ⟨z, n, rfl, hn, hz, q⟩ := h
  obtain ⟨u, rfl, t, rfl⟩ := vals1 r
  exact PySem.W.KIN.call_text hn hz ⟨.int n, H, I.tok _, ⟨_, rfl⟩, q⟩
def rStarts : V → List V → Hp → VK → Prop := fun x vs H Q => ∃ (z y : Str), x = .str z ∧ vs = [.str y] ∧ Q (.bl (Txt.startswith z y)) H
theorem mt_starts : MtM X "str.startswith" rStarts := by
  intro pins s σ H x vs v us Q I rx rv h
  obtain ⟨z, y, rfl, rfl, q⟩ := h
  obtain ⟨t, rfl⟩ := rx
  obtain ⟨u, rfl, ru⟩ := rv.one
  obtain ⟨t2, rfl⟩ := ru
  exact PySem.SC.startswith ⟨.bl _, H, I, rfl, q⟩
section
variable {o e : Expr} {to : TE} {t : TA} {apos cpos : Pos}
theorem pe_split (ho : PE X o to) (ha : PA X [e] t) (hn : noStar e = true := by rfl) (hbase : attributeBase o "split" X.env (eval o X.env) = eval o X.env := by rfl) (hline : (apos.endLine == cpos.line) = true := by rfl) :
    PE X (.Call (.Attribute o "split" apos) [e] [] cpos) (tBM X.K "str" rSplit to t) :=
  pe_bm PySem.F.plainAttrs_str PySem.F.slot_str_split PySem.F.type_str_split mt_split ho ha hbase (by rw [star_cons hn]; rfl) hline (star_cons hn) (by rfl)
theorem pe_join (ho : PE X o to) (ha : PA X [e] t) (hn : noStar e = true := by rfl) (hbase : attributeBase o "join" X.env (eval o X.env) = eval o X.env := by rfl) (hline : (apos.endLine == cpos.line) = true := by rfl) :
    PE X (.Call (.Attribute o "join" apos) [e] [] cpos) (tBM X.K "str" (rJoin X.K) to t) :=
  pe_bm PySem.F.plainAttrs_str PySem.F.slot_str_join PySem.F.type_str_join mt_join ho ha hbase (by rw [star_cons hn]; rfl) hline (star_cons hn) (by rfl)
theorem pe_starts (ho : PE X o to) (ha : PA X [e] t) (hn : noStar e = true := by rfl) (hbase : attributeBase o "startswith" X.env (eval o X.env) = eval o X.env := by rfl) (hline : (apos.endLine == cpos.line) = true := by rfl) :
    PE X (.Call (.Attribute o "startswith" apos) [e] [] cpos) (tBM X.K "str" rStarts to t) :=
  pe_bm PySem.F.plainAttrs_str PySem.F.slot_str_startswith PySem.F.type_str_startswith mt_starts ho ha hbase (by rw [star_cons hn]; rfl) hline (star_cons hn) (by rfl)
end
end
end L2
namespace L2
open PySem PySem.Spec PyProof.Rows
def ItS (z : Str) : It := ⟨fun i _ => i < z.cps.size, fun i H x H' => H' = H ∧ ∃ c, z.cps[i]? = some c ∧ x = .str ⟨#[c]⟩, fun i _ => z.cps.size ≤ i⟩
theorem turn_str {P : Program} {w : World} {K : PySem.W.Frag} {tg : Expr} (it : Addr) (z : Str) (t : Tok) : Turn P w K tg (ItS z) [it] it (fun i h => h.IsStrIter it "str_ascii_iterator" z t i) where
  mem := by simp
  obj := fun i h st b hb => by
    have e : b = it := by simpa using hb
    subst e
    obtain ⟨u, e, c, q⟩ := st
    exact ⟨u, e, fun v z => by rw [q] at z; cases z⟩
  keep := fun i h h' st k => by
    obtain ⟨u, e, r⟩ := st
    exact ⟨u, k it (by simp) u e, r⟩
  item := by
    intro X hP hw hK hc i pins s σ H E I hf st hg
    subst hP hw hK
    have hi : i < z.cps.size := hg
    obtain ⟨f0, f1, f2, f3, f4, f5⟩ := hf it (by simp)
    have hx : z.cps[i]? = some z.cps[i] := Array.getElem?_eq_getElem hi
    refine wpAny_pyNext_ascii_item st hx fun h' st' sb => ?_
    have I1 : Inv X pins σ H { s with heap := h', toks := s.toks + 1 } := I.turned (t' := s.toks + 1) (fun b u hb e => (sb.2 b hb).trans e) f0 f1 f3 f4 f5
    obtain ⟨u, e', c', d'⟩ := id st'
    exact ⟨_, rfl, go_of (s := { s with heap := h', toks := s.toks + 1 }) e' c' d' (by decide) ⟨.str ⟨#[z.cps[i]]⟩, H, I1, ⟨_, rfl⟩, ⟨rfl, _, hx, rfl⟩, st', fun b hb => (hf b hb).1⟩⟩
  done := by
    intro X hP hw hK hc i pins s σ H E I hf st hg
    subst hP hw hK
    have hi : z.cps.size ≤ i := hg
    obtain ⟨f0, f1, f2, f3, f4, f5⟩ := hf it (by simp)
    exact wpAny_pyNext_ascii_end (I.ok.hd hc) st (Array.getElem?_eq_none hi) fun h' eb => ⟨rfl, I.turned (t' := s.toks) (fun b u hb e => eb b u hb e) f0 f1 f3 f4 f5⟩
  self := fun _ _ _ _ _ st h => wpAny_pyIter_striter_ascii st h
section
variable {X : Cx} {tg : Expr}
def SzQ (R : It → Hp → Prop) : V → Hp → Prop := fun x H1 => ∃ z : Str, x = .str z ∧ z.cps.all (· < 128) = true ∧ R (ItS z) H1
def iStr (tl : TE) : TI := fun σ H R => tl σ H (SzQ R)
theorem pi_str {l : Expr} {tl : TE} (hl : PE X l tl) : PI X tg l (iStr tl) := by
  intro pins s σ H R I h
  refine thn (hl pins s σ H _ I h) fun v s1 ⟨x, H1, I1, r1, q1⟩ => ?_
  obtain ⟨z, e, ha, q⟩ := q1
  subst e
  obtain ⟨t, rfl⟩ := r1
  refine wpAny_pyIter_ascii ha ?_
  refine ⟨s1.heap.objs.size, [s1.heap.objs.size], _, _, _, rfl, I1.kept (t' := s1.toks) fun b u e => Heap.get?_push_of_some _ e, turn_str _ z t, ⟨_, Heap.get?_push_size _ rfl, rfl, rfl⟩, fun b hb => ?_, q⟩
  have e : b = s1.heap.objs.size := by simpa using hb
  subst e
  exact I1.fpOk (Nat.le_refl _) (I1.hok.fresh (Nat.le_refl _))
end
section
variable {σ : St} {H : Hp}
theorem rd_iStr {tl : TE} {R : It → Hp → Prop} (h : tl σ H (SzQ R)) : iStr tl σ H R := h
theorem comp_str {z : Str} {σ₀ : St} {g : TG} {tt : TT} {te : TE} {R : List V → Hp → Prop} (Pv : Nat → List V → Hp → Prop) (h0 : Pv 0 [] H) (hz : z.cps.size ≤ sizeLine)
    (hl : ∀ i ys H, i ≤ z.cps.size → Pv i ys H → ys.length ≤ i)
    (hs : ∀ i c ys H, z.cps[i]? = some c → Pv i ys H → g (.str ⟨#[c]⟩) σ₀ H fun σ2 H2 => tt σ2 H2 fun b H3 => if b = true then te σ2 H3 fun y H4 => Pv (i + 1) (ys ++ [y]) H4 else Pv (i + 1) ys H3)
    (hd : ∀ ys H, Pv z.cps.size ys H → R ys H) : tCompW (ItS z) σ₀ g tt te R H := by
  refine ⟨fun i m ys H => m = z.cps.size - i ∧ i ≤ z.cps.size ∧ Pv i ys H, ⟨z.cps.size, by simp, Nat.zero_le _, h0⟩, ?_⟩
  rintro i m ys H ⟨rfl, hi, p⟩
  have ql := hl i ys H hi p
  refine ⟨by omega, ?_⟩
  by_cases hlt : i < z.cps.size
  · refine .inr ⟨hlt, Pv (i + 1), fun ys' H' p' => ⟨z.cps.size - (i + 1), by omega, rfl, hlt, p'⟩, fun x H' y => ?_⟩
    obtain ⟨e, c, hc, e2⟩ := y
    subst e e2
    exact hs i c ys _ hc p
  · have e : i = z.cps.size := by omega
    subst e
    exact .inl ⟨Nat.le_refl _, hd ys H p⟩
end
end L2
namespace L2
open PySem PySem.Spec PyProof.Rows
section
variable {X : Cx}
theorem part_of {v : Value} {p : Option Int} (h : IsPart v p) : ∃ l : Option (Int × Tok), v = partValue l ∧ l.map (·.1) = p := by
  cases h with
  | none => exact ⟨none, rfl, rfl⟩
  | int i t => exact ⟨some (i, t), rfl, rfl⟩
def rSlS : V → Option Int → Option Int → Hp → VK → Prop := fun x lo hi H Q => ∃ z : Str, x = .str z ∧ (StrLaws.sliceText z lo hi).length ≤ sizeLine ∧ Q (.str (StrLaws.sliceText z lo hi)) H
theorem sl_str : SlR X rSlS := by
  intro pins s σ H x v vl vu lo hi sl Q I rx hs pl pu h
  obtain ⟨z, rfl, hz, q⟩ := h
  obtain ⟨t, rfl⟩ := rx
  obtain ⟨l, rfl, e1⟩ := part_of pl
  obtain ⟨u, rfl, e2⟩ := part_of pu
  obtain ⟨o, ho, hc, hd⟩ := id hs
  refine ⟨"str", _, PySem.F.slot_str_getitem.lookup, typeIs_str _ _ _, wpAny_getItem_str_slice (l := l) (u := u) (st := none) ⟨o, ho, hc, hd⟩ rfl ?_⟩
  subst e1 e2
  unfold sliceMade
  by_cases c : (((none : Option (Int × Tok)).map (·.1)).getD 1 == 1 && (slicePicked z l u none).length == z.length) = true
  · rw [if_pos c]
    have e : StrLaws.sliceText z (l.map (·.1)) (u.map (·.1)) = z := if_pos c
    rw [e] at q
    exact ⟨.str z, H, I, ⟨t, rfl⟩, q⟩
  · rw [if_neg c]
    have e : StrLaws.sliceText z (l.map (·.1)) (u.map (·.1)) = ⟨((slicePicked z l u none).filterMap (z.cps[·]?)).toArray⟩ := if_neg c
    rw [e] at q hz
    exact ⟨hz, ⟨.str _, H, I.tok _, ⟨_, rfl⟩, q⟩⟩
end
end L2
namespace L2
open PySem PySem.Spec PyProof.Rows
section
variable {X : Cx}
def rAddS : R2 := fun x y H Q => ∃ i j : Str, x = .str i ∧ y = .str j ∧ i.length + j.length ≤ sizeLine ∧ Q (.str (i ++ j)) H
theorem op_addS : OpR X (binaryOp .Add) rAddS := op_add_str
def rStrI : List V → Hp → VK → Prop := fun xs H Q => ∃ i : Int, xs = [.int i] ∧ i.natAbs.log2 < 1920 ∧ Q (.str (toString i)) H
theorem call_strI : CallR X (.type "str") rStrI := call_str_int
def rInS : R2 := fun x y H Q => ∃ i j : Str, x = .str i ∧ y = .str j ∧ Q (.bl (!(Builtin.Str.occurrences j i 0 j.length 1).isEmpty)) H
theorem op_inS : OpR X (compareOp .In) rInS := op_in_str
def rLenS : List V → Hp → VK → Prop := fun xs H Q => ∃ z : Str, xs = [.str z] ∧ z.length ≤ sizeLine ∧ Q (.int z.length) H
theorem call_lenS : CallR X (.builtin "len") rLenS := call_len_str
end
end L2
namespace L2.Q
open PySem PySem.Spec PyProof.Rows L2
section
variable {X : Cx} {K' : PySem.W.Frag} {o e l tg : Expr} {to tl : TE} {t : TA} {apos cpos : Pos}
theorem pe_splitK (ho : QE X o to) (ha : QA X [e] t) (hn : noStar e = true := by rfl) (hbase : attributeBase o "split" X.env (eval o X.env) = eval o X.env := by rfl) (hline : (apos.endLine == cpos.line) = true := by rfl) (hK : X.K = K' := by rfl) :
    QE X (.Call (.Attribute o "split" apos) [e] [] cpos) (tBM K' "str" rSplit to t) := by subst hK; exact ⟨L2.pe_split ho.h ha.h hn hbase hline⟩
theorem pe_joinK (ho : QE X o to) (ha : QA X [e] t) (hn : noStar e = true := by rfl) (hbase : attributeBase o "join" X.env (eval o X.env) = eval o X.env := by rfl) (hline : (apos.endLine == cpos.line) = true := by rfl) (hK : X.K = K' := by rfl) :
    QE X (.Call (.Attribute o "join" apos) [e] [] cpos) (tBM K' "str" (rJoin K') to t) := by subst hK; exact ⟨L2.pe_join ho.h ha.h hn hbase hline⟩
theorem pe_startsK (ho : QE X o to) (ha : QA X [e] t) (hn : noStar e = true := by rfl) (hbase : attributeBase o "startswith" X.env (eval o X.env) = eval o X.env := by rfl) (hline : (apos.endLine == cpos.line) = true := by rfl) (hK : X.K = K' := by rfl) :
    QE X (.Call (.Attribute o "startswith" apos) [e] [] cpos) (tBM K' "str" rStarts to t) := by subst hK; exact ⟨L2.pe_starts ho.h ha.h hn hbase hline⟩
theorem pe_gstr {x n : Str} {pos : Pos} (hg : Gl X x) (hm : ∃ t, X.mg x = some (.str n t)) (hd : (x == ("__debug__" : Str)) = false := by decide) : QE X (.Name x pos) (tC (.str n)) := ⟨by
  obtain ⟨t, hm⟩ := hm
  exact L2.pe_glob (v := .str n) hg hm ⟨t, rfl⟩ hd⟩
theorem pi_str (hl : QE X l tl) : QI X tg l (iStr tl) := ⟨L2.pi_str hl.h⟩
end
end L2.Q
namespace L2
open PySem PySem.Spec PyProof.Rows
section
variable {X : Cx}
def rMinL (K : PySem.W.Frag) : List V → Hp → VK → Prop := fun vs H Q => ∃ (p : Addr) (ns : List Int), vs = [.ref p] ∧ SqL K H p (ns.map V.int) ∧ ns ≠ [] ∧ ∀ m, m ∈ ns → (∀ x ∈ ns, m ≤ x) → Q (.int m) H
theorem call_minL (hc : X.calm = true) : CallR X (.builtin "min") (rMinL X.K) := by
  intro pins s σ H vs us Q I r h
  obtain ⟨p, ns, rfl, hq, hne, q⟩ := h
  obtain ⟨u, rfl, rx⟩ := vals1 r
  cases rx
  obtain ⟨its, r', pl, hz⟩ := I.list hq
  have hi := intsAre_of r'
  obtain ⟨xs, hx⟩ := hi.allInts.items
  have e1 : ns = xs.toList.map (·.1) := by rw [← nums_intItems, ← hx]; exact (show numsOf its.toArray.toList = ns from hi.numsOf).symm
  have hsz : 0 < xs.size := by
    have z := List.length_pos_iff.mpr hne
    rw [e1, List.length_map, Array.length_toList] at z
    exact z
  refine min_intList (I.ok.hd hc) (hx ▸ pl.isList : s.heap.IsList p (intItems xs)) hsz fun v h' tk hv hk => ?_
  obtain ⟨t, rfl⟩ := intItems_at hv
  obtain ⟨h1, h2⟩ := argBest_lt (numAt xs) (xs.size - 1)
  refine ⟨.int _, H, I.kept (t' := tk) hk, ⟨t, rfl⟩, q _ ?_ fun x hx' => ?_⟩
  · rw [e1, numAt_eq]; exact getD_mem (by rw [List.length_map, Array.length_toList]; omega)
  · rw [e1] at hx'
    obtain ⟨j, hj, rfl⟩ := mem_getD hx'
    rw [List.length_map, Array.length_toList] at hj
    rw [← numAt_eq]; exact h2 j (by omega)
theorem rd_minL {K : PySem.W.Frag} {H : Hp} {Q : VK} {p : Addr} {ns : List Int} (h1 : SqL K H p (ns.map V.int)) (hne : ns ≠ []) (h : ∀ m, m ∈ ns → (∀ x ∈ ns, m ≤ x) → Q (.int m) H) : rMinL K [.ref p] H Q := ⟨p, ns, rfl, h1, hne, h⟩
end
end L2
namespace L2.Q
open PySem PySem.Spec PyProof.Rows L2
section
variable {X : Cx} {tg : Expr}
end
end L2.Q
namespace L2
open PySem
section
variable {σ : St} {H : Hp} {Q : VK}
end
end L2
namespace L2
open PySem PySem.Spec PyProof.Rows
section
variable {X : Cx}
def rMaxL (K : PySem.W.Frag) : List V → Hp → VK → Prop := fun vs H Q => ∃ (p : Addr) (ns : List Int), vs = [.ref p] ∧ SqL K H p (ns.map V.int) ∧ ns ≠ [] ∧ ∀ m, m ∈ ns → (∀ x ∈ ns, x ≤ m) → Q (.int m) H
theorem call_maxL (hc : X.calm = true) : CallR X (.builtin "max") (rMaxL X.K) := by
  intro pins s σ H vs us Q I r h
  obtain ⟨p, ns, rfl, hq, hne, q⟩ := h
  obtain ⟨u, rfl, rx⟩ := vals1 r
  cases rx
  obtain ⟨its, r', pl, hz⟩ := I.list hq
  have hi := intsAre_of r'
  obtain ⟨xs, hx⟩ := hi.allInts.items
  have e1 : ns = xs.toList.map (·.1) := by rw [← nums_intItems, ← hx]; exact (show numsOf its.toArray.toList = ns from hi.numsOf).symm
  have hsz : 0 < xs.size := by
    have z := List.length_pos_iff.mpr hne
    rw [e1, List.length_map, Array.length_toList] at z
    exact z
  refine max_intList (I.ok.hd hc) (hx ▸ pl.isList : s.heap.IsList p (intItems xs)) hsz fun v h' tk hv hk => ?_
  obtain ⟨t, rfl⟩ := intItems_at hv
  obtain ⟨h1, h2⟩ := argBest_gt (numAt xs) (xs.size - 1)
  refine ⟨.int _, H, I.kept (t' := tk) hk, ⟨t, rfl⟩, q _ ?_ fun x hx' => ?_⟩
  · rw [e1, numAt_eq]; exact getD_mem (by rw [List.length_map, Array.length_toList]; omega)
  · rw [e1] at hx'
    obtain ⟨j, hj, rfl⟩ := mem_getD hx'
    rw [List.length_map, Array.length_toList] at hj
    rw [← numAt_eq]; exact h2 j (by omega)
theorem rd_maxL {K : PySem.W.Frag} {H : Hp} {Q : VK} {p : Addr} {ns : List Int} (h1 : SqL K H p (ns.map V.int)) (hne : ns ≠ []) (h : ∀ m, m ∈ ns → (∀ x ∈ ns, x ≤ m) → Q (.int m) H) : rMaxL K [.ref p] H Q := ⟨p, ns, rfl, h1, hne, h⟩
end
end L2
namespace L2
open PySem PySem.Spec PyProof.Rows
structure LftX (fs : List Addr) (e : Addr) (oe : Obj) (h h' : Heap) : Prop where
  keep : ∀ b o, b ∉ fs → b ≠ e → h.get? b = some o → h'.get? b = some o
  slot : ∀ b o, b ∈ fs → h.get? b = some o → ∃ sl, h'.get? b = some { o with slots := sl }
  err : ∃ vs T oT ts, h'.get? e = some { oe with data := .fields vs } ∧ vs[1]? = some (.ref T) ∧ T ≠ e ∧ h.objs.size ≤ T ∧ h'.get? T = some oT ∧ oT.data = .fields ts ∧ 3 < ts.size
section
variable {M : Model} {A : Around} {E : Value → Shared → Prop} {s : Shared} {base : Heap} {env : Env} {outer : List Env} {L e : Addr} {oe : Obj} {vs : Array Value} {Q : Unit → Shared → Prop}
theorem entry_errX {head : Value} {hadNext : Bool} (hfr : A.frames = some (env :: outer)) (hl : s.heap.FunFrames base (env :: outer)) (hf : env.frame = some L) (he : s.heap.get? e = some oe) (hd : oe.data = .fields vs) (hz : 1 < vs.size)
    (h : ∀ h', LftX (frs (env :: outer)) e oe s.heap h' → Q () { s with heap := h' }) :
    wpAny M A (do let a ← frameOf env; let pl ← entryPlaceOf L hadNext; let b ← EntryCells.newEntry head a .none (rawInt L) .none pl; setField (.ref e) 1 b) Q E s := by
  have hene : e ∉ frs (env :: outer) := fun hm => by
    obtain ⟨_, o, ho, hnf⟩ := hl.mem hm
    rw [he] at ho
    cases ho
    exact hnf vs hd
  refine wpAny_bind (wpAny_frameOf_fun hfr hl hf fun h2 hs => wpAny_bind (wpAny_entryPlaceOf fun pl hpl => ?_))
  unfold EntryCells.newEntry newFields
  refine wpAny_bind (wpAny_newObj_type ?_ (hpl.sizeOk5 _ _ _ _ _))
  have he2 : h2.get? e = some oe := (hs.2.1 e hene).trans he
  have nT : h2.objs.size ≠ e := Nat.ne_of_gt (Heap.lt_size he2)
  refine wpAny_setField (Heap.get?_push_of_some _ he2) hd hz ?_
  generalize hTs : ([head, Value.ref L, Value.none, rawInt L, Value.none] ++ if pl.isEmpty = true then List.replicate 6 Value.none else pl).toArray = ts0
  have h3 : 3 < ts0.size := by rw [← hTs]; simp only [List.size_toArray, List.length_append, List.length_cons, List.length_nil]; omega
  have em : Obj.mapFields (·.setIfInBounds 1 (Value.ref h2.objs.size)) oe = { oe with data := .fields (vs.setIfInBounds 1 (Value.ref h2.objs.size)) } := by
    obtain ⟨c, di, dt, sl⟩ := oe
    cases hd
    rfl
  generalize hA : h2.push { cls := .type "traceback", data := .fields ts0 } = hA'
  have ka : ∀ b o, h2.get? b = some o → hA'.get? b = some o := fun b o z => by rw [← hA]; exact Heap.get?_push_of_some _ z
  have kT : hA'.get? h2.objs.size = some { cls := .type "traceback", data := .fields ts0 } := by rw [← hA]; exact Heap.get?_push_size _ rfl
  have he3 : (hA'.update e (Obj.mapFields (·.setIfInBounds 1 (Value.ref h2.objs.size)))).get? e = some { oe with data := .fields (vs.setIfInBounds 1 (Value.ref h2.objs.size)) } := by
    rw [← em]
    exact Heap.get?_update_self _ (ka _ _ he2) (by rw [em]; rfl)
  have hT3 : (hA'.update e (Obj.mapFields (·.setIfInBounds 1 (Value.ref h2.objs.size)))).get? h2.objs.size = some { cls := .type "traceback", data := .fields ts0 } := (Heap.get?_update_other _ _ (Ne.symm nT)).trans kT
  refine h _ ⟨fun b o hb hbe z => ?_, fun b o hb z => ?_, ⟨_, _, _, _, he3, by simp [hz], nT, Nat.le_of_eq hs.1.symm, hT3, rfl, h3⟩⟩
  · exact (Heap.get?_update_other _ _ (Ne.symm hbe)).trans (ka _ _ ((hs.2.1 b hb).trans z))
  · obtain ⟨sl, z2⟩ := hs.2.2 b o z
    exact ⟨sl, (Heap.get?_update_other _ _ (show e ≠ b from fun q => hene (by rw [q]; exact hb))).trans (ka _ _ z2)⟩
variable {T : Addr} {oT : Obj} {ts : Array Value}
theorem note_errX (hfr : A.frames = some (env :: outer)) (hl : s.heap.FunFrames base (env :: outer)) (hf : env.frame = some L) (he : s.heap.get? e = some oe) (hd : oe.data = .fields vs) (h1 : vs[1]? = some (.ref T))
    (hT : s.heap.get? T = some oT) (hdT : oT.data = .fields ts) (h3 : 3 < ts.size) (nTe : T ≠ e) (h0 : Q () s)
    (h : ∀ h2 h', (∀ b, b ≠ T → h2.get? b = s.heap.get? b) → h2.objs.size = s.heap.objs.size → LftX (frs (env :: outer)) e oe h2 h' → Q () { s with heap := h' }) :
    wpAny M A (noteFrame (.ref e) env) Q E s := by
  unfold noteFrame
  simp only [hf]
  refine wpAny_bind (wpAny_field he hd h1 ?_)
  rw [if_pos (show (Value.ref T != Value.none) = true from by simp)]
  refine wpAny_bind (wpAny_field hT hdT (x := ts[3]) (by simp [h3]) ?_)
  by_cases q : (ts[3] == rawInt L) = true
  · rw [if_pos q]
    exact wpAny_pure h0
  · rw [if_neg q]
    refine wpAny_bind (wpAny_setField hT hdT h3 ?_)
    have ot : ∀ b, b ≠ T → (s.heap.update T (Obj.mapFields (·.setIfInBounds 3 Value.none))).get? b = s.heap.get? b := fun b hb => Heap.get?_update_other _ _ (Ne.symm hb)
    refine entry_errX (base := base) hfr (hl.of_keeps fun b o z hnf => ⟨o, (ot b fun q => ?_).trans z, rfl⟩) hf ((ot e (Ne.symm nTe)).trans he) hd (Array.getElem?_eq_some_iff.mp h1).1 fun h' lf => h _ h' ot (Heap.size_update ..) lf
    rw [q, hT] at z
    cases z
    exact hnf ts hdT
theorem flight_err {fr : Option Addr} (he : s.heap.get? e = some oe) (hd : oe.data = .fields vs) (h1 : vs[1]? = some (.ref T)) (hT : s.heap.get? T = some oT) (hdT : oT.data = .fields ts) (h3 : 3 < ts.size)
    (h : ∀ h' x, (∀ b, b ≠ T → h'.get? b = s.heap.get? b) → h'.objs.size = s.heap.objs.size → h'.get? T = some { oT with data := .fields (ts.setIfInBounds 3 x) } → (fr = none → x = .none) → Q () { s with heap := h' }) :
    wpAny M A (setFlight (.ref e) fr) Q E s := by
  unfold setFlight
  refine wpAny_bind (wpAny_field he hd h1 ?_)
  rw [if_pos (show (Value.ref T != Value.none) = true from by simp)]
  have em : ∀ x, Obj.mapFields (·.setIfInBounds 3 x) oT = { oT with data := .fields (ts.setIfInBounds 3 x) } := fun x => by
    obtain ⟨c, di, dt, sl⟩ := oT
    cases hdT
    rfl
  refine wpAny_setField hT hdT h3 (h _ (fr.elim .none fun f => rawInt f) (fun b hb => Heap.get?_update_other _ _ (Ne.symm hb)) (Heap.size_update ..) ?_ (fun z => by rw [z]; rfl))
  rw [← em]
  exact Heap.get?_update_self _ hT (by rw [em]; rfl)
end
structure ErrIn (X : Cx) (pins : List (Addr × Obj)) (H : Hp) (h : Heap) (e C : Addr) (od : Option Addr) (T : Addr) : Prop where
  he : H e = some (ErrO C od e)
  tf : TrFree X pins T
  hT : H T = none
  ex : ∃ oe vs oT ts, h.get? e = some oe ∧ oe.data = .fields vs ∧ vs[1]? = some (.ref T) ∧ T ≠ e ∧ h.get? T = some oT ∧ oT.data = .fields ts ∧ 3 < ts.size
section
variable {X : Cx} {pins : List (Addr × Obj)} {σ : St} {H : Hp} {s : Shared} {h' : Heap} {C e T : Addr} {od : Option Addr} {oe : Obj}
theorem Inv.leftX (I : Inv X pins σ H s) (he : H e = some (ErrO C od e)) (ho : s.heap.get? e = some oe) (lf : LftX (frs X.stack) e oe s.heap h') : Inv X pins σ H { s with heap := h' } := by
  obtain ⟨o, vs, q1, q2, q3, q4⟩ := errO_at (I.hok e _ he)
  rw [ho] at q1
  cases q1
  have stk := I.stkFree
  obtain ⟨vs2, T, oT, ts, r1, _⟩ := lf.err
  have tr : ∀ b u, H b = some u → b ∉ frs X.stack := fun b u z hb => by rw [stk b hb] at z; cases z
  refine I.call (g' := s.gens) (d' := s.drawn) (t' := s.toks) (ch := []) ⟨fun b o z n hb _ => lf.keep b o hb (fun q => by rw [q, he] at n; cases n) z, fun b o z n hb _ => lf.slot b o hb z, fun b o z n _ => n, fun b o z _ => ?_, fun _ _ z => z, fun _ _ _ z => z, fun b ps z => ⟨#[], by rw [z]; simp⟩⟩ (fun a u z => ?_) I.bare (fun b z => nomatch z)
  · by_cases hb : b ∈ frs X.stack
    · obtain ⟨sl, q⟩ := lf.slot b o hb z; exact ⟨_, q⟩
    · by_cases hbe : b = e
      · subst hbe; exact ⟨_, r1⟩
      · exact ⟨o, lf.keep b o hb hbe z⟩
  · by_cases hae : a = e
    · subst hae
      rw [he] at z
      cases z
      exact errO_ok r1 q2 q3 rfl
    · refine (I.hok a u z).stay (fun b v hb q => ?_) (fun _ q => q) fun _ _ _ q => q
      rcases hb with rfl | hb
      · exact lf.keep _ v (tr _ _ z) hae q
      · exact lf.keep _ v (tr _ _ hb) (fun y => by rw [y, he] at hb; cases hb) q
theorem Inv.trUp (I : Inv X pins σ H s) (hb : s.heap.objs.size ≤ T) : TrFree X pins T := by
  have nn : ∀ b o, s.heap.get? b = some o → b ≠ T := fun b o z w' => absurd (Heap.lt_size z) (by rw [w']; exact Nat.not_lt.mpr hb)
  obtain ⟨m, ⟨oL, _, _, hoL, _⟩, _⟩ := id I.loc
  exact ⟨Nat.le_trans I.sz hb, (nn _ _ hoL).symm, fun x c z => by obtain ⟨v, o, z2, _⟩ := I.cell x c z; exact nn _ _ z2, fun p hp => nn _ _ (I.pin p hp).1⟩
variable {M : Model} {Ex : Value → Shared → Prop} {Q : Unit → Shared → Prop} {env : Env} {outer : List Env} {L : Addr}
theorem ErrIn.note {A : Around} (hA : A.frames = some (env :: outer)) (hst : X.stack = env :: outer) (hf : env.frame = some L) (I : Inv X pins σ H s) (F : ErrIn X pins H s.heap e C od T)
    (h : ∀ h2 T', Inv X pins σ H { s with heap := h2 } → ErrIn X pins H h2 e C od T' → (T' = T ∨ s.heap.objs.size ≤ T') → (∀ b o, b ∉ frs X.stack → b ≠ e → b ≠ T → s.heap.get? b = some o → h2.get? b = some o) → Q () { s with heap := h2 }) :
    wpAny M A (noteFrame (.ref e) env) Q Ex s := by
  obtain ⟨oe, vs, oT, ts, ho, hd, h1, nT, g1, g2, g3⟩ := F.ex
  refine note_errX (base := X.base) hA (by rw [← hst]; exact I.stack) hf ho hd h1 g1 g2 g3 nT ?_ fun h2 h' k2 sz2 lf => ?_
  · exact h s.heap T I F (.inl rfl) fun _ _ _ _ _ z => z
  · have I2 := I.trace F.tf F.hT k2
    have ho2 : h2.get? e = some oe := (k2 e (Ne.symm nT)).trans ho
    have I3 := I2.leftX (s := { s with heap := h2 }) F.he ho2 (by rw [hst]; exact lf)
    obtain ⟨vs2, T2, oT2, ts2, r1, r2, r3, r4, r5, r6, r7⟩ := lf.err
    rw [sz2] at r4
    exact h h' T2 I3 ⟨F.he, I.trUp r4, I.hok.fresh r4, ⟨_, _, _, _, r1, rfl, r2, r3, r5, r6, r7⟩⟩ (.inr r4) fun b o a1 a2 a3 z => lf.keep b o (by rw [← hst]; exact a1) a2 ((k2 b a3).trans z)
theorem ErrIn.flight {A : Around} {fr : Option Addr} (I : Inv X pins σ H s) (F : ErrIn X pins H s.heap e C od T)
    (h : ∀ h2, Inv X pins σ H { s with heap := h2 } → ErrIn X pins H h2 e C od T → Q () { s with heap := h2 }) : wpAny M A (setFlight (.ref e) fr) Q Ex s := by
  obtain ⟨oe, vs, oT, ts, ho, hd, h1, nT, g1, g2, g3⟩ := F.ex
  refine flight_err ho hd h1 g1 g2 g3 fun h' x k sz gT _ => h h' (I.trace F.tf F.hT k) ⟨F.he, F.tf, F.hT, ⟨_, _, _, _, (k e (Ne.symm nT)).trans ho, hd, h1, nT, gT, rfl, by rw [Array.size_setIfInBounds]; exact g3⟩⟩
end
structure Flies (X : Cx) (E : XK) : Prop where
  fr : ∃ L, X.env.frame = some L
  st : ∃ outer, X.stack = X.env :: outer
  out : ∀ (pins : List (Addr × Obj)) (σ : St) (H : Hp) (s : Shared) (e C : Addr) (od : Option Addr) (T : Addr), Inv X pins σ H s → ErrIn X pins H s.heap e C od T → E (.ref e) od H → X.xe (.ref e) s
theorem flies_cx {P : Program} {w : World} {K : PySem.W.Frag} {mg : Str → Option Value} {base : Heap} {N : List Str} {qual : Str} {scope : Scope} {f : Addr} {cd : Value} {A : Around} {outer : List Env} {s : Shared} {H : Hp} {E : XK} :
    Flies (cxOf (CXE P w) P w K mg base N qual scope f cd A outer s H E) E := by
  refine ⟨⟨_, rfl⟩, ⟨_, rfl⟩, fun pins σ H1 s1 e C od T I F hE => ?_⟩
  show wpAny _ _ (leaving _ _) _ _ _
  unfold leaving
  refine wpAny_bind (F.note (X := cxOf (CXE P w) P w K mg base N qual scope f cd A outer s H E) I.ok.frames rfl rfl I fun h2 T' I2 F2 _ _ => ?_)
  obtain ⟨oe, vs, oT, ts, ho, hd, h1, nT, g1, g2, g3⟩ := F2.ex
  refine flight_err ho hd h1 g1 g2 g3 fun h' x k sz gT hx => ?_
  have I3 := I2.trace F2.tf F2.hT k
  exact ⟨e, C, od, H1, _, _, T', _, _, rfl, I3.os, I3.bare, I3.base, I3.hok, F2.he, (k e (Ne.symm nT)).trans ho, hd, h1, nT, F2.tf.up, F2.hT, gT, rfl, by rw [hx rfl]; simp [g3], hE⟩
def CXB (X : Cx) (fp : List Addr) (C0 : Addr) (s : Shared) (H : Hp) (E : XK) : Value → Shared → Prop := fun ev s' => ∃ (e C : Addr) (od : Option Addr) (H' : Hp) (T : Addr),
  ev = .ref e ∧ s'.os = s.os ∧ AllBare s'.gens ∧ Un (frs X.stack) fp H H' s.heap s'.heap ∧ HOk X.prog X.w H' s'.heap ∧ (∃ m, s'.heap.Ns C0 m) ∧ H' C0 = none ∧ H' e = some (ErrO C od e) ∧ s.heap.objs.size ≤ T ∧ T ≠ C0 ∧ H' T = none ∧
  (∃ oe vs oT ts, s'.heap.get? e = some oe ∧ oe.data = .fields vs ∧ vs[1]? = some (.ref T) ∧ T ≠ e ∧ s'.heap.get? T = some oT ∧ oT.data = .fields ts ∧ 3 < ts.size) ∧ E (.ref e) od H'
def cxB (X : Cx) (scope : Scope) (N : List Str) (fp : List Addr) (E : XK) (C : Addr) (s : Shared) (H : Hp) : Cx := { cxC X scope N fp C s H with xe := CXB X fp C s H E }
section
variable {X : Cx} {pins : List (Addr × Obj)} {σ : St} {H : Hp} {s : Shared} {scope : Scope} {N : List Str} {fp : List Addr} {E : XK}
theorem Inv.toB {C : Addr} {pins' : List (Addr × Obj)} {σ' : St} {H' : Hp} {s' : Shared} (I : Inv (cxC X scope N fp C s H) pins' σ' H' s') : Inv (cxB X scope N fp E C s H) pins' σ' H' s' :=
  ⟨⟨I.ok.mod, I.ok.kind, I.ok.glob, I.ok.blt, I.ok.above, I.ok.inj, I.ok.has, I.ok.cab, I.ok.hd, I.ok.frames, I.ok.stk, I.ok.exf, I.ok.bs, I.ok.bsz, I.ok.noex, I.ok.exfs, I.ok.funs, I.ok.frf⟩, I.os, I.bare, I.base, I.loc, I.cell, I.free, I.freeC, I.pin, I.hok, I.len⟩
theorem Inv.ofB {C : Addr} {pins' : List (Addr × Obj)} {σ' : St} {H' : Hp} {s' : Shared} (I : Inv (cxB X scope N fp E C s H) pins' σ' H' s') : Inv (cxC X scope N fp C s H) pins' σ' H' s' :=
  ⟨⟨I.ok.mod, I.ok.kind, I.ok.glob, I.ok.blt, I.ok.above, I.ok.inj, I.ok.has, I.ok.cab, I.ok.hd, I.ok.frames, I.ok.stk, I.ok.exf, I.ok.bs, I.ok.bsz, I.ok.noex, I.ok.exfs, I.ok.funs, I.ok.frf⟩, I.os, I.bare, I.base, I.loc, I.cell, I.free, I.freeC, I.pin, I.hok, I.len⟩
theorem passes_cxB {C : Addr} : Passes (CXE X.prog X.w) (cxB X scope N fp E C s H) E := by
  intro pins σ H1 s1 ev s2 I h
  obtain ⟨e, C', od, H2, oe, vs, T, oT, ts, rfl, os, bare, un, hok, he, ho, hd, h1, nT, sT, hT, g1, g2, g3, hq⟩ := h
  have I2 : Inv (cxB X scope N fp E C s H) pins σ H2 s2 := I.call' os un hok bare (fun b z => nomatch z)
  obtain ⟨m, hn, _⟩ := id I2.loc
  exact ⟨e, C', od, H2, T, rfl, I2.os, I2.bare, I2.base, I2.hok, ⟨m, hn⟩, I2.free, he, Nat.le_trans I.sz sT, (I.trUp sT).loc, hT, ⟨oe, vs, oT, ts, ho, hd, h1, nT, g1, g2, (Array.getElem?_eq_some_iff.mp g3).1⟩, hq⟩
theorem cxb_out {C : Addr} {ev : Value} {s' : Shared} {cl : List (Str × Addr)} {use : Option (Value → Sem Unit)} {Q : Value → Shared → Prop} {acc : Value} (hx : Flies X E) (I : Inv X pins σ H s) (hf : ∀ b ∈ fp, FpOk X pins H b) (hC : s.heap.objs.size ≤ C) (h : CXB X fp C s H E ev s') :
    notedBy (model X.prog X.w) X.A (compEnvC scope cl C X.env) (fun e s'' => compPost (model X.prog X.w) X.A X.xe use Q acc C (.error e) s'') ev s' := by
  obtain ⟨e, C', od, H', T, rfl, os, bare, un, hok, ⟨m, oC, es, ep, hoC, rest⟩, hC0, he, sT, nTC, hT, ex, hq⟩ := h
  have I' : Inv X pins σ H' s' := I.call' os un hok bare fun b hb => ⟨(hf b hb).2.2.2.1, (hf b hb).2.1, (hf b hb).2.2.2.2.1, (hf b hb).2.2.2.2.2⟩
  have F : ErrIn X pins H' s'.heap e C' od T := ⟨he, I.trUp sT, hT, ex⟩
  have fC : FpOk X pins H' C := I.fpOk hC hC0
  obtain ⟨L, hL⟩ := hx.fr
  obtain ⟨outer, ho⟩ := hx.st
  have nCf : C ∉ frs X.stack := fun z => by
    rcases List.mem_cons.mp (I.stkSub C z) with q | q
    · exact fC.2.1 q
    · exact fC.2.2.1 q
  have nCe : e ≠ C := fun z => by rw [← z, he] at hC0; cases hC0
  show wpAny _ X.A (noteFrame (.ref e) X.env) _ _ s'
  refine F.note (by rw [← ho]; exact I.ok.frames) ho hL I' fun h2 T' I2 F2 hT' kp => ?_
  have nT' : T' ≠ C := by
    rcases hT' with rfl | q
    · exact nTC
    · exact fun z => absurd (Heap.lt_size hoC) (by rw [← z]; exact Nat.not_lt.mpr q)
  refine ⟨m, ⟨oC, es, ep, kp C oC nCf nCe.symm nTC.symm hoC, rest⟩, fun h3 hs3 cenv hcl => ?_⟩
  have I3 := I2.turned (h' := h3) (t' := s'.toks) (fun b o hb e => (hs3.2 b hb).trans e) fC.1 fC.2.1 fC.2.2.2.1 fC.2.2.2.2.1 fC.2.2.2.2.2
  obtain ⟨oe, vs, oT, ts, a1, a2, a3, a4, a5, a6, a7⟩ := F2.ex
  have b1 : h3.get? e = some oe := (hs3.2 e nCe).trans a1
  have F3 : ErrIn X pins H' h3 e C' od T' := ⟨F2.he, F2.tf, F2.hT, ⟨oe, vs, oT, ts, b1, a2, a3, a4, (hs3.2 T' nT').trans a5, a6, a7⟩⟩
  unfold PySem.passOn
  refine wpAny_bind (wpAny_field b1 a2 a3 ?_)
  rw [if_neg (by simp)]
  refine wpAny_bind (F3.flight I3 fun h4 I4 F4 => ?_)
  exact wpAny_throw (hx.out pins σ H' _ e C' od T' I4 F4 hq)
end
section
variable {X : Cx} {pins : List (Addr × Obj)} {σ : St} {H : Hp} {s : Shared} {scope : Scope} {N : List Str} {k : Nat} {idx : List Nat} {fp : List Addr}
theorem comp_blockX {EE : XK} {elt target iter : Expr} {ifs : List Expr} {pos : Pos} {it : Addr} {tn : Nat → Heap → Prop} {J : It} {g : TG} {tt : TT} {te : TE} {R : List V → Hp → Prop} {E : Value → Shared → Prop} {RR : Value → Addr → Result → Shared → Prop}
    (S : BlkScope X scope N k idx) (hc : X.calm = true) (I : Inv X pins σ H s) (T : Turn X.prog X.w X.K target J fp it tn) (st : tn 0 s.heap) (hf : ∀ b ∈ fp, FpOk X pins H b)
    (hg : ∀ C, PG (cxB X scope N fp EE C s H) target g) (ho : Own k g) (ht : ∀ C, PTs (cxB X scope N fp EE C s H) ifs tt) (he : ∀ C, PE (cxB X scope N fp EE C s H) elt te)
    (hw : tCompW J (cσ k idx σ) g tt te R H)
    (hRR : ∀ D C s' m ys H', s'.heap.Ns C m → Inv X pins σ (upd H' D (.lst ys)) s' → FpOk X pins (upd H' D (.lst ys)) C → H' D = none → R ys H' → RR (.ref D) C (.ok .next) s')
    (hER : ∀ D C ev s', s.heap.objs.size ≤ C → CXB X fp C s H EE ev s' → notedBy (model X.prog X.w) X.A (compEnvC scope (clos X.env scope.names []) C X.env) (fun e s'' => RR (.ref D) C (.error e) s'') ev s') :
    wpAny (model X.prog X.w) X.A (newList []) (fun acc s₃ => wpAny (model X.prog X.w) X.A (newFunctionEnv scope X.env.globals (clos X.env scope.names []) [] X.env.qual none .none (some X.env)) (fun cenv s₄ =>
      codeAny (model X.prog X.w) X.A (.compStart (.ListComp elt [⟨target, iter, ifs, 0⟩] scope pos) 0 (.ref it) acc { cenv with scope := relabel scope X.env }) (RR acc cenv.locals) s₄) E s₃) E s := by
  refine wpAny_newObj_type (wpAny_newFunctionEnv S.nocell (by intro y hy; simp at hy) (fun h₁ hns₁ hsb₁ => ?_) S.kind)
  dsimp only at hns₁ hsb₁ ⊢
  generalize hH2 : s.heap.push { cls := .type "list", dict := none, data := .seq ([] : List Value).toArray } = H2 at hns₁ hsb₁ ⊢
  have hCs : H2.objs.size = s.heap.objs.size + 1 := by rw [← hH2, Heap.size_push]
  have hDC : s.heap.objs.size ≠ H2.objs.size := by rw [hCs]; exact Nat.ne_of_lt (Nat.lt_succ_self _)
  have hCle : s.heap.objs.size ≤ H2.objs.size := by rw [hCs]; exact Nat.le_succ _
  have below : ∀ b, b < s.heap.objs.size → b ≠ H2.objs.size := fun b hb => by rw [hCs]; exact Nat.ne_of_lt (Nat.lt_succ_of_lt hb)
  have old : ∀ b o, s.heap.get? b = some o → h₁.get? b = some o := fun b o e => hsb₁.extBut b o (below b (Heap.lt_size e)) (Heap.get?_push_of_some _ (hH2 ▸ Heap.get?_push_of_some _ e))
  have hacc : h₁.get? s.heap.objs.size = some { cls := .type "list", data := .seq ([] : List Value).toArray 0 } := hsb₁.extBut _ _ hDC (Heap.get?_push_of_some _ (hH2 ▸ Heap.get?_push_size _ rfl))
  have st₁ : tn 0 h₁ := T.keep _ _ _ st fun b _ o e => old b o e
  obtain ⟨W, ⟨m0, w0⟩, turn⟩ := hw
  have fp0 : ∀ b ∈ fp, b < s.heap.objs.size := fun b hb => by
    obtain ⟨o, e, _⟩ := T.obj _ _ st b hb
    exact Heap.lt_size e
  -- the iterator's records and the block's own objects
  have stat : ∀ {H' : Hp} {pl : List (Addr × Obj)}, (∀ b ∈ fp, H' b = none) → (∀ p ∈ pl, s.heap.objs.size ≤ p.1) → ∀ b ∈ fp, FpOk (cxB X scope N fp EE H2.objs.size s H) pl H' b := fun {H' pl} hn hp b hb => by
    refine ⟨hn b hb, below b (fp0 b hb), fun z => ?_, .inl hb, fun x c e => (hf b hb).2.2.2.2.1 x c (clos_of (S.cells I) e), fun p q z => ?_⟩
    · have z' : b ∈ frs X.stack := z
      rcases List.mem_cons.mp (I.stkSub b z') with q | q
      · exact (hf b hb).2.1 q
      · exact (hf b hb).2.2.1 q
    · have q' : p ∈ ([] : List (Addr × Obj)) ++ pl := q
      have h1 := hp p (by simpa using q')
      rw [z] at h1
      exact absurd (Nat.lt_of_lt_of_le (fp0 b hb) h1) (Nat.lt_irrefl _)
  have loop : ∀ s₃ : Shared, s₃ = { s with heap := h₁, toks := s.toks + ([] : List (Str × Value)).length } →
      codeAny (model X.prog X.w) X.A (.compLoop (.ListComp elt [⟨target, iter, ifs, 0⟩] scope pos) 0 (.ref it) (.ref s.heap.objs.size) (compEnvC scope (clos X.env scope.names []) H2.objs.size X.env))
        (RR (.ref s.heap.objs.size) H2.objs.size) s₃ := by
    rintro s₃ rfl
    refine compLoop_go (fun n s' => ∃ i ys its H' nn, Inv (cxB X scope N fp EE H2.objs.size s H) [(s.heap.objs.size, { cls := .type "list", data := .seq its.toArray nn })] (cσ k idx σ) H' s' ∧ tn i s'.heap ∧ (∀ b ∈ fp, H' b = none) ∧ Vals ys its ∧ W i n ys H') ?_ m0
      ⟨0, [], [], H, 0, (blk_start S I hf (fun b hb => let ⟨o, e, _⟩ := T.obj _ _ st b hb; ⟨o, e⟩) hCle (Nat.le_refl _) hDC hns₁ old hacc (fun v z => by cases z)).toB, st₁, fun b hb => (hf b hb).1, .nil, w0⟩
    rintro n s' ⟨i, ys, its, H', nn, I', st', fr', rv, w'⟩
    obtain ⟨hz, alt⟩ := turn i n ys H' w'
    have pl : ∀ p ∈ [((s.heap.objs.size : Addr), ({ cls := .type "list", data := .seq its.toArray nn } : Obj))], s.heap.objs.size ≤ p.1 := fun p hp => by
      have e : p = ((s.heap.objs.size : Addr), ({ cls := .type "list", data := .seq its.toArray nn } : Obj)) := by simpa using hp
      rw [e]
      exact Nat.le_refl _
    rcases alt with ⟨stop, q⟩ | ⟨go, Nx, hN, step⟩
    · refine thn (T.done (cxB X scope N fp EE H2.objs.size s H) rfl rfl rfl hc i _ s' _ H' _ I' (stat fr' pl) st' stop) fun r s4 ⟨hr, I4⟩ => ?_
      subst hr
      obtain ⟨eD, nD, _⟩ := I4.pin _ (List.mem_append_right _ List.mem_cons_self)
      obtain ⟨a1, a2⟩ := blk_end I hf I4.ofB hCle (Nat.le_refl _) hDC nD eD rv hz
      obtain ⟨m4, hn4, _⟩ := I4.loc
      exact hRR _ _ s4 m4 ys H' hn4 a1 a2 nD q
    · refine thn (T.item (cxB X scope N fp EE H2.objs.size s H) rfl rfl rfl hc i _ s' _ H' _ I' (stat fr' pl) st' go) fun r s4 ⟨u, hr, h4⟩ => ?_
      subst hr
      refine thn h4 fun _ s5 ⟨x, H5, I5, r5, y5, st5, fr5⟩ => ?_
      have I5' := I5.pinned (stat fr5 pl) (T.obj _ _ st5)
      have noE : ∀ {α : Type} {t : Sem α} {Q : α → Shared → Prop} {sx : Shared}, wpAny (model X.prog X.w) X.A t Q (cxB X scope N fp EE H2.objs.size s H).xe sx → wpAny (model X.prog X.w) X.A t Q (notedBy (model X.prog X.w) X.A (compEnvC scope (clos X.env scope.names []) H2.objs.size X.env) fun e s'' => RR (.ref s.heap.objs.size) H2.objs.size (.error e) s'') sx := fun h => wpAny_mono h (fun _ _ q => q) fun _ _ z => hER _ _ _ _ hCle z
      refine noE (thn (hg _ _ s5 _ H5 x u _ I5' r5 (ho x _ H5 _ _ ⟨rfl, fun _ _ => rfl⟩ (step x H5 y5))) fun _ s6 ⟨σ6, H6, I6, ag, q6⟩ => ?_)
      have back : ∀ {H7 : Hp} {s7 : Shared}, Inv (cxB X scope N fp EE H2.objs.size s H) ([((s.heap.objs.size : Addr), ({ cls := .type "list", data := .seq its.toArray nn } : Obj))] ++ pinsAt fp s5.heap) σ6 H7 s7 →
          Inv (cxB X scope N fp EE H2.objs.size s H) [((s.heap.objs.size : Addr), ({ cls := .type "list", data := .seq its.toArray nn } : Obj))] (cσ k idx σ) H7 s7 ∧ tn (i + 1) s7.heap ∧ ∀ b ∈ fp, H7 b = none := fun {H7 s7} I7 => by
        refine ⟨I7.unpinned.weak (by rw [ag.1]) fun j v e => ?_, T.keep _ _ _ st5 fun b hb o e => (I7.pin (b, o) (List.mem_append_right _ (List.mem_append_right _ (mem_pinsAt hb e)))).1, fun b hb => ?_⟩
        · have hj : k ≤ j := by
            by_cases hj : j < k
            · unfold cσ at e
              rw [List.getElem?_append_left (by simpa using hj), List.getElem?_replicate, if_pos hj] at e
              cases e
            · omega
          rw [ag.2 j hj]
          exact e
        · obtain ⟨o, e, d⟩ := T.obj _ _ st5 b hb
          exact (I7.pin (b, o) (List.mem_append_right _ (List.mem_append_right _ (mem_pinsAt hb e)))).2.1
      refine noE (thn (ht _ _ s6 σ6 H6 _ I6 q6) fun b s7 ⟨H7, I7, q7⟩ => ?_)
      cases b with
      | false =>
        rw [if_neg Bool.false_ne_true] at q7 ⊢
        obtain ⟨m', hm, w7⟩ := hN _ _ q7
        obtain ⟨b1, b2, b3⟩ := back I7
        exact ⟨m', hm, i + 1, ys, its, H7, nn, b1, b2, b3, rv, w7⟩
      | true =>
        rw [if_pos rfl] at q7 ⊢
        refine noE (thn (he _ _ s7 σ6 H7 _ I7 q7) fun y s8 ⟨z, H8, I8, r8, q8⟩ => ?_)
        obtain ⟨m', hm, w8⟩ := hN _ _ q8
        obtain ⟨b1, b2, b3⟩ := back I8
        obtain ⟨eD, nD, neD, nfD, _⟩ := b1.pin _ (List.mem_append_right _ List.mem_cons_self)
        have lenV := rv.length
        refine append_at (hsz := by rw [List.size_toArray, ← lenV]; exact hz) eD fun h9 hs9 hD9 => ?_
        have b1' : Inv (cxB X scope N fp EE H2.objs.size s H) [] (cσ k idx σ) H8 s8 := b1.pins_of fun p hp => by cases hp
        have I9 : Inv (cxB X scope N fp EE H2.objs.size s H) [] (cσ k idx σ) H8 { s8 with heap := h9 } := b1'.turned (t' := s8.toks) (fun b o hb e => (hs9.2 b hb).trans e) nD neD (.inr (Nat.le_refl _)) (fun x c e z => by
          obtain ⟨v, q⟩ := I.cell x c (clos_of (S.cells I) e)
          exact absurd (Nat.lt_of_lt_of_le q.lt (by rw [z]; exact Nat.le_refl _)) (Nat.lt_irrefl _)) (fun p hp => by
          have hp' : p ∈ ([] : List (Addr × Obj)) ++ [] := hp
          simp at hp')
        refine ⟨m', hm, i + 1, ys ++ [z], its ++ [y], H8, nn + 1, I9.pins_of fun p hp => ?_, T.keep _ _ _ b2 fun b hb o e => (hs9.2 b (Nat.ne_of_lt (fp0 b hb))).trans e, b3, rv.append (.cons r8 .nil), w8⟩
        have e : p = ((s.heap.objs.size : Addr), ({ cls := .type "list", data := .seq (its ++ [y]).toArray (nn + 1) } : Obj)) := by simpa using hp
        subst e
        exact ⟨by rw [← lst_push]; exact hD9, nD, neD, nfD, fun v z => by cases z⟩
  exact codeAny_compStart_list (loop _ rfl) (T.self _ 0 _ _ _ st₁ (loop _ rfl))
theorem pe_compX {EE : XK} (hfl : Flies X EE) (k : Nat) (idx : List Nat) {N : List Str} {elt target iter : Expr} {ifs : List Expr} {pos : Pos} {wi : TI} {g : TG} {tt : TT} {te : TE} (S : BlkScope X scope N k idx) (hc : X.calm = true) (hi : PI X target iter wi)
    (hg : ∀ fp C s H, PG (cxB X scope N fp EE C s H) target g) (ho : Own k g) (ht : ∀ fp C s H, PTs (cxB X scope N fp EE C s H) ifs tt) (he : ∀ fp C s H, PE (cxB X scope N fp EE C s H) elt te)
    (hs : ∀ x, foldedSetIterable iter X.env x = pure x := by intro _; rfl) : PE X (.ListComp elt [⟨target, iter, ifs, 0⟩] scope pos) (tComp wi k idx g tt te) := by
  intro pins s σ H Q I h
  rw [eval_ListComp]
  refine wpAny_comprehension_free (use := none) rfl hs (closure_eq (S.cells I)) S.kind S.names (thn (hi pins s σ H _ I h) fun v s1 h1 => thn h1 fun itv s2 h2 => ?_)
  obtain ⟨it, fp, tn, J, H2, e, I2, T, st2, f2, w2⟩ := h2
  subst e
  refine comp_blockX (EE := EE) (RR := fun acc C => compPost (model X.prog X.w) X.A X.xe none (EP X pins σ Q) acc C) S hc I2 T st2 f2 (fun C => hg fp C s2 H2) ho (fun C => ht fp C s2 H2) (fun C => he fp C s2 H2) w2 (fun D C s' m ys H' hn I' fC hD q => ?_) fun D C ev s' hC h => cxb_out hfl I2 f2 hC h
  refine ⟨m, hn, fun h'' hs'' => ⟨.ref D, _, I'.turned (t' := s'.toks) (fun b o hb e => (hs''.2 b hb).trans e) fC.1 fC.2.1 fC.2.2.2.1 fC.2.2.2.2.1 fC.2.2.2.2.2, rfl, q D hD⟩⟩
theorem ps_setCX {EE : XK} (hfl : Flies X EE) (k : Nat) (idx : List Nat) {i : Nat} {x : Str} {N : List Str} {elt target iter : Expr} {ifs : List Expr} {pos pos' spos : Pos} {wi : TI} {g : TG} {tt : TT} {te : TE} (hN : X.N.Nodup) (hix : X.N[i]? = some x) (hx : Loc X.env.scope x)
    (S : BlkScope X scope N k idx) (hc : X.calm = true) (hi : PI X target iter wi)
    (hg : ∀ fp C s H, PG (cxB X scope N fp EE C s H) target g) (ho : Own k g) (ht : ∀ fp C s H, PTs (cxB X scope N fp EE C s H) ifs tt) (he : ∀ fp C s H, PE (cxB X scope N fp EE C s H) elt te)
    (hsw : swapsWith (.ListComp elt [⟨target, iter, ifs, 0⟩] scope pos) (some (.Name x pos')) spos.line X.env = pure true := by rfl)
    (hs : ∀ x, foldedSetIterable iter X.env x = pure x := by intro _; rfl) (hfn : X.fn x = true ∨ X.env.scope.names.lookup x = some .local := by first | exact .inl rfl | exact .inr rfl | assumption) :
    PS X (.Assign [.Name x pos'] (.ListComp elt [⟨target, iter, ifs, 0⟩] scope pos) spos) (tAsg (tComp wi k idx g tt te) (gName i)) := by
  intro pins s σ H D I h
  rw [exec_Assign_Name_used _ _ _ _ hsw]
  refine wpAny_bind (wpAny_standAt (wpAny_bind ?_))
  show wpAny _ X.A (do let _ ← comprehension (.ListComp elt [⟨target, iter, ifs, 0⟩] scope pos) scope X.env _ (newList []) false (eval iter X.env) (some (assign (.Name x pos') X.env))) _ _ s
  refine wpAny_bind (wpAny_mono (wpAny_comprehension_free (use := some (assign (.Name x pos') X.env)) (Q := fun _ s' => SP X pins D .next s') rfl hs (closure_eq (S.cells I)) S.kind S.names
    (thn (hi pins s σ H _ I h) fun v s1 h1 => thn h1 fun itv s2 h2 => ?_)) (fun _ s' hq => wpAny_pure (wpAny_pure hq)) fun _ _ e => e)
  obtain ⟨it, fp, tn, J, H2, e, I2, T, st2, f2, w2⟩ := h2
  subst e
  refine comp_blockX (EE := EE) (RR := fun acc C => compPost (model X.prog X.w) X.A X.xe (some (assign (.Name x pos') X.env)) (fun _ s' => SP X pins D .next s') acc C) S hc I2 T st2 f2 (fun C => hg fp C s2 H2) ho (fun C => ht fp C s2 H2) (fun C => he fp C s2 H2) w2 (fun D' C s' m ys H' hn I' fC hD q => ?_) fun D C ev s' hC h => cxb_out hfl I2 f2 hC h
  show wpAny _ X.A (assign (.Name x pos') X.env (.ref D')) _ _ s'
  refine wpAny_assign_Name (store_ok2 I' hN hix hx (show RelV (.ref D') (.ref D') from rfl) (fun s3 I3 ⟨a, sb, ha⟩ => ?_) hfn)
  have hCa : C ≠ a := by
    rcases ha with z | z
    · rw [z]; exact fC.2.1
    · exact (fC.2.2.2.2.1 x a z).symm
  refine ⟨m, hn.sameBut sb hCa, fun h'' hs'' => ⟨_, _, I3.turned (t' := s3.toks) (fun b o hb e => (hs''.2 b hb).trans e) fC.1 fC.2.1 fC.2.2.2.1 fC.2.2.2.2.1 fC.2.2.2.2.2, q D' hD⟩⟩
end
end L2
namespace L2.Q
open PySem PySem.Spec PyProof.Rows L2
section
variable {X : Cx} {x : Str} {pos spos : Pos} {elt target iter : Expr} {ifs : List Expr} {scope : Scope} {wi : TI} {g : TG} {tt : TT} {te : TE}
theorem pe_compX {EE : XK} (hfl : Flies X EE) {k : Nat} {idx : List Nat} {N : List Str} (S : BlkScope X scope N k idx) (hc : X.calm = true) (hi : QI X target iter wi)
    (hg : ∀ fp C s H, QG (cxB X scope N fp EE C s H) target g) (ho : Own k g) (ht : ∀ fp C s H, QTs (cxB X scope N fp EE C s H) ifs tt) (he : ∀ fp C s H, QE (cxB X scope N fp EE C s H) elt te)
    (hs : ∀ x, foldedSetIterable iter X.env x = pure x := by intro _; rfl) : QE X (.ListComp elt [⟨target, iter, ifs, 0⟩] scope pos) (tComp wi k idx g tt te) :=
  ⟨L2.pe_compX hfl k idx S hc hi.h (fun fp C s H => (hg fp C s H).h) ho (fun fp C s H => (ht fp C s H).h) (fun fp C s H => (he fp C s H).h) hs⟩
theorem ps_setCX {EE : XK} (hfl : Flies X EE) {k : Nat} {idx : List Nat} {i : Nat} {N : List Str} {pos' : Pos} (hN : X.N.Nodup) (hix : X.N[i]? = some x) (hx : Loc X.env.scope x)
    (S : BlkScope X scope N k idx) (hc : X.calm = true) (hi : QI X target iter wi)
    (hg : ∀ fp C s H, QG (cxB X scope N fp EE C s H) target g) (ho : Own k g) (ht : ∀ fp C s H, QTs (cxB X scope N fp EE C s H) ifs tt) (he : ∀ fp C s H, QE (cxB X scope N fp EE C s H) elt te)
    (hsw : swapsWith (.ListComp elt [⟨target, iter, ifs, 0⟩] scope pos) (some (.Name x pos')) spos.line X.env = pure true := by rfl)
    (hs : ∀ x, foldedSetIterable iter X.env x = pure x := by intro _; rfl) (hfn : X.fn x = true ∨ X.env.scope.names.lookup x = some .local := by first | exact .inl rfl | exact .inr rfl | assumption) :
    QS X (.Assign [.Name x pos'] (.ListComp elt [⟨target, iter, ifs, 0⟩] scope pos) spos) (tAsg (tComp wi k idx g tt te) (gName i)) :=
  ⟨L2.ps_setCX hfl k idx hN hix hx S hc hi.h (fun fp C s H => (hg fp C s H).h) ho (fun fp C s H => (ht fp C s H).h) (fun fp C s H => (he fp C s H).h) hsw hs hfn⟩
end
end L2.Q
namespace L2
open PySem PySem.Spec PyProof.Rows
section
variable {X : Cx}
def rNotInS : R2 := fun x y H Q => ∃ i j : Str, x = .str i ∧ y = .str j ∧ Q (.bl (!(!(Builtin.Str.occurrences j i 0 j.length 1).isEmpty))) H
theorem op_notInS : OpR X (compareOp .NotIn) rNotInS := op_notIn_str
def rRepS : R2 := fun x y H Q => ∃ (z : Str) (n : Nat), x = .str z ∧ y = .int (n : Int) ∧ 2 ≤ n ∧ 1 ≤ z.length ∧ z.length * n ≤ sizeLine ∧ Q (.str ⟨(List.replicate n z.cps).foldl (· ++ ·) #[]⟩) H
theorem op_repS : OpR X (binaryOp .Mult) rRepS := by
  intro pins s σ H x y v u Q I rx ry h
  obtain ⟨z, n, rfl, rfl, h2, h1, hz, q⟩ := h
  obtain ⟨t, rfl⟩ := (show ∃ t, v = Value.str z t from rx)
  obtain ⟨tn, rfl⟩ := (show ∃ t, u = Value.int (n : Int) t from ry)
  have hs : (sizeLine : Nat) < 2 ^ 62 := by decide
  have hn : n ≤ sizeLine := Nat.le_trans (Nat.le_mul_of_pos_left n h1) hz
  have tl : Builtin.Str.tooLong (z.length * n) = false := by unfold Builtin.Str.tooLong; simp; exact hz
  refine P.mul_str (by simp; omega) (fun _ _ => ?_) (fun _ _ => ?_) ?_
  · have hzn : z.length * n < 2 ^ 62 := by omega
    have : (z.length : Int) ≤ (2 ^ 63 - 1) / (n : Int) := by
      rw [Int.le_ediv_iff_mul_le (by omega)]
      have : ((z.length * n : Nat) : Int) < ((2 ^ 62 : Nat) : Int) := Int.ofNat_lt.mpr hzn
      rw [Int.natCast_mul] at this
      have e : ((2 ^ 62 : Nat) : Int) = 4611686018427387904 := by decide
      omega
    omega
  · rw [Int.toNat_natCast]
    exact tl
  · rw [if_neg (by omega), if_neg (by simp; omega), Int.toNat_natCast]
    exact ⟨fits_reps tl, ⟨.str _, H, I.tok _, ⟨_, rfl⟩, q⟩⟩
def eN (u : Value) : Bool := match u with
  | .none => true
  | _ => false
def vN (v : V) : Bool := match v with
  | .non => true
  | _ => false
theorem mem_non {pins : List (Addr × Obj)} {σ : St} {H : Hp} {s : Shared} {A : Around} (I : Inv X pins σ H s) (hu : A.units < cLine) : ∀ {xs : List V} {us : List Value}, Vals xs us → (∀ v ∈ xs, v = .non ∨ ∃ a ys, v = .ref a ∧ H a = some (.tup ys)) → (∀ u ∈ us, SeqAt.EqAt A s u .none (eN u)) ∧ us.any eN = xs.any vN
  | _, _, .nil, _ => ⟨fun u hu => by (cases hu), rfl⟩
  | x :: xs, u :: us, .cons r t, h => by
    obtain ⟨h1, h2⟩ := mem_non I hu t fun v hv => h v (.tail _ hv)
    have key : SeqAt.EqAt A s u .none (eN u) ∧ eN u = vN x := by
      rcases h x (.head _) with rfl | ⟨a, ys, rfl, ha⟩
      · cases r
        exact ⟨SeqAt.EqAt.same _, rfl⟩
      · obtain rfl : u = Value.ref a := r
        obtain ⟨its, r2, pl, hz⟩ := I.tuple (SqT.of ha)
        exact ⟨SeqAt.EqAt.tuple_none pl hu, rfl⟩
    refine ⟨fun u' hu' => ?_, by rw [List.any_cons, List.any_cons, h2, key.2]⟩
    rcases List.mem_cons.mp hu' with rfl | q
    · exact key.1
    · exact h1 u' q
def rInNon (K : PySem.W.Frag) : R2 := fun x y H Q => ∃ (p : Addr) (xs : List V), x = .non ∧ y = .ref p ∧ SqL K H p xs ∧ (∀ v ∈ xs, v = .non ∨ ∃ a ys, v = .ref a ∧ H a = some (.tup ys)) ∧ Q (.bl (xs.any vN)) H
theorem op_inNon (hu : X.A.units + 9 < cLine) : OpR X (compareOp .In) (rInNon X.K) := by
  intro pins s σ H x y v u Q I rx ry h
  obtain ⟨p, xs, rfl, rfl, hS, hv, q⟩ := h
  cases ry
  cases rx
  obtain ⟨its, r, pl, hz⟩ := I.list hS
  obtain ⟨h1, h2⟩ := mem_non (A := X.A.in1) I (by show X.A.units + 1 < cLine; omega) r hv
  refine SeqAt.in_listAt eN pl.isList (fun w hw => h1 w (by simpa using hw)) ⟨.bl _, H, I, rfl, ?_⟩
  rw [show its.toArray.any eN = its.any eN by simp, h2]
  exact q
end
end L2
namespace L2
open PySem PySem.Spec PyProof.Rows
theorem rf_str {σ : St} {H : Hp} {nx : St → Hp → Prop} {rt : VK} {g : TG} {tb : TS} {z : Str} (Pv : Nat → St → Hp → Prop) (h0 : Pv 0 σ H)
    (hs : ∀ i c σ H, z.cps[i]? = some c → Pv i σ H → g (.str ⟨#[c]⟩) σ H fun σ2 H2 => tb ⟨Pv (i + 1), rt, nx, Pv (i + 1)⟩ σ2 H2) (hd : ∀ σ H, Pv z.cps.size σ H → nx σ H) :
    ∃ W : Nat → Nat → St → Hp → Prop, (∃ m, W 0 m σ H) ∧ ∀ i m σ H, W i m σ H →
      ((ItS z).stop i H ∧ nx σ H) ∨ ((ItS z).go i H ∧ ∃ N : St → Hp → Prop, (∀ σ' H', N σ' H' → ∃ m', m' < m ∧ W (i + 1) m' σ' H') ∧ ∀ x H', (ItS z).yld i H x H' → g x σ H' fun σ2 H2 => tb ⟨N, rt, nx, N⟩ σ2 H2) := by
  refine ⟨fun i m σ H => m = z.cps.size - i ∧ i ≤ z.cps.size ∧ Pv i σ H, ⟨z.cps.size, by simp, Nat.zero_le _, h0⟩, ?_⟩
  rintro i m σ H ⟨rfl, hi, p⟩
  by_cases hlt : i < z.cps.size
  · refine .inr ⟨hlt, Pv (i + 1), fun σ' H' p' => ⟨z.cps.size - (i + 1), by omega, rfl, hlt, p'⟩, fun x H' y => ?_⟩
    obtain ⟨e, c, hc, e2⟩ := y
    subst e e2
    exact hs i c σ _ hc p
  · have e : i = z.cps.size := by omega
    subst e
    exact .inl ⟨Nat.le_refl _, hd σ H p⟩
end L2
local macro_rules | `(tactic| walk_at "ne") => `(tactic| first
  | assumption
  | (refine Ne.symm ?_; assumption)
  | exact L2.ne_none (by assumption) (by walk_at "hp")
  | exact Ne.symm (L2.ne_none (by assumption) (by walk_at "hp")))
local macro_rules | `(tactic| walk_at "hp") => `(tactic| first
  | assumption
  | exact L2.upd_same
  | (refine Eq.trans (L2.upd_ne (by walk_at "ne")) ?_; walk_at "hp")
  | (refine L2.Same.at (by assumption) ?_; walk_at "hp")
  | (refine L2.Keep.at (by assumption) ?_ (by walk_at "ne"); walk_at "hp"))
local macro_rules | `(tactic| walk_at "sq") => `(tactic| first
  | assumption
  | exact L2.SqL.of (by walk_at "hp")
  | exact L2.SqT.of (by walk_at "hp")
  | exact L2.Same.seq (by assumption) (by walk_at "sq"))
local macro_rules | `(tactic| walk_at "cnd") => `(tactic| first
  | omega
  | decide
  | (simp only [List.length_map]; omega)
  | (refine ⟨?_, ?_⟩ <;> first | omega | decide)
  | (refine Or.inl ⟨?_, ?_⟩ <;> first | omega | decide)
  | (refine Or.inr ⟨?_, ?_⟩ <;> first | omega | decide)
  | (refine ⟨?_, ?_, ?_⟩ <;> first | omega | decide))
local macro_rules | `(tactic| walk_at "sz") => `(tactic| (refine L2.sz_le ?_; first | decide | (simp only [List.length_cons, List.length_nil, List.length_append]; omega) | omega))
local macro_rules | `(tactic| walk_at "rd") => `(tactic| (with_reducible first
  | refine L2.rd_next ?_
  | refine L2.rd_par ?_
  | refine L2.rd_asg ?_
  | refine L2.rd_drop ?_
  | refine L2.rd_ret ?_
  | refine L2.rd_retN ?_
  | refine L2.rd_break ?_
  | refine L2.rd_cont ?_
  | refine L2.rd_ifS ?_
  | refine L2.rd_augS ?_
  | refine L2.rd_for ?_
  | refine L2.rd_gnil ?_
  | refine L2.rd_gcons ?_
  | refine L2.rd_gsub ?_
  | refine L2.rd_iStr ?_
  | refine L2.rd_ipI ?_
  | refine L2.rd_c ?_
  | refine L2.rd_op ?_
  | refine L2.rd_un ?_
  | refine L2.rd_rI0 ?_
  | refine L2.rd_rU ?_
  | refine L2.rd_addI ?_
  | refine L2.rd_sl ?_
  | refine L2.rd_nopart ?_
  | refine L2.rd_part ?_
  | refine L2.rd_partN ?_
  | refine L2.rd_pnN ?_
  | refine L2.rd_pnI ?_
  | refine L2.rd_andV ?_
  | refine L2.rd_orV ?_
  | refine L2.rd_notV ?_
  | refine L2.rd_ifE ?_
  | refine L2.rd_chain ?_
  | refine L2.rd_test ?_
  | refine L2.rd_tB ?_
  | refine L2.rd_and ?_
  | refine L2.rd_or ?_
  | refine L2.rd_not ?_
  | refine L2.rd_yes ?_
  | refine L2.rd_bl ?_
  | refine L2.rd_int1 ?_
  | refine L2.rd_l1 ?_
  | refine L2.rd_l2 ?_
  | refine L2.rd_bl2 ?_
  | refine L2.rd_nil ?_
  | refine L2.rd_cons ?_
  | refine L2.rd_tup ?_
  | refine L2.rd_lst ?_
  | refine L2.rd_call ?_
  | refine L2.rd_cb ?_
  | refine L2.rd_comp ?_
  | refine L2.rd_iListQ ?_
  | refine L2.rd_iTupQ ?_
  | refine L2.rd_iRng1 ?_
  | refine L2.rd_iRng2 ?_
  | refine L2.iteT ?_
  | refine L2.iteF ?_
  | refine L2.iteNT ?_
  | refine L2.iteNF ?_
  | refine L2.rd_bm ?_
  | refine L2.rd_iEnum ?_
  | refine L2.rd_iZip2 ?_
  | refine L2.rd_rng ?_
  | refine L2.rd_mkE0 ?_
  | refine L2.rd_raise ?_
  | refine L2.rd_setE ?_
  | refine L2.rd_try ?_
  | refine L2.rd_callX ?_))
local macro_rules | `(tactic| walk_at "st") => `(tactic| first
  | walk_at "rd"
  | ((with_reducible refine L2.rd_nx (b := ?b) ?t ?_); (case t => assumption))
  | ((with_reducible refine L2.rd_var (v := ?v) ?e ?_); (case e => rfl))
  | ((with_reducible refine L2.rd_gname (σ' := ?s) ?e ?_); (case e => first | (simp only [List.set_cons_zero, List.set_cons_succ]; rfl) | rfl))
  | ((with_reducible refine L2.rd_rI ?c ?_); (case c => walk_at "cnd"))
  | ((with_reducible refine L2.rd_mulI ?c ?_); (case c => walk_at "cnd"))
  | ((with_reducible refine L2.rd_ixL (xs := ?xs) (v := ?v) ?a ?b ?_); (case a => walk_at "sq"); (case b => first | rfl | assumption))
  | ((with_reducible refine L2.rd_ixT (xs := ?xs) (v := ?v) ?a ?b ?_); (case a => walk_at "sq"); (case b => first | rfl | assumption))
  | (with_reducible refine L2.rd_abs ?_)
  | (with_reducible refine L2.rd_max ?_)
  | (with_reducible refine L2.rd_min ?_)
  | (with_reducible refine L2.rd_intI ?_)
  | (with_reducible refine L2.rd_intB ?_)
  | ((with_reducible refine L2.rd_lenL (xs := ?xs) ?a ?_); (case a => walk_at "sq"))
  | ((with_reducible refine L2.rd_lenT (xs := ?xs) ?a ?_); (case a => walk_at "sq"))
  | (with_reducible refine L2.rd_eqI ?_)
  | (with_reducible refine L2.rd_neI ?_)
  | ((with_reducible refine L2.rd_eqF ?a ?b ?_); (case a => rfl); (case b => rfl))
  | ((with_reducible refine L2.rd_neF ?a ?b ?_); (case a => rfl); (case b => rfl))
  | ((with_reducible refine L2.rd_is (b := ?b) ?e ?_); (case e => rfl))
  | ((with_reducible refine L2.rd_isNot (b := ?b) ?e ?_); (case e => rfl))
  | ((with_reducible refine L2.rd_size ?c ?_); (case c => walk_at "sz")))
local macro_rules | `(tactic| walk_at "go") => `(tactic| first
  | (with_reducible refine L2.rd_seqH (fun _ _ => ?_))
  | walk_at "st")
local macro_rules | `(tactic| walk_at "gs") => `(tactic| first
  | walk_at "go"
  | ((with_reducible refine L2.iteGF ?e ?_); (case e => rfl))
  | ((with_reducible refine L2.iteGT ?e ?_); (case e => rfl)))
namespace My
open PySem L2
def top (i : Nat) : Stmt := PySem.Challenge.pw_stintwise_k98_lines_of_plans_amiss.main.body.getD i (.Pass ⟨0, 0, 0, 0⟩)
abbrev s__law_open : Stmt := top 19
abbrev s__law_draw : Stmt := top 20
abbrev s__law_far : Stmt := top 21
abbrev s_Wrong_init : Stmt := inClass (top 2) 0
abbrev s_NotNow_init : Stmt := inClass (top 3) 0
abbrev s_TooMany_init : Stmt := inClass (top 4) 0
abbrev s__law_hour_line : Stmt := top 23
abbrev s__law_plan_line : Stmt := top 24
abbrev s__law_any_hour : Stmt := top 25
abbrev s__law_same : Stmt := top 29
abbrev s__law_any_plan : Stmt := top 26
abbrev s_number_of : Stmt := top 14
abbrev s_number_behind : Stmt := top 15
abbrev s_read_hour : Stmt := top 16
abbrev s_read_plan : Stmt := top 17
abbrev s__law_number : Stmt := top 22
abbrev s__law_any_sign : Stmt := top 27
abbrev s__law_spoilt : Stmt := top 28
abbrev s__law_hour_read : Stmt := top 30
abbrev s__law_plan_read : Stmt := top 31
abbrev s__law_told : Stmt := top 32
abbrev s__law_right : Stmt := top 33
abbrev s_law : Stmt := top 34
theorem sc__law_open : FnScope ["_law_script", "_law_place", "_law_cells", "_law_at", "_law_digits"] ["_law_script", "_law_place"] (defScope s__law_open) := ⟨rfl, rfl, rfl, by decide +kernel, rfl, by decide +kernel, by decide +kernel⟩
theorem sc__law_draw : FnScope ["_law_hand", "_law_many", "_law_got", "_law_cell", "_law_number_here"] ["_law_hand", "_law_many"] (defScope s__law_draw) := ⟨rfl, rfl, rfl, by decide +kernel, rfl, by decide +kernel, by decide +kernel⟩
theorem sc__law_far : FnScope ["_law_hand", "_law_bound", "_law_total", "_law_k"] ["_law_hand", "_law_bound"] (defScope s__law_far) := ⟨rfl, rfl, rfl, by decide +kernel, rfl, by decide +kernel, by decide +kernel⟩
theorem sc__law_hour_line : FnScope ["_law_hour", "_law_line", "_law_on", "_law_output"] ["_law_hour"] (defScope s__law_hour_line) := ⟨rfl, rfl, rfl, by decide +kernel, rfl, by decide +kernel, by decide +kernel⟩
theorem sc__law_plan_line : FnScope ["_law_plan"] ["_law_plan"] (defScope s__law_plan_line) := ⟨rfl, rfl, rfl, by decide +kernel, rfl, by decide +kernel, by decide +kernel⟩
theorem sc__law_any_hour : FnScope ["_law_hand", "_law_machines", "_law_ons", "_law_outputs", "_law_k", "_law_on", "_law_output", "_law_level"] ["_law_hand", "_law_machines"] (defScope s__law_any_hour) := ⟨rfl, rfl, rfl, by decide +kernel, rfl, by decide +kernel, by decide +kernel⟩
theorem sc__law_same : FnScope ["_law_one", "_law_due"] ["_law_one", "_law_due"] (defScope s__law_same) := ⟨rfl, rfl, rfl, by decide +kernel, rfl, by decide +kernel, by decide +kernel⟩
theorem sc__law_any_plan : FnScope ["_law_hand", "_law_most", "_law_machines", "_law_hours"] ["_law_hand", "_law_most"] (defScope s__law_any_plan) := ⟨rfl, rfl, rfl, by decide +kernel, rfl, by decide +kernel, by decide +kernel⟩
theorem sc_number_of : FnScope ["word"] ["word"] (defScope s_number_of) := ⟨rfl, rfl, rfl, by decide +kernel, rfl, by decide +kernel, by decide +kernel⟩
theorem sc_number_behind : FnScope ["word", "ahead"] ["word", "ahead"] (defScope s_number_behind) := ⟨rfl, rfl, rfl, by decide +kernel, rfl, by decide +kernel, by decide +kernel⟩
theorem sc_read_hour : FnScope ["part", "words", "level", "ons", "outputs"] ["part"] (defScope s_read_hour) := ⟨rfl, rfl, rfl, by decide +kernel, rfl, by decide +kernel, by decide +kernel⟩
theorem sc_read_plan : FnScope ["line", "plan"] ["line"] (defScope s_read_plan) := ⟨rfl, rfl, rfl, by decide +kernel, rfl, by decide +kernel, by decide +kernel⟩
theorem sc__law_number : FnScope ["_law_word", "_law_sign"] ["_law_word"] (defScope s__law_number) := ⟨rfl, rfl, rfl, by decide +kernel, rfl, by decide +kernel, by decide +kernel⟩
theorem sc__law_any_sign : FnScope ["_law_hand", "_law_signs"] ["_law_hand"] (defScope s__law_any_sign) := ⟨rfl, rfl, rfl, by decide +kernel, rfl, by decide +kernel, by decide +kernel⟩
theorem sc__law_spoilt : FnScope ["_law_hand", "_law_line", "_law_way", "_law_at", "_law_sign", "_law_words", "_law_k"] ["_law_hand", "_law_line"] (defScope s__law_spoilt) := ⟨rfl, rfl, rfl, by decide +kernel, rfl, by decide +kernel, by decide +kernel⟩
theorem sc__law_hour_read : FnScope ["_law_part", "_law_words", "_law_level", "_law_ons", "_law_outputs", "_law_word", "_law_output"] ["_law_part"] (defScope s__law_hour_read) := ⟨rfl, rfl, rfl, by decide +kernel, rfl, by decide +kernel, by decide +kernel⟩
theorem sc__law_plan_read : FnScope ["_law_line", "_law_plan", "_law_sizes"] ["_law_line"] (defScope s__law_plan_read) := ⟨rfl, rfl, rfl, by decide +kernel, rfl, by decide +kernel, by decide +kernel⟩
theorem sc__law_told : FnScope ["_law_line", "e"] ["_law_line"] (defScope s__law_told) := ⟨rfl, rfl, rfl, by decide +kernel, rfl, by decide +kernel, by decide +kernel⟩
theorem sc__law_right : FnScope ["_law_line", "_law_due", "_law_told_here"] ["_law_line"] (defScope s__law_right) := ⟨rfl, rfl, rfl, by decide +kernel, rfl, by decide +kernel, by decide +kernel⟩
theorem sc_law : FnScope ["_law_script", "_law_lines", "_law_line", "_law_place", "_law_hand", "_law_k"] ["_law_script"] (defScope s_law) := ⟨rfl, rfl, rfl, by decide +kernel, rfl, by decide +kernel, by decide +kernel⟩
theorem ar1 : ∀ us : List Value, us.length = 1 → ∃ a0, us = [a0]
  | [a0], _ => ⟨a0, rfl⟩
theorem ar2 : ∀ us : List Value, us.length = 2 → ∃ a0 a1, us = [a0, a1]
  | [a0, a1], _ => ⟨a0, a1, rfl⟩
set_option genInjectivity false in
set_option genSizeOf false in
structure Adr where
  f__law_open : Addr
  d__law_open : FuncData
  f__law_draw : Addr
  d__law_draw : FuncData
  f__law_far : Addr
  d__law_far : FuncData
  f_Wrong_init : Addr
  d_Wrong_init : FuncData
  f_NotNow_init : Addr
  d_NotNow_init : FuncData
  f_TooMany_init : Addr
  d_TooMany_init : FuncData
  f__law_hour_line : Addr
  d__law_hour_line : FuncData
  f__law_plan_line : Addr
  d__law_plan_line : FuncData
  f__law_any_hour : Addr
  d__law_any_hour : FuncData
  f__law_same : Addr
  d__law_same : FuncData
  f__law_any_plan : Addr
  d__law_any_plan : FuncData
  f_number_of : Addr
  d_number_of : FuncData
  f_number_behind : Addr
  d_number_behind : FuncData
  f_read_hour : Addr
  d_read_hour : FuncData
  f_read_plan : Addr
  d_read_plan : FuncData
  f__law_number : Addr
  d__law_number : FuncData
  f__law_any_sign : Addr
  d__law_any_sign : FuncData
  f__law_spoilt : Addr
  d__law_spoilt : FuncData
  f__law_hour_read : Addr
  d__law_hour_read : FuncData
  f__law_plan_read : Addr
  d__law_plan_read : FuncData
  f__law_told : Addr
  d__law_told : FuncData
  f__law_right : Addr
  d__law_right : FuncData
  f_law : Addr
  d_law : FuncData
  c_NoDeed : Addr
  c_NoHour : Addr
  c_NoText : Addr
  c_NotNow : Addr
  c_StintError : Addr
  c_TooMany : Addr
  c_Wrong : Addr
structure Txt (K : PySem.W.Frag) (mg : Str → Option Value) (a : Adr) : Prop where
  F__law_open : Fun K "_law_open" "_law_open" s__law_open a.f__law_open a.d__law_open
  b__law_open : Binds K a.d__law_open ["_law_script", "_law_place"] []
  g__law_open : mg "_law_open" = some (.ref a.f__law_open)
  F__law_draw : Fun K "_law_draw" "_law_draw" s__law_draw a.f__law_draw a.d__law_draw
  b__law_draw : Binds K a.d__law_draw ["_law_hand", "_law_many"] []
  g__law_draw : mg "_law_draw" = some (.ref a.f__law_draw)
  F__law_far : Fun K "_law_far" "_law_far" s__law_far a.f__law_far a.d__law_far
  b__law_far : Binds K a.d__law_far ["_law_hand", "_law_bound"] []
  g__law_far : mg "_law_far" = some (.ref a.f__law_far)
  F_Wrong_init : Fun K "__init__" "Wrong.__init__" s_Wrong_init a.f_Wrong_init a.d_Wrong_init
  b_Wrong_init : Binds K a.d_Wrong_init ["self", "at"] []
  F_NotNow_init : Fun K "__init__" "NotNow.__init__" s_NotNow_init a.f_NotNow_init a.d_NotNow_init
  b_NotNow_init : Binds K a.d_NotNow_init ["self", "at"] []
  F_TooMany_init : Fun K "__init__" "TooMany.__init__" s_TooMany_init a.f_TooMany_init a.d_TooMany_init
  b_TooMany_init : Binds K a.d_TooMany_init ["self", "limit"] []
  F__law_hour_line : Fun K "_law_hour_line" "_law_hour_line" s__law_hour_line a.f__law_hour_line a.d__law_hour_line
  b__law_hour_line : Binds K a.d__law_hour_line ["_law_hour"] []
  g__law_hour_line : mg "_law_hour_line" = some (.ref a.f__law_hour_line)
  F__law_plan_line : Fun K "_law_plan_line" "_law_plan_line" s__law_plan_line a.f__law_plan_line a.d__law_plan_line
  b__law_plan_line : Binds K a.d__law_plan_line ["_law_plan"] []
  g__law_plan_line : mg "_law_plan_line" = some (.ref a.f__law_plan_line)
  F__law_any_hour : Fun K "_law_any_hour" "_law_any_hour" s__law_any_hour a.f__law_any_hour a.d__law_any_hour
  b__law_any_hour : Binds K a.d__law_any_hour ["_law_hand", "_law_machines"] []
  g__law_any_hour : mg "_law_any_hour" = some (.ref a.f__law_any_hour)
  F__law_same : Fun K "_law_same" "_law_same" s__law_same a.f__law_same a.d__law_same
  b__law_same : Binds K a.d__law_same ["_law_one", "_law_due"] []
  g__law_same : mg "_law_same" = some (.ref a.f__law_same)
  F__law_any_plan : Fun K "_law_any_plan" "_law_any_plan" s__law_any_plan a.f__law_any_plan a.d__law_any_plan
  b__law_any_plan : Binds K a.d__law_any_plan ["_law_hand", "_law_most"] []
  g__law_any_plan : mg "_law_any_plan" = some (.ref a.f__law_any_plan)
  F_number_of : Fun K "number_of" "number_of" s_number_of a.f_number_of a.d_number_of
  b_number_of : Binds K a.d_number_of ["word"] []
  g_number_of : mg "number_of" = some (.ref a.f_number_of)
  F_number_behind : Fun K "number_behind" "number_behind" s_number_behind a.f_number_behind a.d_number_behind
  b_number_behind : Binds K a.d_number_behind ["word", "ahead"] []
  g_number_behind : mg "number_behind" = some (.ref a.f_number_behind)
  F_read_hour : Fun K "read_hour" "read_hour" s_read_hour a.f_read_hour a.d_read_hour
  b_read_hour : Binds K a.d_read_hour ["part"] []
  g_read_hour : mg "read_hour" = some (.ref a.f_read_hour)
  F_read_plan : Fun K "read_plan" "read_plan" s_read_plan a.f_read_plan a.d_read_plan
  b_read_plan : Binds K a.d_read_plan ["line"] []
  g_read_plan : mg "read_plan" = some (.ref a.f_read_plan)
  F__law_number : Fun K "_law_number" "_law_number" s__law_number a.f__law_number a.d__law_number
  b__law_number : Binds K a.d__law_number ["_law_word"] []
  g__law_number : mg "_law_number" = some (.ref a.f__law_number)
  F__law_any_sign : Fun K "_law_any_sign" "_law_any_sign" s__law_any_sign a.f__law_any_sign a.d__law_any_sign
  b__law_any_sign : Binds K a.d__law_any_sign ["_law_hand"] []
  g__law_any_sign : mg "_law_any_sign" = some (.ref a.f__law_any_sign)
  F__law_spoilt : Fun K "_law_spoilt" "_law_spoilt" s__law_spoilt a.f__law_spoilt a.d__law_spoilt
  b__law_spoilt : Binds K a.d__law_spoilt ["_law_hand", "_law_line"] []
  g__law_spoilt : mg "_law_spoilt" = some (.ref a.f__law_spoilt)
  F__law_hour_read : Fun K "_law_hour_read" "_law_hour_read" s__law_hour_read a.f__law_hour_read a.d__law_hour_read
  b__law_hour_read : Binds K a.d__law_hour_read ["_law_part"] []
  g__law_hour_read : mg "_law_hour_read" = some (.ref a.f__law_hour_read)
  F__law_plan_read : Fun K "_law_plan_read" "_law_plan_read" s__law_plan_read a.f__law_plan_read a.d__law_plan_read
  b__law_plan_read : Binds K a.d__law_plan_read ["_law_line"] []
  g__law_plan_read : mg "_law_plan_read" = some (.ref a.f__law_plan_read)
  F__law_told : Fun K "_law_told" "_law_told" s__law_told a.f__law_told a.d__law_told
  b__law_told : Binds K a.d__law_told ["_law_line"] []
  g__law_told : mg "_law_told" = some (.ref a.f__law_told)
  F__law_right : Fun K "_law_right" "_law_right" s__law_right a.f__law_right a.d__law_right
  b__law_right : Binds K a.d__law_right ["_law_line"] []
  g__law_right : mg "_law_right" = some (.ref a.f__law_right)
  F_law : Fun K "law" "law" s_law a.f_law a.d_law
  b_law : Binds K a.d_law ["_law_script"] []
  g_law : mg "law" = some (.ref a.f_law)
  g_NoDeed : mg "NoDeed" = some (.ref a.c_NoDeed)
  g_NoHour : mg "NoHour" = some (.ref a.c_NoHour)
  g_NoText : mg "NoText" = some (.ref a.c_NoText)
  Z_NoText : ErrK K a.c_NoText
  ex_NoText : PySem.W.excIn K a.c_NoText veMro "ValueError.__new__" = true
  x_NoText_StintError : PySem.W.exmOne K (.ref a.c_NoText) (.ref a.c_StintError) = some true
  k_NoText_ValueError : PySem.W.kitOne K (.ref a.c_NoText) (.type "ValueError") = some true
  k_NoText_NoText : PySem.W.kitOne K (.ref a.c_NoText) (.ref a.c_NoText) = some true
  k_NoText_NoDeed : PySem.W.kitOne K (.ref a.c_NoText) (.ref a.c_NoDeed) = some false
  k_NoText_NoHour : PySem.W.kitOne K (.ref a.c_NoText) (.ref a.c_NoHour) = some false
  k_NoText_NotNow : PySem.W.kitOne K (.ref a.c_NoText) (.ref a.c_NotNow) = some false
  k_NoText_TooMany : PySem.W.kitOne K (.ref a.c_NoText) (.ref a.c_TooMany) = some false
  k_NoText_Wrong : PySem.W.kitOne K (.ref a.c_NoText) (.ref a.c_Wrong) = some false
  g_NotNow : mg "NotNow" = some (.ref a.c_NotNow)
  g_StintError : mg "StintError" = some (.ref a.c_StintError)
  g_TooMany : mg "TooMany" = some (.ref a.c_TooMany)
  g_Wrong : mg "Wrong" = some (.ref a.c_Wrong)
  z_ValueError : mg "ValueError" = none
  z_abs : mg "abs" = none
  z_all : mg "all" = none
  z_any : mg "any" = none
  z_bool : mg "bool" = none
  z_int : mg "int" = none
  z_isinstance : mg "isinstance" = none
  z_len : mg "len" = none
  z_list : mg "list" = none
  z_max : mg "max" = none
  z_min : mg "min" = none
  z_range : mg "range" = none
  z_str : mg "str" = none
  z_tuple : mg "tuple" = none
  z_zip : mg "zip" = none
  v_FIGURES : ∃ t, mg "FIGURES" = some (.str (Str.ofString "0123456789") t)
  v_MOST_FIGURES : ∃ t, mg "MOST_FIGURES" = some (.int 20 t)
  v_RESTS : ∃ t, mg "RESTS" = some (.str (Str.ofString "-") t)
  v_LEVEL_AHEAD : ∃ t, mg "LEVEL_AHEAD" = some (.str (Str.ofString "@") t)
  v_NOTHING : ∃ t, mg "NOTHING" = some (.str (Str.ofString "none") t)
end My
namespace My
open PySem L2
inductive Th (H : Hp) : V → String → Prop where
  | non : Th H .non "NoneType"
  | bl (b : Bool) : Th H (.bl b) "bool"
  | int (i : Int) : Th H (.int i) "int"
  | str (x : Str) : Th H (.str x) "str"
  | lst {p : Addr} {xs : List V} (e : H p = some (.lst xs)) : Th H (.ref p) "list"
  | tup {p : Addr} {xs : List V} (e : H p = some (.tup xs)) : Th H (.ref p) "tuple"
  | dK {p : Addr} {kvs : List (Key × V)} (e : H p = some (.dK kvs)) : Th H (.ref p) "dict"
theorem Th.ty {K : PySem.W.Frag} {H : Hp} {v : V} {T : String} (h : Th H v T) : TyOf K H v (.type T) := by
  cases h with
  | non => exact .non
  | bl b => exact .bl b
  | int i => exact .int i
  | str x => exact .str x
  | lst e => exact .lst e
  | tup e => exact .tup e
  | dK e => exact .dK e
theorem Th.keep {H H' : Hp} {p : Addr} {v : V} {T : String} (h : Th H v T) (n : ∀ b, v = .ref b → b ≠ p) (k : Keep p H H') : Th H' v T := by
  cases h with
  | non => exact .non
  | bl b => exact .bl b
  | int i => exact .int i
  | str x => exact .str x
  | lst e => exact .lst (k _ _ e (n _ rfl))
  | tup e => exact .tup (k _ _ e (n _ rfl))
  | dK e => exact .dK (k _ _ e (n _ rfl))
theorem isi_int {K : PySem.W.Frag} {H : Hp} {v : V} {T : String} (h : Th H v T) : IsI K H v (.ty "int") (T == "int" || T == "bool") := by
  refine ⟨_, h.ty, .inl ⟨_, rfl, ?_⟩⟩
  cases h <;> rfl
theorem isi_bool {K : PySem.W.Frag} {H : Hp} {v : V} {T : String} (h : Th H v T) : IsI K H v (.ty "bool") (T == "bool") := by
  refine ⟨_, h.ty, .inl ⟨_, rfl, ?_⟩⟩
  cases h <;> rfl
structure HandAt (H : Hp) (p : Addr) : Prop where
  ex : ∃ (d c : Int) (q : Addr) (ms : List Int), H p = some (.lst [.int d, .int c, .ref q]) ∧ H q = some (.lst (ms.map V.int)) ∧ ms ≠ [] ∧ q ≠ p
def SameQ (p : Addr) (H H' : Hp) : Prop := ∀ (d c : Int) (q : Addr), H p = some (.lst [.int d, .int c, .ref q]) → ∃ d' c' : Int, H' p = some (.lst [.int d', .int c', .ref q])
theorem SameQ.trans {p : Addr} {H H1 H2 : Hp} (a : SameQ p H H1) (b : SameQ p H1 H2) : SameQ p H H2 := fun d c q e => by
  obtain ⟨d', c', e'⟩ := a d c q e
  exact b d' c' q e'
theorem SameQ.of {p : Addr} {H H' : Hp} (s : ∀ o, H p = some o → H' p = some o) : SameQ p H H' := fun d c q e => ⟨d, c, s _ e⟩
theorem HandAt.of {p : Addr} {H H' : Hp} (h : HandAt H p) (k : Keep p H H') (s : SameQ p H H') : HandAt H' p := by
  obtain ⟨d, c, q, ms, hp, hq, hne, hqp⟩ := h.ex
  obtain ⟨d', c', e⟩ := s d c q hp
  exact ⟨⟨d', c', q, ms, e, k _ _ hq hqp, hne, hqp⟩⟩
theorem HandAt.same {H H' : Hp} {p : Addr} (h : HandAt H p) (s : Same H H') : HandAt H' p := by
  obtain ⟨d, c, q, ms, hp, hq, hne, hqp⟩ := h.ex
  exact ⟨⟨d, c, q, ms, s _ _ hp, s _ _ hq, hne, hqp⟩⟩
theorem isi_list {K : PySem.W.Frag} {H : Hp} {v : V} {T : String} (h : Th H v T) : IsI K H v (.ty "list") (T == "list") := by
  refine ⟨_, h.ty, .inl ⟨_, rfl, ?_⟩⟩
  cases h <;> rfl
theorem isi_str {K : PySem.W.Frag} {H : Hp} {v : V} {T : String} (h : Th H v T) : IsI K H v (.ty "str") (T == "str") := by
  refine ⟨_, h.ty, .inl ⟨_, rfl, ?_⟩⟩
  cases h <;> rfl
theorem isi_tuple {K : PySem.W.Frag} {H : Hp} {v : V} {T : String} (h : Th H v T) : IsI K H v (.ty "tuple") (T == "tuple") := by
  refine ⟨_, h.ty, .inl ⟨_, rfl, ?_⟩⟩
  cases h <;> rfl
theorem mod_at {ms : List Int} {c : Int} (h : ms ≠ []) : ∃ m, m ∈ ms ∧ atI (ms.map V.int) (c % ((ms.map V.int).length : Int)) = some (.int m) := by
  have hl : 0 < ms.length := List.length_pos_iff.mpr h
  have e1 := Int.emod_nonneg c (b := ((ms.map V.int).length : Int)) (by rw [List.length_map]; omega)
  have e2 := Int.emod_lt_of_pos c (b := ((ms.map V.int).length : Int)) (by rw [List.length_map]; omega)
  obtain ⟨j, hj⟩ : ∃ j : Nat, c % ((ms.map V.int).length : Int) = (j : Int) := ⟨_, (Int.toNat_of_nonneg e1).symm⟩
  rw [hj] at e2 ⊢
  rw [List.length_map] at e2
  have hjl : j < ms.length := by omega
  exact ⟨ms[j], List.getElem_mem hjl, atI_nat (by rw [List.getElem?_map, List.getElem?_eq_getElem hjl]; rfl)⟩
theorem cut_map (ms : List Int) (lo hi : Option Int) : ∃ r : List Int, cutV (ms.map V.int) lo hi = r.map V.int ∧ r.length = (cutV (ms.map V.int) lo hi).length := by
  unfold cutV
  rw [← List.map_drop, ← List.map_take]
  exact ⟨_, rfl, by simp⟩
theorem rot {ms : List Int} {i : Int} (h0 : 0 ≤ i) (h1 : i < ms.length) : ∃ ms' : List Int, cutV (ms.map V.int) (some i) none ++ cutV (ms.map V.int) none (some i) = ms'.map V.int ∧ ms' ≠ [] ∧ ms'.length ≤ ms.length + ms.length := by
  obtain ⟨r1, e1, l1⟩ := cut_map ms (some i) none
  obtain ⟨r2, e2, l2⟩ := cut_map ms none (some i)
  have b1 := cutV_length (ms.map V.int) (some i) none
  have b2 := cutV_length (ms.map V.int) none (some i)
  rw [List.length_map] at b1 b2
  refine ⟨r1 ++ r2, by rw [e1, e2, List.map_append], fun z => ?_, by rw [List.length_append]; omega⟩
  have z1 : r1 = [] := (List.append_eq_nil_iff.mp z).1
  obtain ⟨j, rfl⟩ := Int.eq_ofNat_of_zero_le h0
  have hj : j < ms.length := by omega
  rw [z1, List.length_nil] at l1
  have l3 : (cutV (ms.map V.int) (some (j : Int)) none).length = ms.length - j := by
    unfold cutV
    rw [HT.sIx_nat, HT.sIx_none, List.length_take, List.length_drop, List.length_map, Nat.min_eq_left (Nat.le_of_lt hj)]
    omega
  rw [l3] at l1
  omega
def sp__law_open (K : PySem.W.Frag) : Sp := fun vs H Q _ => ∃ (a : Addr) (ns : List Int) (i : Int), vs = [.ref a, .int i] ∧ SqL K H a (ns.map V.int) ∧ ns.length ≤ 63 ∧ 0 ≤ i ∧
  ∀ p H', Same H H' → H p = none → HandAt H' p → Q (.ref p) H'
set_option maxHeartbeats 40000000 in
theorem ok__law_open {P : Program} {w : World} {K : PySem.W.Frag} {mg : Str → Option Value} {base : Heap} {a : Adr} (tx : Txt K mg a) : FnOk P w K mg base CX0 1 a.f__law_open a.d__law_open ["_law_script", "_law_place"] (sp__law_open K) := by
  refine tx.F__law_open.ok sc__law_open (fun vs H Q E h => ?_) (fun cdv A outer s H vs Q E hr h => ?_)
  · obtain ⟨a, ns, i, rfl, _⟩ := h
    rfl
  · obtain ⟨a, ns, i, rfl , hS, hl, h0, k⟩ := h
    have hu := hu9 hr
    refine L2.Q.root (L2.Q.pss_cons (L2.Q.ps_setC (k := 1) (idx := []) (N := ["_law_cell"]) (i := 2) sc__law_open.nd rfl (Or.inl rfl) (blk_sc (sc := defScope s__law_open) (NX := ["_law_script", "_law_place", "_law_cells", "_law_at", "_law_digits"]) rfl rfl rfl (by decide +kernel)) rfl (L2.Q.pi_listK (K' := K) (L2.Q.pe_slice (rs := rSlG K) sl_G (L2.Q.pv 0) L2.Q.po_none (L2.Q.po_some L2.Q.pe_int))) (fun _ _ _ _ => (L2.Q.pg_name (i := 0) (show (["_law_cell"] : List Str).Nodup by decide +kernel) rfl (Or.inl rfl))) (own_name (by decide)) (fun _ _ _ _ => L2.Q.pts_nil) (fun _ _ _ _ => (L2.Q.pe_callBN call_absG (by rfl) tx.z_abs bt_abs (L2.Q.pa_c (L2.Q.pv 0) L2.Q.pa_nil))))
      (L2.Q.pss_cons (L2.Q.ps_if (L2.Q.pt_cmpR (r := rEqG K) (op_eqG hu) (L2.Q.pv 2) (L2.Q.pe_lst L2.Q.pa_nil) (nomark _)) (L2.Q.pss_one (L2.Q.ps_set (i := 2) sc__law_open.nd rfl (Or.inl rfl) (L2.Q.lst1 L2.Q.pe_int))) L2.Q.pss_nil)
      (L2.Q.pss_cons (L2.Q.ps_set (i := 3) sc__law_open.nd rfl (Or.inl rfl) (L2.Q.pe_op op_mod (L2.Q.pv 1) (L2.Q.pe_callBN (rc := rLen K) call_lenG (by rfl) tx.z_len bt_len (L2.Q.pa_c (L2.Q.pv 2) L2.Q.pa_nil))))
      (L2.Q.pss_cons (L2.Q.ps_set (i := 4) sc__law_open.nd rfl (Or.inl rfl) L2.Q.pe_int)
      (L2.Q.pss_cons (L2.Q.ps_if (L2.Q.pw_pt (L2.Q.pw_and (L2.Q.pt_cmpR op_ge (L2.Q.pe_ixK (K' := K) (L2.Q.pv 2) (L2.Q.pv 3) (fun _ _ => rfl)) (L2.Q.pe_op op_pow L2.Q.pe_int L2.Q.pe_int) (nomark _)) (L2.Q.pw_and1 (L2.Q.pt_cmpR op_lt (L2.Q.pv 1) (L2.Q.pe_callBN (rc := rLen K) call_lenG (by rfl) tx.z_len bt_len (L2.Q.pa_c (L2.Q.pv 2) L2.Q.pa_nil)) (nomark _))))) (L2.Q.pss_one (L2.Q.ps_set (i := 4) sc__law_open.nd rfl (Or.inl rfl) (L2.Q.pe_ixK (K' := K) (L2.Q.pv 2) (L2.Q.pv 3) (fun _ _ => rfl)))) L2.Q.pss_nil)
      (L2.Q.pss_one (L2.Q.ps_ret (L2.Q.lst3 (L2.Q.pv 4) (L2.Q.pe_op op_addG L2.Q.pe_int (L2.Q.pe_op op_mulG L2.Q.pe_int (L2.Q.pv 1))) (L2.Q.pe_op op_addG (L2.Q.pe_slice (rs := rSlG K) sl_G (L2.Q.pv 2) (L2.Q.po_some (L2.Q.pv 3)) L2.Q.po_none) (L2.Q.pe_slice (rs := rSlG K) sl_G (L2.Q.pv 2) L2.Q.po_none (L2.Q.po_some (L2.Q.pv 3)))))))))))) ?_
    refine rd_start (σ := [some (.ref a), some (.int i), none, none, none]) rfl ?_
    refine rd_seq ?_
    repeat walk_at "go"
    refine rd_slL hS ?_
    intro p1 n1
    repeat walk_at "go"
    rw [show cutV (ns.map V.int) none (some 63) = ns.map V.int from cut_head (n := 63) (by rw [List.length_map]; exact hl)]
    refine rd_li (SqL.of upd_same) ?_
    refine comp_pure (fun v => match v with | .int i => .int (if i < 0 then -i else i) | v => v) (SqL.of upd_same) (sz_le (by rw [List.length_map]; omega)) (fun x N N' hx hN => ?_) ?_
    · obtain ⟨y, hy, rfl⟩ := List.mem_map.mp hx
      repeat walk_at "go"
      exact hN
    · intro p2 n2
      repeat walk_at "st"
      have s2 : Same H (upd (upd H p1 (.lst (ns.map V.int))) p2 (.lst ((ns.map V.int).map fun v => match v with | .int i => .int (if i < 0 then -i else i) | v => v))) := (Same.new n1).trans (Same.new n2)
      rw [List.map_map] at s2 ⊢
      generalize hm : ns.map ((fun v => match v with | V.int i => V.int (if i < 0 then -i else i) | v => v) ∘ V.int) = xs at s2 ⊢
      obtain ⟨ms, rfl⟩ : ∃ ms : List Int, xs = ms.map V.int := ⟨ns.map fun i => if i < 0 then -i else i, by rw [← hm, List.map_map]; rfl⟩
      have lm : ms.length ≤ 63 := by
        have := congrArg List.length hm
        simp only [List.length_map] at this
        omega
      refine rd_seqJ (fun σ' H' => ∃ (c : Addr) (ms : List Int), σ' = [some (.ref a), some (.int i), some (.ref c), none, none] ∧ Same H H' ∧ H' c = some (.lst (ms.map V.int)) ∧ ms ≠ [] ∧ ms.length ≤ 63) (fun N hN => ?_) ?_
      · repeat walk_at "go"
        intro p3 n3
        repeat walk_at "go"
        refine ⟨_, eqN_nil (SqL.of (by walk_at "hp")) (SqL.of upd_same), ?_⟩
        repeat walk_at "go"
        refine rd_bool (fun h => ?_) (fun h => ?_)
        · repeat walk_at "go"
          intro p4 n4
          repeat walk_at "go"
          exact hN _ _ ⟨p4, [0], rfl, (s2.trans (Same.new n3)).trans (Same.new n4), upd_same, by simp, by simp⟩
        · repeat walk_at "go"
          refine hN _ _ ⟨p2, ms, rfl, s2.trans (Same.new n3), by walk_at "hp", ?_, lm⟩
          rintro rfl
          simp at h
      · rintro σ' H' ⟨c, ms, rfl, sH, hc, hne, lm⟩
        have hl : 0 < ms.length := List.length_pos_iff.mpr hne
        obtain ⟨m, _, hm⟩ := mod_at (c := i) hne
        have e1 := Int.emod_nonneg i (b := ((ms.map V.int).length : Int)) (by rw [List.length_map]; omega)
        have e2 := Int.emod_lt_of_pos i (b := ((ms.map V.int).length : Int)) (by rw [List.length_map]; omega)
        obtain ⟨ms', em, en, el⟩ := rot (ms := ms) e1 (by rw [List.length_map] at e2 ⊢; exact e2)
        repeat walk_at "go"
        refine rd_dec (fun h => ?_) (fun h => ?_)
        · repeat walk_at "go"
          refine rd_dec (fun h => ?_) (fun h => ?_)
          all_goals
            repeat walk_at "go"
            refine rd_slL (SqL.of hc) ?_
            intro p5 n5
            repeat walk_at "go"
            refine rd_slL (SqL.of (by walk_at "hp")) ?_
            intro p6 n6
            repeat walk_at "go"
            refine rd_addL (by walk_at "hp") (by walk_at "hp") (sz_le (by have := cutV_length (ms.map V.int) (some (i % ((ms.map V.int).length : Int))) none; have := cutV_length (ms.map V.int) none (some (i % ((ms.map V.int).length : Int))); simp only [List.length_map] at *; omega)) ?_
            intro p7 n7
            repeat walk_at "go"
            rw [em]
            repeat walk_at "go"
            intro p8 n8
            repeat walk_at "go"
            have s8 := ((Same.new (o := .lst (cutV (ms.map V.int) (some (i % ((ms.map V.int).length : Int))) none)) n5).trans (Same.new (o := .lst (cutV (ms.map V.int) none (some (i % ((ms.map V.int).length : Int))))) n6)).trans (Same.new (o := .lst (ms'.map V.int)) n7)
            refine k _ _ (sH.trans (s8.trans (Same.new n8))) ((sH.trans s8).free n8) ⟨⟨_, _, _, ms', upd_same, by walk_at "hp", en, ?_⟩⟩
            exact ne_none n8 upd_same
        · repeat walk_at "go"
          refine rd_slL (SqL.of hc) ?_
          intro p5 n5
          repeat walk_at "go"
          refine rd_slL (SqL.of (by walk_at "hp")) ?_
          intro p6 n6
          repeat walk_at "go"
          refine rd_addL (by walk_at "hp") (by walk_at "hp") (sz_le (by have := cutV_length (ms.map V.int) (some (i % ((ms.map V.int).length : Int))) none; have := cutV_length (ms.map V.int) none (some (i % ((ms.map V.int).length : Int))); simp only [List.length_map] at *; omega)) ?_
          intro p7 n7
          repeat walk_at "go"
          rw [em]
          repeat walk_at "go"
          intro p8 n8
          repeat walk_at "go"
          have s8 := ((Same.new (o := .lst (cutV (ms.map V.int) (some (i % ((ms.map V.int).length : Int))) none)) n5).trans (Same.new (o := .lst (cutV (ms.map V.int) none (some (i % ((ms.map V.int).length : Int))))) n6)).trans (Same.new (o := .lst (ms'.map V.int)) n7)
          refine k _ _ (sH.trans (s8.trans (Same.new n8))) ((sH.trans s8).free n8) ⟨⟨_, _, _, ms', upd_same, by walk_at "hp", en, ?_⟩⟩
          exact ne_none n8 upd_same
def sp__law_draw (K : PySem.W.Frag) : Sp := fun vs H Q _ => ∃ (p : Addr) (n : Int), vs = [.ref p, .int n] ∧ HandAt H p ∧ 0 < n ∧ n < 1073741824 ∧
  ∀ (r : Int) H', 0 ≤ r → r < n → HandAt H' p → Keep p H H' → SameQ p H H' → Q (.int r) H'
set_option maxHeartbeats 40000000 in
theorem ok__law_draw {P : Program} {w : World} {K : PySem.W.Frag} {mg : Str → Option Value} {base : Heap} {a : Adr} (tx : Txt K mg a) : FnOk P w K mg base CX0 1 a.f__law_draw a.d__law_draw ["_law_hand", "_law_many"] (sp__law_draw K) := by
  refine tx.F__law_draw.ok sc__law_draw (fun vs H Q E h => ?_) (fun cdv A outer s H vs Q E hr h => ?_)
  · obtain ⟨p, n, rfl, _⟩ := h
    rfl
  · obtain ⟨p, n, rfl , hh, h0, h1, k⟩ := h
    have hu := hu9 hr
    refine L2.Q.root (L2.Q.pss_cons (L2.Q.ps_if (L2.Q.pt_cmpR op_gt (L2.Q.pe_ixK (K' := K) (L2.Q.pv 0) L2.Q.pe_int (fun _ _ => rfl)) L2.Q.pe_int (nomark _)) (L2.Q.pss_cons (L2.Q.ps_set (i := 2) sc__law_draw.nd rfl (Or.inl rfl) (L2.Q.pe_op op_mod (L2.Q.pe_ixK (K' := K) (L2.Q.pv 0) L2.Q.pe_int (fun _ _ => rfl)) (L2.Q.pv 1)))
      (L2.Q.pss_cons (L2.Q.ps_asg (L2.Q.pe_op op_fdiv (L2.Q.pe_ixK (K' := K) (L2.Q.pv 0) L2.Q.pe_int (fun _ _ => rfl)) (L2.Q.pv 1)) (L2.Q.pg_sub (L2.Q.pv 0) L2.Q.pe_int set_list))
      (L2.Q.pss_one (L2.Q.ps_ret (L2.Q.pv 2))))) L2.Q.pss_nil)
      (L2.Q.pss_cons (L2.Q.ps_augS (L2.Q.pv 0) L2.Q.pe_int get_ix L2.Q.pe_int ip_add set_list)
      (L2.Q.pss_cons (L2.Q.ps_set (i := 3) sc__law_draw.nd rfl (Or.inl rfl) (L2.Q.pe_op op_mod (L2.Q.pe_ixK (K' := K) (L2.Q.pe_ixK (K' := K) (L2.Q.pv 0) L2.Q.pe_int (fun _ _ => rfl)) (L2.Q.pe_op op_mod (L2.Q.pe_ixK (K' := K) (L2.Q.pv 0) L2.Q.pe_int (fun _ _ => rfl)) (L2.Q.pe_callBN (rc := rLen K) call_lenG (by rfl) tx.z_len bt_len (L2.Q.pa_c (L2.Q.pe_ixK (K' := K) (L2.Q.pv 0) L2.Q.pe_int (fun _ _ => rfl)) L2.Q.pa_nil))) (fun _ _ => rfl)) L2.Q.pe_int))
      (L2.Q.pss_cons (L2.Q.ps_set (i := 4) sc__law_draw.nd rfl (Or.inl rfl) (L2.Q.pe_op op_mod (L2.Q.pe_op op_addG (L2.Q.pe_op op_addG (L2.Q.pe_op op_mulG (L2.Q.pv 3) L2.Q.pe_int) (L2.Q.pe_op op_mulG (L2.Q.pe_ixK (K' := K) (L2.Q.pv 0) L2.Q.pe_int (fun _ _ => rfl)) L2.Q.pe_int)) L2.Q.pe_int) L2.Q.pe_int))
      (L2.Q.pss_cons (L2.Q.ps_set (i := 4) sc__law_draw.nd rfl (Or.inl rfl) (L2.Q.pe_op op_mod (L2.Q.pe_op op_addG (L2.Q.pe_op op_mulG (L2.Q.pv 4) (L2.Q.pv 4)) (L2.Q.pe_ixK (K' := K) (L2.Q.pv 0) L2.Q.pe_int (fun _ _ => rfl))) L2.Q.pe_int))
      (L2.Q.pss_cons (L2.Q.ps_set (i := 4) sc__law_draw.nd rfl (Or.inl rfl) (L2.Q.pe_op op_mod (L2.Q.pe_op op_addG (L2.Q.pe_op op_mulG (L2.Q.pv 4) L2.Q.pe_int) L2.Q.pe_int) L2.Q.pe_int))
      (L2.Q.pss_one (L2.Q.ps_ret (L2.Q.pe_op op_mod (L2.Q.pe_op op_fdiv (L2.Q.pe_op op_mod (L2.Q.pe_op op_mulG (L2.Q.pv 4) (L2.Q.pv 4)) L2.Q.pe_int) L2.Q.pe_int) (L2.Q.pv 1)))))))))) ?_
    obtain ⟨d, c, q, ms, hp, hq, hne, hqp⟩ := hh.ex
    refine rd_start (σ := [some (.ref p), some (.int n), none, none, none]) rfl ?_
    repeat walk_at "go"
    refine rd_dec (fun hd => ?_) (fun hd => ?_)
    · repeat walk_at "go"
      refine rd_setL hp rfl ?_
      repeat walk_at "go"
      refine k _ _ (Int.emod_nonneg _ (by omega)) (Int.emod_lt_of_pos _ h0) ⟨⟨_, c, q, ms, upd_same, by walk_at "hp", hne, hqp⟩⟩ Keep.upd (fun d0 c0 q0 e0 => by rw [hp] at e0; cases e0; exact ⟨_, _, upd_same⟩)
    · repeat walk_at "go"
      refine rd_gIx (SqL.of hp) (by decide) rfl ?_
      repeat walk_at "go"
      refine rd_setL hp rfl ?_
      obtain ⟨m, _, hm⟩ := mod_at (c := c + 1) hne
      have hlen : 0 < ((ms.map V.int).length : Int) := by rw [List.length_map]; have := List.length_pos_iff.mpr hne; omega
      repeat walk_at "go"
      have hq' : (upd H p (.lst [.int d, .int (c + 1), .ref q])) q = some (.lst (ms.map V.int)) := by walk_at "hp"
      repeat walk_at "go"
      exact k _ _ (Int.emod_nonneg _ (by omega)) (Int.emod_lt_of_pos _ h0) ⟨⟨d, c + 1, q, ms, upd_same, hq', hne, hqp⟩⟩ Keep.upd (fun d0 c0 q0 e0 => by rw [hp] at e0; cases e0; exact ⟨_, _, upd_same⟩)
def sp__law_far (K : PySem.W.Frag) : Sp := fun vs H Q _ => ∃ (p : Addr) (b : Int), vs = [.ref p, .int b] ∧ HandAt H p ∧ 0 < b ∧
  ∀ (r : Int) H', 0 ≤ r → r < b → HandAt H' p → Keep p H H' → SameQ p H H' → Q (.int r) H'
set_option maxHeartbeats 40000000 in
theorem ok__law_far {P : Program} {w : World} {K : PySem.W.Frag} {mg : Str → Option Value} {base : Heap} {a : Adr} (tx : Txt K mg a) : FnOk P w K mg base CX0 2 a.f__law_far a.d__law_far ["_law_hand", "_law_bound"] (sp__law_far K) := by
  have G__law_draw := ok__law_draw (P := P) (w := w) (base := base) tx
  refine tx.F__law_far.ok sc__law_far (fun vs H Q E h => ?_) (fun cdv A outer s H vs Q E hr h => ?_)
  · obtain ⟨p, b, rfl, _⟩ := h
    rfl
  · obtain ⟨p, b, rfl , hh, h0, k⟩ := h
    have hu := hu9 hr
    refine L2.Q.root (L2.Q.pss_cons (L2.Q.ps_set (i := 2) sc__law_far.nd rfl (Or.inl rfl) L2.Q.pe_int)
      (L2.Q.pss_cons (L2.Q.ps_for PassesOwn.never rfl (L2.Q.pi_range1N (by rfl) tx.z_range (L2.Q.pa_c L2.Q.pe_int L2.Q.pa_nil)) (L2.Q.pg_name (i := 3) sc__law_far.nd rfl (Or.inl rfl)) (L2.Q.pss_one (L2.Q.ps_set (i := 2) sc__law_far.nd rfl (Or.inl rfl) (L2.Q.pe_op op_addG (L2.Q.pe_op op_mulG (L2.Q.pv 2) L2.Q.pe_int) (L2.Q.pe_callN (G__law_draw) (hr.mono (by decide)) (by rfl) tx.g__law_draw tx.F__law_draw.kp tx.b__law_draw .nil pass0 (L2.Q.pa_c (L2.Q.pv 0) (L2.Q.pa_c L2.Q.pe_int L2.Q.pa_nil)))))))
      (L2.Q.pss_one (L2.Q.ps_ret (L2.Q.pe_op op_mod (L2.Q.pv 2) (L2.Q.pv 1)))))) ?_
    refine rd_start (σ := [some (.ref p), some (.int b), none, none]) rfl ?_
    repeat walk_at "go"
    refine ⟨by decide, by decide, ?_⟩
    refine rf_range (n := 11) (fun i σ' H' => ∃ (t : Int) (x : Option V), σ' = [some (.ref p), some (.int b), some (.int t), x] ∧ HandAt H' p ∧ Keep p H H' ∧ SameQ p H H') ⟨0, none, rfl, hh, fun _ _ e _ => e, SameQ.of fun _ e => e⟩ (fun i σ' H' hi ⟨t, x, e, h', kp, sq⟩ => ?_) (fun σ' H' ⟨t, x, e, h', kp, sq⟩ => ?_)
    · subst e
      repeat walk_at "go"
      refine ⟨p, _, rfl, h', by decide, by decide, fun r H2 r0 r1 h2 k2 q2 => ?_⟩
      repeat walk_at "go"
      exact ⟨_, _, rfl, h2, kp.trans k2, sq.trans q2⟩
    · subst e
      repeat walk_at "go"
      exact k _ _ (Int.emod_nonneg _ (by omega)) (Int.emod_lt_of_pos _ h0) h' kp sq
structure MS where
  up : Int
  down : Int
  begin_ : Int
  run : Int
  rest : Int
  least : Int
  pieces : List (Int × Int)
def Am (i : Int) : Prop := 0 ≤ i ∧ i ≤ 1000000000000
structure Tup2 (H : Hp) (qs : List Addr) (ps : List (Int × Int)) : Prop where
  len : qs.length = ps.length
  at_ : ∀ (j : Nat) q t, qs[j]? = some q → ps[j]? = some t → H q = some (.tup [.int t.1, .int t.2])
structure PcAt (H : Hp) (p : Addr) (ps : List (Int × Int)) : Prop where
  ex : ∃ qs, H p = some (.lst (qs.map V.ref)) ∧ Tup2 H qs ps
structure SpecAt (H : Hp) (s : Addr) (m : MS) : Prop where
  ex : ∃ pl, H s = some (.lst [.int m.up, .int m.down, .int m.begin_, .int m.run, .int m.rest, .int m.least, .ref pl]) ∧ PcAt H pl m.pieces
def mFs (m : MS) (pl : Addr) : List (Str × V) := [("up", .int m.up), ("down", .int m.down), ("begin", .int m.begin_), ("run", .int m.run), ("rest", .int m.rest), ("least", .int m.least), ("pieces", .ref pl)]
structure MachAt (C : Addr) (H : Hp) (a : Addr) (m : MS) : Prop where
  ex : ∃ dx pl, H a = some (.ins C dx (mFs m pl)) ∧ PcAt H pl m.pieces
theorem Tup2.same {H H' : Hp} {qs : List Addr} {ps : List (Int × Int)} (h : Tup2 H qs ps) (s : Same H H') : Tup2 H' qs ps := ⟨h.len, fun j q t h1 h2 => s _ _ (h.at_ j q t h1 h2)⟩
theorem PcAt.same {H H' : Hp} {p : Addr} {ps : List (Int × Int)} (h : PcAt H p ps) (s : Same H H') : PcAt H' p ps := by
  obtain ⟨qs, h1, h2⟩ := h.ex
  exact ⟨qs, s _ _ h1, h2.same s⟩
theorem SpecAt.same {H H' : Hp} {p : Addr} {m : MS} (h : SpecAt H p m) (s : Same H H') : SpecAt H' p m := by
  obtain ⟨pl, h1, h2⟩ := h.ex
  exact ⟨pl, s _ _ h1, h2.same s⟩
theorem MachAt.same {C : Addr} {H H' : Hp} {p : Addr} {m : MS} (h : MachAt C H p m) (s : Same H H') : MachAt C H' p m := by
  obtain ⟨dx, pl, h1, h2⟩ := h.ex
  exact ⟨dx, pl, s _ _ h1, h2.same s⟩
theorem Tup2.keep {H H' : Hp} {qs : List Addr} {ps : List (Int × Int)} {p : Addr} (h : Tup2 H qs ps) (hp : ∀ xs, H p ≠ some (.tup xs)) (s : Keep p H H') : Tup2 H' qs ps :=
  ⟨h.len, fun j q t h1 h2 => by
    have e := h.at_ j q t h1 h2
    exact s _ _ e (fun z => hp _ (z ▸ e))⟩
theorem HandAt.ntup {H : Hp} {p : Addr} (h : HandAt H p) (xs : List V) : H p ≠ some (.tup xs) := fun z => by
  obtain ⟨d, c, q, ms, hp, _⟩ := h.ex
  rw [hp] at z
  cases z
theorem PcAt.keep {H H' : Hp} {a p : Addr} {ps : List (Int × Int)} (h : PcAt H a ps) (hh : HandAt H p) (s : Keep p H H') : PcAt H' a ps := by
  obtain ⟨qs, h1, h2⟩ := h.ex
  obtain ⟨d, c, q, ms, hp, _⟩ := id hh.ex
  refine ⟨qs, s _ _ h1 (fun z => ?_), h2.keep hh.ntup s⟩
  rw [z, hp] at h1
  cases qs with
  | nil => cases h1
  | cons x xs => cases h1
theorem SpecAt.keep {H H' : Hp} {a p : Addr} {m : MS} (h : SpecAt H a m) (hh : HandAt H p) (s : Keep p H H') : SpecAt H' a m := by
  obtain ⟨pl, h1, h2⟩ := h.ex
  obtain ⟨d, c, q, ms, hp, _⟩ := id hh.ex
  refine ⟨pl, s _ _ h1 (fun z => ?_), h2.keep hh s⟩
  rw [z, hp] at h1
  cases h1
theorem MachAt.keep {C : Addr} {H H' : Hp} {a p : Addr} {m : MS} (h : MachAt C H a m) (hh : HandAt H p) (s : Keep p H H') : MachAt C H' a m := by
  obtain ⟨dx, pl, h1, h2⟩ := h.ex
  obtain ⟨d, c, q, ms, hp, _⟩ := id hh.ex
  refine ⟨dx, pl, s _ _ h1 (fun z => ?_), h2.keep hh s⟩
  rw [z, hp] at h1
  cases h1
structure PcW (ps : List (Int × Int)) (r : Int) : Prop where
  pc : ∀ t ∈ ps, 1 ≤ t.1 ∧ Am t.1 ∧ Am t.2
  up : ∀ (j : Nat) t u, ps[j]? = some t → ps[j + 1]? = some u → t.2 ≤ u.2
  top : ∀ t ∈ ps, t.2 ≤ r
theorem PcW.nil {r : Int} : PcW [] r := ⟨fun _ h => by simp at h, fun j t u h => by simp at h, fun _ h => by simp at h⟩
theorem PcW.snoc {ps : List (Int × Int)} {r r' a : Int} (w : PcW ps r) (hr : r ≤ r') (h1 : 1 ≤ a) (h2 : Am a) (h3 : Am r') : PcW (ps ++ [(a, r')]) r' := by
  refine ⟨fun t h => ?_, fun j t u ht hu => ?_, fun t h => ?_⟩
  · rcases List.mem_append.mp h with h | h
    · exact w.pc t h
    · rw [List.mem_singleton.mp h]; exact ⟨h1, h2, h3⟩
  · have hj2 : j + 1 < (ps ++ [(a, r')]).length := (List.getElem?_eq_some_iff.mp hu).1
    rw [List.length_append, List.length_singleton] at hj2
    have hj : j < ps.length := by omega
    rw [List.getElem?_append_left hj] at ht
    by_cases hj3 : j + 1 < ps.length
    · rw [List.getElem?_append_left hj3] at hu
      exact w.up j t u ht hu
    · rw [List.getElem?_append_right (by omega), show j + 1 - ps.length = 0 by omega] at hu
      cases hu
      exact Int.le_trans (w.top t (List.mem_of_getElem? ht)) hr
  · rcases List.mem_append.mp h with h | h
    · exact Int.le_trans (w.top t h) hr
    · rw [List.mem_singleton.mp h]; exact Int.le_refl _
theorem Tup2.snoc {H H3 : Hp} {qs : List Addr} {ss : List (Int × Int)} {l T : Addr} {xs : List V} {t : Int × Int} (h : Tup2 H qs ss) (hl : H l = some (.lst xs)) (k : Keep l H H3) (hT : H3 T = some (.tup [.int t.1, .int t.2])) : Tup2 H3 (qs ++ [T]) (ss ++ [t]) := by
  refine ⟨by rw [List.length_append, List.length_append, h.len]; rfl, fun j q u hq hu => ?_⟩
  by_cases hj : j < qs.length
  · rw [List.getElem?_append_left hj] at hq
    rw [List.getElem?_append_left (by rw [← h.len]; exact hj)] at hu
    have e := h.at_ j q u hq hu
    refine k q _ e fun z => ?_
    rw [z, hl] at e
    cases e
  · have hj2 : j < (qs ++ [T]).length := (List.getElem?_eq_some_iff.mp hq).1
    rw [List.length_append, List.length_singleton] at hj2
    have e : j = qs.length := by omega
    subst e
    rw [List.getElem?_append_right (Nat.le_refl _), Nat.sub_self] at hq
    rw [h.len, List.getElem?_append_right (Nat.le_refl _), Nat.sub_self] at hu
    cases hq
    cases hu
    exact hT
theorem HandAt.isL {H : Hp} {p : Addr} (h : HandAt H p) : ∃ xs, H p = some (.lst xs) := by
  obtain ⟨d, cc, q, ms, hp, _⟩ := h.ex
  exact ⟨_, hp⟩
theorem HandAt.nnew {H : Hp} {p c : Addr} (hh : HandAt H p) (n : H c = none) : c ≠ p := fun z => by
  obtain ⟨xs, e⟩ := hh.isL
  exact ne_none n e z.symm
structure RL {α : Type} (P : Addr → α → Prop) (as : List Addr) (xs : List α) : Prop where
  len : as.length = xs.length
  at_ : ∀ (j : Nat) a x, as[j]? = some a → xs[j]? = some x → P a x
theorem RL.nil {α : Type} {P : Addr → α → Prop} : RL P [] [] := ⟨rfl, fun j a x h => by simp at h⟩
theorem RL.imp {α : Type} {P P' : Addr → α → Prop} {as : List Addr} {xs : List α} (h : RL P as xs) (f : ∀ a x, P a x → P' a x) : RL P' as xs := ⟨h.len, fun j a x h1 h2 => f a x (h.at_ j a x h1 h2)⟩
theorem RL.snoc {α : Type} {P : Addr → α → Prop} {as : List Addr} {xs : List α} (h : RL P as xs) {a : Addr} {x : α} (hp : P a x) : RL P (as ++ [a]) (xs ++ [x]) := by
  refine ⟨by rw [List.length_append, List.length_append, h.len]; rfl, fun j q u hq hu => ?_⟩
  by_cases hj : j < as.length
  · rw [List.getElem?_append_left hj] at hq
    rw [List.getElem?_append_left (by rw [← h.len]; exact hj)] at hu
    exact h.at_ j q u hq hu
  · have hj2 : j < (as ++ [a]).length := (List.getElem?_eq_some_iff.mp hq).1
    rw [List.length_append, List.length_singleton] at hj2
    have e : j = as.length := by omega
    subst e
    rw [List.getElem?_append_right (Nat.le_refl _), Nat.sub_self] at hq
    rw [h.len, List.getElem?_append_right (Nat.le_refl _), Nat.sub_self] at hu
    cases hq
    cases hu
    exact hp
theorem RL.two {α : Type} {P : Addr → α → Prop} {as : List Addr} {xs : List α} (h : RL P as xs) (hl : as.length = 2) : ∃ a b x y, as = [a, b] ∧ xs = [x, y] ∧ P a x ∧ P b y := by
  have hx : xs.length = 2 := by rw [← h.len]; exact hl
  match as, xs, hl, hx with
  | [a, b], [x, y], _, _ => exact ⟨a, b, x, y, rfl, rfl, h.at_ 0 a x rfl rfl, h.at_ 1 b y rfl rfl⟩
theorem dig_range {c : Char} (h : c.isDigit = true) : 48 ≤ c.toNat ∧ c.toNat ≤ 57 := by
  unfold Char.isDigit at h
  simp only [Bool.and_eq_true, decide_eq_true_eq] at h
  exact ⟨h.1, h.2⟩
theorem digits_len {m : Nat} (h : m < 10 ^ 20) : (Nat.toDigits 10 m).length ≤ 20 := by
  have := (Nat.length_toDigits_le_iff (b := 10) (k := 20) (n := m) (by decide) (by decide)).mpr h
  exact this
theorem num_reads20 {n : Int} (h0 : 0 ≤ n) (h1 : n < 10 ^ 20) : PySem.intText? (PySem.Str.ofString (toString n)) = some n ∧ (PySem.Str.ofString (toString n)).length ≤ 20 := by
  obtain ⟨m, rfl⟩ := Int.eq_ofNat_of_zero_le h0
  have hl : (PySem.Str.ofString (toString ((m : Nat) : Int))).length ≤ 20 := by
    have e : (PySem.Str.ofString (toString ((m : Nat) : Int))).length = (Nat.toDigits 10 m).length := by
      show (PySem.Str.ofString (toString ((m : Nat) : Int))).cps.size = _
      rw [← Array.length_toList, PySem.W.KIN.signs_num, List.length_map]
    rw [e]
    exact digits_len (by omega)
  have hd : ∀ c ∈ (PySem.Str.ofString (toString ((m : Nat) : Int))).cps.toList, 48 ≤ c ∧ c ≤ 57 := by
    intro c hc
    rw [PySem.W.KIN.signs_num] at hc
    obtain ⟨ch, hch, e⟩ := List.mem_map.mp hc
    have r := dig_range (Nat.isDigit_of_mem_toDigits (by decide) (by decide) hch)
    rw [← e]
    exact r
  have hne : (PySem.Str.ofString (toString ((m : Nat) : Int))).cps.toList ≠ [] := by
    rw [PySem.W.KIN.signs_num]
    intro e
    have h := Nat.length_toDigits_pos (b := 10) (n := m)
    rw [List.map_eq_nil_iff.mp e] at h
    exact absurd h (by decide)
  have e := PySem.intText_digits hd hne (Nat.le_trans hl (by decide))
  rw [PySem.W.KIN.signs_num, PySem.W.KIN.val_back] at e
  exact ⟨e, hl⟩
def No2 (c e : Nat) (p : List Nat) : Prop := ∀ u v, p ≠ u ++ c :: e :: v
theorem No2.tail {c e d : Nat} {p : List Nat} (h : No2 c e (d :: p)) : No2 c e p := fun u v z => h (d :: u) v (by rw [z]; rfl)
open Builtin Builtin.Str in
open Builtin Builtin.Str in
open Builtin Builtin.Str in
def ErrB (H : Hp) (e C : Addr) : Prop := H e = some (ErrO C none e)
theorem err_set0 {H : Hp} {x C : Addr} {a : HO} (nx : H x = none) : Same H (upd (upd H x a) x (ErrO C none x)) ∧ ErrB (upd (upd H x a) x (ErrO C none x)) x C := by
  refine ⟨fun b o e => ?_, upd_same⟩
  have hb : b ≠ x := fun z => by rw [z, nx] at e; cases e
  rw [upd_ne hb, upd_ne hb]
  exact e
abbrev sN (n : Int) : Str := Str.ofString (toString n)
theorem sN_digits {n : Int} (h0 : 0 ≤ n) : ∀ c ∈ (sN n).cps.toList, 48 ≤ c ∧ c ≤ 57 := by
  obtain ⟨m, rfl⟩ := Int.eq_ofNat_of_zero_le h0
  intro c hc
  rw [PySem.W.KIN.signs_num] at hc
  obtain ⟨ch, hch, e⟩ := List.mem_map.mp hc
  have r := dig_range (Nat.isDigit_of_mem_toDigits (by decide) (by decide) hch)
  rw [← e]
  exact r
theorem sN_plain {n : Int} (h0 : 0 ≤ n) : (sN n).cps.all (· < 128) = true := by
  rw [← Array.all_toList, List.all_eq_true]
  intro c hc
  have := sN_digits h0 c hc
  exact decide_eq_true (by omega)
theorem starts_app (a b : Str) : Txt.startswith (a ++ b) a = true := by
  unfold Txt.startswith
  rw [Bool.and_eq_true, decide_eq_true_eq, StrLaws.subAt_eq, Str.length_append]
  refine ⟨by omega, ?_⟩
  rw [Str.cps_append, Array.toList_append, List.drop_zero]
  have e : a.length = a.cps.toList.length := Array.length_toList.symm
  rw [e, List.take_left]
  simp
theorem take_snoc {α : Type} {l : List α} {i : Nat} {x : α} (h : l[i]? = some x) : l.take (i + 1) = l.take i ++ [x] := by
  rw [List.take_add_one, h]; rfl
theorem RL.get {α : Type} {P : Addr → α → Prop} {as : List Addr} {xs : List α} (h : RL P as xs) {i : Nat} {v : V} (hv : (as.map V.ref)[i]? = some v) : ∃ a x, as[i]? = some a ∧ v = .ref a ∧ xs[i]? = some x ∧ P a x := by
  rw [List.getElem?_map] at hv
  cases hq : as[i]? with
  | none => rw [hq] at hv; cases hv
  | some a =>
    rw [hq] at hv
    cases hv
    have li : i < xs.length := by rw [← h.len]; exact (List.getElem?_eq_some_iff.mp hq).1
    have hx : xs[i]? = some xs[i] := List.getElem?_eq_getElem li
    exact ⟨a, xs[i], rfl, rfl, hx, h.at_ i a _ hq hx⟩
theorem int_get {ns : List Int} {i : Nat} {x : V} (h : (ns.map V.int)[i]? = some x) : ∃ n, ns[i]? = some n ∧ x = .int n := by
  rw [List.getElem?_map] at h
  obtain ⟨n, e, rfl⟩ := Option.map_eq_some_iff.mp h
  exact ⟨n, e, rfl⟩
def wd (on out : Int) : Str := if on = 1 then sN out else Str.ofString "-"
structure Hr where
  ons : List Int
  outs : List Int
  lvl : Int
structure HrOk (k : Nat) (h : Hr) : Prop where
  l1 : h.ons.length = k
  l2 : h.outs.length = k
  st : ∀ (j : Nat) on out, h.ons[j]? = some on → h.outs[j]? = some out → (on = 0 ∧ out = 0) ∨ (on = 1 ∧ 0 ≤ out ∧ out < 10 ^ 20)
  lv : 0 ≤ h.lvl ∧ h.lvl < 10 ^ 20
def HrAt (H : Hp) (a : Addr) (h : Hr) : Prop := ∃ t1 t2, H a = some (.tup [.ref t1, .ref t2, .int h.lvl]) ∧ H t1 = some (.tup (h.ons.map V.int)) ∧ H t2 = some (.tup (h.outs.map V.int))
def ws0 (h : Hr) : List Str := List.zipWith wd h.ons h.outs
def wordsH (h : Hr) : List Str := ws0 h ++ [Str.ofString "@" ++ sN h.lvl]
def hourS (h : Hr) : Str := Str.join (Str.ofString " ") (wordsH h)
theorem log_ok {n : Int} (h0 : 0 ≤ n) (h1 : n < 10 ^ 20) : n.natAbs.log2 < 1920 := by
  by_cases z : n.natAbs = 0
  · rw [z]; decide
  · rw [Nat.log2_lt z]
    have : (10 : Int) ^ 20 = 100000000000000000000 := by decide
    exact Nat.lt_of_lt_of_le (by omega : n.natAbs < 2 ^ 67) (Nat.pow_le_pow_right (by decide) (by decide))
theorem wd_len {on out : Int} (h : (on = 0 ∧ out = 0) ∨ (on = 1 ∧ 0 ≤ out ∧ out < 10 ^ 20)) : (wd on out).length ≤ 20 := by
  unfold wd
  rcases h with ⟨h1, _⟩ | ⟨h1, h2, h3⟩
  · rw [if_neg (by omega)]; decide
  · rw [if_pos h1]; exact (num_reads20 h2 h3).2
theorem zip_at {h : Hr} {j : Nat} {w : Str} (e : (ws0 h)[j]? = some w) : ∃ on out, h.ons[j]? = some on ∧ h.outs[j]? = some out ∧ w = wd on out := by
  unfold ws0 at e
  rw [List.getElem?_zipWith] at e
  cases e1 : h.ons[j]? with
  | none => rw [e1] at e; cases e
  | some on =>
    cases e2 : h.outs[j]? with
    | none => rw [e1, e2] at e; cases e
    | some out => rw [e1, e2] at e; cases e; exact ⟨on, out, rfl, rfl, rfl⟩
theorem ws0_len {k : Nat} {h : Hr} (g : HrOk k h) : (ws0 h).length = k := by
  unfold ws0
  rw [List.length_zipWith, g.l1, g.l2, Nat.min_self]
theorem words_short {k : Nat} {h : Hr} (g : HrOk k h) : ∀ w ∈ wordsH h, w.length ≤ 21 := by
  intro w hw
  rcases List.mem_append.mp hw with z | z
  · obtain ⟨j, ej⟩ := List.getElem?_of_mem z
    obtain ⟨on, out, e1, e2, rfl⟩ := zip_at ej
    have := wd_len (g.st j on out e1 e2)
    omega
  · rw [List.mem_singleton.mp z, Str.length_append]
    have : (sN h.lvl).length ≤ 20 := (num_reads20 g.lv.1 g.lv.2).2
    have : (Str.ofString "@").length = 1 := by decide
    omega
def planS (hs : List Hr) : Str := if hs = [] then Str.ofString "none" else Str.join (Str.ofString "; ") (hs.map hourS)
def ln (ws : List Str) (a : Str) : Str := ws.foldl (fun a w => a ++ w ++ Str.ofString " ") a
theorem ln_join (x : Str) : ∀ (ws : List Str) (a : Str), ln ws a ++ x = a ++ Str.join (Str.ofString " ") (ws ++ [x])
  | [], a => rfl
  | w :: r, a => by
    show ln r (a ++ w ++ Str.ofString " ") ++ x = _
    rw [ln_join x r]
    have e : Str.join (Str.ofString " ") (w :: r ++ [x]) = w ++ Str.ofString " " ++ Str.join (Str.ofString " ") (r ++ [x]) := by
      cases r with
      | nil => rfl
      | cons y r => rfl
    rw [e, Str.append_assoc, Str.append_assoc, Str.append_assoc]
theorem ln_snoc (ws : List Str) (w a : Str) : ln (ws ++ [w]) a = ln ws a ++ w ++ Str.ofString " " := by
  unfold ln
  rw [List.foldl_append]
  rfl
theorem ln_len : ∀ (ws : List Str) (a : Str), (∀ w ∈ ws, w.length ≤ 21) → (ln ws a).length ≤ a.length + 22 * ws.length
  | [], a, _ => Nat.le_add_right _ _
  | w :: r, a, h => by
    have ih := ln_len r (a ++ w ++ Str.ofString " ") fun z hz => h z (List.mem_cons_of_mem _ hz)
    have hw := h w (.head _)
    show (ln r (a ++ w ++ Str.ofString " ")).length ≤ _
    rw [Str.length_append, Str.length_append, show (Str.ofString " ").length = 1 by decide] at ih
    rw [List.length_cons]
    omega
theorem ws0_short {k : Nat} {h : Hr} (g : HrOk k h) (i : Nat) : ∀ w ∈ (ws0 h).take i, w.length ≤ 21 := fun w hw => words_short g w (List.mem_append_left _ (List.mem_of_mem_take hw))
theorem HrAt.same {H H' : Hp} {a : Addr} {h : Hr} (x : HrAt H a h) (s : Same H H') : HrAt H' a h := let ⟨t1, t2, a, b, c⟩ := x; ⟨t1, t2, s _ _ a, s _ _ b, s _ _ c⟩
theorem hour_short {k : Nat} {h : Hr} (g : HrOk k h) (hk : k ≤ 10) : (hourS h).length ≤ 300 := by
  have z := StrLaws.join_length_le (Str.ofString " ") (wordsH h)
  have w := StrLaws.sumLen_le (B := 21) (wordsH h) (words_short g)
  have l : (wordsH h).length = k + 1 := by unfold wordsH; rw [List.length_append, ws0_len g]; rfl
  rw [show (Str.ofString " ").length = 1 by decide, l] at z
  rw [l] at w
  show (Str.join _ _).length ≤ 300
  have w2 : (k + 1) * 21 ≤ 231 := by omega
  omega
theorem plan_fits {kk : Nat} {hs : List Hr} (hO : ∀ h ∈ hs, HrOk kk h) (hk : kk ≤ 10) (hz : hs.length ≤ 100) : JoinOk (Str.ofString "; ") (hs.map hourS) = true := by
  unfold JoinOk
  rw [StrLaws.joinFits (B := 300) (fun y hy => by obtain ⟨h, hh, rfl⟩ := List.mem_map.mp hy; exact hour_short (hO h hh) hk) (by
    rw [List.length_map, show (Str.ofString "; ").length = 2 by decide]; omega)]
  rfl
def sp__law_hour_line (K : PySem.W.Frag) : Sp := fun vs H Q _ => ∃ (a : Addr) (k : Nat) (h : Hr), vs = [.ref a] ∧ HrAt H a h ∧ HrOk k h ∧ k ≤ 10 ∧ ∀ H', Same H H' → Q (.str (hourS h)) H'
set_option maxHeartbeats 40000000 in
theorem ok__law_hour_line {P : Program} {w : World} {K : PySem.W.Frag} {mg : Str → Option Value} {base : Heap} {a : Adr} (tx : Txt K mg a) : FnOk P w K mg base CX0 1 a.f__law_hour_line a.d__law_hour_line ["_law_hour"] (sp__law_hour_line K) := by
  refine tx.F__law_hour_line.ok sc__law_hour_line (fun vs H Q E h => ?_) (fun cdv A outer s H vs Q E hr h => ?_)
  · obtain ⟨ah, kk, h, rfl, _⟩ := h
    rfl
  · obtain ⟨ah, kk, h, rfl , hA, hO, hk, k⟩ := h
    have hu := hu9 hr
    refine L2.Q.root (L2.Q.pss_cons (L2.Q.ps_set (i := 1) sc__law_hour_line.nd rfl (Or.inl rfl) L2.Q.pe_str)
      (L2.Q.pss_cons (L2.Q.ps_for PassesOwn.never rfl (L2.Q.pi_zip2 (k1 := false) (k2 := false) (by rfl) tx.z_zip (L2.Q.pa_c (L2.Q.pe_ixK (K' := K) (L2.Q.pv 0) L2.Q.pe_int (fun _ _ => rfl)) (L2.Q.pa_c (L2.Q.pe_ixK (K' := K) (L2.Q.pv 0) L2.Q.pe_int (fun _ _ => rfl)) L2.Q.pa_nil))) (L2.Q.pg_tupK (K' := K) (n := 2) rfl (L2.Q.pgs_cons (L2.Q.pg_name (i := 2) sc__law_hour_line.nd rfl (Or.inl rfl)) (L2.Q.pgs_cons (L2.Q.pg_name (i := 3) sc__law_hour_line.nd rfl (Or.inl rfl)) L2.Q.pgs_nil))) (L2.Q.pss_one (L2.Q.ps_set (i := 1) sc__law_hour_line.nd rfl (Or.inl rfl) (L2.Q.pe_op (r := rAddS) op_addS (L2.Q.pe_op (r := rAddS) op_addS (L2.Q.pv 1) (L2.Q.pe_ixK (K' := K) (L2.Q.lst2 L2.Q.pe_str (L2.Q.pe_callTyN (rc := rStrI) call_strI (by rfl) tx.z_str bt_str (L2.Q.pa_c (L2.Q.pv 3) L2.Q.pa_nil))) (L2.Q.pv 2) (fun _ _ => rfl))) L2.Q.pe_str))))
      (L2.Q.pss_one (L2.Q.ps_ret (L2.Q.pe_op (r := rAddS) op_addS (L2.Q.pe_op (r := rAddS) op_addS (L2.Q.pv 1) L2.Q.pe_str) (L2.Q.pe_callTyN (rc := rStrI) call_strI (by rfl) tx.z_str bt_str (L2.Q.pa_c (L2.Q.pe_ixK (K' := K) (L2.Q.pv 0) L2.Q.pe_int (fun _ _ => rfl)) L2.Q.pa_nil))))))) ?_
    obtain ⟨t1, t2, g0, g1, g2⟩ := hA
    have o1 := hO.l1
    have o2 := hO.l2
    have lw := ws0_len hO
    have one1 : (Str.ofString " ").length = 1 := by decide
    have one2 : (Str.ofString "@").length = 1 := by decide
    refine rd_start (σ := [some (.ref ah), none, none, none]) rfl ?_
    repeat walk_at "go"
    refine rd_zi2 (Src.tup g1) (Src.tup g2) ?_
    refine rf_zip2 (n := kk) (by rw [List.length_map]; omega) (by rw [List.length_map]; omega) (.inl (by rw [List.length_map]; omega))
      (fun i σ' H' => Same H H' ∧ ∃ z2 z3, σ' = [some (.ref ah), some (.str (ln ((ws0 h).take i) (Str.ofString ""))), z2, z3]) ⟨Same.refl _, _, _, rfl⟩
      (fun i σ' H' hi ⟨s1, _⟩ => ⟨Src.tup (s1 _ _ g1), Src.tup (s1 _ _ g2)⟩)
      (fun i x y σ' H' T hx hy ⟨s1, z2, z3, e⟩ nT => ?_) (fun σ' H' ⟨s1, z2, z3, e⟩ => ?_)
    · subst e
      obtain ⟨on, eon, rfl⟩ := int_get hx
      obtain ⟨out, eout, rfl⟩ := int_get hy
      have hst := hO.st i on out eon eout
      have il : i < kk := by rw [← o1]; exact (List.getElem?_eq_some_iff.mp eon).1
      have ew : (ws0 h)[i]? = some (wd on out) := by unfold ws0; rw [List.getElem?_zipWith, eon, eout]
      have hl1 := ln_len ((ws0 h).take i) (Str.ofString "") (ws0_short hO i)
      rw [List.length_take] at hl1
      have e0 : (Str.ofString "").length = 0 := by decide
      have hl2 := wd_len hst
      obtain ⟨H2, i2, s2, gT⟩ := nw _ nT; rw [i2]
      refine rd_gtup (SqT.of gT) rfl ?_
      repeat walk_at "go"
      refine ⟨out, rfl, log_ok (by omega) (by omega), ?_⟩
      repeat walk_at "go"
      intro l3 n3
      obtain ⟨H3, i3, s3, g3⟩ := nw _ n3; rw [i3]
      have ea : atI [V.str (Str.ofString "-"), .str (sN out)] on = some (.str (wd on out)) := by
        unfold wd
        rcases hst with ⟨rfl, _⟩ | ⟨rfl, _⟩ <;> rfl
      repeat walk_at "go"
      refine ⟨_, _, rfl, rfl, sz_le (by omega), ?_⟩
      repeat walk_at "go"
      refine ⟨_, _, rfl, rfl, sz_le (by rw [Str.length_append]; omega), ?_⟩
      repeat walk_at "go"
      refine ⟨s1.trans (s2.trans s3), some (.int on), some (.int out), ?_⟩
      rw [take_snoc ew, ln_snoc]
    · subst e
      have hl1 := ln_len ((ws0 h).take kk) (Str.ofString "") (ws0_short hO kk)
      rw [List.length_take] at hl1
      have e0 : (Str.ofString "").length = 0 := by decide
      have ll : (sN h.lvl).length ≤ 20 := (num_reads20 hO.lv.1 hO.lv.2).2
      have g0' := s1 _ _ g0
      repeat walk_at "go"
      refine ⟨_, _, rfl, rfl, sz_le (by omega), ?_⟩
      repeat walk_at "go"
      refine ⟨h.lvl, rfl, log_ok hO.lv.1 hO.lv.2, ?_⟩
      repeat walk_at "go"
      refine ⟨_, _, rfl, rfl, sz_le (by rw [Str.length_append]; show _ + (sN h.lvl).length ≤ _; omega), ?_⟩
      have z := k H' s1
      have q : ln ((ws0 h).take kk) (Str.ofString "") ++ Str.ofString "@" ++ sN h.lvl = hourS h := by
        rw [Str.append_assoc, ← lw, List.take_length, ln_join]
        exact Str.empty_append _
      rw [← q] at z
      exact z
def sp__law_plan_line (K : PySem.W.Frag) : Sp := fun vs H Q _ => ∃ (l : Addr) (as : List Addr) (hs : List Hr) (kk : Nat), vs = [.ref l] ∧ H l = some (.lst (as.map V.ref)) ∧ RL (HrAt H) as hs ∧ (∀ h ∈ hs, HrOk kk h) ∧ kk ≤ 10 ∧ hs.length ≤ 100 ∧ ∀ H', Same H H' → Q (.str (planS hs)) H'
set_option maxHeartbeats 40000000 in
theorem ok__law_plan_line {P : Program} {w : World} {K : PySem.W.Frag} {mg : Str → Option Value} {base : Heap} {a : Adr} (tx : Txt K mg a) : FnOk P w K mg base CX0 2 a.f__law_plan_line a.d__law_plan_line ["_law_plan"] (sp__law_plan_line K) := by
  have G__law_hour_line := ok__law_hour_line (P := P) (w := w) (base := base) tx
  refine tx.F__law_plan_line.ok sc__law_plan_line (fun vs H Q E h => ?_) (fun cdv A outer s H vs Q E hr h => ?_)
  · obtain ⟨l, as, hs, kk, rfl, _⟩ := h
    rfl
  · obtain ⟨l, as, hs, kk, rfl , gl, rl, hO, hk, hz, k⟩ := h
    have hu := hu9 hr
    refine L2.Q.root (L2.Q.pss_cons (L2.Q.ps_if (L2.Q.pt_cmpR (r := rEqG K) (op_eqG hu) (L2.Q.pv 0) (L2.Q.pe_lst L2.Q.pa_nil) (nomark _)) (L2.Q.pss_one (L2.Q.ps_ret L2.Q.pe_str)) L2.Q.pss_nil)
      (L2.Q.pss_one (L2.Q.ps_ret (L2.Q.pe_joinK (K' := K) L2.Q.pe_str (L2.Q.pa_c (L2.Q.pe_comp (k := 1) (idx := []) (N := ["_law_hour"]) (blk_sc (sc := defScope s__law_plan_line) (NX := ["_law_plan"]) rfl rfl rfl (by decide +kernel)) rfl (L2.Q.pi_listK (K' := K) (L2.Q.pv 0)) (fun _ _ _ _ => (L2.Q.pg_name (i := 0) (show (["_law_hour"] : List Str).Nodup by decide +kernel) rfl (Or.inl rfl))) (own_name (by decide)) (fun _ _ _ _ => L2.Q.pts_nil) (fun _ _ _ _ => (L2.Q.pe_callN (G__law_hour_line) (hr.mono (by decide)) (by rfl) tx.g__law_hour_line tx.F__law_hour_line.kp tx.b__law_hour_line .nil pass0 (L2.Q.pa_c (L2.Q.pv 0) L2.Q.pa_nil)))) L2.Q.pa_nil))))) ?_
    have las := rl.len
    refine rd_start (σ := [some (.ref l)]) rfl ?_
    repeat walk_at "go"
    intro e1 ne1
    obtain ⟨H0, i0, s0, u0⟩ := nw _ ne1; rw [i0]
    have gl0 := s0 _ _ gl
    replace k : ∀ H', Same H0 H' → Q (.str (planS hs)) H' := fun H' s' => k H' (s0.trans s')
    replace rl := rl.imp fun a x z => HrAt.same z s0
    repeat walk_at "go"
    refine ⟨_, eqN_nil (SqL.of gl0) (SqL.of u0), ?_⟩
    repeat walk_at "go"
    refine rd_bool (fun h => ?_) (fun h => ?_)
    · repeat walk_at "go"
      have e : hs = [] := by
        cases as with
        | nil => exact List.length_eq_zero_iff.mp (by rw [← las]; rfl)
        | cons _ _ => cases h
      have z := k H0 (Same.refl _)
      rw [e] at z
      exact z
    repeat walk_at "go"
    refine ⟨rfl, ?_⟩
    repeat walk_at "go"
    refine rd_li (SqL.of gl0) ?_
    refine comp_list (xs := as.map V.ref) (fun j us H2 => Same H0 H2 ∧ us = ((hs.take j).map hourS).map V.str) ⟨Same.refl _, rfl⟩ (sz_le (by rw [List.length_map]; omega))
      (fun j us H2 hj ⟨s2, e1⟩ => ⟨SqL.of (s2 _ _ gl0), by rw [e1, List.length_map, List.length_map, List.length_take]; omega⟩) (fun j v us H2 hv ⟨s2, e1⟩ => ?_) (fun us H2 ⟨s2, e1⟩ => ?_)
    · obtain ⟨a1, h1, ea, rfl, eh, hA⟩ := rl.get hv
      repeat walk_at "go"
      refine ⟨a1, kk, h1, rfl, hA.same s2, hO h1 (List.mem_of_getElem? eh), hk, fun H3 s3 => ⟨s2.trans s3, ?_⟩⟩
      rw [e1, take_snoc eh, List.map_append, List.map_append]
      rfl
    subst e1
    rw [List.length_map, las, List.take_length]
    intro l2 n2
    obtain ⟨H3, i3, s3, g3⟩ := nw _ n2; rw [i3]
    repeat walk_at "go"
    refine ⟨_, l2, hs.map hourS, rfl, rfl, SqL.of g3, ?_, ?_⟩
    · exact plan_fits hO hk hz
    · have z := k H3 (s2.trans s3)
      unfold planS at z
      have hne : ¬ hs = [] := fun e => by
        have q : as = [] := List.length_eq_zero_iff.mp (by rw [las, e]; rfl)
        rw [q] at h
        cases h
      rw [if_neg hne, ← StrLaws.glued_eq_join] at z
      exact z
theorem at_last {xs : List V} (x : V) : atI (xs ++ [x]) (-1) = some x := by
  have e : ixN (xs ++ [x]).length (-1) = some xs.length := by
    unfold ixN
    rw [if_neg (by omega), if_pos (by rw [List.length_append, List.length_singleton]; omega)]
    congr 1
    rw [List.length_append, List.length_singleton]
    omega
  unfold atI
  rw [e]
  simp
theorem cut_init (xs : List V) : cutV xs none (some (-1)) = xs.take (xs.length - 1) := by
  unfold cutV
  rw [HT.sIx_none, List.drop_zero, Nat.sub_zero]
  congr 1
  show (if (-1 : Int) < 0 then ((-1 : Int) + (xs.length : Int)).toNat else min (-1 : Int).toNat xs.length) = _
  rw [if_pos (by decide)]
  omega
def sp__law_any_hour (K : PySem.W.Frag) : Sp := fun vs H Q _ => ∃ (p : Addr) (kk : Nat), vs = [.ref p, .int (kk : Int)] ∧ HandAt H p ∧ kk ≤ 10 ∧ ∀ a h H', HandAt H' p → Keep p H H' → HrAt H' a h → HrOk kk h → Q (.ref a) H'
set_option maxHeartbeats 40000000 in
theorem ok__law_any_hour {P : Program} {w : World} {K : PySem.W.Frag} {mg : Str → Option Value} {base : Heap} {a : Adr} (tx : Txt K mg a) : FnOk P w K mg base CX0 3 a.f__law_any_hour a.d__law_any_hour ["_law_hand", "_law_machines"] (sp__law_any_hour K) := by
  have G__law_draw := ok__law_draw (P := P) (w := w) (base := base) tx
  have G__law_far := ok__law_far (P := P) (w := w) (base := base) tx
  refine tx.F__law_any_hour.ok sc__law_any_hour (fun vs H Q E h => ?_) (fun cdv A outer s H vs Q E hr h => ?_)
  · obtain ⟨p, kk, rfl, _⟩ := h
    rfl
  · obtain ⟨p, kk, rfl , hh, hk, k⟩ := h
    have hu := hu9 hr
    refine L2.Q.root (L2.Q.pss_cons (L2.Q.ps_par (i := 2) (j := 3) rfl sc__law_any_hour.nd rfl rfl (by decide) rfl rfl (L2.Q.pa_c (L2.Q.pe_lst L2.Q.pa_nil) (L2.Q.pa_c (L2.Q.pe_lst L2.Q.pa_nil) L2.Q.pa_nil)))
      (L2.Q.pss_cons (L2.Q.ps_for PassesOwn.never rfl (L2.Q.pi_range1N (by rfl) tx.z_range (L2.Q.pa_c (L2.Q.pv 1) L2.Q.pa_nil)) (L2.Q.pg_name (i := 4) sc__law_any_hour.nd rfl (Or.inl rfl)) (L2.Q.pss_cons (L2.Q.ps_set (i := 5) sc__law_any_hour.nd rfl (Or.inl rfl) (L2.Q.pe_callN (G__law_draw) (hr.mono (by decide)) (by rfl) tx.g__law_draw tx.F__law_draw.kp tx.b__law_draw .nil pass0 (L2.Q.pa_c (L2.Q.pv 0) (L2.Q.pa_c L2.Q.pe_int L2.Q.pa_nil))))
      (L2.Q.pss_cons (L2.Q.ps_set (i := 6) sc__law_any_hour.nd rfl (Or.inl rfl) (L2.Q.pe_ixK (K' := K) (L2.Q.lst4 L2.Q.pe_int (L2.Q.pe_callN (G__law_draw) (hr.mono (by decide)) (by rfl) tx.g__law_draw tx.F__law_draw.kp tx.b__law_draw .nil pass0 (L2.Q.pa_c (L2.Q.pv 0) (L2.Q.pa_c L2.Q.pe_int L2.Q.pa_nil))) (L2.Q.pe_callN (G__law_far) (hr.mono (by decide)) (by rfl) tx.g__law_far tx.F__law_far.kp tx.b__law_far .nil pass0 (L2.Q.pa_c (L2.Q.pv 0) (L2.Q.pa_c (L2.Q.pe_op op_pow L2.Q.pe_int L2.Q.pe_int) L2.Q.pa_nil))) (L2.Q.pe_op op_sub (L2.Q.pe_op op_pow L2.Q.pe_int L2.Q.pe_int) L2.Q.pe_int)) (L2.Q.pe_callN (G__law_draw) (hr.mono (by decide)) (by rfl) tx.g__law_draw tx.F__law_draw.kp tx.b__law_draw .nil pass0 (L2.Q.pa_c (L2.Q.pv 0) (L2.Q.pa_c L2.Q.pe_int L2.Q.pa_nil))) (fun _ _ => rfl)))
      (L2.Q.pss_cons (L2.Q.ps_expr (L2.Q.pe_appK (K' := K) (L2.Q.pv 2) (L2.Q.pa_c (L2.Q.pv 5) L2.Q.pa_nil)))
      (L2.Q.pss_one (L2.Q.ps_expr (L2.Q.pe_appK (K' := K) (L2.Q.pv 3) (L2.Q.pa_c (L2.Q.pe_op op_mulG (L2.Q.pv 5) (L2.Q.pv 6)) L2.Q.pa_nil))))))))
      (L2.Q.pss_cons (L2.Q.ps_set (i := 7) sc__law_any_hour.nd rfl (Or.inl rfl) (L2.Q.pe_ixK (K' := K) (L2.Q.lst4 (L2.Q.pe_callN (G__law_draw) (hr.mono (by decide)) (by rfl) tx.g__law_draw tx.F__law_draw.kp tx.b__law_draw .nil pass0 (L2.Q.pa_c (L2.Q.pv 0) (L2.Q.pa_c L2.Q.pe_int L2.Q.pa_nil))) (L2.Q.pe_callN (G__law_draw) (hr.mono (by decide)) (by rfl) tx.g__law_draw tx.F__law_draw.kp tx.b__law_draw .nil pass0 (L2.Q.pa_c (L2.Q.pv 0) (L2.Q.pa_c L2.Q.pe_int L2.Q.pa_nil))) (L2.Q.pe_callN (G__law_far) (hr.mono (by decide)) (by rfl) tx.g__law_far tx.F__law_far.kp tx.b__law_far .nil pass0 (L2.Q.pa_c (L2.Q.pv 0) (L2.Q.pa_c (L2.Q.pe_op op_pow L2.Q.pe_int L2.Q.pe_int) L2.Q.pa_nil))) (L2.Q.pe_op op_sub (L2.Q.pe_op op_pow L2.Q.pe_int L2.Q.pe_int) L2.Q.pe_int)) (L2.Q.pe_callN (G__law_draw) (hr.mono (by decide)) (by rfl) tx.g__law_draw tx.F__law_draw.kp tx.b__law_draw .nil pass0 (L2.Q.pa_c (L2.Q.pv 0) (L2.Q.pa_c L2.Q.pe_int L2.Q.pa_nil))) (fun _ _ => rfl)))
      (L2.Q.pss_one (L2.Q.ps_ret (L2.Q.tup3 (L2.Q.pe_callTyN (rc := rTupOf K) call_tupG (by rfl) tx.z_tuple bt_tuple (L2.Q.pa_c (L2.Q.pv 2) L2.Q.pa_nil)) (L2.Q.pe_callTyN (rc := rTupOf K) call_tupG (by rfl) tx.z_tuple bt_tuple (L2.Q.pa_c (L2.Q.pv 3) L2.Q.pa_nil)) (L2.Q.pv 7))))))) ?_
    have big : (10 : Int) ^ (20 : Int).toNat = 10 ^ 20 := rfl
    have b12 : (10 : Int) ^ (12 : Int).toNat = 1000000000000 := by decide
    have b20 : (10 : Int) ^ 20 = 100000000000000000000 := by decide
    refine rd_start (σ := [some (.ref p), some (.int (kk : Int)), none, none, none, none, none, none]) rfl ?_
    repeat walk_at "go"
    intro l1 n1
    obtain ⟨H1, i1, s1, g1⟩ := nw _ n1; rw [i1]
    repeat walk_at "go"
    intro l2 n2
    obtain ⟨H2, i2, s2, g2⟩ := nw _ n2; rw [i2]
    repeat walk_at "go"
    refine ⟨_, _, rfl, ?_⟩
    have g12 := s2 _ _ g1
    have p1 : l1 ≠ p := hh.nnew n1
    have p2 : l2 ≠ p := (hh.same s1).nnew n2
    have l12 : l1 ≠ l2 := fun z => by rw [z] at g1; rw [g1] at n2; cases n2
    have nl2 : H l2 = none := s1.free n2
    repeat walk_at "go"
    refine ⟨by omega, by omega, ?_⟩
    refine rf_range (fun i σ' H' => ∃ (ons outs : List Int) (z4 z5 z6 : Option V), σ' = [some (.ref p), some (.int (kk : Int)), some (.ref l1), some (.ref l2), z4, z5, z6, none] ∧ H' l1 = some (.lst (ons.map V.int)) ∧ H' l2 = some (.lst (outs.map V.int)) ∧ ons.length = i ∧ outs.length = i ∧ (∀ (j : Nat) on out, ons[j]? = some on → outs[j]? = some out → (on = 0 ∧ out = 0) ∨ (on = 1 ∧ 0 ≤ out ∧ out < 10 ^ 20)) ∧ SameQ p H H' ∧ Keep p H H')
      ⟨[], [], _, _, _, rfl, g12, g2, rfl, rfl, (fun j on out h => by cases h), SameQ.of (fun o e => (s1.trans s2) _ _ e), (s1.trans s2).keep⟩ (fun i σ' H' hi ⟨ons, outs, z4, z5, z6, e, u1, u2, e1, e2, hst, q', k'⟩ => ?_) (fun σ' H' ⟨ons, outs, z4, z5, z6, e, u1, u2, e1, e2, hst, q', k'⟩ => ?_)
    · subst e
      have h' := hh.of k' q'
      repeat walk_at "go"
      refine ⟨p, _, rfl, h', by decide, by decide, fun on J1 a1 b1 h1 k1 q1 => ?_⟩
      repeat walk_at "go"
      refine ⟨p, _, rfl, h1, by decide, by decide, fun x2 J2 a2 b2 h2 k2 q2 => ?_⟩
      repeat walk_at "go"
      refine ⟨p, _, rfl, h2, by decide, fun x3 J3 a3 b3 h3 k3 q3 => ?_⟩
      repeat walk_at "go"
      intro l4 n4
      obtain ⟨J4, j4, t4, u4⟩ := nw _ n4; rw [j4]
      have p4 : l4 ≠ p := h3.nnew n4
      repeat walk_at "go"
      refine ⟨p, _, rfl, h3.same t4, by decide, by decide, fun r J5 a5 b5 h5 k5 q5 => ?_⟩
      have u45 := k5 _ _ u4 p4
      obtain ⟨out, eo, o0, o1⟩ : ∃ out : Int, atI [V.int 0, .int x2, .int x3, .int (10 ^ (20 : Int).toNat - 1)] r = some (.int out) ∧ 0 ≤ out ∧ out < 10 ^ 20 := by
        have h4 : r = 0 ∨ r = 1 ∨ r = 2 ∨ r = 3 := by omega
        rcases h4 with rfl | rfl | rfl | rfl
        · exact ⟨_, rfl, by decide, by decide⟩
        · exact ⟨_, rfl, a2, by omega⟩
        · exact ⟨_, rfl, a3, by omega⟩
        · exact ⟨_, rfl, by decide, by decide⟩
      have KJ : Keep p H' J5 := k1.trans (k2.trans (k3.trans (t4.keep.trans k5)))
      have QJ : SameQ p H' J5 := q1.trans (q2.trans (q3.trans ((SameQ.of fun o e => t4 _ _ e).trans q5)))
      have v1 := KJ _ _ u1 p1
      have v2 := KJ _ _ u2 p2
      repeat walk_at "go"
      refine rd_tyL (SqL.of v1) ?_
      repeat walk_at "go"
      refine rd_app (xs := ons.map V.int) v1 (Nat.lt_of_lt_of_le (by rw [List.length_map]; omega : (ons.map V.int).length < 2000) (sz_le (by simp))) ?_
      obtain ⟨J6, j6, k6, w6⟩ := wr J5 l1 _; rw [j6]
      have v26 := k6 _ _ v2 (Ne.symm l12)
      repeat walk_at "go"
      refine rd_tyL (SqL.of v26) ?_
      repeat walk_at "go"
      refine rd_app (xs := outs.map V.int) v26 (Nat.lt_of_lt_of_le (by rw [List.length_map]; omega : (outs.map V.int).length < 2000) (sz_le (by simp))) ?_
      obtain ⟨J7, j7, k7, w7⟩ := wr J6 l2 _; rw [j7]
      repeat walk_at "go"
      refine ⟨ons ++ [on], outs ++ [on * out], _, _, _, rfl, by rw [k7 _ _ w6 l12, List.map_append]; rfl, by rw [w7, List.map_append]; rfl, by rw [List.length_append, e1]; rfl, by rw [List.length_append, e2]; rfl, fun j o1' o2' h1' h2' => ?_, (q'.trans QJ).trans (SameQ.of fun o e => k7 _ _ (k6 _ _ e (Ne.symm p1)) (Ne.symm p2)), fun b o e nb => k7 _ _ (k6 _ _ (KJ _ _ (k' _ _ e nb) nb) (ne_none n1 e)) (ne_none nl2 e)⟩
      by_cases hj : j < i
      · rw [List.getElem?_append_left (by omega)] at h1' h2'
        exact hst j o1' o2' h1' h2'
      · have hj2 : j < (ons ++ [on]).length := (List.getElem?_eq_some_iff.mp h1').1
        rw [List.length_append, List.length_singleton] at hj2
        have ej : j = i := by omega
        subst ej
        rw [List.getElem?_append_right (by omega), e1, Nat.sub_self] at h1'
        rw [List.getElem?_append_right (by omega), e2, Nat.sub_self] at h2'
        cases h1'
        cases h2'
        have : on = 0 ∨ on = 1 := by omega
        rcases this with rfl | rfl
        · exact .inl ⟨rfl, Int.zero_mul _⟩
        · rw [Int.one_mul]; exact .inr ⟨rfl, o0, o1⟩
    · subst e
      have h' := hh.of k' q'
      repeat walk_at "go"
      refine ⟨p, _, rfl, h', by decide, by decide, fun x1 J1 a1 b1 h1 k1 q1 => ?_⟩
      repeat walk_at "go"
      refine ⟨p, _, rfl, h1, by decide, by decide, fun x2 J2 a2 b2 h2 k2 q2 => ?_⟩
      repeat walk_at "go"
      refine ⟨p, _, rfl, h2, by decide, fun x3 J3 a3 b3 h3 k3 q3 => ?_⟩
      repeat walk_at "go"
      intro l4 n4
      obtain ⟨J4, j4, t4, u4⟩ := nw _ n4; rw [j4]
      have p4 : l4 ≠ p := h3.nnew n4
      repeat walk_at "go"
      refine ⟨p, _, rfl, h3.same t4, by decide, by decide, fun r J5 a5 b5 h5 k5 q5 => ?_⟩
      have u45 := k5 _ _ u4 p4
      obtain ⟨lv, eo, o0, o1⟩ : ∃ out : Int, atI [V.int x1, .int x2, .int x3, .int (10 ^ (20 : Int).toNat - 1)] r = some (.int out) ∧ 0 ≤ out ∧ out < 10 ^ 20 := by
        have h4 : r = 0 ∨ r = 1 ∨ r = 2 ∨ r = 3 := by omega
        rcases h4 with rfl | rfl | rfl | rfl
        · exact ⟨_, rfl, a1, by omega⟩
        · exact ⟨_, rfl, a2, by omega⟩
        · exact ⟨_, rfl, a3, b3⟩
        · exact ⟨_, rfl, by decide, by decide⟩
      have KJ : Keep p H' J5 := k1.trans (k2.trans (k3.trans (t4.keep.trans k5)))
      have v1 := KJ _ _ u1 p1
      have v2 := KJ _ _ u2 p2
      repeat walk_at "go"
      refine rd_tupL (SqL.of v1) ?_
      intro t1 nt1
      obtain ⟨J7, j7, s7, g7⟩ := nw _ nt1; rw [j7]
      repeat walk_at "go"
      refine rd_tupL (SqL.of (s7 _ _ v2)) ?_
      intro t2 nt2
      obtain ⟨J8, j8, s8, g8⟩ := nw _ nt2; rw [j8]
      repeat walk_at "go"
      intro a9 n9
      obtain ⟨J9, j9, s9, g9⟩ := nw _ n9; rw [j9]
      repeat walk_at "go"
      have S9 := s7.trans (s8.trans s9)
      exact k a9 ⟨ons, outs, lv⟩ J9 (h5.same S9) (k'.trans (KJ.trans S9.keep)) ⟨t1, t2, g9, (s8.trans s9) _ _ g7, s9 _ _ g8⟩ ⟨e1, e2, hst, o0, o1⟩
def SmV (H : Hp) : Nat → V → V → Prop
  | 0, _, _ => False
  | j + 1, x, y => (∃ i, x = .int i ∧ y = .int i) ∨ (∃ b, x = .bl b ∧ y = .bl b) ∨ (x = .non ∧ y = .non) ∨ (∃ s, x = .str s ∧ y = .str s) ∨
    ∃ (p q : Addr) (xs ys : List V), x = .ref p ∧ y = .ref q ∧ ((H p = some (.tup xs) ∧ H q = some (.tup ys)) ∨ (H p = some (.lst xs) ∧ H q = some (.lst ys))) ∧ xs.length = ys.length ∧ ys.length ≤ 1000000 ∧ ∀ (i : Nat) u v, xs[i]? = some u → ys[i]? = some v → SmV H j u v
theorem SmV.same {H H' : Hp} (s : Same H H') : ∀ {j : Nat} {x y : V}, SmV H j x y → SmV H' j x y
  | 0, _, _, h => h
  | j + 1, x, y, h => by
    rcases h with h | h | h | h | ⟨p, q, xs, ys, e1, e2, e3, e4, e5, e6⟩
    · exact .inl h
    · exact .inr (.inl h)
    · exact .inr (.inr (.inl h))
    · exact .inr (.inr (.inr (.inl h)))
    · refine .inr (.inr (.inr (.inr ⟨p, q, xs, ys, e1, e2, ?_, e4, e5, fun i u v hu hv => SmV.same s (e6 i u v hu hv)⟩)))
      rcases e3 with ⟨a, b⟩ | ⟨a, b⟩
      · exact .inl ⟨s _ _ a, s _ _ b⟩
      · exact .inr ⟨s _ _ a, s _ _ b⟩
theorem SmV.int {H : Hp} {j : Nat} (i : Int) : SmV H (j + 1) (.int i) (.int i) := .inl ⟨i, rfl, rfl⟩
theorem SmV.pair {H : Hp} {j : Nat} {p q : Addr} {x y : Int} (h1 : H p = some (.tup [.int x, .int y])) (h2 : H q = some (.tup [.int x, .int y])) : SmV H (j + 2) (.ref p) (.ref q) := by
  refine .inr (.inr (.inr (.inr ⟨p, q, _, _, rfl, rfl, .inl ⟨h1, h2⟩, rfl, by simp, fun i u v hu hv => ?_⟩)))
  rw [hu] at hv
  cases hv
  match i, hu with
  | 0, hu => cases hu; exact SmV.int x
  | 1, hu => cases hu; exact SmV.int y
  | _ + 2, hu => simp at hu
def sp__law_same (K : PySem.W.Frag) (j : Nat) : Sp := fun vs H Q _ => ∃ (x y : V), vs = [x, y] ∧ SmV H j x y ∧ ∀ H', Same H H' → Q (.bl true) H'
theorem zero__law_same {K : PySem.W.Frag} {vs : List V} {H : Hp} {Q : VK} {E : XK} (h : sp__law_same K 0 vs H Q E) : False := by
  obtain ⟨_, _, _, h, _⟩ := h
  exact h
set_option maxHeartbeats 40000000 in
theorem ok__law_same {P : Program} {w : World} {K : PySem.W.Frag} {mg : Str → Option Value} {base : Heap} {a : Adr} (tx : Txt K mg a) : (j : Nat) → FnOk P w K mg base CX0 (j + 1) a.f__law_same a.d__law_same ["_law_one", "_law_due"] (sp__law_same K j)
  | 0 => ⟨fun vs H Q E h => (zero__law_same h).elim, fun A outer s H args us vs Q E _ _ _ _ h => (zero__law_same h).elim⟩
  | j + 1 => by
    have G__law_same := ok__law_same (P := P) (w := w) (base := base) tx j
    refine tx.F__law_same.ok sc__law_same (fun vs H Q E h => ?_) (fun cdv A outer s H vs Q E hr h => ?_)
    · obtain ⟨x, y, rfl, _⟩ := h
      rfl
    · obtain ⟨x, y, rfl , hs, k⟩ := h
      have hu := hu9 hr
      refine L2.Q.root (L2.Q.pss_cons (L2.Q.ps_if (L2.Q.pt_val (L2.Q.pe_callBN (rc := rIsiT K) call_isiT (by rfl) tx.z_isinstance bt_isinstance (L2.Q.pa_c (L2.Q.pv 1) (L2.Q.pa_c (L2.Q.tup2 (L2.Q.pe_bltn (v := .ty "list") (by rfl) tx.z_list bt_list rfl) (L2.Q.pe_bltn (v := .ty "tuple") (by rfl) tx.z_tuple bt_tuple rfl)) L2.Q.pa_nil)))) (L2.Q.pss_cons (L2.Q.ps_if (L2.Q.pw_pt (L2.Q.pw_or (L2.Q.pt_cmpR (r := rNeG K) (op_neG hu) (L2.Q.pe_callBN (rc := rIsi K) call_isiG (by rfl) tx.z_isinstance bt_isinstance (L2.Q.pa_c (L2.Q.pv 0) (L2.Q.pa_c (L2.Q.pe_bltn (v := .ty "list") (by rfl) tx.z_list bt_list rfl) L2.Q.pa_nil))) (L2.Q.pe_callBN (rc := rIsi K) call_isiG (by rfl) tx.z_isinstance bt_isinstance (L2.Q.pa_c (L2.Q.pv 1) (L2.Q.pa_c (L2.Q.pe_bltn (v := .ty "list") (by rfl) tx.z_list bt_list rfl) L2.Q.pa_nil))) (nomark _)) (L2.Q.pw_or1 (L2.Q.pt_cmpR (r := rNeG K) (op_neG hu) (L2.Q.pe_callBN (rc := rIsi K) call_isiG (by rfl) tx.z_isinstance bt_isinstance (L2.Q.pa_c (L2.Q.pv 0) (L2.Q.pa_c (L2.Q.pe_bltn (v := .ty "tuple") (by rfl) tx.z_tuple bt_tuple rfl) L2.Q.pa_nil))) (L2.Q.pe_callBN (rc := rIsi K) call_isiG (by rfl) tx.z_isinstance bt_isinstance (L2.Q.pa_c (L2.Q.pv 1) (L2.Q.pa_c (L2.Q.pe_bltn (v := .ty "tuple") (by rfl) tx.z_tuple bt_tuple rfl) L2.Q.pa_nil))) (nomark _))))) (L2.Q.pss_one (L2.Q.ps_ret L2.Q.pe_bl)) L2.Q.pss_nil)
        (L2.Q.pss_one (L2.Q.ps_ret (L2.Q.pe_and (L2.Q.pe_cmpR (r := rEqG K) (op_eqG hu) (L2.Q.pe_callBN (rc := rLen K) call_lenG (by rfl) tx.z_len bt_len (L2.Q.pa_c (L2.Q.pv 0) L2.Q.pa_nil)) (L2.Q.pe_callBN (rc := rLen K) call_lenG (by rfl) tx.z_len bt_len (L2.Q.pa_c (L2.Q.pv 1) L2.Q.pa_nil)) (nomark _)) (L2.Q.pe_one (L2.Q.pe_callBN (rc := rAll K) (call_allG rfl) (by rfl) tx.z_all bt_all (L2.Q.pa_c (L2.Q.pe_comp (k := 1) (idx := [1, 0]) (N := ["_law_k", "_law_due", "_law_one"]) (blk_sc (sc := defScope s__law_same) (NX := ["_law_one", "_law_due"]) rfl rfl rfl (by decide +kernel)) rfl (L2.Q.pi_range1N (by rfl) tx.z_range (L2.Q.pa_c (L2.Q.pe_callBN (rc := rLen K) call_lenG (by rfl) tx.z_len bt_len (L2.Q.pa_c (L2.Q.pv 1) L2.Q.pa_nil)) L2.Q.pa_nil)) (fun _ _ _ _ => (L2.Q.pg_name (i := 0) (show (["_law_k", "_law_due", "_law_one"] : List Str).Nodup by decide +kernel) rfl (Or.inl rfl))) (own_name (by decide)) (fun _ _ _ _ => L2.Q.pts_nil) (fun _ _ _ _ => (L2.Q.pe_callN (G__law_same) (hr.mono (by omega)) (by rfl) tx.g__law_same tx.F__law_same.kp tx.b__law_same .nil pass0 (L2.Q.pa_c (L2.Q.pe_ixK (K' := K) (L2.Q.pv 2) (L2.Q.pv 0) (fun _ _ => rfl)) (L2.Q.pa_c (L2.Q.pe_ixK (K' := K) (L2.Q.pv 1) (L2.Q.pv 0) (fun _ _ => rfl)) L2.Q.pa_nil))))) L2.Q.pa_nil))))))) L2.Q.pss_nil)
        (L2.Q.pss_cons (L2.Q.ps_if (L2.Q.pw_pt (L2.Q.pw_or (L2.Q.pt_val (L2.Q.pe_callBN (rc := rIsi K) call_isiG (by rfl) tx.z_isinstance bt_isinstance (L2.Q.pa_c (L2.Q.pv 0) (L2.Q.pa_c (L2.Q.pe_bltn (v := .ty "bool") (by rfl) tx.z_bool bt_bool rfl) L2.Q.pa_nil)))) (L2.Q.pw_or1 (L2.Q.pt_val (L2.Q.pe_callBN (rc := rIsi K) call_isiG (by rfl) tx.z_isinstance bt_isinstance (L2.Q.pa_c (L2.Q.pv 1) (L2.Q.pa_c (L2.Q.pe_bltn (v := .ty "bool") (by rfl) tx.z_bool bt_bool rfl) L2.Q.pa_nil))))))) (L2.Q.pss_one (L2.Q.ps_ret (L2.Q.pe_and (L2.Q.pe_callBN (rc := rIsi K) call_isiG (by rfl) tx.z_isinstance bt_isinstance (L2.Q.pa_c (L2.Q.pv 0) (L2.Q.pa_c (L2.Q.pe_bltn (v := .ty "bool") (by rfl) tx.z_bool bt_bool rfl) L2.Q.pa_nil))) (L2.Q.pe_and (L2.Q.pe_callBN (rc := rIsi K) call_isiG (by rfl) tx.z_isinstance bt_isinstance (L2.Q.pa_c (L2.Q.pv 1) (L2.Q.pa_c (L2.Q.pe_bltn (v := .ty "bool") (by rfl) tx.z_bool bt_bool rfl) L2.Q.pa_nil))) (L2.Q.pe_one (L2.Q.pe_cmpR (r := rEqG K) (op_eqG hu) (L2.Q.pv 0) (L2.Q.pv 1) (nomark _))))))) L2.Q.pss_nil)
        (L2.Q.pss_cons (L2.Q.ps_if (L2.Q.pt_val (L2.Q.pe_callBN (rc := rIsi K) call_isiG (by rfl) tx.z_isinstance bt_isinstance (L2.Q.pa_c (L2.Q.pv 1) (L2.Q.pa_c (L2.Q.pe_bltn (v := .ty "int") (by rfl) tx.z_int bt_int rfl) L2.Q.pa_nil)))) (L2.Q.pss_one (L2.Q.ps_ret (L2.Q.pe_and (L2.Q.pe_callBN (rc := rIsi K) call_isiG (by rfl) tx.z_isinstance bt_isinstance (L2.Q.pa_c (L2.Q.pv 0) (L2.Q.pa_c (L2.Q.pe_bltn (v := .ty "int") (by rfl) tx.z_int bt_int rfl) L2.Q.pa_nil))) (L2.Q.pe_one (L2.Q.pe_cmpR (r := rEqG K) (op_eqG hu) (L2.Q.pv 0) (L2.Q.pv 1) (nomark _)))))) L2.Q.pss_nil)
        (L2.Q.pss_cons (L2.Q.ps_if (L2.Q.pt_val (L2.Q.pe_callBN (rc := rIsi K) call_isiG (by rfl) tx.z_isinstance bt_isinstance (L2.Q.pa_c (L2.Q.pv 1) (L2.Q.pa_c (L2.Q.pe_bltn (v := .ty "str") (by rfl) tx.z_str bt_str rfl) L2.Q.pa_nil)))) (L2.Q.pss_one (L2.Q.ps_ret (L2.Q.pe_and (L2.Q.pe_callBN (rc := rIsi K) call_isiG (by rfl) tx.z_isinstance bt_isinstance (L2.Q.pa_c (L2.Q.pv 0) (L2.Q.pa_c (L2.Q.pe_bltn (v := .ty "str") (by rfl) tx.z_str bt_str rfl) L2.Q.pa_nil))) (L2.Q.pe_one (L2.Q.pe_cmpR (r := rEqG K) (op_eqG hu) (L2.Q.pv 0) (L2.Q.pv 1) (nomark _)))))) L2.Q.pss_nil)
        (L2.Q.pss_one (L2.Q.ps_ret (L2.Q.pe_and (L2.Q.pe_cmpR op_isG (L2.Q.pv 0) L2.Q.pe_non (nomark _)) (L2.Q.pe_one (L2.Q.pe_cmpR op_isG (L2.Q.pv 1) L2.Q.pe_non (nomark _)))))))))) ?_
      refine rd_start (σ := [some x, some y]) rfl ?_
      repeat walk_at "gs"
      intro T nT
      repeat walk_at "gs"
      rcases hs with ⟨i, rfl, rfl⟩ | ⟨b, rfl, rfl⟩ | ⟨rfl, rfl⟩ | ⟨z, rfl, rfl⟩ | ⟨p, q, xs, ys, rfl, rfl, e3, e4, e5, e6⟩
      · refine rd_isiT (Ts := ["list", "tuple"]) upd_same (.int i) rfl ?_
        repeat walk_at "gs"
        refine rd_isi (isi_bool (.int i)) ?_
        repeat walk_at "gs"
        refine rd_isi (isi_bool (.int i)) ?_
        repeat walk_at "gs"
        refine rd_isi (isi_int (.int i)) ?_
        repeat walk_at "gs"
        refine rd_isi (isi_int (.int i)) ?_
        repeat walk_at "gs"
        rw [decide_eq_true rfl]
        exact k _ (Same.new nT)
      · refine rd_isiT (Ts := ["list", "tuple"]) upd_same (.bl b) rfl ?_
        repeat walk_at "gs"
        refine rd_isi (isi_bool (.bl b)) ?_
        repeat walk_at "gs"
        refine rd_isi (isi_bool (.bl b)) ?_
        repeat walk_at "gs"
        refine rd_isi (isi_bool (.bl b)) ?_
        repeat walk_at "gs"
        rw [show eqV (.bl b) (.bl b) = true by cases b <;> rfl]
        exact k _ (Same.new nT)
      · refine rd_isiT (Ts := ["list", "tuple"]) upd_same .non rfl ?_
        repeat walk_at "gs"
        refine rd_isi (isi_bool .non) ?_
        repeat walk_at "gs"
        refine rd_isi (isi_bool .non) ?_
        repeat walk_at "gs"
        refine rd_isi (isi_int .non) ?_
        repeat walk_at "gs"
        refine rd_isi (isi_str .non) ?_
        repeat walk_at "gs"
        exact k _ (Same.new nT)
      · refine rd_isiT (Ts := ["list", "tuple"]) upd_same (.str z) rfl ?_
        repeat walk_at "gs"
        refine rd_isi (isi_bool (.str z)) ?_
        repeat walk_at "gs"
        refine rd_isi (isi_bool (.str z)) ?_
        repeat walk_at "gs"
        refine rd_isi (isi_int (.str z)) ?_
        repeat walk_at "gs"
        refine rd_isi (isi_str (.str z)) ?_
        repeat walk_at "gs"
        refine rd_isi (isi_str (.str z)) ?_
        repeat walk_at "gs"
        rw [show eqV (.str z) (.str z) = true from beq_self_eq_true z]
        exact k _ (Same.new nT)
      · have sT := Same.new (o := .tup [.ty "list", .ty "tuple"]) nT
        have hb : ∃ L : List V → Bool, True := ⟨fun _ => true, trivial⟩
        rcases e3 with ⟨a1, a2⟩ | ⟨a1, a2⟩
        · have c1 := sT _ _ a1
          have c2 := sT _ _ a2
          generalize hH1 : upd H T (.tup [.ty "list", .ty "tuple"]) = H1 at c1 c2 sT ⊢
          have eT : H1 T = some (.tup [.ty "list", .ty "tuple"]) := by rw [← hH1]; exact upd_same
          refine rd_isiT (Ts := ["list", "tuple"]) eT (.tup c2) rfl ?_
          repeat walk_at "gs"
          refine rd_isi (isi_list (.tup c1)) ?_
          repeat walk_at "gs"
          refine rd_isi (isi_list (.tup c2)) ?_
          repeat walk_at "gs"
          refine rd_isi (isi_tuple (.tup c1)) ?_
          repeat walk_at "gs"
          refine rd_isi (isi_tuple (.tup c2)) ?_
          repeat walk_at "gs"
          refine rd_dec (fun _ => ?_) (fun h => absurd (by rw [e4]) h)
          repeat walk_at "gs"
          refine ⟨by omega, by omega, ?_⟩
          refine comp_range (fun i zs H' => Same H1 H' ∧ zs.length = i ∧ ∀ z ∈ zs, z = .bl true) ⟨Same.refl _, rfl, fun z h => by simp at h⟩ (sz_le (by omega)) (fun i zs H' hi ⟨_, h, _⟩ => by omega) (fun i zs H' hi ⟨s1, h1, h2⟩ => ?_) (fun zs H' ⟨s1, h1, h2⟩ => ?_)
          · have hi2 : i < ys.length := by omega
            have hi1 : i < xs.length := by omega
            have g1 : atI xs (0 + (i : Int)) = some xs[i] := by rw [Int.zero_add]; exact atI_nat (List.getElem?_eq_getElem hi1)
            have g2 : atI ys (0 + (i : Int)) = some ys[i] := by rw [Int.zero_add]; exact atI_nat (List.getElem?_eq_getElem hi2)
            have d1 := s1 _ _ c1
            have d2 := s1 _ _ c2
            repeat walk_at "gs"
            refine ⟨_, _, rfl, SmV.same (sT.trans s1) (e6 i _ _ (List.getElem?_eq_getElem hi1) (List.getElem?_eq_getElem hi2)), fun H2 s2 => ?_⟩
            refine ⟨s1.trans s2, by rw [List.length_append, h1]; rfl, fun z hz => ?_⟩
            rcases List.mem_append.mp hz with h | h
            · exact h2 z h
            · exact List.mem_singleton.mp h
          · intro L nL
            repeat walk_at "gs"
            refine rd_allT (SqL.of upd_same) h2 ?_
            exact k _ ((sT.trans s1).trans (Same.new nL))
        · have c1 := sT _ _ a1
          have c2 := sT _ _ a2
          generalize hH1 : upd H T (.tup [.ty "list", .ty "tuple"]) = H1 at c1 c2 sT ⊢
          have eT : H1 T = some (.tup [.ty "list", .ty "tuple"]) := by rw [← hH1]; exact upd_same
          refine rd_isiT (Ts := ["list", "tuple"]) eT (.lst c2) rfl ?_
          repeat walk_at "gs"
          refine rd_isi (isi_list (.lst c1)) ?_
          repeat walk_at "gs"
          refine rd_isi (isi_list (.lst c2)) ?_
          repeat walk_at "gs"
          refine rd_isi (isi_tuple (.lst c1)) ?_
          repeat walk_at "gs"
          refine rd_isi (isi_tuple (.lst c2)) ?_
          repeat walk_at "gs"
          refine rd_dec (fun _ => ?_) (fun h => absurd (by rw [e4]) h)
          repeat walk_at "gs"
          refine ⟨by omega, by omega, ?_⟩
          refine comp_range (fun i zs H' => Same H1 H' ∧ zs.length = i ∧ ∀ z ∈ zs, z = .bl true) ⟨Same.refl _, rfl, fun z h => by simp at h⟩ (sz_le (by omega)) (fun i zs H' hi ⟨_, h, _⟩ => by omega) (fun i zs H' hi ⟨s1, h1, h2⟩ => ?_) (fun zs H' ⟨s1, h1, h2⟩ => ?_)
          · have hi2 : i < ys.length := by omega
            have hi1 : i < xs.length := by omega
            have g1 : atI xs (0 + (i : Int)) = some xs[i] := by rw [Int.zero_add]; exact atI_nat (List.getElem?_eq_getElem hi1)
            have g2 : atI ys (0 + (i : Int)) = some ys[i] := by rw [Int.zero_add]; exact atI_nat (List.getElem?_eq_getElem hi2)
            have d1 := s1 _ _ c1
            have d2 := s1 _ _ c2
            repeat walk_at "gs"
            refine ⟨_, _, rfl, SmV.same (sT.trans s1) (e6 i _ _ (List.getElem?_eq_getElem hi1) (List.getElem?_eq_getElem hi2)), fun H2 s2 => ?_⟩
            refine ⟨s1.trans s2, by rw [List.length_append, h1]; rfl, fun z hz => ?_⟩
            rcases List.mem_append.mp hz with h | h
            · exact h2 z h
            · exact List.mem_singleton.mp h
          · intro L nL
            repeat walk_at "gs"
            refine rd_allT (SqL.of upd_same) h2 ?_
            exact k _ ((sT.trans s1).trans (Same.new nL))
theorem keep_fresh {H H1 H2 : Hp} {p : Addr} (np : H p = none) (s : Same H H1) (k : Keep p H1 H2) : Same H H2 := fun b o e => k _ _ (s _ _ e) (ne_none np e)
theorem HrAt.keep {H H' : Hp} {a p : Addr} {h : Hr} (x : HrAt H a h) (hh : HandAt H p) (s : Keep p H H') : HrAt H' a h := by
  obtain ⟨xs, e⟩ := hh.isL
  have f : ∀ {b : Addr} {ys : List V}, H b = some (.tup ys) → H' b = some (.tup ys) := fun {b ys} g => s _ _ g fun z => by rw [z, e] at g; cases g
  obtain ⟨t1, t2, a, b, c⟩ := x
  exact ⟨t1, t2, f a, f b, f c⟩
theorem SmV.ints {H : Hp} {j : Nat} {p q : Addr} {ns : List Int} (h1 : H p = some (.tup (ns.map V.int))) (h2 : H q = some (.tup (ns.map V.int))) (hl : ns.length ≤ 1000) : SmV H (j + 2) (.ref p) (.ref q) := by
  refine .inr (.inr (.inr (.inr ⟨p, q, _, _, rfl, rfl, .inl ⟨h1, h2⟩, rfl, by rw [List.length_map]; omega, fun i u v hu hv => ?_⟩)))
  rw [hu] at hv
  cases hv
  obtain ⟨n, _, rfl⟩ := int_get hu
  exact SmV.int n
theorem SmV.hour {H : Hp} {j k : Nat} {p q : Addr} {h : Hr} (h1 : HrAt H p h) (h2 : HrAt H q h) (g : HrOk k h) (hk : k ≤ 10) : SmV H (j + 3) (.ref p) (.ref q) := by
  obtain ⟨t1, t2, a1, b1, c1⟩ := h1
  obtain ⟨u1, u2, a2, b2, c2⟩ := h2
  have l1 := g.l1
  have l2 := g.l2
  refine .inr (.inr (.inr (.inr ⟨p, q, _, _, rfl, rfl, .inl ⟨a1, a2⟩, rfl, by simp, fun i u v hu hv => ?_⟩)))
  match i, hu, hv with
  | 0, hu, hv => cases hu; cases hv; exact SmV.ints b1 b2 (by omega)
  | 1, hu, hv => cases hu; cases hv; exact SmV.ints c1 c2 (by omega)
  | 2, hu, hv => cases hu; cases hv; exact SmV.int _
  | _ + 3, hu, _ => simp at hu
theorem SmV.plan {H : Hp} {j k : Nat} {p q : Addr} {as bs : List Addr} {hs : List Hr} (h1 : H p = some (.lst (as.map V.ref))) (h2 : H q = some (.lst (bs.map V.ref))) (r1 : RL (HrAt H) as hs) (r2 : RL (HrAt H) bs hs) (g : ∀ h ∈ hs, HrOk k h) (hk : k ≤ 10) (hz : hs.length ≤ 100) : SmV H (j + 4) (.ref p) (.ref q) := by
  have l1 := r1.len
  have l2 := r2.len
  refine .inr (.inr (.inr (.inr ⟨p, q, _, _, rfl, rfl, .inr ⟨h1, h2⟩, by rw [List.length_map, List.length_map]; omega, by rw [List.length_map]; omega, fun i u v hu hv => ?_⟩)))
  obtain ⟨a1, x1, e1, rfl, ex1, z1⟩ := r1.get hu
  obtain ⟨a2, x2, e2, rfl, ex2, z2⟩ := r2.get hv
  rw [ex1] at ex2
  cases ex2
  exact SmV.hour z1 z2 (g _ (List.mem_of_getElem? ex1)) hk
def sp__law_any_plan (K : PySem.W.Frag) : Sp := fun vs H Q _ => ∃ (p : Addr) (m : Int), vs = [.ref p, .int m] ∧ HandAt H p ∧ 0 ≤ m ∧ m ≤ 10 ∧ ∀ (l : Addr) (as : List Addr) (hs : List Hr) (kk : Nat) H', HandAt H' p → Keep p H H' → H' l = some (.lst (as.map V.ref)) → RL (HrAt H') as hs → (∀ h ∈ hs, HrOk kk h) → kk ≤ 10 → hs.length ≤ 60 → Q (.ref l) H'
set_option maxHeartbeats 40000000 in
theorem ok__law_any_plan {P : Program} {w : World} {K : PySem.W.Frag} {mg : Str → Option Value} {base : Heap} {a : Adr} (tx : Txt K mg a) : FnOk P w K mg base CX0 4 a.f__law_any_plan a.d__law_any_plan ["_law_hand", "_law_most"] (sp__law_any_plan K) := by
  have G__law_any_hour := ok__law_any_hour (P := P) (w := w) (base := base) tx
  have G__law_draw := ok__law_draw (P := P) (w := w) (base := base) tx
  refine tx.F__law_any_plan.ok sc__law_any_plan (fun vs H Q E h => ?_) (fun cdv A outer s H vs Q E hr h => ?_)
  · obtain ⟨p, m, rfl, _⟩ := h
    rfl
  · obtain ⟨p, m, rfl , hh, m0, m1, k⟩ := h
    have hu := hu9 hr
    refine L2.Q.root (L2.Q.pss_cons (L2.Q.ps_set (i := 2) sc__law_any_plan.nd rfl (Or.inr rfl) (L2.Q.pe_callN (G__law_draw) (hr.mono (by decide)) (by rfl) tx.g__law_draw tx.F__law_draw.kp tx.b__law_draw .nil pass0 (L2.Q.pa_c (L2.Q.pv 0) (L2.Q.pa_c L2.Q.pe_int L2.Q.pa_nil))))
      (L2.Q.pss_cons (L2.Q.ps_set (i := 3) sc__law_any_plan.nd rfl (Or.inl rfl) (L2.Q.pe_ixK (K' := K) (L2.Q.lst2 (L2.Q.pe_callN (G__law_draw) (hr.mono (by decide)) (by rfl) tx.g__law_draw tx.F__law_draw.kp tx.b__law_draw .nil pass0 (L2.Q.pa_c (L2.Q.pv 0) (L2.Q.pa_c (L2.Q.pe_op op_addG (L2.Q.pv 1) L2.Q.pe_int) L2.Q.pa_nil))) L2.Q.pe_int) (L2.Q.pe_op op_fdiv (L2.Q.pe_callN (G__law_draw) (hr.mono (by decide)) (by rfl) tx.g__law_draw tx.F__law_draw.kp tx.b__law_draw .nil pass0 (L2.Q.pa_c (L2.Q.pv 0) (L2.Q.pa_c L2.Q.pe_int L2.Q.pa_nil))) L2.Q.pe_int) (fun _ _ => rfl)))
      (L2.Q.pss_one (L2.Q.ps_ret (L2.Q.pe_comp (k := 1) (idx := [0, 2]) (N := ["_law_hour", "_law_hand", "_law_machines"]) (blk_sc (sc := defScope s__law_any_plan) (NX := ["_law_hand", "_law_most", "_law_machines", "_law_hours"]) rfl rfl rfl (by decide +kernel)) rfl (L2.Q.pi_range1N (by rfl) tx.z_range (L2.Q.pa_c (L2.Q.pv 3) L2.Q.pa_nil)) (fun _ _ _ _ => (L2.Q.pg_name (i := 0) (show (["_law_hour", "_law_hand", "_law_machines"] : List Str).Nodup by decide +kernel) rfl (Or.inl rfl))) (own_name (by decide)) (fun _ _ _ _ => L2.Q.pts_nil) (fun _ _ _ _ => (L2.Q.pe_callN (G__law_any_hour) (hr.mono (by decide)) (by rfl) tx.g__law_any_hour tx.F__law_any_hour.kp tx.b__law_any_hour .nil pass0 (L2.Q.pa_c (L2.Q.pv 1) (L2.Q.pa_c (L2.Q.pv 2) L2.Q.pa_nil))))))))) ?_
    refine rd_start (σ := [some (.ref p), some (.int m), none, none]) rfl ?_
    repeat walk_at "go"
    refine ⟨p, _, rfl, hh, by decide, by decide, fun x1 J1 a1 b1 h1 k1 q1 => ?_⟩
    repeat walk_at "go"
    refine ⟨p, _, rfl, h1, by omega, by omega, fun x2 J2 a2 b2 h2 k2 q2 => ?_⟩
    repeat walk_at "go"
    intro l3 n3
    obtain ⟨J3, j3, s3, g3⟩ := nw _ n3; rw [j3]
    have p3 : l3 ≠ p := h2.nnew n3
    repeat walk_at "go"
    refine ⟨p, _, rfl, h2.same s3, by decide, by decide, fun r J4 a4 b4 h4 k4 q4 => ?_⟩
    have g34 := k4 _ _ g3 p3
    obtain ⟨n, eo, o0, o1⟩ : ∃ n : Int, atI [V.int x2, .int 48] (r / 7) = some (.int n) ∧ 0 ≤ n ∧ n ≤ 48 := by
      have h4 : r / 7 = 0 ∨ r / 7 = 1 := by omega
      rcases h4 with e | e <;> rw [e]
      · exact ⟨_, rfl, a2, by omega⟩
      · exact ⟨_, rfl, by decide, by decide⟩
    obtain ⟨kk, rfl⟩ := Int.eq_ofNat_of_zero_le a1
    have KJ : Keep p H J4 := k1.trans (k2.trans (s3.keep.trans k4))
    repeat walk_at "go"
    refine ⟨by omega, by omega, ?_⟩
    refine comp_range (fun i us H' => ∃ (as : List Addr) (hs : List Hr), us = as.map V.ref ∧ RL (HrAt H') as hs ∧ hs.length = i ∧ (∀ h ∈ hs, HrOk kk h) ∧ HandAt H' p ∧ Keep p J4 H') ⟨[], [], rfl, RL.nil, rfl, (fun h z => by cases z), h4, fun _ _ e _ => e⟩ (sz_le (by omega)) (fun i us H' hi ⟨as, hs, e, rl, el, _⟩ => by rw [e, List.length_map, rl.len]; omega) (fun i us H' hi ⟨as, hs, e, rl, el, ho, h', k'⟩ => ?_) (fun us H' ⟨as, hs, e, rl, el, ho, h', k'⟩ => ?_)
    · subst e
      repeat walk_at "go"
      refine ⟨p, kk, rfl, h', by omega, fun a1 hr H5 h5 k5 hA hO => ?_⟩
      refine ⟨as ++ [a1], hs ++ [hr], by rw [List.map_append]; rfl, RL.snoc (rl.imp fun b x z => z.keep h' k5) hA, by rw [List.length_append, el]; rfl, fun h hz => ?_, h5, k'.trans k5⟩
      rcases List.mem_append.mp hz with z | z
      · exact ho h z
      · rw [List.mem_singleton.mp z]; exact hO
    · subst e
      intro l nl
      obtain ⟨H5, i5, s5, g5⟩ := nw _ nl; rw [i5]
      repeat walk_at "go"
      exact k l as hs kk H5 (h'.same s5) (KJ.trans (k'.trans s5.keep)) g5 (rl.imp fun b x z => z.same s5) ho (by omega) (by omega)
abbrev Pl (w : Str) : Prop := w.cps.all (· < 128) = true
theorem Pl.mem {w : Str} (h : Pl w) : ∀ c ∈ w.cps.toList, c < 128 := fun c hc => by
  have h' : w.cps.toList.all (· < 128) = true := by rw [Array.all_toList]; exact h
  exact of_decide_eq_true (List.all_eq_true.mp h' c hc)
theorem Pl.of {w : Str} (h : ∀ c ∈ w.cps.toList, c < 128) : Pl w := by
  show w.cps.all (· < 128) = true
  rw [← Array.all_toList, List.all_eq_true]
  exact fun c hc => decide_eq_true (h c hc)
structure Ln (n : Nat) (w : Str) : Prop where
  pl : Pl w
  sz : w.length ≤ n
theorem Pl.app {a b : Str} (h1 : Pl a) (h2 : Pl b) : Pl (a ++ b) := Pl.of fun c hc => by
  rw [Str.cps_append, Array.toList_append] at hc
  exact (List.mem_append.mp hc).elim (h1.mem c) (h2.mem c)
theorem Ln.app {n m : Nat} {a b : Str} (h1 : Ln n a) (h2 : Ln m b) : Ln (n + m) (a ++ b) := ⟨h1.pl.app h2.pl, by rw [Str.length_append]; have := h1.sz; have := h2.sz; omega⟩
theorem Ln.le {n m : Nat} {a : Str} (h : Ln n a) (hm : n ≤ m) : Ln m a := ⟨h.pl, Nat.le_trans h.sz hm⟩
theorem slice_mem {x : Str} {l u : Option Int} : ∀ c ∈ (StrLaws.sliceText x l u).cps.toList, c ∈ x.cps.toList := fun c hc => by
  unfold StrLaws.sliceText at hc
  split at hc
  · exact hc
  · have hc' : c ∈ (Builtin.Str.strSliceIndices l u 1 x.length).filterMap (x.cps[·]?) := by simpa using hc
    obtain ⟨i, _, hi⟩ := List.mem_filterMap.mp hc'
    exact List.mem_of_getElem? (by rw [Array.getElem?_toList]; exact hi)
theorem join_mem {y : Str} : ∀ {ws : List Str} {w : Str}, w ∈ ws → (∀ c ∈ w.cps.toList, c ∈ (Str.join y ws).cps.toList) ∧ w.length ≤ (Str.join y ws).length
  | [x], w, h => by
    rw [List.mem_singleton.mp h]
    exact ⟨fun c hc => hc, Nat.le_refl _⟩
  | x :: z :: r, w, h => by
    show (∀ c ∈ w.cps.toList, c ∈ (x ++ y ++ Str.join y (z :: r)).cps.toList) ∧ w.length ≤ (x ++ y ++ Str.join y (z :: r)).length
    rw [Str.cps_append, Str.cps_append, Array.toList_append, Array.toList_append, Str.length_append, Str.length_append]
    rcases List.mem_cons.mp h with rfl | h
    · exact ⟨fun c hc => List.mem_append_left _ (List.mem_append_left _ hc), by omega⟩
    · obtain ⟨a, b⟩ := join_mem (y := y) h
      exact ⟨fun c hc => List.mem_append_right _ (a c hc), by omega⟩
theorem split_ln {n : Nat} {x y : Str} (h : Ln n x) : ∀ w ∈ Txt.split x y, Ln n w := fun w hw => by
  obtain ⟨a, b⟩ := join_mem (y := y) hw
  rw [StrLaws.join_split] at a b
  exact ⟨Pl.of fun c hc => h.pl.mem c (a c hc), Nat.le_trans b h.sz⟩
theorem join_pl {y : Str} (hy : Pl y) : ∀ {ws : List Str}, (∀ w ∈ ws, Pl w) → Pl (Str.join y ws)
  | [], _ => Pl.of fun c hc => nomatch (show c ∈ ([] : List Nat) from hc)
  | [x], h => h x (.head _)
  | x :: z :: r, h => ((h x (.head _)).app hy).app (join_pl hy fun w hw => h w (.tail _ hw))
def dg (c : Nat) : Bool := decide (48 ≤ c) && decide (c ≤ 57)
def okN (w : Str) : Bool := decide (0 < w.length) && decide (w.length ≤ 20) && w.cps.toList.all dg && !(decide (1 < w.length) && (w.cps.toList.head? == some 48))
def numP (w : Str) : Option Int := if okN w = true then PySem.intText? w else none
theorem okN_iff {w : Str} : okN w = true ↔ 0 < w.length ∧ w.length ≤ 20 ∧ w.cps.toList.all dg = true ∧ ¬ (1 < w.length ∧ w.cps.toList.head? = some 48) := by
  unfold okN
  simp only [Bool.and_eq_true, decide_eq_true_eq, Bool.not_eq_true', Bool.and_eq_false_iff, decide_eq_false_iff_not, beq_eq_false_iff_ne, and_assoc]
  constructor
  · rintro ⟨a, b, c, d⟩
    exact ⟨a, b, c, fun z => d.elim (fun q => q z.1) fun q => q z.2⟩
  · rintro ⟨a, b, c, d⟩
    refine ⟨a, b, c, ?_⟩
    by_cases z : 1 < w.length
    · exact .inr fun q => d ⟨z, q⟩
    · exact .inl z
theorem numP_ok {w : Str} (h : okN w = true) : ∃ n, PySem.intText? w = some n ∧ numP w = some n := by
  obtain ⟨a, b, c, d⟩ := okN_iff.mp h
  have hd : ∀ x ∈ w.cps.toList, 48 ≤ x ∧ x ≤ 57 := fun x hx => by
    have := List.all_eq_true.mp c x hx
    unfold dg at this
    simpa using this
  have hne : w.cps.toList ≠ [] := fun e => by
    have : w.cps.toList.length = w.length := Array.length_toList
    rw [e] at this
    exact absurd this (by rw [List.length_nil]; omega)
  have e := PySem.intText_digits (x := w) hd hne (by omega)
  exact ⟨_, e, by unfold numP; rw [if_pos h, e]⟩
theorem numP_no {w : Str} (h : ¬ okN w = true) : numP w = none := by unfold numP; rw [if_neg h]
theorem dig_inB (c : Nat) (h : c < 128) : (!(Builtin.Str.occurrences (Str.ofString "0123456789") ⟨#[c]⟩ 0 (Str.ofString "0123456789").length 1).isEmpty) = dg c := by
  have q : ∀ i : Fin 128, (!(Builtin.Str.occurrences (Str.ofString "0123456789") ⟨#[i.val]⟩ 0 (Str.ofString "0123456789").length 1).isEmpty) = dg i.val := by decide +kernel
  exact q ⟨c, h⟩
def lvlP (w : Str) : Option Int := if Txt.startswith w (Str.ofString "@") = true then numP (StrLaws.sliceText w (some 1) none) else none
theorem slice_ln {n : Nat} {x : Str} {l u : Option Int} (h : Ln n x) (hz : (StrLaws.sliceText x l u).length ≤ n) : Ln n (StrLaws.sliceText x l u) := ⟨Pl.of fun c hc => h.pl.mem c (slice_mem c hc), hz⟩
theorem starts_cons {w : Str} (h : Txt.startswith w (Str.ofString "@") = true) : ∃ r, w.cps.toList = 64 :: r := by
  unfold Txt.startswith at h
  rw [Bool.and_eq_true, decide_eq_true_eq, StrLaws.subAt_eq] at h
  obtain ⟨h1, h2⟩ := h
  have e1 : (Str.ofString "@").cps.toList = [64] := by decide
  have e2 : (Str.ofString "@").length = 1 := by decide
  rw [e1, e2, List.drop_zero] at h2
  have h3 := beq_iff_eq.mp h2
  cases e : w.cps.toList with
  | nil => rw [e] at h3; cases h3
  | cons c r =>
    rw [e] at h3
    have : c = 64 := by simpa using h3
    exact ⟨r, by rw [this]⟩
theorem slice1_len {w : Str} (h : 1 ≤ w.length) : (StrLaws.sliceText w (some 1) none).length ≤ w.length := by
  have e : w.cps.toList.length = w.length := Array.length_toList
  rw [StrLaws.sliceText_from ⟨by decide, by rw [e]; omega⟩]
  show (List.toArray _).size ≤ _
  rw [List.size_toArray, List.length_take, List.length_drop, e]
  omega
def outP (w : Str) : Option Int := if w = Str.ofString "-" then some 0 else numP w
def onP (w : Str) : Int := if w = Str.ofString "-" then 0 else 1
def allP {α β : Type} (f : α → Option β) : List α → Option (List β)
  | [] => some []
  | x :: r => match f x, allP f r with
    | some y, some ys => some (y :: ys)
    | _, _ => none
theorem allP_snoc {α β : Type} {f : α → Option β} : ∀ {xs : List α} {ys : List β} {x : α} {y : β}, allP f xs = some ys → f x = some y → allP f (xs ++ [x]) = some (ys ++ [y])
  | [], ys, x, y, h, hy => by cases h; show (match f x, some [] with | some y, some ys => some (y :: ys) | _, _ => none) = _; rw [hy]; rfl
  | z :: r, ys, x, y, h, hy => by
    unfold allP at h
    cases e1 : f z with
    | none => rw [e1] at h; cases h
    | some u =>
      cases e2 : allP f r with
      | none => rw [e1, e2] at h; cases h
      | some us =>
        rw [e1, e2] at h
        cases h
        have ih := allP_snoc e2 hy
        show allP f (z :: (r ++ [x])) = _
        unfold allP
        rw [e1, ih]
        rfl
theorem allP_none {α β : Type} {f : α → Option β} : ∀ {xs : List α} {x : α}, x ∈ xs → f x = none → allP f xs = none
  | z :: r, x, h, hx => by
    unfold allP
    rcases List.mem_cons.mp h with rfl | h
    · rw [hx]
    · rw [allP_none h hx]
      cases f z <;> rfl
theorem allP_len {α β : Type} {f : α → Option β} : ∀ {xs : List α} {ys : List β}, allP f xs = some ys → ys.length = xs.length
  | [], ys, h => by cases h; rfl
  | z :: r, ys, h => by
    unfold allP at h
    cases e1 : f z with
    | none => rw [e1] at h; cases h
    | some u =>
      cases e2 : allP f r with
      | none => rw [e1, e2] at h; cases h
      | some us =>
        rw [e1, e2] at h
        cases h
        rw [List.length_cons, List.length_cons, allP_len e2]
def wsP (p : Str) : List Str := Txt.split p (Str.ofString " ")
theorem wsP_ne (p : Str) : wsP p ≠ [] := fun e => by
  have := PyProof.Rows.split_pos p (Str.ofString " ")
  unfold wsP at e
  rw [e] at this
  exact absurd this (by decide)
def lastW (p : Str) : Str := (wsP p).getLast (wsP_ne p)
def hourP (p : Str) : Option Hr := match lvlP (lastW p), allP outP (wsP p).dropLast with
  | some l, some os => some ⟨(wsP p).dropLast.map onP, os, l⟩
  | _, _ => none
def evenP (hs : List Hr) : Bool := hs.all fun h => h.ons.length == (hs.head?.elim 0 fun g => g.ons.length)
def psP (x : Str) : List Str := Txt.split x (Str.ofString "; ")
def planP (x : Str) : Option (List Hr) := if x = Str.ofString "none" then some [] else match allP hourP (psP x) with
  | some hs => if evenP hs = true then some hs else none
  | none => none
theorem str1_eq {c d : Nat} (z : Str) (hz : z.cps.toList = [d]) : eqV (.str ⟨#[c]⟩) (.str z) = decide (c = d) := by
  show ((⟨#[c]⟩ : Str) == z) = decide (c = d)
  by_cases h : c = d
  · subst h
    have e : (⟨#[c]⟩ : Str) = z := Str.ext' (Array.toList_inj.mp hz.symm)
    rw [e, decide_eq_true rfl]
    exact beq_self_eq_true _
  · rw [decide_eq_false h, beq_eq_false_iff_ne]
    intro e
    have q : (⟨#[c]⟩ : Str).cps.toList = z.cps.toList := by rw [e]
    rw [hz] at q
    exact h (List.cons.inj q).1
theorem str_dec (x y : Str) : eqV (.str x) (.str y) = decide (x = y) := by
  show (x == y) = decide (x = y)
  by_cases h : x = y
  · rw [decide_eq_true h, h]; exact beq_self_eq_true _
  · rw [decide_eq_false h, beq_eq_false_iff_ne]; exact h
theorem ws_eq (p : Str) : wsP p = (wsP p).dropLast ++ [lastW p] := (List.dropLast_concat_getLast (wsP_ne p)).symm
theorem last_mem (p : Str) : lastW p ∈ wsP p := List.getLast_mem (wsP_ne p)
theorem init_mem {p w : Str} (h : w ∈ (wsP p).dropLast) : w ∈ wsP p := List.dropLast_subset _ h
theorem init_cut (p : Str) : cutV ((wsP p).map V.str) none (some (-1)) = (wsP p).dropLast.map V.str := by
  rw [cut_init, List.length_map, ← List.map_take]
  congr 1
  exact List.dropLast_eq_take.symm
theorem init_len {p : Str} {n : Nat} (h : p.length ≤ n) : (wsP p).dropLast.length ≤ n + 1 ∧ (wsP p).length ≤ n + 2 := by
  have := PyProof.Rows.split_le p (Str.ofString " ")
  have e : (wsP p).dropLast.length = (wsP p).length - 1 := List.length_dropLast
  have e2 : (wsP p).length = (Txt.split p (Str.ofString " ")).length := rfl
  omega
theorem allP_at {α β : Type} {f : α → Option β} : ∀ {xs : List α} {ys : List β} {i : Nat} {x : α}, allP f (xs.take i) = some ys → xs[i]? = some x → ∀ {y}, f x = some y → allP f (xs.take (i + 1)) = some (ys ++ [y]) := fun {xs ys i x} h hx {y} hy => by
  rw [take_snoc hx]
  exact allP_snoc h hy
theorem hourP_lv {p : Str} (h : lvlP (lastW p) = none) : hourP p = none := by unfold hourP; rw [h]
theorem hourP_out {p w : Str} (h : w ∈ (wsP p).dropLast) (h2 : outP w = none) : hourP p = none := by
  unfold hourP
  rw [allP_none h h2]
  cases lvlP (lastW p) <;> rfl
theorem hourP_ok {p : Str} {l : Int} {os : List Int} (h : lvlP (lastW p) = some l) (h2 : allP outP (wsP p).dropLast = some os) : hourP p = some ⟨(wsP p).dropLast.map onP, os, l⟩ := by
  unfold hourP
  rw [h, h2]
theorem evenP_any {hs : List Hr} {g : Hr} (h : hs[0]? = some g) : evenP hs = !((hs.map fun h => !(decide (h.ons.length = g.ons.length))).any id) := by
  unfold evenP
  rw [List.head?_eq_getElem?, h, List.any_map, List.not_any_eq_all_not]
  congr 1
  funext x
  show (x.ons.length == g.ons.length) = (!!(decide (x.ons.length = g.ons.length)))
  rw [Bool.not_not]
  rfl
def sp_number_of (K : PySem.W.Frag) (CN : Addr) : Sp := fun vs H Q E => ∃ w : Str, vs = [.str w] ∧ Ln 100000 w ∧ (∀ n, numP w = some n → ∀ H', Same H H' → Q (.int n) H') ∧ (numP w = none → ∀ e od H', Same H H' → ErrB H' e CN → E (.ref e) od H')
set_option maxHeartbeats 40000000 in
theorem ok_number_of {P : Program} {w : World} {K : PySem.W.Frag} {mg : Str → Option Value} {base : Heap} {a : Adr} (tx : Txt K mg a) : FnOk P w K mg base (CXE P w) 1 a.f_number_of a.d_number_of ["word"] (sp_number_of K a.c_NoText) := by
  refine tx.F_number_of.okE sc_number_of (fun vs H Q E h => ?_) (fun cdv A outer s H vs Q E hr h => ?_)
  · obtain ⟨w, rfl, _⟩ := h
    rfl
  · obtain ⟨w, rfl , hw, k, ke⟩ := h
    have hu := hu9 hr
    refine L2.Q.root (L2.Q.pss_cons (L2.Q.ps_if (L2.Q.pw_pt (L2.Q.pw_or (L2.Q.pt_cmpR (r := rEqG K) (op_eqG hu) (L2.Q.pe_callBN (rc := rLenS) call_lenS (by rfl) tx.z_len bt_len (L2.Q.pa_c (L2.Q.pv 0) L2.Q.pa_nil)) L2.Q.pe_int (nomark _)) (L2.Q.pw_or1 (L2.Q.pt_cmpR op_gt (L2.Q.pe_callBN (rc := rLenS) call_lenS (by rfl) tx.z_len bt_len (L2.Q.pa_c (L2.Q.pv 0) L2.Q.pa_nil)) (L2.Q.pe_gint (n := 20) (by rfl) tx.v_MOST_FIGURES) (nomark _))))) (L2.Q.pss_one (L2.Q.ps_raise (K' := K) (E := E) raises_cx rfl (L2.Q.pe_mkE0 tx.ex_NoText tx.Z_NoText.kp (by rfl) tx.g_NoText))) L2.Q.pss_nil)
      (L2.Q.pss_cons (L2.Q.ps_if (L2.Q.pt_not (L2.Q.pt_val (L2.Q.pe_callBN (rc := rAll K) (call_allG rfl) (by rfl) tx.z_all bt_all (L2.Q.pa_c (L2.Q.pe_comp (k := 1) (idx := []) (N := ["sign"]) (blk_sc (sc := defScope s_number_of) (NX := ["word"]) rfl rfl rfl (by decide +kernel)) rfl (L2.Q.pi_str (L2.Q.pv 0)) (fun _ _ _ _ => (L2.Q.pg_name (i := 0) (show (["sign"] : List Str).Nodup by decide +kernel) rfl (Or.inl rfl))) (own_name (by decide)) (fun _ _ _ _ => L2.Q.pts_nil) (fun _ _ _ _ => (L2.Q.pe_cmpR (r := rInS) op_inS (L2.Q.pv 0) (L2.Q.pe_gstr (n := "0123456789") (by rfl) tx.v_FIGURES) (by with_unfolding_all rfl)))) L2.Q.pa_nil)))) (L2.Q.pss_one (L2.Q.ps_raise (K' := K) (E := E) raises_cx rfl (L2.Q.pe_mkE0 tx.ex_NoText tx.Z_NoText.kp (by rfl) tx.g_NoText))) L2.Q.pss_nil)
      (L2.Q.pss_cons (L2.Q.ps_if (L2.Q.pw_pt (L2.Q.pw_and (L2.Q.pt_cmpR op_gt (L2.Q.pe_callBN (rc := rLenS) call_lenS (by rfl) tx.z_len bt_len (L2.Q.pa_c (L2.Q.pv 0) L2.Q.pa_nil)) L2.Q.pe_int (nomark _)) (L2.Q.pw_and1 (L2.Q.pt_cmpR (r := rEqG K) (op_eqG hu) (L2.Q.pe_ixK (K' := K) (L2.Q.pv 0) L2.Q.pe_int (fun _ _ => rfl)) L2.Q.pe_str (nomark _))))) (L2.Q.pss_one (L2.Q.ps_raise (K' := K) (E := E) raises_cx rfl (L2.Q.pe_mkE0 tx.ex_NoText tx.Z_NoText.kp (by rfl) tx.g_NoText))) L2.Q.pss_nil)
      (L2.Q.pss_one (L2.Q.ps_ret (L2.Q.pe_callTyN (rc := rIntS) call_intS (by rfl) tx.z_int bt_int (L2.Q.pa_c (L2.Q.pv 0) L2.Q.pa_nil))))))) ?_
    have hl := hw.sz
    have hz : w.length ≤ sizeLine := sz_le (by omega)
    have e0 : w.cps.toList.length = w.length := Array.length_toList
    refine rd_start (σ := [some (.str w)]) rfl ?_
    repeat walk_at "go"
    refine ⟨w, rfl, hz, ?_⟩
    repeat walk_at "go"
    refine rd_dec (fun h => ?_) (fun h1 => ?_)
    · repeat walk_at "go"
      intro e ne
      obtain ⟨s1, e1⟩ := err_set0 (C := a.c_NoText) (a := ErrN a.c_NoText none e) ne
      exact ⟨e, a.c_NoText, none, rfl, upd_same, tx.Z_NoText, ke (numP_no fun z => by have := (okN_iff.mp z).1; omega) _ _ _ s1 e1⟩
    repeat walk_at "go"
    refine ⟨w, rfl, hz, ?_⟩
    repeat walk_at "go"
    refine rd_dec (fun h => ?_) (fun h2 => ?_)
    · repeat walk_at "go"
      intro e ne
      obtain ⟨s1, e1⟩ := err_set0 (C := a.c_NoText) (a := ErrN a.c_NoText none e) ne
      exact ⟨e, a.c_NoText, none, rfl, upd_same, tx.Z_NoText, ke (numP_no fun z => by have := (okN_iff.mp z).2.1; omega) _ _ _ s1 e1⟩
    repeat walk_at "go"
    refine ⟨w, rfl, hw.pl, ?_⟩
    refine comp_str (fun i us H' => H' = H ∧ us = ((w.cps.toList.take i).map dg).map V.bl) ⟨rfl, rfl⟩ hz (fun i us H' hi ⟨_, e⟩ => by rw [e, List.length_map, List.length_map, List.length_take]; omega) (fun i c us H' hc ⟨e0, e1⟩ => ?_) (fun us H' ⟨e0, e1⟩ => ?_)
    · subst e0
      have hc2 : w.cps.toList[i]? = some c := by rw [Array.getElem?_toList]; exact hc
      have hc' := hw.pl.mem c (List.mem_of_getElem? hc2)
      repeat walk_at "go"
      refine ⟨⟨#[c]⟩, _, rfl, rfl, ?_⟩
      rw [dig_inB c hc']
      refine ⟨rfl, ?_⟩
      rw [e1, List.take_add_one, hc2, List.map_append, List.map_append]
      rfl
    subst e0
    rw [show w.cps.size = w.cps.toList.length from Array.length_toList.symm, List.take_length] at e1
    subst e1
    intro l nl
    obtain ⟨H1, i1, s1, g1⟩ := nw _ nl; rw [i1]
    repeat walk_at "go"
    refine rd_all (SqL.of g1) ?_
    rw [List.all_map]
    repeat walk_at "go"
    refine rd_bool (fun h3 => ?_) (fun h3 => ?_)
    · repeat walk_at "go"
      intro e ne
      obtain ⟨s2, e2⟩ := err_set0 (C := a.c_NoText) (a := ErrN a.c_NoText none e) ne
      refine ⟨e, a.c_NoText, none, rfl, upd_same, tx.Z_NoText, ke (numP_no fun z => ?_) _ _ _ (s1.trans s2) e2⟩
      have := (okN_iff.mp z).2.2.1
      simp [this] at h3
    repeat walk_at "go"
    refine ⟨w, rfl, hz, ?_⟩
    repeat walk_at "go"
    have hall : w.cps.toList.all dg = true := by simpa using h3
    refine rd_dec (fun h4 => ?_) (fun h4 => ?_)
    · obtain ⟨c, ec⟩ : ∃ c, w.cps.toList[0]? = some c := ⟨_, List.getElem?_eq_getElem (by rw [e0]; omega)⟩
      repeat walk_at "go"
      refine .inr (.inr ⟨w, 0, c, rfl, rfl, hz, atI_nat (j := 0) ec, ?_⟩)
      repeat walk_at "go"
      rw [str1_eq (d := 48) (Str.ofString "0") (by decide)]
      refine rd_dec (fun h5 => ?_) (fun h5 => ?_)
      · repeat walk_at "go"
        intro e ne
        obtain ⟨s2, e2⟩ := err_set0 (C := a.c_NoText) (a := ErrN a.c_NoText none e) ne
        refine ⟨e, a.c_NoText, none, rfl, upd_same, tx.Z_NoText, ke (numP_no fun z => (okN_iff.mp z).2.2.2 ⟨by omega, ?_⟩) _ _ _ (s1.trans s2) e2⟩
        rw [List.head?_eq_getElem?, ec, h5]
      · obtain ⟨n, hi, hn⟩ := numP_ok (w := w) (okN_iff.mpr ⟨by omega, by omega, hall, fun z => h5 (by rw [List.head?_eq_getElem?, ec] at z; exact Option.some.inj z.2)⟩)
        repeat walk_at "go"
        exact ⟨w, n, rfl, hi, by omega, k n hn _ s1⟩
    · obtain ⟨n, hi, hn⟩ := numP_ok (w := w) (okN_iff.mpr ⟨by omega, by omega, hall, fun z => by omega⟩)
      repeat walk_at "go"
      exact ⟨w, n, rfl, hi, by omega, k n hn _ s1⟩
def sp_number_behind (K : PySem.W.Frag) (CN : Addr) : Sp := fun vs H Q E => ∃ w : Str, vs = [.str w, .str (Str.ofString "@")] ∧ Ln 100000 w ∧ (∀ n, lvlP w = some n → ∀ H', Same H H' → Q (.int n) H') ∧ (lvlP w = none → ∀ e od H', Same H H' → ErrB H' e CN → E (.ref e) od H')
set_option maxHeartbeats 40000000 in
theorem ok_number_behind {P : Program} {w : World} {K : PySem.W.Frag} {mg : Str → Option Value} {base : Heap} {a : Adr} (tx : Txt K mg a) : FnOk P w K mg base (CXE P w) 2 a.f_number_behind a.d_number_behind ["word", "ahead"] (sp_number_behind K a.c_NoText) := by
  have G_number_of := ok_number_of (P := P) (w := w) (base := base) tx
  refine tx.F_number_behind.okE sc_number_behind (fun vs H Q E h => ?_) (fun cdv A outer s H vs Q E hr h => ?_)
  · obtain ⟨w, rfl, _⟩ := h
    rfl
  · obtain ⟨w, rfl , hw, k, ke⟩ := h
    have hu := hu9 hr
    refine L2.Q.root (L2.Q.pss_cons (L2.Q.ps_if (L2.Q.pt_not (L2.Q.pt_val (L2.Q.pe_startsK (K' := K) (L2.Q.pv 0) (L2.Q.pa_c (L2.Q.pv 1) L2.Q.pa_nil)))) (L2.Q.pss_one (L2.Q.ps_raise (K' := K) (E := E) raises_cx rfl (L2.Q.pe_mkE0 tx.ex_NoText tx.Z_NoText.kp (by rfl) tx.g_NoText))) L2.Q.pss_nil)
      (L2.Q.pss_one (L2.Q.ps_ret (L2.Q.pe_callN (G_number_of) (hr.mono (by decide)) (by rfl) tx.g_number_of tx.F_number_of.kp tx.b_number_of .nil passes_cx (L2.Q.pa_c (L2.Q.pe_slice (rs := rSlS) sl_str (L2.Q.pv 0) (L2.Q.po_some (L2.Q.pe_callBN (rc := rLenS) call_lenS (by rfl) tx.z_len bt_len (L2.Q.pa_c (L2.Q.pv 1) L2.Q.pa_nil))) L2.Q.po_none) L2.Q.pa_nil))))) ?_
    have hl := hw.sz
    refine rd_start (σ := [some (.str w), some (.str (Str.ofString "@"))]) rfl ?_
    repeat walk_at "go"
    refine ⟨rfl, ?_⟩
    repeat walk_at "go"
    refine ⟨_, _, rfl, rfl, ?_⟩
    cases hs : Txt.startswith w (Str.ofString "@") with
    | false =>
      repeat walk_at "gs"
      intro e ne
      obtain ⟨s1, e1⟩ := err_set0 (C := a.c_NoText) (a := ErrN a.c_NoText none e) ne
      exact ⟨e, a.c_NoText, none, rfl, upd_same, tx.Z_NoText, ke (by unfold lvlP; rw [hs]; rfl) _ _ _ s1 e1⟩
    | true =>
      obtain ⟨r, er⟩ := starts_cons hs
      have l1 : 1 ≤ w.length := by
        have : w.cps.toList.length = w.length := Array.length_toList
        rw [er, List.length_cons] at this
        omega
      have l2 := slice1_len l1
      have el : lvlP w = numP (StrLaws.sliceText w (some 1) none) := by unfold lvlP; rw [hs]; rfl
      repeat walk_at "gs"
      refine ⟨_, rfl, sz_le (by decide), ?_⟩
      repeat walk_at "go"
      refine ⟨_, rfl, ?_⟩
      rw [show (((Str.ofString "@").length : Nat) : Int) = 1 from rfl]
      refine ⟨sz_le (by omega), ?_⟩
      repeat walk_at "go"
      exact ⟨_, rfl, slice_ln hw (by omega), fun n hn => k n (el.trans hn), fun hn => ke (el.trans hn)⟩
def sp_read_hour (K : PySem.W.Frag) (CN : Addr) : Sp := fun vs H Q E => ∃ p : Str, vs = [.str p] ∧ Ln 100000 p ∧ (∀ h, hourP p = some h → ∀ t H', Same H H' → HrAt H' t h → Q (.ref t) H') ∧ (hourP p = none → ∀ e od H', Same H H' → ErrB H' e CN → E (.ref e) od H')
set_option maxHeartbeats 40000000 in
theorem ok_read_hour {P : Program} {w : World} {K : PySem.W.Frag} {mg : Str → Option Value} {base : Heap} {a : Adr} (tx : Txt K mg a) : FnOk P w K mg base (CXE P w) 3 a.f_read_hour a.d_read_hour ["part"] (sp_read_hour K a.c_NoText) := by
  have G_number_behind := ok_number_behind (P := P) (w := w) (base := base) tx
  have G_number_of := ok_number_of (P := P) (w := w) (base := base) tx
  refine tx.F_read_hour.okE sc_read_hour (fun vs H Q E h => ?_) (fun cdv A outer s H vs Q E hr h => ?_)
  · obtain ⟨p, rfl, _⟩ := h
    rfl
  · obtain ⟨p, rfl , hp, k, ke⟩ := h
    have hu := hu9 hr
    refine L2.Q.root (L2.Q.pss_cons (L2.Q.ps_set (i := 1) sc_read_hour.nd rfl (Or.inl rfl) (L2.Q.pe_splitK (K' := K) (L2.Q.pv 0) (L2.Q.pa_c L2.Q.pe_str L2.Q.pa_nil)))
      (L2.Q.pss_cons (L2.Q.ps_set (i := 2) sc_read_hour.nd rfl (Or.inl rfl) (L2.Q.pe_callN (G_number_behind) (hr.mono (by decide)) (by rfl) tx.g_number_behind tx.F_number_behind.kp tx.b_number_behind .nil passes_cx (L2.Q.pa_c (L2.Q.pe_ixK (K' := K) (L2.Q.pv 1) (L2.Q.pe_un un_neg L2.Q.pe_int) (fun _ _ => rfl)) (L2.Q.pa_c (L2.Q.pe_gstr (n := "@") (by rfl) tx.v_LEVEL_AHEAD) L2.Q.pa_nil))))
      (L2.Q.pss_cons (L2.Q.ps_setC (k := 1) (idx := []) (N := ["word"]) (i := 3) sc_read_hour.nd rfl (Or.inl rfl) (blk_sc (sc := defScope s_read_hour) (NX := ["part", "words", "level", "ons", "outputs"]) rfl rfl rfl (by decide +kernel)) rfl (L2.Q.pi_listK (K' := K) (L2.Q.pe_slice (rs := rSlG K) sl_G (L2.Q.pv 1) L2.Q.po_none (L2.Q.po_some (L2.Q.pe_un un_neg L2.Q.pe_int)))) (fun _ _ _ _ => (L2.Q.pg_name (i := 0) (show (["word"] : List Str).Nodup by decide +kernel) rfl (Or.inl rfl))) (own_name (by decide)) (fun _ _ _ _ => L2.Q.pts_nil) (fun _ _ _ _ => (L2.Q.pe_ifExp (L2.Q.pt_cmpR (r := rEqG K) (op_eqG hu) (L2.Q.pv 0) (L2.Q.pe_gstr (n := "-") (by rfl) tx.v_RESTS) (nomark _)) L2.Q.pe_int L2.Q.pe_int)))
      (L2.Q.pss_cons (L2.Q.ps_setCX flies_cx (k := 1) (idx := []) (N := ["word"]) (i := 4) sc_read_hour.nd rfl (Or.inl rfl) (blk_sc (sc := defScope s_read_hour) (NX := ["part", "words", "level", "ons", "outputs"]) rfl rfl rfl (by decide +kernel)) rfl (L2.Q.pi_listK (K' := K) (L2.Q.pe_slice (rs := rSlG K) sl_G (L2.Q.pv 1) L2.Q.po_none (L2.Q.po_some (L2.Q.pe_un un_neg L2.Q.pe_int)))) (fun _ _ _ _ => (L2.Q.pg_name (i := 0) (show (["word"] : List Str).Nodup by decide +kernel) rfl (Or.inl rfl))) (own_name (by decide)) (fun _ _ _ _ => L2.Q.pts_nil) (fun _ _ _ _ => (L2.Q.pe_ifExp (L2.Q.pt_cmpR (r := rEqG K) (op_eqG hu) (L2.Q.pv 0) (L2.Q.pe_gstr (n := "-") (by rfl) tx.v_RESTS) (nomark _)) L2.Q.pe_int (L2.Q.pe_callN (G_number_of) (hr.mono (by decide)) (by rfl) tx.g_number_of tx.F_number_of.kp tx.b_number_of .nil passes_cxB (L2.Q.pa_c (L2.Q.pv 0) L2.Q.pa_nil)))))
      (L2.Q.pss_one (L2.Q.ps_ret (L2.Q.tup3 (L2.Q.pe_callTyN (rc := rTupOf K) call_tupG (by rfl) tx.z_tuple bt_tuple (L2.Q.pa_c (L2.Q.pv 3) L2.Q.pa_nil)) (L2.Q.pe_callTyN (rc := rTupOf K) call_tupG (by rfl) tx.z_tuple bt_tuple (L2.Q.pa_c (L2.Q.pv 4) L2.Q.pa_nil)) (L2.Q.pv 2)))))))) ?_
    have hl := hp.sz
    obtain ⟨li, lw⟩ := init_len hl
    refine rd_start (σ := [some (.str p), none, none, none, none]) rfl ?_
    repeat walk_at "go"
    refine ⟨rfl, ?_⟩
    repeat walk_at "go"
    refine ⟨_, _, rfl, rfl, by decide, sz_le (by omega), sz_le (by show (wsP p).length ≤ _; omega), fun l nl => ?_⟩
    rw [show Txt.split p (Str.ofString " ") = wsP p from rfl]
    obtain ⟨H1, i1, s1, g1⟩ := nw _ nl; rw [i1]
    have al : atI ((wsP p).map V.str) (-1) = some (.str (lastW p)) := by
      rw [ws_eq p, List.map_append]
      exact at_last _
    repeat walk_at "go"
    refine ⟨_, rfl, split_ln hp _ (last_mem p), fun lv hlv H2 s2 => ?_, fun z e od H' s2 he => ke (hourP_lv z) e od H' (s1.trans s2) he⟩
    have g12 := s2 _ _ g1
    repeat walk_at "go"
    refine rd_slL (SqL.of g12) ?_
    rw [init_cut]
    intro l3 n3
    obtain ⟨H3, i3, s3, g3⟩ := nw _ n3; rw [i3]
    refine rd_li (SqL.of g3) ?_
    refine comp_list (xs := (wsP p).dropLast.map V.str) (fun j us H' => H' = H3 ∧ us = (((wsP p).dropLast.take j).map onP).map V.int) ⟨rfl, rfl⟩ (sz_le (by rw [List.length_map]; omega))
      (fun j us H' hj ⟨e0, e1⟩ => ⟨by rw [e0]; exact SqL.of g3, by rw [e1, List.length_map, List.length_map, List.length_take]; omega⟩) (fun j v us H' hv ⟨e0, e1⟩ => ?_) (fun us H' ⟨e0, e1⟩ => ?_)
    · subst e0
      rw [List.getElem?_map] at hv
      obtain ⟨w, ew, rfl⟩ := Option.map_eq_some_iff.mp hv
      repeat walk_at "go"
      rw [str_dec]
      refine rd_dec (fun h1 => ?_) (fun h1 => ?_)
      · repeat walk_at "go"
        refine ⟨rfl, ?_⟩
        rw [e1, take_snoc ew, List.map_append, List.map_append, show [w].map onP = [0] by rw [h1]; decide]
        rfl
      · repeat walk_at "go"
        refine ⟨rfl, ?_⟩
        rw [e1, take_snoc ew, List.map_append, List.map_append, show [w].map onP = [1] by unfold onP; rw [List.map_cons, if_neg h1]; rfl]
        rfl
    subst e0 e1
    rw [List.length_map, List.take_length]
    intro l4 n4
    obtain ⟨H4, i4, s4, g4⟩ := nw _ n4; rw [i4]
    have g14 := (s3.trans s4) _ _ g12
    repeat walk_at "go"
    refine rd_slL (SqL.of g14) ?_
    rw [init_cut]
    intro l5 n5
    obtain ⟨H5, i5, s5, g5⟩ := nw _ n5; rw [i5]
    have S5 : Same H H5 := s1.trans (s2.trans (s3.trans (s4.trans s5)))
    refine rd_li (SqL.of g5) ?_
    refine comp_list (xs := (wsP p).dropLast.map V.str) (fun j us H' => Same H5 H' ∧ ∃ os, allP outP ((wsP p).dropLast.take j) = some os ∧ us = os.map V.int) ⟨Same.refl _, [], rfl, rfl⟩ (sz_le (by rw [List.length_map]; omega))
      (fun j us H' hj ⟨e0, os, eo, e1⟩ => ⟨SqL.of (e0 _ _ g5), by rw [e1, List.length_map, allP_len eo, List.length_take]; omega⟩) (fun j v us H' hv ⟨e0, os, eo, e1⟩ => ?_) (fun us H' ⟨e0, os, eo, e1⟩ => ?_)
    · rw [List.getElem?_map] at hv
      obtain ⟨w, ew, rfl⟩ := Option.map_eq_some_iff.mp hv
      have mw := List.mem_of_getElem? ew
      repeat walk_at "go"
      rw [str_dec]
      refine rd_dec (fun h1 => ?_) (fun h1 => ?_)
      · repeat walk_at "go"
        exact ⟨e0, os ++ [0], allP_at eo ew (by unfold outP; rw [if_pos h1]), by rw [e1, List.map_append]; rfl⟩
      · have eo2 : outP w = numP w := by unfold outP; rw [if_neg h1]
        repeat walk_at "go"
        refine ⟨w, rfl, split_ln hp _ (init_mem mw), fun n hn H6 s6 => ⟨e0.trans s6, os ++ [n], allP_at eo ew (eo2.trans hn), by rw [e1, List.map_append]; rfl⟩, fun z e od H' s6 he => ke (hourP_out mw (eo2.trans z)) e od H' (S5.trans (e0.trans s6)) he⟩
    subst e1
    rw [List.length_map, List.take_length] at eo
    intro l6 n6
    obtain ⟨H6, i6, s6, g6⟩ := nw _ n6; rw [i6]
    have S46 : Same H4 H6 := s5.trans (e0.trans s6)
    have g46 := S46 _ _ g4
    repeat walk_at "go"
    refine rd_tupL (SqL.of g46) ?_
    intro t1 nt1
    obtain ⟨H7, i7, s7, g7⟩ := nw _ nt1; rw [i7]
    repeat walk_at "go"
    refine rd_tupL (SqL.of (s7 _ _ g6)) ?_
    intro t2 nt2
    obtain ⟨H8, i8, s8, g8⟩ := nw _ nt2; rw [i8]
    repeat walk_at "go"
    intro a9 n9
    obtain ⟨H9, i9, s9, g9⟩ := nw _ n9; rw [i9]
    repeat walk_at "go"
    exact k _ (hourP_ok hlv eo) a9 H9 (S5.trans (e0.trans (s6.trans (s7.trans (s8.trans s9))))) ⟨t1, t2, g9, (s8.trans s9) _ _ g7, s9 _ _ g8⟩
def sp_read_plan (K : PySem.W.Frag) (CN : Addr) : Sp := fun vs H Q E => ∃ x : Str, vs = [.str x] ∧ Ln 100000 x ∧ (∀ hs, planP x = some hs → ∀ l as H', Same H H' → H l = none → H' l = some (.lst (as.map V.ref)) → RL (HrAt H') as hs → Q (.ref l) H') ∧ (planP x = none → ∀ e od H', Same H H' → ErrB H' e CN → E (.ref e) od H')
set_option maxHeartbeats 40000000 in
theorem ok_read_plan {P : Program} {w : World} {K : PySem.W.Frag} {mg : Str → Option Value} {base : Heap} {a : Adr} (tx : Txt K mg a) : FnOk P w K mg base (CXE P w) 4 a.f_read_plan a.d_read_plan ["line"] (sp_read_plan K a.c_NoText) := by
  have G_read_hour := ok_read_hour (P := P) (w := w) (base := base) tx
  refine tx.F_read_plan.okE sc_read_plan (fun vs H Q E h => ?_) (fun cdv A outer s H vs Q E hr h => ?_)
  · obtain ⟨x, rfl, _⟩ := h
    rfl
  · obtain ⟨x, rfl , hx, k, ke⟩ := h
    have hu := hu9 hr
    refine L2.Q.root (L2.Q.pss_cons (L2.Q.ps_if (L2.Q.pt_cmpR (r := rEqG K) (op_eqG hu) (L2.Q.pv 0) (L2.Q.pe_gstr (n := "none") (by rfl) tx.v_NOTHING) (nomark _)) (L2.Q.pss_one (L2.Q.ps_ret (L2.Q.pe_lst L2.Q.pa_nil))) L2.Q.pss_nil)
      (L2.Q.pss_cons (L2.Q.ps_set (i := 1) sc_read_plan.nd rfl (Or.inr rfl) (L2.Q.pe_compX flies_cx (k := 1) (idx := []) (N := ["part"]) (blk_sc (sc := defScope s_read_plan) (NX := ["line", "plan"]) rfl rfl rfl (by decide +kernel)) rfl (L2.Q.pi_listK (K' := K) (L2.Q.pe_splitK (K' := K) (L2.Q.pv 0) (L2.Q.pa_c L2.Q.pe_str L2.Q.pa_nil))) (fun _ _ _ _ => (L2.Q.pg_name (i := 0) (show (["part"] : List Str).Nodup by decide +kernel) rfl (Or.inl rfl))) (own_name (by decide)) (fun _ _ _ _ => L2.Q.pts_nil) (fun _ _ _ _ => (L2.Q.pe_callN (G_read_hour) (hr.mono (by decide)) (by rfl) tx.g_read_hour tx.F_read_hour.kp tx.b_read_hour .nil passes_cxB (L2.Q.pa_c (L2.Q.pv 0) L2.Q.pa_nil)))))
      (L2.Q.pss_cons (L2.Q.ps_if (L2.Q.pt_val (L2.Q.pe_callBN (rc := rAny K) (call_anyG rfl) (by rfl) tx.z_any bt_any (L2.Q.pa_c (L2.Q.pe_comp (k := 1) (idx := [1]) (N := ["planned", "plan"]) (blk_sc (sc := defScope s_read_plan) (NX := ["line", "plan"]) rfl rfl rfl (by decide +kernel)) rfl (L2.Q.pi_listK (K' := K) (L2.Q.pv 1)) (fun _ _ _ _ => (L2.Q.pg_name (i := 0) (show (["planned", "plan"] : List Str).Nodup by decide +kernel) rfl (Or.inl rfl))) (own_name (by decide)) (fun _ _ _ _ => L2.Q.pts_nil) (fun _ _ _ _ => (L2.Q.pe_cmpR (r := rNeG K) (op_neG hu) (L2.Q.pe_callBN (rc := rLen K) call_lenG (by rfl) tx.z_len bt_len (L2.Q.pa_c (L2.Q.pe_ixK (K' := K) (L2.Q.pv 0) L2.Q.pe_int (fun _ _ => rfl)) L2.Q.pa_nil)) (L2.Q.pe_callBN (rc := rLen K) call_lenG (by rfl) tx.z_len bt_len (L2.Q.pa_c (L2.Q.pe_ixK (K' := K) (L2.Q.pe_ixK (K' := K) (L2.Q.pv 1) L2.Q.pe_int (fun _ _ => rfl)) L2.Q.pe_int (fun _ _ => rfl)) L2.Q.pa_nil)) (nomark _)))) L2.Q.pa_nil))) (L2.Q.pss_one (L2.Q.ps_raise (K' := K) (E := E) raises_cx rfl (L2.Q.pe_mkE0 tx.ex_NoText tx.Z_NoText.kp (by rfl) tx.g_NoText))) L2.Q.pss_nil)
      (L2.Q.pss_one (L2.Q.ps_ret (L2.Q.pv 1)))))) ?_
    have hl := hx.sz
    have lp : (psP x).length ≤ 100002 := by have := PyProof.Rows.split_le x (Str.ofString "; "); show (Txt.split x (Str.ofString "; ")).length ≤ _; omega
    refine rd_start (σ := [some (.str x), none]) rfl ?_
    repeat walk_at "go"
    rw [str_dec]
    refine rd_dec (fun h0 => ?_) (fun h0 => ?_)
    · repeat walk_at "go"
      intro l nl
      obtain ⟨H1, i1, s1, g1⟩ := nw _ nl; rw [i1]
      repeat walk_at "go"
      exact k [] (by unfold planP; rw [if_pos h0]) l [] H1 s1 nl g1 RL.nil
    repeat walk_at "go"
    refine ⟨rfl, ?_⟩
    repeat walk_at "go"
    refine ⟨_, _, rfl, rfl, by decide, sz_le (by omega), sz_le (by show (psP x).length ≤ _; omega), fun l nl => ?_⟩
    rw [show Txt.split x (Str.ofString "; ") = psP x from rfl]
    obtain ⟨H1, i1, s1, g1⟩ := nw _ nl; rw [i1]
    refine rd_li (SqL.of g1) ?_
    refine comp_list (xs := (psP x).map V.str) (fun j us H' => Same H1 H' ∧ ∃ (as : List Addr) (hs : List Hr), us = as.map V.ref ∧ allP hourP ((psP x).take j) = some hs ∧ RL (HrAt H') as hs) ⟨Same.refl _, [], [], rfl, rfl, RL.nil⟩ (sz_le (by rw [List.length_map]; omega))
      (fun j us H' hj ⟨e0, as, hs, e1, eh, ra⟩ => ⟨SqL.of (e0 _ _ g1), by rw [e1, List.length_map, ra.len, allP_len eh, List.length_take]; omega⟩) (fun j v us H' hv ⟨e0, as, hs, e1, eh, ra⟩ => ?_) (fun us H' ⟨e0, as, hs, e1, eh, ra⟩ => ?_)
    · rw [List.getElem?_map] at hv
      obtain ⟨w, ew, rfl⟩ := Option.map_eq_some_iff.mp hv
      have mw := List.mem_of_getElem? ew
      repeat walk_at "go"
      refine ⟨w, rfl, split_ln hx _ mw, fun h hh a2 H2 s2 hA => ⟨e0.trans s2, as ++ [a2], hs ++ [h], by rw [e1, List.map_append]; rfl, allP_at eh ew hh, (ra.imp fun a x z => HrAt.same z s2).snoc hA⟩, fun z e od H' s2 he => ke ?_ e od H' (s1.trans (e0.trans s2)) he⟩
      unfold planP
      rw [if_neg h0, allP_none mw z]
    subst e1
    rw [List.length_map, List.take_length] at eh
    have lh := allP_len eh
    have las := ra.len
    have ps1 : 1 ≤ (psP x).length := PyProof.Rows.split_pos x (Str.ofString "; ")
    intro l2 n2
    obtain ⟨H2, i2, s2, g2⟩ := nw _ n2; rw [i2]
    have ra2 := ra.imp fun a x z => HrAt.same z s2
    obtain ⟨a0, ea0⟩ : ∃ a0, as[0]? = some a0 := ⟨_, List.getElem?_eq_getElem (by omega)⟩
    obtain ⟨hd0, ehd⟩ : ∃ q, hs[0]? = some q := ⟨_, List.getElem?_eq_getElem (by omega)⟩
    obtain ⟨u1, u2, q0, q1, q2⟩ := ra2.at_ 0 a0 hd0 ea0 ehd
    have at0 : atI (as.map V.ref) 0 = some (.ref a0) := atI_nat (j := 0) (by rw [List.getElem?_map, ea0]; rfl)
    have eH : evenP hs = !((hs.map fun h => !(decide (h.ons.length = hd0.ons.length))).any id) := evenP_any ehd
    repeat walk_at "go"
    refine rd_li (SqL.of g2) ?_
    refine comp_list (xs := as.map V.ref) (fun j us H' => H' = H2 ∧ us = ((hs.take j).map fun h => !(decide (h.ons.length = hd0.ons.length))).map V.bl) ⟨rfl, rfl⟩ (sz_le (by rw [List.length_map]; omega))
      (fun j us H' hj ⟨e0, e1⟩ => ⟨by rw [e0]; exact SqL.of g2, by rw [e1, List.length_map, List.length_map, List.length_take]; omega⟩) (fun j v us H' hv ⟨e0', e1⟩ => ?_) (fun us H' ⟨e0', e1⟩ => ?_)
    · subst e0'
      obtain ⟨a1, h1, ea1, rfl, eh1, w1, w2, p0, p1, p2⟩ := ra2.get hv
      repeat walk_at "go"
      refine ⟨rfl, ?_⟩
      rw [e1, take_snoc eh1, List.map_append, List.map_append, List.length_map, List.length_map]
      rw [show decide ((h1.ons.length : Int) = (hd0.ons.length : Int)) = decide (h1.ons.length = hd0.ons.length) from decide_eq_decide.mpr Int.ofNat_inj]
      rfl
    subst e0' e1
    rw [List.length_map, las, List.take_length]
    intro l3 n3
    obtain ⟨H3, i3, s3, g3⟩ := nw _ n3; rw [i3]
    repeat walk_at "go"
    refine rd_any (SqL.of g3) ?_
    repeat walk_at "go"
    refine rd_bool (fun h3 => ?_) (fun h3 => ?_)
    · repeat walk_at "go"
      intro e ne
      obtain ⟨s4, e4⟩ := err_set0 (C := a.c_NoText) (a := ErrN a.c_NoText none e) ne
      refine ⟨e, a.c_NoText, none, rfl, upd_same, tx.Z_NoText, ke ?_ _ _ _ (s1.trans (e0.trans (s2.trans (s3.trans s4)))) e4⟩
      unfold planP
      rw [if_neg h0, eh]
      show (if evenP hs = true then some hs else none) = none
      rw [eH, h3]
      rfl
    repeat walk_at "go"
    refine k hs ?_ l2 as H3 (s1.trans (e0.trans (s2.trans s3))) ((s1.trans e0).free n2) (s3 _ _ g2) (ra2.imp fun a x z => HrAt.same z s3)
    unfold planP
    rw [if_neg h0, eh]
    show (if evenP hs = true then some hs else none) = some hs
    rw [eH, h3]
    rfl
theorem str_len0 {w : Str} (h : w.length = 0) : w = Str.ofString "" := by
  apply Str.ext'
  apply Array.toList_inj.mp
  have e : w.cps.toList.length = w.length := Array.length_toList
  rw [h] at e
  rw [List.eq_nil_of_length_eq_zero e]
  decide
theorem slice_from_len {x : Str} {i : Int} (h : 0 ≤ i) : (StrLaws.sliceText x (some i) none).length ≤ x.length := by
  have e : x.cps.toList.length = x.length := Array.length_toList
  by_cases hi : i ≤ x.length
  · rw [StrLaws.sliceText_from ⟨h, by rw [e]; exact hi⟩]
    show (List.toArray _).size ≤ _
    rw [List.size_toArray, List.length_take, List.length_drop, e]
    omega
  · have q : StrLaws.sliceText x (some i) none = StrLaws.sliceText x (some (x.length : Int)) none := by
      unfold StrLaws.sliceText
      have w : Builtin.Str.strSliceIndices (some i) none 1 x.length = Builtin.Str.strSliceIndices (some (x.length : Int)) none 1 x.length := by
        have a : ¬ i < 0 := by omega
        have b : ¬ ((x.length : Int) < 0) := by omega
        have c : min i (x.length : Int) = (x.length : Int) := by omega
        simp [Builtin.Str.strSliceIndices, a, b, c]
      rw [w]
    rw [q, StrLaws.sliceText_from ⟨by omega, by rw [e]; exact Int.le_refl _⟩]
    show (List.toArray _).size ≤ _
    rw [List.size_toArray, List.length_take, List.length_drop, e]
    omega
theorem slice_to_len {x : Str} {j : Int} (h : 0 ≤ j) (h2 : j ≤ x.length) : (StrLaws.sliceText x none (some j)).length ≤ x.length := by
  have e : x.cps.toList.length = x.length := Array.length_toList
  rw [StrLaws.sliceText_to ⟨h, by rw [e]; exact h2⟩]
  show (List.toArray _).size ≤ _
  rw [List.size_toArray, List.length_take, List.length_drop, e]
  omega
theorem starts_of {w : Str} {r : List Nat} (h : w.cps.toList = 64 :: r) : Txt.startswith w (Str.ofString "@") = true := by
  have e : w = Str.ofString "@" ++ ⟨r.toArray⟩ := by
    apply Str.ext'
    apply Array.toList_inj.mp
    rw [h, Str.cps_append, Array.toList_append, show (Str.ofString "@").cps.toList = [64] by decide]
    rfl
  rw [e]
  exact starts_app _ _
theorem slice_at {w : Str} : (StrLaws.sliceText w none (some 1) = Str.ofString "@") ↔ Txt.startswith w (Str.ofString "@") = true := by
  have e : w.cps.toList.length = w.length := Array.length_toList
  by_cases h : 1 ≤ w.length
  · obtain ⟨c, r, q⟩ : ∃ c r, w.cps.toList = c :: r := by
      cases z : w.cps.toList with
      | nil => rw [z] at e; exact absurd e.symm (by rw [List.length_nil]; omega)
      | cons c r => exact ⟨c, r, rfl⟩
    rw [StrLaws.sliceText_to ⟨by decide, by rw [e]; omega⟩, q]
    constructor
    · intro z
      have y : (Str.ofString "@").cps.toList = [64] := by decide
      rw [← z] at y
      have : c = 64 := by simpa using y
      exact starts_of (by rw [q, this])
    · intro z
      obtain ⟨r', y⟩ := starts_cons z
      rw [q] at y
      have : c = 64 := (List.cons.inj y).1
      rw [this]
      apply Str.ext'
      apply Array.toList_inj.mp
      rw [show (Str.ofString "@").cps.toList = [64] by decide]
      rfl
  · have : w = Str.ofString "" := str_len0 (by omega)
    rw [this]
    decide +kernel
def NumV (w : Str) (v : V) : Prop := (∃ n, numP w = some n ∧ v = .int n) ∨ (numP w = none ∧ v = .non)
theorem one_of {w : Str} {c : Nat} (h : w.cps.toList[0]? = some c) (hl : ¬ 1 < w.length) (z : Str) (hz : z.cps.toList = [c]) : w = z := by
  apply Str.ext'
  apply Array.toList_inj.mp
  rw [hz]
  have e : w.cps.toList.length = w.length := Array.length_toList
  cases q : w.cps.toList with
  | nil => rw [q] at h; cases h
  | cons d r =>
    rw [q] at h e
    cases h
    rw [List.length_cons] at e
    rw [List.eq_nil_of_length_eq_zero (show r.length = 0 by omega)]
theorem slice_to1 {x : Str} : (StrLaws.sliceText x none (some 1)).length ≤ x.length := by
  by_cases h : 1 ≤ x.length
  · exact slice_to_len (by decide) (by omega)
  · have : x = Str.ofString "" := str_len0 (by omega)
    rw [this]
    decide +kernel
theorem Pl.one {c : Nat} (h : c < 128) : Ln 1 (⟨#[c]⟩ : Str) := ⟨Pl.of fun d hd => by
  have : d = c := by simpa using hd
  omega, Nat.le_refl 1⟩
def cutS (ws : List Str) (lo hi : Option Int) : List Str := (ws.drop (HT.sIx ws.length 0 lo)).take (HT.sIx ws.length ws.length hi - HT.sIx ws.length 0 lo)
theorem cutS_map (ws : List Str) (lo hi : Option Int) : cutV (ws.map V.str) lo hi = (cutS ws lo hi).map V.str := by
  unfold cutV cutS
  rw [List.length_map, List.map_take, List.map_drop]
def wt (ws : List Str) : Nat := (ws.map (·.length)).sum + ws.length
theorem wt_app (a b : List Str) : wt (a ++ b) = wt a + wt b := by
  unfold wt
  rw [List.map_append, List.sum_append, List.length_append]
  omega
theorem wt_cut (ws : List Str) (lo hi : Option Int) : wt (cutS ws lo hi) ≤ wt ws := by
  unfold cutS
  generalize HT.sIx ws.length 0 lo = i
  generalize HT.sIx ws.length ws.length hi - i = j
  have e1 := wt_app (ws.take i) (ws.drop i)
  rw [List.take_append_drop] at e1
  have e2 := wt_app ((ws.drop i).take j) ((ws.drop i).drop j)
  rw [List.take_append_drop] at e2
  omega
theorem cut_sub {ws : List Str} {lo hi : Option Int} {w : Str} (h : w ∈ cutS ws lo hi) : w ∈ ws := List.mem_of_mem_drop (List.mem_of_mem_take h)
theorem join_fits {ws : List Str} {n : Nat} (h : wt ws ≤ n) (hn : n ≤ 100000) : JoinOk (Str.ofString " ") ws = true := by
  unfold JoinOk
  rw [StrLaws.joinTotal, show (Str.ofString " ").length = 1 by decide, Nat.mul_one]
  have : Builtin.Str.tooLong ((ws.map (·.length)).sum + ws.length) = false := by
    unfold Builtin.Str.tooLong
    have z : (ws.map (·.length)).sum + ws.length ≤ sizeLine := sz_le (by unfold wt at h; omega)
    simpa using z
  rw [this]
  rfl
theorem join_ln {ws : List Str} {n : Nat} (h : wt ws ≤ n) (hp : ∀ w ∈ ws, Pl w) : Ln n (Txt.join (Str.ofString " ") ws) := by
  have e : Txt.join (Str.ofString " ") ws = Str.join (Str.ofString " ") ws := StrLaws.glued_eq_join _ _
  rw [e]
  refine ⟨join_pl (by decide +kernel) hp, ?_⟩
  have := StrLaws.join_length_le (Str.ofString " ") ws
  rw [show (Str.ofString " ").length = 1 by decide, Nat.mul_one] at this
  unfold wt at h
  omega
theorem rep_ln (n : Nat) (h : n = 15 ∨ n = 21) : Ln 21 (⟨(List.replicate n (Str.ofString "1").cps).foldl (· ++ ·) #[]⟩ : Str) := by
  rcases h with rfl | rfl
  · exact ⟨by decide +kernel, by decide +kernel⟩
  · exact ⟨by decide +kernel, by decide +kernel⟩
theorem hour_pl {k : Nat} {h : Hr} (g : HrOk k h) : Pl (hourS h) := by
  refine join_pl (by decide +kernel) fun w hw => ?_
  rcases List.mem_append.mp hw with z | z
  · obtain ⟨j, ej⟩ := List.getElem?_of_mem z
    obtain ⟨on, out, e1, e2, rfl⟩ := zip_at ej
    unfold wd
    rcases g.st j on out e1 e2 with ⟨q, _⟩ | ⟨q, q2, _⟩
    · rw [if_neg (by omega)]; decide +kernel
    · rw [if_pos q]; exact sN_plain q2
  · rw [List.mem_singleton.mp z]
    exact Pl.app (by decide +kernel) (sN_plain g.lv.1)
theorem plan_ln {kk : Nat} {hs : List Hr} (hO : ∀ h ∈ hs, HrOk kk h) (hk : kk ≤ 10) (hz : hs.length ≤ 60) : Ln 20000 (planS hs) := by
  unfold planS
  split
  · exact ⟨by decide +kernel, by decide +kernel⟩
  · refine ⟨join_pl (by decide +kernel) fun w hw => ?_, ?_⟩
    · obtain ⟨h, hh, rfl⟩ := List.mem_map.mp hw
      exact hour_pl (hO h hh)
    · have z := StrLaws.join_length_le (Str.ofString "; ") (hs.map hourS)
      have w := StrLaws.sumLen_le (B := 300) (hs.map hourS) (fun y hy => by obtain ⟨h, hh, rfl⟩ := List.mem_map.mp hy; exact hour_short (hO h hh) hk)
      rw [show (Str.ofString "; ").length = 2 by decide] at z
      rw [List.length_map] at z w
      omega
def sp__law_number (K : PySem.W.Frag) : Sp := fun vs H Q E => ∃ w : Str, vs = [.str w] ∧ Ln 100000 w ∧ ∀ v H', NumV w v → Same H H' → Q v H'
set_option maxHeartbeats 40000000 in
theorem ok__law_number {P : Program} {w : World} {K : PySem.W.Frag} {mg : Str → Option Value} {base : Heap} {a : Adr} (tx : Txt K mg a) : FnOk P w K mg base CX0 1 a.f__law_number a.d__law_number ["_law_word"] (sp__law_number K) := by
  refine tx.F__law_number.ok sc__law_number (fun vs H Q E h => ?_) (fun cdv A outer s H vs Q E hr h => ?_)
  · obtain ⟨w, rfl, _⟩ := h
    rfl
  · obtain ⟨w, rfl , hw, k⟩ := h
    have hu := hu9 hr
    refine L2.Q.root (L2.Q.pss_cons (L2.Q.ps_if (L2.Q.pw_pt (L2.Q.pw_or (L2.Q.pt_cmpR (r := rEqG K) (op_eqG hu) (L2.Q.pv 0) L2.Q.pe_str (nomark _)) (L2.Q.pw_or (L2.Q.pt_cmpR op_gt (L2.Q.pe_callBN (rc := rLenS) call_lenS (by rfl) tx.z_len bt_len (L2.Q.pa_c (L2.Q.pv 0) L2.Q.pa_nil)) L2.Q.pe_int (nomark _)) (L2.Q.pw_or1 (L2.Q.pw_pt (L2.Q.pw_and (L2.Q.pt_cmpR (r := rEqG K) (op_eqG hu) (L2.Q.pe_ixK (K' := K) (L2.Q.pv 0) L2.Q.pe_int (fun _ _ => rfl)) L2.Q.pe_str (nomark _)) (L2.Q.pw_and1 (L2.Q.pt_cmpR (r := rNeG K) (op_neG hu) (L2.Q.pv 0) L2.Q.pe_str (nomark _))))))))) (L2.Q.pss_one (L2.Q.ps_ret L2.Q.pe_non)) L2.Q.pss_nil)
      (L2.Q.pss_cons (L2.Q.ps_for PassesOwn.never rfl (L2.Q.pi_str (L2.Q.pv 0)) (L2.Q.pg_name (i := 1) sc__law_number.nd rfl (Or.inl rfl)) (L2.Q.pss_one (L2.Q.ps_if (L2.Q.pt_cmpR (r := rNotInS) op_notInS (L2.Q.pv 1) L2.Q.pe_str (by with_unfolding_all rfl)) (L2.Q.pss_one (L2.Q.ps_ret L2.Q.pe_non)) L2.Q.pss_nil)))
      (L2.Q.pss_one (L2.Q.ps_ret (L2.Q.pe_callTyN (rc := rIntS) call_intS (by rfl) tx.z_int bt_int (L2.Q.pa_c (L2.Q.pv 0) L2.Q.pa_nil)))))) ?_
    have hl := hw.sz
    have hz : w.length ≤ sizeLine := sz_le (by omega)
    have e0 : w.cps.toList.length = w.length := Array.length_toList
    refine rd_start (σ := [some (.str w), none]) rfl ?_
    refine rd_seqJ (fun σ' H' => σ' = [some (.str w), none] ∧ H' = H ∧ 0 < w.length ∧ w.length ≤ 20 ∧ ¬ (1 < w.length ∧ w.cps.toList.head? = some 48)) (fun N hN => ?_) ?_
    · repeat walk_at "go"
      rw [str_dec]
      refine rd_dec (fun h0 => ?_) (fun h0 => ?_)
      · repeat walk_at "gs"
        exact k _ _ (.inr ⟨numP_no fun z => by have := (okN_iff.mp z).1; rw [h0] at this; exact absurd this (by decide), rfl⟩) (Same.refl _)
      have l0 : 0 < w.length := Nat.pos_of_ne_zero fun z => h0 (str_len0 z)
      repeat walk_at "go"
      refine ⟨w, rfl, hz, ?_⟩
      repeat walk_at "go"
      refine rd_dec (fun h1 => ?_) (fun h1 => ?_)
      · repeat walk_at "gs"
        exact k _ _ (.inr ⟨numP_no fun z => by have := (okN_iff.mp z).2.1; omega, rfl⟩) (Same.refl _)
      obtain ⟨c, ec⟩ : ∃ c, w.cps.toList[0]? = some c := ⟨_, List.getElem?_eq_getElem (by rw [e0]; omega)⟩
      repeat walk_at "go"
      refine .inr (.inr ⟨w, 0, c, rfl, rfl, hz, atI_nat (j := 0) ec, ?_⟩)
      repeat walk_at "go"
      rw [str1_eq (d := 48) (Str.ofString "0") (by decide)]
      refine rd_dec (fun h2 => ?_) (fun h2 => ?_)
      · repeat walk_at "go"
        rw [str_dec]
        refine rd_bool (fun h3 => ?_) (fun h3 => ?_)
        · repeat walk_at "gs"
          refine k _ _ (.inr ⟨numP_no fun z => (okN_iff.mp z).2.2.2 ⟨?_, by rw [List.head?_eq_getElem?, ec, h2]⟩, rfl⟩) (Same.refl _)
          by_cases q : 1 < w.length
          · exact q
          · have : w = Str.ofString "0" := one_of ec q _ (by rw [h2]; decide)
            simp [this] at h3
        · repeat walk_at "gs"
          have : w = Str.ofString "0" := by simpa using h3
          exact hN _ _ ⟨rfl, rfl, l0, by omega, fun z => by rw [this] at z; exact absurd z.1 (by decide)⟩
      · repeat walk_at "gs"
        exact hN _ _ ⟨rfl, rfl, l0, by omega, fun z => h2 (by rw [List.head?_eq_getElem?, ec] at z; exact Option.some.inj z.2)⟩
    rintro σ1 H1 ⟨rfl, rfl, l0, l20, hh⟩
    repeat walk_at "go"
    refine ⟨w, rfl, hw.pl, ?_⟩
    refine rf_str (fun i σ' H' => H' = H1 ∧ (w.cps.toList.take i).all dg = true ∧ ∃ z, σ' = [some (.str w), z]) ⟨rfl, rfl, _, rfl⟩ (fun i c σ' H' hc ⟨e1, e2, z, e3⟩ => ?_) (fun σ' H' ⟨e1, e2, z, e3⟩ => ?_)
    · subst e1 e3
      have hc2 : w.cps.toList[i]? = some c := by rw [Array.getElem?_toList]; exact hc
      have hc' := hw.pl.mem c (List.mem_of_getElem? hc2)
      repeat walk_at "go"
      refine ⟨⟨#[c]⟩, _, rfl, rfl, ?_⟩
      rw [dig_inB c hc']
      repeat walk_at "go"
      refine rd_bool (fun h3 => ?_) (fun h3 => ?_)
      · repeat walk_at "go"
        refine k _ _ (.inr ⟨numP_no fun z => ?_, rfl⟩) (Same.refl _)
        have := List.all_eq_true.mp (okN_iff.mp z).2.2.1 c (List.mem_of_getElem? hc2)
        simp [this] at h3
      · repeat walk_at "go"
        have hd : dg c = true := by simpa using h3
        exact ⟨rfl, by rw [List.take_add_one, hc2, List.all_append, e2]; simp [hd], _, rfl⟩
    · subst e1 e3
      rw [show w.cps.size = w.cps.toList.length from Array.length_toList.symm, List.take_length] at e2
      obtain ⟨n, hi, hn⟩ := numP_ok (w := w) (okN_iff.mpr ⟨l0, l20, e2, hh⟩)
      repeat walk_at "go"
      exact ⟨w, n, rfl, hi, by omega, k _ _ (.inl ⟨n, hn, rfl⟩) (Same.refl _)⟩
def sp__law_any_sign (K : PySem.W.Frag) : Sp := fun vs H Q E => ∃ p : Addr, vs = [.ref p] ∧ HandAt H p ∧ ∀ (c : Nat) H', c < 128 → HandAt H' p → Keep p H H' → Q (.str ⟨#[c]⟩) H'
set_option maxHeartbeats 40000000 in
theorem ok__law_any_sign {P : Program} {w : World} {K : PySem.W.Frag} {mg : Str → Option Value} {base : Heap} {a : Adr} (tx : Txt K mg a) : FnOk P w K mg base CX0 2 a.f__law_any_sign a.d__law_any_sign ["_law_hand"] (sp__law_any_sign K) := by
  have G__law_draw := ok__law_draw (P := P) (w := w) (base := base) tx
  refine tx.F__law_any_sign.ok sc__law_any_sign (fun vs H Q E h => ?_) (fun cdv A outer s H vs Q E hr h => ?_)
  · obtain ⟨p, rfl, _⟩ := h
    rfl
  · obtain ⟨p, rfl , hh, k⟩ := h
    have hu := hu9 hr
    refine L2.Q.root (L2.Q.pss_cons (L2.Q.ps_set (i := 1) sc__law_any_sign.nd rfl (Or.inl rfl) L2.Q.pe_str)
      (L2.Q.pss_cons (L2.Q.ps_set (i := 1) sc__law_any_sign.nd rfl (Or.inl rfl) (L2.Q.pe_op (r := rAddS) op_addS (L2.Q.pv 1) L2.Q.pe_str))
      (L2.Q.pss_one (L2.Q.ps_ret (L2.Q.pe_ixK (K' := K) (L2.Q.pv 1) (L2.Q.pe_callN (G__law_draw) (hr.mono (by decide)) (by rfl) tx.g__law_draw tx.F__law_draw.kp tx.b__law_draw .nil pass0 (L2.Q.pa_c (L2.Q.pv 0) (L2.Q.pa_c (L2.Q.pe_callBN (rc := rLenS) call_lenS (by rfl) tx.z_len bt_len (L2.Q.pa_c (L2.Q.pv 1) L2.Q.pa_nil)) L2.Q.pa_nil))) (fun _ _ => rfl)))))) ?_
    refine rd_start (σ := [some (.ref p), none]) rfl ?_
    repeat walk_at "go"
    refine ⟨_, _, rfl, rfl, sz_le (by decide +kernel), ?_⟩
    obtain ⟨S, hS⟩ : ∃ S : Str, Str.ofString " !\"#$&'()*+,-./0123456789:;<=>?@ABCDEFGHIJKLMNOPQRSTUVWXYZ[\\]^_`" ++ Str.ofString "abcdefghijklmnopqrstuvwxyz{|}~" = S := ⟨_, rfl⟩
    have lS : 0 < S.length ∧ S.length ≤ 100 := by rw [← hS]; decide +kernel
    have pS : Pl S := by rw [← hS]; decide +kernel
    rw [hS]
    repeat walk_at "go"
    refine ⟨S, rfl, sz_le (by omega), ?_⟩
    repeat walk_at "go"
    refine ⟨p, _, rfl, hh, by omega, by omega, fun r1 H1 a1 b1 h1 k1 q1 => ?_⟩
    obtain ⟨c, ec⟩ : ∃ c, S.cps.toList[r1.toNat]? = some c := ⟨_, List.getElem?_eq_getElem (by rw [Array.length_toList]; show _ < S.length; omega)⟩
    have er : r1 = (r1.toNat : Int) := by omega
    refine .inr (.inr ⟨S, r1, c, rfl, rfl, sz_le (by omega), by rw [er]; exact atI_nat ec, ?_⟩)
    repeat walk_at "go"
    exact k c H1 (pS.mem c (List.mem_of_getElem? ec)) h1 k1
def sp__law_spoilt (K : PySem.W.Frag) : Sp := fun vs H Q E => ∃ (p : Addr) (x : Str), vs = [.ref p, .str x] ∧ HandAt H p ∧ Ln 20000 x ∧ ∀ (y : Str) H', Ln 100000 y → HandAt H' p → Keep p H H' → Q (.str y) H'
set_option maxHeartbeats 40000000 in
theorem ok__law_spoilt {P : Program} {w : World} {K : PySem.W.Frag} {mg : Str → Option Value} {base : Heap} {a : Adr} (tx : Txt K mg a) : FnOk P w K mg base CX0 3 a.f__law_spoilt a.d__law_spoilt ["_law_hand", "_law_line"] (sp__law_spoilt K) := by
  have G__law_any_sign := ok__law_any_sign (P := P) (w := w) (base := base) tx
  have G__law_draw := ok__law_draw (P := P) (w := w) (base := base) tx
  refine tx.F__law_spoilt.ok sc__law_spoilt (fun vs H Q E h => ?_) (fun cdv A outer s H vs Q E hr h => ?_)
  · obtain ⟨p, x, rfl, _⟩ := h
    rfl
  · obtain ⟨p, x, rfl , hh, hx, k⟩ := h
    have hu := hu9 hr
    refine L2.Q.root (L2.Q.pss_cons (L2.Q.ps_set (i := 2) sc__law_spoilt.nd rfl (Or.inl rfl) (L2.Q.pe_callN (G__law_draw) (hr.mono (by decide)) (by rfl) tx.g__law_draw tx.F__law_draw.kp tx.b__law_draw .nil pass0 (L2.Q.pa_c (L2.Q.pv 0) (L2.Q.pa_c L2.Q.pe_int L2.Q.pa_nil))))
      (L2.Q.pss_cons (L2.Q.ps_set (i := 3) sc__law_spoilt.nd rfl (Or.inl rfl) (L2.Q.pe_op op_mod (L2.Q.pe_callN (G__law_draw) (hr.mono (by decide)) (by rfl) tx.g__law_draw tx.F__law_draw.kp tx.b__law_draw .nil pass0 (L2.Q.pa_c (L2.Q.pv 0) (L2.Q.pa_c L2.Q.pe_int L2.Q.pa_nil))) (L2.Q.pe_op op_addG (L2.Q.pe_callBN (rc := rLenS) call_lenS (by rfl) tx.z_len bt_len (L2.Q.pa_c (L2.Q.pv 1) L2.Q.pa_nil)) L2.Q.pe_int)))
      (L2.Q.pss_cons (L2.Q.ps_set (i := 4) sc__law_spoilt.nd rfl (Or.inl rfl) (L2.Q.pe_ixK (K' := K) L2.Q.pe_str (L2.Q.pe_callN (G__law_draw) (hr.mono (by decide)) (by rfl) tx.g__law_draw tx.F__law_draw.kp tx.b__law_draw .nil pass0 (L2.Q.pa_c (L2.Q.pv 0) (L2.Q.pa_c L2.Q.pe_int L2.Q.pa_nil))) (fun _ _ => rfl)))
      (L2.Q.pss_cons (L2.Q.ps_if (L2.Q.pt_cmpR (r := rEqG K) (op_eqG hu) (L2.Q.pe_callN (G__law_draw) (hr.mono (by decide)) (by rfl) tx.g__law_draw tx.F__law_draw.kp tx.b__law_draw .nil pass0 (L2.Q.pa_c (L2.Q.pv 0) (L2.Q.pa_c L2.Q.pe_int L2.Q.pa_nil))) L2.Q.pe_int (nomark _)) (L2.Q.pss_one (L2.Q.ps_set (i := 4) sc__law_spoilt.nd rfl (Or.inl rfl) (L2.Q.pe_callN (G__law_any_sign) (hr.mono (by decide)) (by rfl) tx.g__law_any_sign tx.F__law_any_sign.kp tx.b__law_any_sign .nil pass0 (L2.Q.pa_c (L2.Q.pv 0) L2.Q.pa_nil)))) L2.Q.pss_nil)
      (L2.Q.pss_cons (L2.Q.ps_if (L2.Q.pt_cmpR (r := rEqG K) (op_eqG hu) (L2.Q.pv 2) L2.Q.pe_int (nomark _)) (L2.Q.pss_one (L2.Q.ps_ret (L2.Q.pe_op (r := rAddS) op_addS (L2.Q.pe_op (r := rAddS) op_addS (L2.Q.pe_slice (rs := rSlS) sl_str (L2.Q.pv 1) L2.Q.po_none (L2.Q.po_some (L2.Q.pv 3))) (L2.Q.pv 4)) (L2.Q.pe_slice (rs := rSlS) sl_str (L2.Q.pv 1) (L2.Q.po_some (L2.Q.pv 3)) L2.Q.po_none)))) L2.Q.pss_nil)
      (L2.Q.pss_cons (L2.Q.ps_if (L2.Q.pt_cmpR (r := rEqG K) (op_eqG hu) (L2.Q.pv 2) L2.Q.pe_int (nomark _)) (L2.Q.pss_one (L2.Q.ps_ret (L2.Q.pe_op (r := rAddS) op_addS (L2.Q.pe_slice (rs := rSlS) sl_str (L2.Q.pv 1) L2.Q.po_none (L2.Q.po_some (L2.Q.pv 3))) (L2.Q.pe_slice (rs := rSlS) sl_str (L2.Q.pv 1) (L2.Q.po_some (L2.Q.pe_op op_addG (L2.Q.pv 3) L2.Q.pe_int)) L2.Q.po_none)))) L2.Q.pss_nil)
      (L2.Q.pss_cons (L2.Q.ps_if (L2.Q.pt_cmpR (r := rEqG K) (op_eqG hu) (L2.Q.pv 2) L2.Q.pe_int (nomark _)) (L2.Q.pss_one (L2.Q.ps_ret (L2.Q.pe_op (r := rAddS) op_addS (L2.Q.pe_op (r := rAddS) op_addS (L2.Q.pe_slice (rs := rSlS) sl_str (L2.Q.pv 1) L2.Q.po_none (L2.Q.po_some (L2.Q.pv 3))) (L2.Q.pv 4)) (L2.Q.pe_slice (rs := rSlS) sl_str (L2.Q.pv 1) (L2.Q.po_some (L2.Q.pe_op op_addG (L2.Q.pv 3) L2.Q.pe_int)) L2.Q.po_none)))) L2.Q.pss_nil)
      (L2.Q.pss_cons (L2.Q.ps_if (L2.Q.pt_cmpR (r := rEqG K) (op_eqG hu) (L2.Q.pv 2) L2.Q.pe_int (nomark _)) (L2.Q.pss_one (L2.Q.ps_ret (L2.Q.pe_slice (rs := rSlS) sl_str (L2.Q.pv 1) L2.Q.po_none (L2.Q.po_some (L2.Q.pv 3))))) L2.Q.pss_nil)
      (L2.Q.pss_cons (L2.Q.ps_if (L2.Q.pt_cmpR (r := rEqG K) (op_eqG hu) (L2.Q.pv 2) L2.Q.pe_int (nomark _)) (L2.Q.pss_one (L2.Q.ps_ret (L2.Q.pe_op (r := rAddS) op_addS (L2.Q.pe_op (r := rAddS) op_addS (L2.Q.pe_slice (rs := rSlS) sl_str (L2.Q.pv 1) L2.Q.po_none (L2.Q.po_some (L2.Q.pv 3))) (L2.Q.pe_op (r := rRepS) op_repS L2.Q.pe_str (L2.Q.pe_ixK (K' := K) (L2.Q.lst2 L2.Q.pe_int L2.Q.pe_int) (L2.Q.pe_callN (G__law_draw) (hr.mono (by decide)) (by rfl) tx.g__law_draw tx.F__law_draw.kp tx.b__law_draw .nil pass0 (L2.Q.pa_c (L2.Q.pv 0) (L2.Q.pa_c L2.Q.pe_int L2.Q.pa_nil))) (fun _ _ => rfl)))) (L2.Q.pe_slice (rs := rSlS) sl_str (L2.Q.pv 1) (L2.Q.po_some (L2.Q.pv 3)) L2.Q.po_none)))) L2.Q.pss_nil)
      (L2.Q.pss_cons (L2.Q.ps_set (i := 5) sc__law_spoilt.nd rfl (Or.inl rfl) (L2.Q.pe_splitK (K' := K) (L2.Q.pv 1) (L2.Q.pa_c L2.Q.pe_str L2.Q.pa_nil)))
      (L2.Q.pss_cons (L2.Q.ps_set (i := 6) sc__law_spoilt.nd rfl (Or.inl rfl) (L2.Q.pe_op op_mod (L2.Q.pe_callN (G__law_draw) (hr.mono (by decide)) (by rfl) tx.g__law_draw tx.F__law_draw.kp tx.b__law_draw .nil pass0 (L2.Q.pa_c (L2.Q.pv 0) (L2.Q.pa_c L2.Q.pe_int L2.Q.pa_nil))) (L2.Q.pe_callBN (rc := rLen K) call_lenG (by rfl) tx.z_len bt_len (L2.Q.pa_c (L2.Q.pv 5) L2.Q.pa_nil))))
      (L2.Q.pss_one (L2.Q.ps_ret (L2.Q.pe_joinK (K' := K) L2.Q.pe_str (L2.Q.pa_c (L2.Q.pe_ixK (K' := K) (L2.Q.lst2 (L2.Q.pe_op op_addG (L2.Q.pe_slice (rs := rSlG K) sl_G (L2.Q.pv 5) L2.Q.po_none (L2.Q.po_some (L2.Q.pv 6))) (L2.Q.pe_slice (rs := rSlG K) sl_G (L2.Q.pv 5) (L2.Q.po_some (L2.Q.pe_op op_addG (L2.Q.pv 6) L2.Q.pe_int)) L2.Q.po_none)) (L2.Q.pe_op op_addG (L2.Q.pe_op op_addG (L2.Q.pe_slice (rs := rSlG K) sl_G (L2.Q.pv 5) L2.Q.po_none (L2.Q.po_some (L2.Q.pv 6))) (L2.Q.pe_slice (rs := rSlG K) sl_G (L2.Q.pv 5) (L2.Q.po_some (L2.Q.pv 6)) (L2.Q.po_some (L2.Q.pe_op op_addG (L2.Q.pv 6) L2.Q.pe_int)))) (L2.Q.pe_slice (rs := rSlG K) sl_G (L2.Q.pv 5) (L2.Q.po_some (L2.Q.pv 6)) L2.Q.po_none))) (L2.Q.pe_callN (G__law_draw) (hr.mono (by decide)) (by rfl) tx.g__law_draw tx.F__law_draw.kp tx.b__law_draw .nil pass0 (L2.Q.pa_c (L2.Q.pv 0) (L2.Q.pa_c L2.Q.pe_int L2.Q.pa_nil))) (fun _ _ => rfl)) L2.Q.pa_nil))))))))))))))) ?_
    have hl := hx.sz
    refine rd_start (σ := [some (.ref p), some (.str x), none, none, none, none, none]) rfl ?_
    repeat walk_at "go"
    refine ⟨p, _, rfl, hh, by decide, by decide, fun way H1 a1 b1 h1 k1 _ => ?_⟩
    repeat walk_at "go"
    refine ⟨p, _, rfl, h1, by decide, by decide, fun r2 H2 a2 b2 h2 k2 _ => ?_⟩
    repeat walk_at "go"
    refine ⟨x, rfl, sz_le (by omega), ?_⟩
    repeat walk_at "go"
    obtain ⟨at_, hat, at0, at1⟩ : ∃ at_ : Int, r2 % ((x.length : Int) + 1) = at_ ∧ 0 ≤ at_ ∧ at_ ≤ x.length := ⟨_, rfl, Int.emod_nonneg _ (by omega), by have := Int.emod_lt_of_pos r2 (show (0 : Int) < x.length + 1 by omega); omega⟩
    rw [hat]
    refine ⟨p, _, rfl, h2, by decide, by decide, fun r3 H3 a3 b3 h3 k3 _ => ?_⟩
    have l9 : (Str.ofString " ;@-0:59n").cps.toList.length = 9 := by decide +kernel
    obtain ⟨c3, ec3⟩ : ∃ c, (Str.ofString " ;@-0:59n").cps.toList[r3.toNat]? = some c := ⟨_, List.getElem?_eq_getElem (by rw [l9]; omega)⟩
    have pc3 : c3 < 128 := Pl.mem (by decide +kernel : Pl (Str.ofString " ;@-0:59n")) c3 (List.mem_of_getElem? ec3)
    refine .inr (.inr ⟨_, r3, c3, rfl, rfl, sz_le (by decide), by rw [show r3 = (r3.toNat : Int) by omega]; exact atI_nat ec3, ?_⟩)
    repeat walk_at "st"
    refine rd_seqJ (fun σ' H' => ∃ c : Nat, c < 128 ∧ σ' = [some (.ref p), some (.str x), some (.int way), some (.int at_), some (.str ⟨#[c]⟩), none, none] ∧ HandAt H' p ∧ Keep p H H') (fun N hN => ?_) ?_
    · repeat walk_at "go"
      refine ⟨p, _, rfl, h3, by decide, by decide, fun r4 H4 a4 b4 h4 k4 _ => ?_⟩
      repeat walk_at "go"
      refine rd_dec (fun h => ?_) (fun h => ?_)
      · repeat walk_at "go"
        refine ⟨p, rfl, h4, fun c H5 hc h5 k5 => ?_⟩
        repeat walk_at "go"
        exact hN _ _ ⟨c, hc, rfl, h5, k1.trans (k2.trans (k3.trans (k4.trans k5)))⟩
      · repeat walk_at "go"
        exact hN _ _ ⟨c3, pc3, rfl, h4, k1.trans (k2.trans (k3.trans k4))⟩
    rintro σ5 H5 ⟨c, hc, rfl, h5, K5⟩
    have sg := Pl.one hc
    have A : Ln 20000 (StrLaws.sliceText x none (some at_)) := slice_ln hx (Nat.le_trans (slice_to_len at0 at1) hl)
    have B : Ln 20000 (StrLaws.sliceText x (some at_) none) := slice_ln hx (Nat.le_trans (slice_from_len at0) hl)
    have B1 : Ln 20000 (StrLaws.sliceText x (some (at_ + 1)) none) := slice_ln hx (Nat.le_trans (slice_from_len (by omega)) hl)
    have bz : ∀ {n : Nat} {y : Str}, Ln n y → n ≤ 100000 → y.length ≤ sizeLine := fun h hn => sz_le (Nat.le_trans h.sz (by omega))
    have az : ∀ {n m : Nat} {y z : Str}, Ln n y → Ln m z → n + m ≤ 100000 → y.length + z.length ≤ sizeLine := fun h h' hn => sz_le (by have := h.sz; have := h'.sz; omega)
    repeat walk_at "go"
    refine rd_dec (fun w0 => ?_) (fun w0 => ?_)
    · repeat walk_at "go"
      refine ⟨_, rfl, bz A (by omega), ?_⟩
      repeat walk_at "go"
      refine ⟨_, _, rfl, rfl, az A sg (by omega), ?_⟩
      repeat walk_at "go"
      refine ⟨_, rfl, bz B (by omega), ?_⟩
      repeat walk_at "go"
      refine ⟨_, _, rfl, rfl, az (A.app sg) B (by omega), ?_⟩
      repeat walk_at "go"
      exact k _ _ (((A.app sg).app B).le (by omega)) h5 K5
    repeat walk_at "go"
    refine rd_dec (fun w1 => ?_) (fun w1 => ?_)
    · repeat walk_at "go"
      refine ⟨_, rfl, bz A (by omega), ?_⟩
      repeat walk_at "go"
      refine ⟨_, rfl, bz B1 (by omega), ?_⟩
      repeat walk_at "go"
      refine ⟨_, _, rfl, rfl, az A B1 (by omega), ?_⟩
      repeat walk_at "go"
      exact k _ _ ((A.app B1).le (by omega)) h5 K5
    repeat walk_at "go"
    refine rd_dec (fun w2 => ?_) (fun w2 => ?_)
    · repeat walk_at "go"
      refine ⟨_, rfl, bz A (by omega), ?_⟩
      repeat walk_at "go"
      refine ⟨_, _, rfl, rfl, az A sg (by omega), ?_⟩
      repeat walk_at "go"
      refine ⟨_, rfl, bz B1 (by omega), ?_⟩
      repeat walk_at "go"
      refine ⟨_, _, rfl, rfl, az (A.app sg) B1 (by omega), ?_⟩
      repeat walk_at "go"
      exact k _ _ (((A.app sg).app B1).le (by omega)) h5 K5
    repeat walk_at "go"
    refine rd_dec (fun w3 => ?_) (fun w3 => ?_)
    · repeat walk_at "go"
      refine ⟨_, rfl, bz A (by omega), ?_⟩
      repeat walk_at "go"
      exact k _ _ (A.le (by omega)) h5 K5
    repeat walk_at "go"
    refine rd_dec (fun w4 => ?_) (fun w4 => ?_)
    · repeat walk_at "go"
      refine ⟨_, rfl, bz A (by omega), ?_⟩
      repeat walk_at "go"
      intro l6 n6
      obtain ⟨H6, i6, s6, g6⟩ := nw _ n6; rw [i6]
      repeat walk_at "go"
      refine ⟨p, _, rfl, h5.same s6, by decide, by decide, fun r7 H7 a7 b7 h7 k7 _ => ?_⟩
      have lp6 : l6 ≠ p := h5.nnew n6
      have g7 := k7 _ _ g6 lp6
      have K7 : Keep p H H7 := K5.trans (s6.keep.trans k7)
      obtain ⟨m, em, hm⟩ : ∃ m : Nat, atI [V.int 15, .int 21] r7 = some (.int (m : Int)) ∧ (m = 15 ∨ m = 21) := by
        have : r7 = 0 ∨ r7 = 1 := by omega
        rcases this with rfl | rfl
        · exact ⟨15, rfl, .inl rfl⟩
        · exact ⟨21, rfl, .inr rfl⟩
      have rp := rep_ln m hm
      repeat walk_at "go"
      refine ⟨_, m, rfl, rfl, by omega, by decide, sz_le (by rw [show (Str.ofString "1").length = 1 by decide]; omega), ?_⟩
      repeat walk_at "go"
      refine ⟨_, _, rfl, rfl, az A rp (by omega), ?_⟩
      repeat walk_at "go"
      refine ⟨_, rfl, bz B (by omega), ?_⟩
      repeat walk_at "go"
      refine ⟨_, _, rfl, rfl, az (A.app rp) B (by omega), ?_⟩
      repeat walk_at "go"
      exact k _ _ (((A.app rp).app B).le (by omega)) h7 K7
    repeat walk_at "go"
    refine ⟨rfl, ?_⟩
    repeat walk_at "go"
    have sw := PyProof.Rows.split_weight x (Str.ofString " ") (by decide)
    have wW : wt (wsP x) ≤ 20001 := by show ((Txt.split x (Str.ofString " ")).map (·.length)).sum + (Txt.split x (Str.ofString " ")).length ≤ _; omega
    have lW : (wsP x).length ≤ 20001 := by unfold wt at wW; omega
    have l1W : 1 ≤ (wsP x).length := PyProof.Rows.split_pos x (Str.ofString " ")
    have pW : ∀ w ∈ wsP x, Pl w := fun w hw => (split_ln hx w hw).pl
    refine ⟨_, _, rfl, rfl, by decide, sz_le (by omega), sz_le (by show (wsP x).length ≤ _; omega), fun l nl => ?_⟩
    rw [show Txt.split x (Str.ofString " ") = wsP x from rfl]
    obtain ⟨H6, i6, s6, g6⟩ := nw _ nl; rw [i6]
    have lp : l ≠ p := h5.nnew nl
    repeat walk_at "go"
    refine ⟨p, _, rfl, h5.same s6, by decide, by decide, fun r7 H7 a7 b7 h7 k7 _ => ?_⟩
    have g7 := k7 _ _ g6 lp
    have K7 : Keep p H H7 := K5.trans (s6.keep.trans k7)
    have l1' : 0 < (((wsP x).map V.str).length : Int) := by rw [List.length_map]; omega
    repeat walk_at "go"
    obtain ⟨kk, hkk⟩ : ∃ kk : Int, r7 % (((wsP x).map V.str).length : Int) = kk := ⟨_, rfl⟩
    rw [hkk]
    have hw : ∀ lo hi, wt (cutS (wsP x) lo hi) ≤ 20001 := fun lo hi => Nat.le_trans (wt_cut _ _ _) wW
    have hc : ∀ lo hi, (cutS (wsP x) lo hi).length ≤ 20001 := fun lo hi => by have := hw lo hi; unfold wt at this; omega
    have hp : ∀ lo hi, ∀ w ∈ cutS (wsP x) lo hi, Pl w := fun lo hi w h => pW w (cut_sub h)
    repeat walk_at "go"
    refine ⟨rfl, ?_⟩
    repeat walk_at "go"
    refine rd_slL (SqL.of g7) ?_
    rw [cutS_map]
    intro b1 m1
    obtain ⟨J1, j1, t1, q1⟩ := nw _ m1; rw [j1]
    repeat walk_at "go"
    refine rd_slL (SqL.of (t1 _ _ g7)) ?_
    rw [cutS_map]
    intro b2 m2
    obtain ⟨J2, j2, t2, q2⟩ := nw _ m2; rw [j2]
    repeat walk_at "go"
    refine rd_addL (t2 _ _ q1) q2 (sz_le (by rw [List.length_map, List.length_map]; have := hc none (some kk); have := hc (some (kk + 1)) none; omega)) ?_
    rw [← List.map_append]
    intro b3 m3
    obtain ⟨J3, j3, t3, q3⟩ := nw _ m3; rw [j3]
    have T3 := t1.trans (t2.trans t3)
    repeat walk_at "go"
    refine rd_slL (SqL.of (T3 _ _ g7)) ?_
    rw [cutS_map]
    intro b4 m4
    obtain ⟨J4, j4, t4, q4⟩ := nw _ m4; rw [j4]
    repeat walk_at "go"
    refine rd_slL (SqL.of (t4 _ _ (T3 _ _ g7))) ?_
    rw [cutS_map]
    intro b5 m5
    obtain ⟨J5, j5, t5, q5⟩ := nw _ m5; rw [j5]
    repeat walk_at "go"
    refine rd_addL (t5 _ _ q4) q5 (sz_le (by rw [List.length_map, List.length_map]; have := hc none (some kk); have := hc (some kk) (some (kk + 1)); omega)) ?_
    rw [← List.map_append]
    intro b6 m6
    obtain ⟨J6, j6, t6, q6⟩ := nw _ m6; rw [j6]
    have T6 := T3.trans (t4.trans (t5.trans t6))
    repeat walk_at "go"
    refine rd_slL (SqL.of (T6 _ _ g7)) ?_
    rw [cutS_map]
    intro b7' m7
    obtain ⟨J7, j7, t7, q7⟩ := nw _ m7; rw [j7]
    repeat walk_at "go"
    refine rd_addL (t7 _ _ q6) q7 (sz_le (by rw [List.length_map, List.length_map, List.length_append]; have := hc none (some kk); have := hc (some kk) (some (kk + 1)); have := hc (some kk) none; omega)) ?_
    rw [← List.map_append]
    intro b8 m8
    obtain ⟨J8, j8, t8, q8⟩ := nw _ m8; rw [j8]
    have q38 := (t4.trans (t5.trans (t6.trans (t7.trans t8)))) _ _ q3
    repeat walk_at "go"
    intro b9 m9
    obtain ⟨J9, j9, t9, q9⟩ := nw _ m9; rw [j9]
    have T9 : Same H7 J9 := T6.trans (t7.trans (t8.trans t9))
    have b9p : b9 ≠ p := (h7.same (T6.trans (t7.trans t8))).nnew m9
    have b3p : b3 ≠ p := (h7.same (t1.trans t2)).nnew m3
    have b8p : b8 ≠ p := (h7.same (T6.trans t7)).nnew m8
    have q39 := t9 _ _ q38
    have q89 := t9 _ _ q8
    repeat walk_at "go"
    refine ⟨p, _, rfl, h7.same T9, by decide, by decide, fun r8 J10 a8 b8' h10 k10 _ => ?_⟩
    have q10 := k10 _ _ q9 b9p
    obtain ⟨bb, ws, eb, qb, hb⟩ : ∃ bb ws, atI [V.ref b3, .ref b8] r8 = some (.ref bb) ∧ J10 bb = some (.lst (ws.map V.str)) ∧ wt ws ≤ 60003 ∧ ∀ w ∈ ws, Pl w := by
      have : r8 = 0 ∨ r8 = 1 := by omega
      rcases this with rfl | rfl
      · exact ⟨b3, _, rfl, k10 _ _ q39 b3p, by rw [wt_app]; have := hw none (some kk); have := hw (some (kk + 1)) none; omega, fun w h => (List.mem_append.mp h).elim (hp _ _ w) (hp _ _ w)⟩
      · exact ⟨b8, _, rfl, k10 _ _ q89 b8p, by rw [wt_app, wt_app]; have := hw none (some kk); have := hw (some kk) (some (kk + 1)); have := hw (some kk) none; omega, fun w h => (List.mem_append.mp h).elim (fun h => (List.mem_append.mp h).elim (hp _ _ w) (hp _ _ w)) (hp _ _ w)⟩
    repeat walk_at "go"
    refine ⟨_, bb, ws, rfl, rfl, SqL.of qb, join_fits hb.1 (by omega), ?_⟩
    exact k _ _ ((join_ln hb.1 hb.2).le (by omega)) h10 (K7.trans (T9.keep.trans k10))
def sp__law_hour_read (K : PySem.W.Frag) : Sp := fun vs H Q E => ∃ p : Str, vs = [.str p] ∧ Ln 100000 p ∧ (∀ h, hourP p = some h → ∀ t H', Same H H' → HrAt H' t h → Q (.ref t) H') ∧ (hourP p = none → ∀ H', Same H H' → Q .non H')
set_option maxHeartbeats 40000000 in
theorem ok__law_hour_read {P : Program} {w : World} {K : PySem.W.Frag} {mg : Str → Option Value} {base : Heap} {a : Adr} (tx : Txt K mg a) : FnOk P w K mg base CX0 2 a.f__law_hour_read a.d__law_hour_read ["_law_part"] (sp__law_hour_read K) := by
  have G__law_number := ok__law_number (P := P) (w := w) (base := base) tx
  refine tx.F__law_hour_read.ok sc__law_hour_read (fun vs H Q E h => ?_) (fun cdv A outer s H vs Q E hr h => ?_)
  · obtain ⟨p, rfl, _⟩ := h
    rfl
  · obtain ⟨p, rfl , hp, k, ke⟩ := h
    have hu := hu9 hr
    refine L2.Q.root (L2.Q.pss_cons (L2.Q.ps_set (i := 1) sc__law_hour_read.nd rfl (Or.inl rfl) (L2.Q.pe_splitK (K' := K) (L2.Q.pv 0) (L2.Q.pa_c L2.Q.pe_str L2.Q.pa_nil)))
      (L2.Q.pss_cons (L2.Q.ps_set (i := 2) sc__law_hour_read.nd rfl (Or.inl rfl) (L2.Q.pe_callN (G__law_number) (hr.mono (by decide)) (by rfl) tx.g__law_number tx.F__law_number.kp tx.b__law_number .nil pass0 (L2.Q.pa_c (L2.Q.pe_slice (rs := rSlS) sl_str (L2.Q.pe_ixK (K' := K) (L2.Q.pv 1) (L2.Q.pe_un un_neg L2.Q.pe_int) (fun _ _ => rfl)) (L2.Q.po_some L2.Q.pe_int) L2.Q.po_none) L2.Q.pa_nil)))
      (L2.Q.pss_cons (L2.Q.ps_if (L2.Q.pw_pt (L2.Q.pw_or (L2.Q.pt_cmpR (r := rNeG K) (op_neG hu) (L2.Q.pe_slice (rs := rSlS) sl_str (L2.Q.pe_ixK (K' := K) (L2.Q.pv 1) (L2.Q.pe_un un_neg L2.Q.pe_int) (fun _ _ => rfl)) L2.Q.po_none (L2.Q.po_some L2.Q.pe_int)) L2.Q.pe_str (nomark _)) (L2.Q.pw_or1 (L2.Q.pt_cmpR op_isG (L2.Q.pv 2) L2.Q.pe_non (nomark _))))) (L2.Q.pss_one (L2.Q.ps_ret L2.Q.pe_non)) L2.Q.pss_nil)
      (L2.Q.pss_cons (L2.Q.ps_par (i := 3) (j := 4) rfl sc__law_hour_read.nd rfl rfl (by decide) rfl rfl (L2.Q.pa_c (L2.Q.pe_lst L2.Q.pa_nil) (L2.Q.pa_c (L2.Q.pe_lst L2.Q.pa_nil) L2.Q.pa_nil)))
      (L2.Q.pss_cons (L2.Q.ps_for PassesOwn.never rfl (L2.Q.pi_listK (K' := K) (L2.Q.pe_slice (rs := rSlG K) sl_G (L2.Q.pv 1) L2.Q.po_none (L2.Q.po_some (L2.Q.pe_un un_neg L2.Q.pe_int)))) (L2.Q.pg_name (i := 5) sc__law_hour_read.nd rfl (Or.inl rfl)) (L2.Q.pss_cons (L2.Q.ps_set (i := 6) sc__law_hour_read.nd rfl (Or.inl rfl) L2.Q.pe_int)
      (L2.Q.pss_cons (L2.Q.ps_if (L2.Q.pt_cmpR (r := rNeG K) (op_neG hu) (L2.Q.pv 5) L2.Q.pe_str (nomark _)) (L2.Q.pss_one (L2.Q.ps_set (i := 6) sc__law_hour_read.nd rfl (Or.inl rfl) (L2.Q.pe_callN (G__law_number) (hr.mono (by decide)) (by rfl) tx.g__law_number tx.F__law_number.kp tx.b__law_number .nil pass0 (L2.Q.pa_c (L2.Q.pv 5) L2.Q.pa_nil)))) L2.Q.pss_nil)
      (L2.Q.pss_cons (L2.Q.ps_if (L2.Q.pt_cmpR op_isG (L2.Q.pv 6) L2.Q.pe_non (nomark _)) (L2.Q.pss_one (L2.Q.ps_ret L2.Q.pe_non)) L2.Q.pss_nil)
      (L2.Q.pss_cons (L2.Q.ps_expr (L2.Q.pe_appK (K' := K) (L2.Q.pv 3) (L2.Q.pa_c (L2.Q.pe_callTyN call_intG (by rfl) tx.z_int bt_int (L2.Q.pa_c (L2.Q.pe_cmpR (r := rNeG K) (op_neG hu) (L2.Q.pv 5) L2.Q.pe_str (nomark _)) L2.Q.pa_nil)) L2.Q.pa_nil)))
      (L2.Q.pss_one (L2.Q.ps_expr (L2.Q.pe_appK (K' := K) (L2.Q.pv 4) (L2.Q.pa_c (L2.Q.pv 6) L2.Q.pa_nil)))))))))
      (L2.Q.pss_one (L2.Q.ps_ret (L2.Q.tup3 (L2.Q.pe_callTyN (rc := rTupOf K) call_tupG (by rfl) tx.z_tuple bt_tuple (L2.Q.pa_c (L2.Q.pv 3) L2.Q.pa_nil)) (L2.Q.pe_callTyN (rc := rTupOf K) call_tupG (by rfl) tx.z_tuple bt_tuple (L2.Q.pa_c (L2.Q.pv 4) L2.Q.pa_nil)) (L2.Q.pv 2))))))))) ?_
    have hl := hp.sz
    obtain ⟨li, lw⟩ := init_len hl
    have lL := split_ln hp _ (last_mem p)
    have lL2 := lL.sz
    have sl1 := slice_from_len (x := lastW p) (i := 1) (by decide)
    refine rd_start (σ := [some (.str p), none, none, none, none, none, none]) rfl ?_
    repeat walk_at "go"
    refine ⟨rfl, ?_⟩
    repeat walk_at "go"
    refine ⟨_, _, rfl, rfl, by decide, sz_le (by omega), sz_le (by show (wsP p).length ≤ _; omega), fun l nl => ?_⟩
    rw [show Txt.split p (Str.ofString " ") = wsP p from rfl]
    obtain ⟨H1, i1, s1, g1⟩ := nw _ nl; rw [i1]
    have al : atI ((wsP p).map V.str) (-1) = some (.str (lastW p)) := by
      rw [ws_eq p, List.map_append]
      exact at_last _
    repeat walk_at "go"
    refine ⟨_, rfl, sz_le (by omega), ?_⟩
    repeat walk_at "go"
    refine ⟨_, rfl, slice_ln lL (by omega), fun lv H2 hv s2 => ?_⟩
    have g12 := s2 _ _ g1
    repeat walk_at "go"
    refine ⟨_, rfl, Nat.le_trans slice_to1 (sz_le (by omega)), ?_⟩
    repeat walk_at "go"
    rw [str_dec]
    refine rd_bool (fun h1 => ?_) (fun h1 => ?_)
    · repeat walk_at "gs"
      refine ke (hourP_lv ?_) _ (s1.trans s2)
      unfold lvlP
      rw [if_neg fun z => by rw [slice_at.mpr z] at h1; simp at h1]
    have st : Txt.startswith (lastW p) (Str.ofString "@") = true := slice_at.mp (by simpa using h1)
    have elv : lvlP (lastW p) = numP (StrLaws.sliceText (lastW p) (some 1) none) := by unfold lvlP; rw [if_pos st]
    rcases hv with ⟨n, hn, rfl⟩ | ⟨hn, rfl⟩
    rotate_left
    · repeat walk_at "gs"
      exact ke (hourP_lv (elv.trans hn)) _ (s1.trans s2)
    repeat walk_at "gs"
    intro lo no
    obtain ⟨H3, i3, s3, g3⟩ := nw _ no; rw [i3]
    repeat walk_at "gs"
    intro lt nt
    obtain ⟨H4, i4, s4, g4⟩ := nw _ nt; rw [i4]
    have g3' := s4 _ _ g3
    have nlt : lo ≠ lt := fun z => by rw [← z, g3] at nt; cases nt
    have g14 := (s3.trans s4) _ _ g12
    repeat walk_at "gs"
    refine ⟨_, _, rfl, ?_⟩
    show Nx _ _ _
    repeat walk_at "gs"
    refine rd_slL (SqL.of g14) ?_
    rw [init_cut]
    intro l5 n5
    obtain ⟨H5, i5, s5, g5⟩ := nw _ n5; rw [i5]
    have S5 : Same H H5 := s1.trans (s2.trans (s3.trans (s4.trans s5)))
    have noH : H lo = none := (s1.trans s2).free no
    have ntH : H lt = none := (s1.trans (s2.trans s3)).free nt
    have n5o : l5 ≠ lo := fun z => by rw [z, g3'] at n5; cases n5
    have n5t : l5 ≠ lt := fun z => by rw [z, g4] at n5; cases n5
    refine rd_li (SqL.of g5) ?_
    refine rf_list (xs := (wsP p).dropLast.map V.str) (fun j σ' H' => Same H H' ∧ H' l5 = some (.lst ((wsP p).dropLast.map V.str)) ∧ ∃ os z5 z6, allP outP ((wsP p).dropLast.take j) = some os ∧ H' lo = some (.lst ((((wsP p).dropLast.take j).map onP).map V.int)) ∧ H' lt = some (.lst (os.map V.int)) ∧ σ' = [some (.str p), some (.ref l), some (.int n), some (.ref lo), some (.ref lt), z5, z6])
      ⟨S5, g5, [], _, _, rfl, s5 _ _ g3', s5 _ _ g4, rfl⟩ (fun j σ' H' hj ⟨_, q, _⟩ => SqL.of q) (fun j v σ' H' hv ⟨S, q5, os, z5, z6, eo, qo, qt, e⟩ => ?_) (fun σ' H' ⟨S, q5, os, z5, z6, eo, qo, qt, e⟩ => ?_)
    · subst e
      rw [List.getElem?_map] at hv
      obtain ⟨w, ew, rfl⟩ := Option.map_eq_some_iff.mp hv
      have mw := List.mem_of_getElem? ew
      have ls : ((wsP p).dropLast.take j).length ≤ 100001 := by rw [List.length_take]; omega
      have lo2 := allP_len eo
      repeat walk_at "go"
      rw [str_dec]
      by_cases h1 : w = Str.ofString "-"
      · rw [decide_eq_true h1]
        repeat walk_at "gs"
        refine rd_tyL (SqL.of qo) ?_
        repeat walk_at "gs"
        rw [str_dec, decide_eq_true h1]
        repeat walk_at "gs"
        refine rd_app (xs := (((wsP p).dropLast.take j).map onP).map V.int) qo (Nat.lt_of_lt_of_le (by rw [List.length_map, List.length_map]; omega : _ < 200000) (sz_le (by omega))) ?_
        obtain ⟨J1, m1, c1, d1⟩ := wr H' lo _; rw [m1]
        have qt1 := c1 _ _ qt nlt.symm
        repeat walk_at "gs"
        refine rd_tyL (SqL.of qt1) ?_
        repeat walk_at "gs"
        refine rd_app (xs := os.map V.int) qt1 (Nat.lt_of_lt_of_le (by rw [List.length_map]; omega : _ < 200000) (sz_le (by omega))) ?_
        obtain ⟨J2, m2, c2, d2⟩ := wr J1 lt _; rw [m2]
        repeat walk_at "gs"
        refine ⟨fun b o e => c2 _ _ (c1 _ _ (S _ _ e) (ne_none noH e)) (ne_none ntH e), c2 _ _ (c1 _ _ q5 n5o) n5t, os ++ [0], _, _, allP_at eo ew (by unfold outP; rw [if_pos h1]), ?_, ?_, rfl⟩
        · rw [c2 _ _ d1 nlt, take_snoc ew, List.map_append, List.map_append, show [w].map onP = [0] by rw [h1]; decide]
          rfl
        · rw [d2, List.map_append]
          rfl
      · rw [decide_eq_false h1]
        repeat walk_at "gs"
        have eo2 : outP w = numP w := by unfold outP; rw [if_neg h1]
        refine ⟨w, rfl, split_ln hp _ (init_mem mw), fun v H6 hv s6 => ?_⟩
        have qo := s6 _ _ qo
        have qt := s6 _ _ qt
        have S := S.trans s6
        have q5 := s6 _ _ q5
        rcases hv with ⟨n2, hn2, rfl⟩ | ⟨hn2, rfl⟩
        rotate_left
        · repeat walk_at "gs"
          exact ke (hourP_out mw (eo2.trans hn2)) _ S
        repeat walk_at "gs"
        refine rd_tyL (SqL.of qo) ?_
        repeat walk_at "gs"
        rw [str_dec, decide_eq_false h1]
        repeat walk_at "gs"
        refine rd_app (xs := (((wsP p).dropLast.take j).map onP).map V.int) qo (Nat.lt_of_lt_of_le (by rw [List.length_map, List.length_map]; omega : _ < 200000) (sz_le (by omega))) ?_
        obtain ⟨J1, m1, c1, d1⟩ := wr H6 lo _; rw [m1]
        have qt1 := c1 _ _ qt nlt.symm
        repeat walk_at "gs"
        refine rd_tyL (SqL.of qt1) ?_
        repeat walk_at "gs"
        refine rd_app (xs := os.map V.int) qt1 (Nat.lt_of_lt_of_le (by rw [List.length_map]; omega : _ < 200000) (sz_le (by omega))) ?_
        obtain ⟨J2, m2, c2, d2⟩ := wr J1 lt _; rw [m2]
        repeat walk_at "gs"
        refine ⟨fun b o e => c2 _ _ (c1 _ _ (S _ _ e) (ne_none noH e)) (ne_none ntH e), c2 _ _ (c1 _ _ q5 n5o) n5t, os ++ [n2], _, _, allP_at eo ew (eo2.trans hn2), ?_, ?_, rfl⟩
        · rw [c2 _ _ d1 nlt, take_snoc ew, List.map_append, List.map_append, show [w].map onP = [1] by unfold onP; rw [List.map_cons, if_neg h1]; rfl]
          rfl
        · rw [d2, List.map_append]
          rfl
    · subst e
      rw [List.length_map, List.take_length] at eo qo
      repeat walk_at "gs"
      refine rd_tupL (SqL.of qo) ?_
      intro t1 nt1
      obtain ⟨H7, i7, s7, g7⟩ := nw _ nt1; rw [i7]
      repeat walk_at "go"
      refine rd_tupL (SqL.of (s7 _ _ qt)) ?_
      intro t2 nt2
      obtain ⟨H8, i8, s8, g8⟩ := nw _ nt2; rw [i8]
      repeat walk_at "go"
      intro a9 n9
      obtain ⟨H9, i9, s9, g9⟩ := nw _ n9; rw [i9]
      repeat walk_at "go"
      exact k _ (hourP_ok (elv.trans hn) eo) a9 H9 (S.trans (s7.trans (s8.trans s9))) ⟨t1, t2, g9, (s8.trans s9) _ _ g7, s9 _ _ g8⟩
def PrV (H : Hp) (w : Str) (v : V) : Prop := (∃ h a, hourP w = some h ∧ v = .ref a ∧ HrAt H a h) ∨ (hourP w = none ∧ v = .non)
theorem PrV.same {H H' : Hp} {w : Str} {v : V} (h : PrV H w v) (s : Same H H') : PrV H' w v := by
  rcases h with ⟨h, a, e1, e2, e3⟩ | h
  · exact .inl ⟨h, a, e1, e2, e3.same s⟩
  · exact .inr h
theorem pr_all {H : Hp} : ∀ {ws : List Str} {us : List V}, us.length = ws.length → (∀ (i : Nat) w v, ws[i]? = some w → us[i]? = some v → PrV H w v) → us.any vN = false → ∃ as hs, us = as.map V.ref ∧ allP hourP ws = some hs ∧ RL (HrAt H) as hs
  | [], [], _, _, _ => ⟨[], [], rfl, rfl, RL.nil⟩
  | w :: ws, u :: us, hl, h, hn => by
    rw [List.any_cons, Bool.or_eq_false_iff] at hn
    obtain ⟨as, hs, e1, e2, e3⟩ := pr_all (by simpa using hl) (fun i w v a b => h (i + 1) w v a b) hn.2
    rcases h 0 w u rfl rfl with ⟨g, a, q1, rfl, q3⟩ | ⟨_, rfl⟩
    · refine ⟨a :: as, g :: hs, by rw [e1]; rfl, ?_, ⟨by rw [List.length_cons, List.length_cons, e3.len], fun j b x hb hx => ?_⟩⟩
      · unfold allP
        rw [q1, e2]
      · cases j with
        | zero => cases hb; cases hx; exact q3
        | succ j => exact e3.at_ j b x hb hx
    · exact absurd hn.1 (by decide)
theorem pr_none {H : Hp} {ws : List Str} {us : List V} (hl : us.length = ws.length) (h : ∀ (i : Nat) w v, ws[i]? = some w → us[i]? = some v → PrV H w v) (hn : us.any vN = true) : allP hourP ws = none := by
  obtain ⟨v, hv, hn⟩ := List.any_eq_true.mp hn
  obtain ⟨i, hi⟩ := List.getElem?_of_mem hv
  have li : i < ws.length := by rw [← hl]; exact (List.getElem?_eq_some_iff.mp hi).1
  rcases h i ws[i] v (List.getElem?_eq_getElem li) hi with ⟨g, a, q1, rfl, q3⟩ | ⟨q, _⟩
  · cases hn
  · exact allP_none (List.getElem_mem li) q
theorem even_max {hs : List Hr} {m n : Int} (h0 : hs ≠ []) (hm : m ∈ hs.map fun h => (h.ons.length : Int)) (hm2 : ∀ x ∈ hs.map fun h => (h.ons.length : Int), x ≤ m) (hn : n ∈ hs.map fun h => (h.ons.length : Int)) (hn2 : ∀ x ∈ hs.map fun h => (h.ons.length : Int), n ≤ x) : evenP hs = !(decide (n < m)) := by
  cases hs with
  | nil => exact absurd rfl h0
  | cons g r =>
    by_cases q : n < m
    · rw [decide_eq_true q]
      refine Bool.eq_false_iff.mpr fun z => ?_
      have a := List.all_eq_true.mp z
      obtain ⟨x, hx, rfl⟩ := List.mem_map.mp hm
      obtain ⟨y, hy, rfl⟩ := List.mem_map.mp hn
      have e1 : x.ons.length = g.ons.length := by simpa using a x hx
      have e2 : y.ons.length = g.ons.length := by simpa using a y hy
      omega
    · rw [decide_eq_false q]
      refine List.all_eq_true.mpr fun x hx => ?_
      have b1 := hm2 _ (List.mem_map.mpr ⟨x, hx, rfl⟩)
      have b2 := hn2 _ (List.mem_map.mpr ⟨x, hx, rfl⟩)
      have b3 := hm2 _ (List.mem_map.mpr ⟨g, .head _, rfl⟩)
      have b4 := hn2 _ (List.mem_map.mpr ⟨g, .head _, rfl⟩)
      show (x.ons.length == g.ons.length) = true
      rw [beq_iff_eq]
      omega
def sp__law_plan_read (K : PySem.W.Frag) : Sp := fun vs H Q E => ∃ x : Str, vs = [.str x] ∧ Ln 100000 x ∧ (∀ hs, planP x = some hs → ∀ l as H', Same H H' → H' l = some (.lst (as.map V.ref)) → RL (HrAt H') as hs → Q (.ref l) H') ∧ (planP x = none → ∀ H', Same H H' → Q .non H')
set_option maxHeartbeats 40000000 in
theorem ok__law_plan_read {P : Program} {w : World} {K : PySem.W.Frag} {mg : Str → Option Value} {base : Heap} {a : Adr} (tx : Txt K mg a) : FnOk P w K mg base CX0 3 a.f__law_plan_read a.d__law_plan_read ["_law_line"] (sp__law_plan_read K) := by
  have G__law_hour_read := ok__law_hour_read (P := P) (w := w) (base := base) tx
  refine tx.F__law_plan_read.ok sc__law_plan_read (fun vs H Q E h => ?_) (fun cdv A outer s H vs Q E hr h => ?_)
  · obtain ⟨x, rfl, _⟩ := h
    rfl
  · obtain ⟨x, rfl , hx, k, ke⟩ := h
    have hu := hu9 hr
    refine L2.Q.root (L2.Q.pss_cons (L2.Q.ps_if (L2.Q.pt_cmpR (r := rEqG K) (op_eqG hu) (L2.Q.pv 0) L2.Q.pe_str (nomark _)) (L2.Q.pss_one (L2.Q.ps_ret (L2.Q.pe_lst L2.Q.pa_nil))) L2.Q.pss_nil)
      (L2.Q.pss_cons (L2.Q.ps_setC (k := 1) (idx := []) (N := ["_law_part"]) (i := 1) sc__law_plan_read.nd rfl (Or.inl rfl) (blk_sc (sc := defScope s__law_plan_read) (NX := ["_law_line", "_law_plan", "_law_sizes"]) rfl rfl rfl (by decide +kernel)) rfl (L2.Q.pi_listK (K' := K) (L2.Q.pe_splitK (K' := K) (L2.Q.pv 0) (L2.Q.pa_c L2.Q.pe_str L2.Q.pa_nil))) (fun _ _ _ _ => (L2.Q.pg_name (i := 0) (show (["_law_part"] : List Str).Nodup by decide +kernel) rfl (Or.inl rfl))) (own_name (by decide)) (fun _ _ _ _ => L2.Q.pts_nil) (fun _ _ _ _ => (L2.Q.pe_callN (G__law_hour_read) (hr.mono (by decide)) (by rfl) tx.g__law_hour_read tx.F__law_hour_read.kp tx.b__law_hour_read .nil pass0 (L2.Q.pa_c (L2.Q.pv 0) L2.Q.pa_nil))))
      (L2.Q.pss_cons (L2.Q.ps_if (L2.Q.pt_cmpR (r := rInNon K) (op_inNon hu) L2.Q.pe_non (L2.Q.pv 1) (by with_unfolding_all rfl)) (L2.Q.pss_one (L2.Q.ps_ret L2.Q.pe_non)) L2.Q.pss_nil)
      (L2.Q.pss_cons (L2.Q.ps_setC (k := 1) (idx := []) (N := ["_law_hour"]) (i := 2) sc__law_plan_read.nd rfl (Or.inl rfl) (blk_sc (sc := defScope s__law_plan_read) (NX := ["_law_line", "_law_plan", "_law_sizes"]) rfl rfl rfl (by decide +kernel)) rfl (L2.Q.pi_listK (K' := K) (L2.Q.pv 1)) (fun _ _ _ _ => (L2.Q.pg_name (i := 0) (show (["_law_hour"] : List Str).Nodup by decide +kernel) rfl (Or.inl rfl))) (own_name (by decide)) (fun _ _ _ _ => L2.Q.pts_nil) (fun _ _ _ _ => (L2.Q.pe_callBN (rc := rLen K) call_lenG (by rfl) tx.z_len bt_len (L2.Q.pa_c (L2.Q.pe_ixK (K' := K) (L2.Q.pv 0) L2.Q.pe_int (fun _ _ => rfl)) L2.Q.pa_nil))))
      (L2.Q.pss_cons (L2.Q.ps_if (L2.Q.pt_cmpR op_gt (L2.Q.pe_callBN (rc := rMaxL K) (call_maxL rfl) (by rfl) tx.z_max bt_max (L2.Q.pa_c (L2.Q.pv 2) L2.Q.pa_nil)) (L2.Q.pe_callBN (rc := rMinL K) (call_minL rfl) (by rfl) tx.z_min bt_min (L2.Q.pa_c (L2.Q.pv 2) L2.Q.pa_nil)) (nomark _)) (L2.Q.pss_one (L2.Q.ps_ret L2.Q.pe_non)) L2.Q.pss_nil)
      (L2.Q.pss_one (L2.Q.ps_ret (L2.Q.pv 1)))))))) ?_
    have hl := hx.sz
    have lp : (psP x).length ≤ 100002 := by have := PyProof.Rows.split_le x (Str.ofString "; "); show (Txt.split x (Str.ofString "; ")).length ≤ _; omega
    have ps1 : 1 ≤ (psP x).length := PyProof.Rows.split_pos x (Str.ofString "; ")
    refine rd_start (σ := [some (.str x), none, none]) rfl ?_
    repeat walk_at "go"
    rw [str_dec]
    refine rd_dec (fun h0 => ?_) (fun h0 => ?_)
    · repeat walk_at "go"
      intro l nl
      obtain ⟨H1, i1, s1, g1⟩ := nw _ nl; rw [i1]
      repeat walk_at "go"
      exact k [] (by unfold planP; rw [if_pos h0]) l [] H1 s1 g1 RL.nil
    repeat walk_at "go"
    refine ⟨rfl, ?_⟩
    repeat walk_at "go"
    refine ⟨_, _, rfl, rfl, by decide, sz_le (by omega), sz_le (by show (psP x).length ≤ _; omega), fun l nl => ?_⟩
    rw [show Txt.split x (Str.ofString "; ") = psP x from rfl]
    obtain ⟨H1, i1, s1, g1⟩ := nw _ nl; rw [i1]
    refine rd_li (SqL.of g1) ?_
    refine comp_list (xs := (psP x).map V.str) (fun j us H' => Same H1 H' ∧ us.length = j ∧ ∀ (i : Nat) w v, (psP x)[i]? = some w → us[i]? = some v → PrV H' w v) ⟨Same.refl _, rfl, fun i w v _ h => by simp at h⟩ (sz_le (by rw [List.length_map]; omega))
      (fun j us H' hj ⟨e0, e1, _⟩ => ⟨SqL.of (e0 _ _ g1), by omega⟩) (fun j v us H' hv ⟨e0, e1, e2⟩ => ?_) (fun us H' ⟨e0, e1, e2⟩ => ?_)
    · rw [List.getElem?_map] at hv
      obtain ⟨w, ew, rfl⟩ := Option.map_eq_some_iff.mp hv
      have mw := List.mem_of_getElem? ew
      have step : ∀ v' H2, Same H' H2 → PrV H2 w v' → Same H1 H2 ∧ (us ++ [v']).length = j + 1 ∧ ∀ (i : Nat) w v, (psP x)[i]? = some w → (us ++ [v'])[i]? = some v → PrV H2 w v := fun v' H2 s2 hp => by
        refine ⟨e0.trans s2, by rw [List.length_append, e1]; rfl, fun i w' v h1 h2 => ?_⟩
        by_cases hi : i < us.length
        · rw [List.getElem?_append_left hi] at h2
          exact (e2 i w' v h1 h2).same s2
        · have ei : i = j := by
            have := (List.getElem?_eq_some_iff.mp h2).1
            rw [List.length_append, List.length_singleton] at this
            omega
          subst ei
          rw [ew] at h1
          cases h1
          rw [List.getElem?_append_right (by omega), e1, Nat.sub_self] at h2
          cases h2
          exact hp
      repeat walk_at "go"
      exact ⟨w, rfl, split_ln hx _ mw, fun h hh t H2 s2 hA => step _ _ s2 (.inl ⟨h, t, hh, rfl, hA⟩), fun hh H2 s2 => step _ _ s2 (.inr ⟨hh, rfl⟩)⟩
    rw [List.length_map] at e1
    intro l2 n2
    obtain ⟨H2, i2, s2, g2⟩ := nw _ n2; rw [i2]
    have e2' : ∀ (i : Nat) w v, (psP x)[i]? = some w → us[i]? = some v → PrV H2 w v := fun i w v a b => (e2 i w v a b).same s2
    have S2 : Same H H2 := s1.trans (e0.trans s2)
    repeat walk_at "go"
    refine ⟨l2, us, rfl, rfl, SqL.of g2, fun v hv => ?_, ?_⟩
    · obtain ⟨i, hi⟩ := List.getElem?_of_mem hv
      have li : i < (psP x).length := by rw [← e1]; exact (List.getElem?_eq_some_iff.mp hi).1
      rcases e2' i _ v (List.getElem?_eq_getElem li) hi with ⟨h, a, _, rfl, t1, t2, q, _⟩ | ⟨_, rfl⟩
      · exact .inr ⟨a, _, rfl, q⟩
      · exact .inl rfl
    repeat walk_at "go"
    refine rd_bool (fun hb => ?_) (fun hb => ?_)
    · repeat walk_at "go"
      refine ke ?_ _ S2
      unfold planP
      rw [if_neg h0, pr_none e1 e2' hb]
    obtain ⟨as, hs, rfl, eh, ra⟩ := pr_all e1 e2' hb
    have lh := allP_len eh
    have las := ra.len
    have hne : hs ≠ [] := fun z => by rw [z] at lh; exact absurd lh (by rw [List.length_nil]; omega)
    repeat walk_at "go"
    refine rd_li (SqL.of g2) ?_
    refine comp_list (xs := as.map V.ref) (fun j us H' => H' = H2 ∧ us = ((hs.take j).map fun h => (h.ons.length : Int)).map V.int) ⟨rfl, rfl⟩ (sz_le (by rw [List.length_map]; omega))
      (fun j us H' hj ⟨e0, e1⟩ => ⟨by rw [e0]; exact SqL.of g2, by rw [e1, List.length_map, List.length_map, List.length_take]; omega⟩) (fun j v us H' hv ⟨e0', e1'⟩ => ?_) (fun us H' ⟨e0', e1'⟩ => ?_)
    · subst e0'
      obtain ⟨a1, h1, ea1, rfl, eh1, w1, w2, p0, p1, p2⟩ := ra.get hv
      repeat walk_at "go"
      refine ⟨rfl, ?_⟩
      rw [e1', take_snoc eh1, List.map_append, List.map_append, List.length_map]
      rfl
    subst e0' e1'
    rw [List.length_map, las, List.take_length]
    intro l3 n3
    obtain ⟨H3, i3, s3, g3⟩ := nw _ n3; rw [i3]
    have hne2 : (hs.map fun h => (h.ons.length : Int)) ≠ [] := fun z => hne (List.map_eq_nil_iff.mp z)
    repeat walk_at "go"
    refine rd_maxL (SqL.of g3) hne2 fun m hm hm2 => ?_
    repeat walk_at "go"
    refine rd_minL (SqL.of g3) hne2 fun n hn hn2 => ?_
    have ev := even_max hne hm hm2 hn hn2
    repeat walk_at "go"
    refine rd_dec (fun h4 => ?_) (fun h4 => ?_)
    · repeat walk_at "go"
      refine ke ?_ _ (S2.trans s3)
      unfold planP
      rw [if_neg h0, eh]
      show (if evenP hs = true then some hs else none) = none
      rw [ev, decide_eq_true h4]
      rfl
    · repeat walk_at "go"
      refine k hs ?_ l2 as H3 (S2.trans s3) (s3 _ _ g2) (ra.imp fun a x z => HrAt.same z s3)
      unfold planP
      rw [if_neg h0, eh]
      show (if evenP hs = true then some hs else none) = some hs
      rw [ev, decide_eq_false h4]
      rfl
def sp__law_told (K : PySem.W.Frag) : Sp := fun vs H Q E => ∃ x : Str, vs = [.str x] ∧ Ln 100000 x ∧ (∀ hs, planP x = some hs → ∀ t l as H', Same H H' → H' t = some (.tup [.str (Str.ofString "plan"), .ref l]) → H' l = some (.lst (as.map V.ref)) → RL (HrAt H') as hs → Q (.ref t) H') ∧ (planP x = none → ∀ t H', Same H H' → H' t = some (.tup [.str (Str.ofString "none"), .bl false]) → Q (.ref t) H')
set_option maxHeartbeats 40000000 in
theorem ok__law_told {P : Program} {w : World} {K : PySem.W.Frag} {mg : Str → Option Value} {base : Heap} {a : Adr} (tx : Txt K mg a) : FnOk P w K mg base CX0 5 a.f__law_told a.d__law_told ["_law_line"] (sp__law_told K) := by
  have G_read_plan := ok_read_plan (P := P) (w := w) (base := base) tx
  refine tx.F__law_told.ok sc__law_told (fun vs H Q E h => ?_) (fun cdv A outer s H vs Q E hr h => ?_)
  · obtain ⟨x, rfl, _⟩ := h
    rfl
  · obtain ⟨x, rfl , hx, k, ke⟩ := h
    have hu := hu9 hr
    refine L2.Q.root (L2.Q.pss_cons (L2.Q.ps_try rfl rfl (fun pn W => (L2.Q.pss_one (L2.Q.ps_ret (L2.Q.tup2 L2.Q.pe_str (L2.Q.pe_callX (pn := pn) (W := W) (G_read_plan) (hr.mono (by decide)) (by rfl) tx.g_read_plan tx.F_read_plan.kp tx.b_read_plan (L2.Q.pa_c (L2.Q.pv 0) L2.Q.pa_nil)))))) (L2.Q.ph_as (K' := K) (i := 1) (by rfl) tx.g_StintError sc__law_told.nd rfl rfl (fun _ => (L2.Q.pss_one (L2.Q.ps_if (L2.Q.pw_pt (L2.Q.pw_and (L2.Q.pt_val (L2.Q.pe_callBN (rc := rIsiE K) call_isiE (by rfl) tx.z_isinstance bt_isinstance (L2.Q.pa_c (L2.Q.pv 1) (L2.Q.pa_c (L2.Q.pe_glob (v := .ref a.c_NoText) (by rfl) tx.g_NoText rfl) L2.Q.pa_nil)))) (L2.Q.pw_and1 (L2.Q.pt_val (L2.Q.pe_callBN (rc := rIsiE K) call_isiE (by rfl) tx.z_isinstance bt_isinstance (L2.Q.pa_c (L2.Q.pv 1) (L2.Q.pa_c (L2.Q.pe_bltn (v := .ty "ValueError") (by rfl) tx.z_ValueError bt_ValueError rfl) L2.Q.pa_nil))))))) (L2.Q.pss_one (L2.Q.ps_ret (L2.Q.tup2 L2.Q.pe_str (L2.Q.pe_callBN (rc := rIsiTE K) call_isiTE (by rfl) tx.z_isinstance bt_isinstance (L2.Q.pa_c (L2.Q.pv 1) (L2.Q.pa_c (L2.Q.tup5 (L2.Q.pe_glob (v := .ref a.c_NoDeed) (by rfl) tx.g_NoDeed rfl) (L2.Q.pe_glob (v := .ref a.c_NoHour) (by rfl) tx.g_NoHour rfl) (L2.Q.pe_glob (v := .ref a.c_NotNow) (by rfl) tx.g_NotNow rfl) (L2.Q.pe_glob (v := .ref a.c_TooMany) (by rfl) tx.g_TooMany rfl) (L2.Q.pe_glob (v := .ref a.c_Wrong) (by rfl) tx.g_Wrong rfl)) L2.Q.pa_nil)))))) L2.Q.pss_nil))) L2.Q.ph_no))
      (L2.Q.pss_one (L2.Q.ps_ret (L2.Q.tup2 L2.Q.pe_str L2.Q.pe_bl)))) ?_
    refine rd_start (σ := [some (.str x), none]) rfl ?_
    repeat walk_at "go"
    refine ⟨x, rfl, hx, fun hs hh l as H1 s1 nl gl ra => ?_, fun hn e od H1 s1 he => ⟨e, rfl, ?_⟩⟩
    · repeat walk_at "go"
      intro t nt
      obtain ⟨H2, i2, s2, g2⟩ := nw _ nt; rw [i2]
      exact k hs hh t l as H2 (s1.trans s2) g2 (s2 _ _ gl) (ra.imp fun a x z => HrAt.same z s2)
    · have h1 : H1 e = some (ErrO a.c_NoText none e) := he
      refine rd_hasT h1 tx.Z_NoText tx.x_NoText_StintError ?_
      repeat walk_at "go"
      refine rd_isiE h1 DictOk.none tx.Z_NoText tx.k_NoText_NoText ?_
      repeat walk_at "go"
      refine rd_isiEt h1 DictOk.none tx.Z_NoText tx.k_NoText_ValueError ?_
      repeat walk_at "go"
      intro p np
      obtain ⟨H3, i3, s3, g3⟩ := nw _ np; rw [i3]
      have g3' : H3 p = some (.tup ([a.c_NoDeed, a.c_NoHour, a.c_NotNow, a.c_TooMany, a.c_Wrong].map V.ref)) := g3
      repeat walk_at "go"
      refine rd_isiTE (s3 _ _ h1) DictOk.none tx.Z_NoText g3' (kitAny_f tx.k_NoText_NoDeed (kitAny_f tx.k_NoText_NoHour (kitAny_f tx.k_NoText_NotNow (kitAny_f tx.k_NoText_TooMany (kitAny_f tx.k_NoText_Wrong rfl))))) ?_
      repeat walk_at "go"
      intro t nt
      obtain ⟨H4, i4, s4, g4⟩ := nw _ nt; rw [i4]
      repeat walk_at "go"
      exact ke hn t H4 (s1.trans (s3.trans s4)) g4
theorem allP_mem {α β : Type} {f : α → Option β} : ∀ {xs : List α} {ys : List β}, allP f xs = some ys → ∀ y ∈ ys, ∃ x ∈ xs, f x = some y
  | [], ys, h, y, hy => by cases h; cases hy
  | z :: r, ys, h, y, hy => by
    unfold allP at h
    cases e1 : f z with
    | none => rw [e1] at h; cases h
    | some u =>
      cases e2 : allP f r with
      | none => rw [e1, e2] at h; cases h
      | some us =>
        rw [e1, e2] at h
        cases h
        rcases List.mem_cons.mp hy with rfl | q
        · exact ⟨z, .head _, e1⟩
        · obtain ⟨x, hx, e⟩ := allP_mem e2 y q
          exact ⟨x, .tail _ hx, e⟩
theorem hourP_small {p : Str} {h : Hr} {n : Nat} (hp : p.length ≤ n) (e : hourP p = some h) : h.ons.length ≤ n + 1 ∧ h.outs.length ≤ n + 1 := by
  obtain ⟨li, _⟩ := init_len hp
  unfold hourP at e
  cases e1 : lvlP (lastW p) with
  | none => rw [e1] at e; cases e
  | some l =>
    cases e2 : allP outP (wsP p).dropLast with
    | none => rw [e1, e2] at e; cases e
    | some os =>
      rw [e1, e2] at e
      cases e
      exact ⟨by show ((wsP p).dropLast.map onP).length ≤ _; rw [List.length_map]; exact li, by show os.length ≤ _; rw [allP_len e2]; exact li⟩
theorem planP_small {x : Str} {hs : List Hr} (h : planP x = some hs) (hx : Ln 100000 x) : hs.length ≤ 100002 ∧ ∀ h ∈ hs, h.ons.length ≤ 100001 ∧ h.outs.length ≤ 100001 := by
  have lp : (psP x).length ≤ 100002 := by have := PyProof.Rows.split_le x (Str.ofString "; "); have := hx.sz; show (Txt.split x (Str.ofString "; ")).length ≤ _; omega
  unfold planP at h
  split at h
  · cases h
    exact ⟨Nat.zero_le _, fun h hm => nomatch hm⟩
  · cases e : allP hourP (psP x) with
    | none => rw [e] at h; cases h
    | some gs =>
      rw [e] at h
      have h' : (if evenP gs = true then some gs else none) = some hs := h
      split at h'
      · cases h'
        refine ⟨by rw [allP_len e]; exact lp, fun g hg => ?_⟩
        obtain ⟨w, hw, ew⟩ := allP_mem e g hg
        exact hourP_small (split_ln hx w hw).sz ew
      · cases h'
theorem sm_ints {H : Hp} {t1 t2 : Addr} {ns : List Int} {j : Nat} (h1 : H t1 = some (.tup (ns.map V.int))) (h2 : H t2 = some (.tup (ns.map V.int))) (hz : ns.length ≤ 1000000) : SmV H (j + 2) (.ref t1) (.ref t2) := by
  refine .inr (.inr (.inr (.inr ⟨t1, t2, _, _, rfl, rfl, .inl ⟨h1, h2⟩, rfl, by rw [List.length_map]; exact hz, fun i u v hu hv => ?_⟩)))
  rw [hu] at hv
  cases hv
  rw [List.getElem?_map] at hu
  obtain ⟨n, _, rfl⟩ := Option.map_eq_some_iff.mp hu
  exact SmV.int n
theorem sm_hour {H : Hp} {a b : Addr} {h : Hr} {j : Nat} (ha : HrAt H a h) (hb : HrAt H b h) (z1 : h.ons.length ≤ 1000000) (z2 : h.outs.length ≤ 1000000) : SmV H (j + 3) (.ref a) (.ref b) := by
  obtain ⟨t1, t2, p0, p1, p2⟩ := ha
  obtain ⟨u1, u2, q0, q1, q2⟩ := hb
  refine .inr (.inr (.inr (.inr ⟨a, b, _, _, rfl, rfl, .inl ⟨p0, q0⟩, rfl, by simp, fun i u v hu hv => ?_⟩)))
  match i, hu, hv with
  | 0, hu, hv => cases hu; cases hv; exact sm_ints p1 q1 z1
  | 1, hu, hv => cases hu; cases hv; exact sm_ints p2 q2 z2
  | 2, hu, hv => cases hu; cases hv; exact SmV.int _
  | _ + 3, hu, hv => simp at hu
theorem sm_plan {H : Hp} {l1 l2 : Addr} {as bs : List Addr} {hs : List Hr} {j : Nat} (h1 : H l1 = some (.lst (as.map V.ref))) (h2 : H l2 = some (.lst (bs.map V.ref))) (r1 : RL (HrAt H) as hs) (r2 : RL (HrAt H) bs hs) (hz : hs.length ≤ 1000000) (hh : ∀ h ∈ hs, h.ons.length ≤ 1000000 ∧ h.outs.length ≤ 1000000) : SmV H (j + 4) (.ref l1) (.ref l2) := by
  refine .inr (.inr (.inr (.inr ⟨l1, l2, _, _, rfl, rfl, .inr ⟨h1, h2⟩, by rw [List.length_map, List.length_map, r1.len, r2.len], by rw [List.length_map, r2.len]; exact hz, fun i u v hu hv => ?_⟩)))
  obtain ⟨a, x, ea, rfl, ex, pa⟩ := r1.get hu
  obtain ⟨b, y, eb, rfl, ey, pb⟩ := r2.get hv
  rw [ex] at ey
  cases ey
  have hm := hh x (List.mem_of_getElem? ex)
  exact sm_hour pa pb hm.1 hm.2
def sp__law_right (K : PySem.W.Frag) : Sp := fun vs H Q E => ∃ x : Str, vs = [.str x] ∧ Ln 100000 x ∧ ∀ H', Same H H' → Q (.bl true) H'
set_option maxHeartbeats 40000000 in
theorem ok__law_right {P : Program} {w : World} {K : PySem.W.Frag} {mg : Str → Option Value} {base : Heap} {a : Adr} (tx : Txt K mg a) : FnOk P w K mg base CX0 6 a.f__law_right a.d__law_right ["_law_line"] (sp__law_right K) := by
  have G__law_plan_read := ok__law_plan_read (P := P) (w := w) (base := base) tx
  have G__law_same := ok__law_same (P := P) (w := w) (base := base) tx 4
  have G__law_told := ok__law_told (P := P) (w := w) (base := base) tx
  refine tx.F__law_right.ok sc__law_right (fun vs H Q E h => ?_) (fun cdv A outer s H vs Q E hr h => ?_)
  · obtain ⟨x, rfl, _⟩ := h
    rfl
  · obtain ⟨x, rfl , hx, k⟩ := h
    have hu := hu9 hr
    refine L2.Q.root (L2.Q.pss_cons (L2.Q.ps_set (i := 1) sc__law_right.nd rfl (Or.inl rfl) (L2.Q.pe_callN (G__law_plan_read) (hr.mono (by decide)) (by rfl) tx.g__law_plan_read tx.F__law_plan_read.kp tx.b__law_plan_read .nil pass0 (L2.Q.pa_c (L2.Q.pv 0) L2.Q.pa_nil)))
      (L2.Q.pss_cons (L2.Q.ps_set (i := 2) sc__law_right.nd rfl (Or.inl rfl) (L2.Q.pe_callN (G__law_told) (hr.mono (by decide)) (by rfl) tx.g__law_told tx.F__law_told.kp tx.b__law_told .nil pass0 (L2.Q.pa_c (L2.Q.pv 0) L2.Q.pa_nil)))
      (L2.Q.pss_cons (L2.Q.ps_if (L2.Q.pt_cmpR op_isG (L2.Q.pv 1) L2.Q.pe_non (nomark _)) (L2.Q.pss_one (L2.Q.ps_ret (L2.Q.pe_cmpR (r := rEqG K) (op_eqG hu) (L2.Q.pv 2) (L2.Q.tup2 L2.Q.pe_str L2.Q.pe_bl) (nomark _)))) L2.Q.pss_nil)
      (L2.Q.pss_one (L2.Q.ps_ret (L2.Q.pe_and (L2.Q.pe_cmpR (r := rEqG K) (op_eqG hu) (L2.Q.pe_ixK (K' := K) (L2.Q.pv 2) L2.Q.pe_int (fun _ _ => rfl)) L2.Q.pe_str (nomark _)) (L2.Q.pe_one (L2.Q.pe_callN (G__law_same) (hr.mono (by decide)) (by rfl) tx.g__law_same tx.F__law_same.kp tx.b__law_same .nil pass0 (L2.Q.pa_c (L2.Q.pe_ixK (K' := K) (L2.Q.pv 2) L2.Q.pe_int (fun _ _ => rfl)) (L2.Q.pa_c (L2.Q.pv 1) L2.Q.pa_nil)))))))))) ?_
    refine rd_start (σ := [some (.str x), none, none]) rfl ?_
    repeat walk_at "go"
    refine ⟨x, rfl, hx, fun hs hh l1 as1 H1 s1 gl1 ra1 => ?_, fun hn H1 s1 => ?_⟩
    · repeat walk_at "go"
      refine ⟨x, rfl, hx, fun hs2 hh2 t l2 as2 H2 s2 gt gl2 ra2 => ?_, fun hn2 => by rw [hh] at hn2; cases hn2⟩
      rw [hh] at hh2
      cases hh2
      have gl1' := s2 _ _ gl1
      have ra1' := ra1.imp fun a x z => HrAt.same z s2
      repeat walk_at "gs"
      obtain ⟨z1, z2⟩ := planP_small hh hx
      exact ⟨_, _, rfl, sm_plan gl2 gl1' ra2 ra1' (by omega) (fun h hm => by have := z2 h hm; omega), fun H3 s3 => k H3 (s1.trans (s2.trans s3))⟩
    · repeat walk_at "go"
      refine ⟨x, rfl, hx, (fun hs2 hh2 => by rw [hn] at hh2; cases hh2), fun _ t H2 s2 gt => ?_⟩
      repeat walk_at "gs"
      intro q nq
      obtain ⟨H3, i3, s3, g3⟩ := nw _ nq; rw [i3]
      refine ⟨true, .inr ⟨t, q, _, _, fun _ => true, rfl, rfl, .inr ⟨SqT.of (s3 _ _ gt), SqT.of g3⟩, fun j u v hu hv => ?_, rfl⟩, k H3 (s1.trans (s2.trans s3))⟩
      rw [hu] at hv
      cases hv
      match j, hu with
      | 0, hu => cases hu; exact .inl ⟨rfl, rfl, rfl⟩
      | 1, hu => cases hu; exact .inl ⟨rfl, rfl, rfl⟩
      | _ + 2, hu => simp at hu
def sp_law (K : PySem.W.Frag) : Sp := fun vs H Q _ => ∃ (a : Addr) (ns : List Int), vs = [.ref a] ∧ SqL K H a (ns.map V.int) ∧ ns.length ≤ 63 ∧ ∀ H', Q (.bl true) H'
set_option maxHeartbeats 40000000 in
theorem ok_law {P : Program} {w : World} {K : PySem.W.Frag} {mg : Str → Option Value} {base : Heap} {a : Adr} (tx : Txt K mg a) : FnOk P w K mg base CX0 7 a.f_law a.d_law ["_law_script"] (sp_law K) := by
  have G__law_any_plan := ok__law_any_plan (P := P) (w := w) (base := base) tx
  have G__law_open := ok__law_open (P := P) (w := w) (base := base) tx
  have G__law_plan_line := ok__law_plan_line (P := P) (w := w) (base := base) tx
  have G__law_right := ok__law_right (P := P) (w := w) (base := base) tx
  have G__law_spoilt := ok__law_spoilt (P := P) (w := w) (base := base) tx
  refine tx.F_law.ok sc_law (fun vs H Q E h => ?_) (fun cdv A outer s H vs Q E hr h => ?_)
  · obtain ⟨ad, ns, rfl, _⟩ := h
    rfl
  · obtain ⟨ad, ns, rfl , hS, hl, k⟩ := h
    have hu := hu9 hr
    refine L2.Q.root (L2.Q.pss_cons (L2.Q.ps_set (i := 1) sc_law.nd rfl (Or.inl rfl) (L2.Q.pe_lst (L2.Q.pa_c L2.Q.pe_str (L2.Q.pa_c L2.Q.pe_str (L2.Q.pa_c L2.Q.pe_str (L2.Q.pa_c L2.Q.pe_str (L2.Q.pa_c L2.Q.pe_str (L2.Q.pa_c L2.Q.pe_str (L2.Q.pa_c L2.Q.pe_str (L2.Q.pa_c L2.Q.pe_str (L2.Q.pa_c L2.Q.pe_str (L2.Q.pa_c L2.Q.pe_str (L2.Q.pa_c L2.Q.pe_str L2.Q.pa_nil)))))))))))))
      (L2.Q.pss_cons (L2.Q.ps_set (i := 1) sc_law.nd rfl (Or.inl rfl) (L2.Q.pe_op op_addG (L2.Q.pv 1) (L2.Q.lst4 L2.Q.pe_str L2.Q.pe_str L2.Q.pe_str L2.Q.pe_str)))
      (L2.Q.pss_cons (L2.Q.ps_for PassesOwn.never rfl (L2.Q.pi_listK (K' := K) (L2.Q.pe_op op_addG (L2.Q.pv 1) (L2.Q.lst3 L2.Q.pe_str L2.Q.pe_str L2.Q.pe_str))) (L2.Q.pg_name (i := 2) sc_law.nd rfl (Or.inl rfl)) (L2.Q.pss_one (L2.Q.ps_if (L2.Q.pt_not (L2.Q.pt_val (L2.Q.pe_callN (G__law_right) (hr.mono (by decide)) (by rfl) tx.g__law_right tx.F__law_right.kp tx.b__law_right .nil pass0 (L2.Q.pa_c (L2.Q.pv 2) L2.Q.pa_nil)))) (L2.Q.pss_one (L2.Q.ps_ret L2.Q.pe_bl)) L2.Q.pss_nil)))
      (L2.Q.pss_cons (L2.Q.ps_for PassesOwn.never rfl (L2.Q.pi_range1N (by rfl) tx.z_range (L2.Q.pa_c (L2.Q.pe_callBN (call_maxG rfl) (by rfl) tx.z_max bt_max (L2.Q.pa_c L2.Q.pe_int (L2.Q.pa_c (L2.Q.pe_callBN (call_minG rfl) (by rfl) tx.z_min bt_min (L2.Q.pa_c (L2.Q.pe_callBN (rc := rLen K) call_lenG (by rfl) tx.z_len bt_len (L2.Q.pa_c (L2.Q.pv 0) L2.Q.pa_nil)) (L2.Q.pa_c L2.Q.pe_int L2.Q.pa_nil))) L2.Q.pa_nil))) L2.Q.pa_nil)) (L2.Q.pg_name (i := 3) sc_law.nd rfl (Or.inl rfl)) (L2.Q.pss_cons (L2.Q.ps_set (i := 4) sc_law.nd rfl (Or.inl rfl) (L2.Q.pe_callN (G__law_open) (hr.mono (by decide)) (by rfl) tx.g__law_open tx.F__law_open.kp tx.b__law_open .nil pass0 (L2.Q.pa_c (L2.Q.pv 0) (L2.Q.pa_c (L2.Q.pv 3) L2.Q.pa_nil))))
      (L2.Q.pss_cons (L2.Q.ps_set (i := 2) sc_law.nd rfl (Or.inl rfl) (L2.Q.pe_callN (G__law_plan_line) (hr.mono (by decide)) (by rfl) tx.g__law_plan_line tx.F__law_plan_line.kp tx.b__law_plan_line .nil pass0 (L2.Q.pa_c (L2.Q.pe_callN (G__law_any_plan) (hr.mono (by decide)) (by rfl) tx.g__law_any_plan tx.F__law_any_plan.kp tx.b__law_any_plan .nil pass0 (L2.Q.pa_c (L2.Q.pv 4) (L2.Q.pa_c L2.Q.pe_int L2.Q.pa_nil))) L2.Q.pa_nil)))
      (L2.Q.pss_cons (L2.Q.ps_if (L2.Q.pt_not (L2.Q.pt_val (L2.Q.pe_callN (G__law_right) (hr.mono (by decide)) (by rfl) tx.g__law_right tx.F__law_right.kp tx.b__law_right .nil pass0 (L2.Q.pa_c (L2.Q.pv 2) L2.Q.pa_nil)))) (L2.Q.pss_one (L2.Q.ps_ret L2.Q.pe_bl)) L2.Q.pss_nil)
      (L2.Q.pss_one (L2.Q.ps_for PassesOwn.never rfl (L2.Q.pi_range1N (by rfl) tx.z_range (L2.Q.pa_c L2.Q.pe_int L2.Q.pa_nil)) (L2.Q.pg_name (i := 5) sc_law.nd rfl (Or.inl rfl)) (L2.Q.pss_one (L2.Q.ps_if (L2.Q.pt_not (L2.Q.pt_val (L2.Q.pe_callN (G__law_right) (hr.mono (by decide)) (by rfl) tx.g__law_right tx.F__law_right.kp tx.b__law_right .nil pass0 (L2.Q.pa_c (L2.Q.pe_callN (G__law_spoilt) (hr.mono (by decide)) (by rfl) tx.g__law_spoilt tx.F__law_spoilt.kp tx.b__law_spoilt .nil pass0 (L2.Q.pa_c (L2.Q.pv 4) (L2.Q.pa_c (L2.Q.pv 2) L2.Q.pa_nil))) L2.Q.pa_nil)))) (L2.Q.pss_one (L2.Q.ps_ret L2.Q.pe_bl)) L2.Q.pss_nil))))))))
      (L2.Q.pss_one (L2.Q.ps_ret L2.Q.pe_bl)))))) ?_
    refine rd_start (σ := [some (.ref ad), none, none, none, none, none]) rfl ?_
    repeat walk_at "go"
    intro l1 n1
    obtain ⟨H1, i1, s1, g1⟩ := nw _ n1; rw [i1]
    repeat walk_at "go"
    intro l2 n2
    obtain ⟨H2, i2, s2, g2⟩ := nw _ n2; rw [i2]
    repeat walk_at "go"
    refine rd_addL (s2 _ _ g1) g2 (sz_le (by simp)) ?_
    intro l3 n3
    obtain ⟨H3, i3, s3, g3⟩ := nw _ n3; rw [i3]
    repeat walk_at "go"
    intro l4 n4
    obtain ⟨H4, i4, s4, g4⟩ := nw _ n4; rw [i4]
    repeat walk_at "go"
    refine rd_addL (s4 _ _ g3) g4 (sz_le (by simp)) ?_
    intro l5 n5
    obtain ⟨H5, i5, s5, g5⟩ := nw _ n5; rw [i5]
    have S5 : Same H H5 := s1.trans (s2.trans (s3.trans (s4.trans s5)))
    obtain ⟨L, eL⟩ : ∃ L : List Str, L = ["", " ", "none ", "nones", "@", "@0", "- @0; @0", "; @0", "@00", "1@0", "@0 1", "none; @0", "@0; none", "none; none", "5 @3; none", "1 2 @0; - @0; 1 2 3 @0", "1 @0; @0; 1 2 @0", "1 2 @0; 1 @0; - - @0"].map Str.ofString := ⟨_, rfl⟩
    have hL : ∀ w ∈ L, Ln 100000 w := by
      have q : L.all (fun w => w.cps.all (· < 128) && decide (w.length ≤ 100000)) = true := by rw [eL]; decide +kernel
      intro w hw
      have := List.all_eq_true.mp q w hw
      rw [Bool.and_eq_true, decide_eq_true_eq] at this
      exact ⟨this.1, this.2⟩
    have g5' : H5 l5 = some (.lst (L.map V.str)) := by rw [g5, eL]; rfl
    have lL : L.length = 18 := by rw [eL]; rfl
    clear eL g5
    repeat walk_at "go"
    refine rd_li (SqL.of g5') ?_
    refine rf_list (xs := L.map V.str) (fun j σ' H' => Same H5 H' ∧ ∃ z2, σ' = [some (.ref ad), some (.ref l3), z2, none, none, none]) ⟨Same.refl _, _, rfl⟩ (fun j σ' H' hj ⟨s, _⟩ => SqL.of (s _ _ g5')) (fun j v σ' H' hv ⟨s, z2, e⟩ => ?_) (fun σ' H' ⟨s, z2, e⟩ => ?_)
    · subst e
      rw [List.getElem?_map] at hv
      obtain ⟨w, ew, rfl⟩ := Option.map_eq_some_iff.mp hv
      repeat walk_at "go"
      refine ⟨w, rfl, hL w (List.mem_of_getElem? ew), fun H6 s6 => ?_⟩
      repeat walk_at "gs"
      exact ⟨s.trans s6, _, rfl⟩
    subst e
    repeat walk_at "go"
    refine ⟨by omega, by omega, ?_⟩
    refine rf_range (fun i σ' J => Same H J ∧ ∃ (z1 z2 z3 z4 z5 : Option V), σ' = [some (.ref ad), z1, z2, z3, z4, z5]) ⟨S5.trans s, _, _, _, _, _, rfl⟩ (fun i σ' J hi ⟨t1, z1, z2, z3, z4, z5, e⟩ => ?_) (fun σ' J ⟨t1, z1, z2, z3, z4, z5, e⟩ => ?_)
    · subst e
      repeat walk_at "go"
      refine ⟨ad, ns, _, rfl, Same.seq t1 hS, hl, by omega, fun p J2 t2 np hh => ?_⟩
      repeat walk_at "go"
      refine ⟨p, 4, rfl, hh, by decide, by decide, fun lp as hs kk J3 h3 k3 gl rl hO hk hz => ?_⟩
      have t3 : Same J J3 := keep_fresh np t2 k3
      have hln := plan_ln hO hk hz
      repeat walk_at "go"
      refine ⟨lp, as, hs, kk, rfl, gl, rl, hO, hk, by omega, fun J4 t4 => ?_⟩
      repeat walk_at "go"
      refine ⟨planS hs, rfl, hln.le (by omega), fun J5 t5 => ?_⟩
      have h5 := h3.same (t4.trans t5)
      have T5 : Same J J5 := t3.trans (t4.trans t5)
      repeat walk_at "gs"
      refine ⟨by omega, by omega, ?_⟩
      refine rf_range (n := 3) (fun j σ' I0 => HandAt I0 p ∧ Keep p J5 I0 ∧ ∃ y5, σ' = [some (.ref ad), z1, some (.str (planS hs)), some (.int (0 + (i : Int))), some (.ref p), y5]) ⟨h5, (fun _ _ e _ => e), _, rfl⟩ (fun j σ' I0 hj ⟨q1, q2, y5, e⟩ => ?_) (fun σ' I0 ⟨q1, q2, y5, e⟩ => ?_)
      · subst e
        repeat walk_at "go"
        refine ⟨p, _, rfl, q1, hln, fun y I1 hy v1 v2 => ?_⟩
        repeat walk_at "go"
        refine ⟨y, rfl, hy, fun I2 v3 => ?_⟩
        repeat walk_at "gs"
        exact ⟨v1.same v3, q2.trans (v2.trans v3.keep), _, rfl⟩
      · subst e
        repeat walk_at "go"
        exact ⟨t1.trans (keep_fresh np t2 (k3.trans (t4.keep.trans (t5.keep.trans q2)))), _, _, _, _, _, rfl⟩
    · subst e
      repeat walk_at "go"
      exact k _
end My
namespace My
open PySem L2
set_option maxHeartbeats 0 in
theorem all_mk {l : PySem.W.OpenLaw} {w : World} {K : PySem.W.Frag} {h : Heap} {mg : Str → Option Value} {fa : Addr} (X : K.In h) (G : h.Ns mainGlobals mg) (hfa : mg "law" = some (.ref fa))
    {CE0 : Addr} {CE1 : Addr} {CE2 : Addr} {CE3 : Addr} {CE4 : Addr} {CE5 : Addr} {CE6 : Addr} {f0 : Addr} {od0 an0 : Option Addr} {sl0 : Array (Option Value)} {oc0 kV0 dc0 pm0 cd0 ct0 : Value} {f1 : Addr} {od1 an1 : Option Addr} {sl1 : Array (Option Value)} {oc1 kV1 dc1 pm1 cd1 ct1 : Value} {f2 : Addr} {od2 an2 : Option Addr} {sl2 : Array (Option Value)} {oc2 kV2 dc2 pm2 cd2 ct2 : Value} {f3 : Addr} {od3 an3 : Option Addr} {sl3 : Array (Option Value)} {oc3 kV3 dc3 pm3 cd3 ct3 : Value} {f4 : Addr} {od4 an4 : Option Addr} {sl4 : Array (Option Value)} {oc4 kV4 dc4 pm4 cd4 ct4 : Value} {f5 : Addr} {od5 an5 : Option Addr} {sl5 : Array (Option Value)} {oc5 kV5 dc5 pm5 cd5 ct5 : Value} {f6 : Addr} {od6 an6 : Option Addr} {sl6 : Array (Option Value)} {oc6 kV6 dc6 pm6 cd6 ct6 : Value} {f7 : Addr} {od7 an7 : Option Addr} {sl7 : Array (Option Value)} {oc7 kV7 dc7 pm7 cd7 ct7 : Value} {f8 : Addr} {od8 an8 : Option Addr} {sl8 : Array (Option Value)} {oc8 kV8 dc8 pm8 cd8 ct8 : Value} {f9 : Addr} {od9 an9 : Option Addr} {sl9 : Array (Option Value)} {oc9 kV9 dc9 pm9 cd9 ct9 : Value} {f10 : Addr} {od10 an10 : Option Addr} {sl10 : Array (Option Value)} {oc10 kV10 dc10 pm10 cd10 ct10 : Value} {f11 : Addr} {od11 an11 : Option Addr} {sl11 : Array (Option Value)} {oc11 kV11 dc11 pm11 cd11 ct11 : Value} {f12 : Addr} {od12 an12 : Option Addr} {sl12 : Array (Option Value)} {oc12 kV12 dc12 pm12 cd12 ct12 : Value} {f13 : Addr} {od13 an13 : Option Addr} {sl13 : Array (Option Value)} {oc13 kV13 dc13 pm13 cd13 ct13 : Value} {f14 : Addr} {od14 an14 : Option Addr} {sl14 : Array (Option Value)} {oc14 kV14 dc14 pm14 cd14 ct14 : Value} {f15 : Addr} {od15 an15 : Option Addr} {sl15 : Array (Option Value)} {oc15 kV15 dc15 pm15 cd15 ct15 : Value} {f16 : Addr} {od16 an16 : Option Addr} {sl16 : Array (Option Value)} {oc16 kV16 dc16 pm16 cd16 ct16 : Value} {f17 : Addr} {od17 an17 : Option Addr} {sl17 : Array (Option Value)} {oc17 kV17 dc17 pm17 cd17 ct17 : Value} {f18 : Addr} {od18 an18 : Option Addr} {sl18 : Array (Option Value)} {oc18 kV18 dc18 pm18 cd18 ct18 : Value} {f19 : Addr} {od19 an19 : Option Addr} {sl19 : Array (Option Value)} {oc19 kV19 dc19 pm19 cd19 ct19 : Value} {f20 : Addr} {od20 an20 : Option Addr} {sl20 : Array (Option Value)} {oc20 kV20 dc20 pm20 cd20 ct20 : Value} {f21 : Addr} {od21 an21 : Option Addr} {sl21 : Array (Option Value)} {oc21 kV21 dc21 pm21 cd21 ct21 : Value} {f22 : Addr} {od22 an22 : Option Addr} {sl22 : Array (Option Value)} {oc22 kV22 dc22 pm22 cd22 ct22 : Value} {tk_FIGURES : Tok} {tk_MOST_FIGURES : Tok} {tk_RESTS : Tok} {tk_LEVEL_AHEAD : Tok} {tk_NOTHING : Tok}
    (aE0 : PySem.W.nsIn K mainGlobals "NoDeed" = some (some (.ref CE0)))
    (aE1 : PySem.W.nsIn K mainGlobals "NoHour" = some (some (.ref CE1)))
    (aE2 : PySem.W.nsIn K mainGlobals "NoText" = some (some (.ref CE2)))
    (aE3 : PySem.W.nsIn K mainGlobals "NotNow" = some (some (.ref CE3)))
    (aE4 : PySem.W.nsIn K mainGlobals "StintError" = some (some (.ref CE4)))
    (aE5 : PySem.W.nsIn K mainGlobals "TooMany" = some (some (.ref CE5)))
    (aE6 : PySem.W.nsIn K mainGlobals "Wrong" = some (some (.ref CE6)))
    (a0 : PySem.W.nsIn K mainGlobals "_law_open" = some (some (.ref f0)))
    (l0 : K.lookup f0 = some ⟨oc0, od0, .func (PySem.W.fnOf "_law_open" "_law_open" (defArgs s__law_open) (defBody s__law_open) (defScope s__law_open) .none kV0 dc0 pm0 an0 cd0 ct0), sl0⟩)
    (c0 : PySem.W.codeIn K cd0 "_law_open" = true)
    (k0 : PySem.W.keepIn K (.ref f0) = true)
    (a1 : PySem.W.nsIn K mainGlobals "_law_draw" = some (some (.ref f1)))
    (l1 : K.lookup f1 = some ⟨oc1, od1, .func (PySem.W.fnOf "_law_draw" "_law_draw" (defArgs s__law_draw) (defBody s__law_draw) (defScope s__law_draw) .none kV1 dc1 pm1 an1 cd1 ct1), sl1⟩)
    (c1 : PySem.W.codeIn K cd1 "_law_draw" = true)
    (k1 : PySem.W.keepIn K (.ref f1) = true)
    (a2 : PySem.W.nsIn K mainGlobals "_law_far" = some (some (.ref f2)))
    (l2 : K.lookup f2 = some ⟨oc2, od2, .func (PySem.W.fnOf "_law_far" "_law_far" (defArgs s__law_far) (defBody s__law_far) (defScope s__law_far) .none kV2 dc2 pm2 an2 cd2 ct2), sl2⟩)
    (c2 : PySem.W.codeIn K cd2 "_law_far" = true)
    (k2 : PySem.W.keepIn K (.ref f2) = true)
    (a3 : PySem.W.findIn K (.ref CE6) "__init__" = some (some (.ref f3)))
    (i3 : PySem.W.isFn K (.ref f3) = true)
    (l3 : K.lookup f3 = some ⟨oc3, od3, .func (PySem.W.fnOf "__init__" "Wrong.__init__" (defArgs s_Wrong_init) (defBody s_Wrong_init) (defScope s_Wrong_init) .none kV3 dc3 pm3 an3 cd3 ct3), sl3⟩)
    (c3 : PySem.W.codeIn K cd3 "Wrong.__init__" = true)
    (k3 : PySem.W.keepIn K (.ref f3) = true)
    (a4 : PySem.W.findIn K (.ref CE3) "__init__" = some (some (.ref f4)))
    (i4 : PySem.W.isFn K (.ref f4) = true)
    (l4 : K.lookup f4 = some ⟨oc4, od4, .func (PySem.W.fnOf "__init__" "NotNow.__init__" (defArgs s_NotNow_init) (defBody s_NotNow_init) (defScope s_NotNow_init) .none kV4 dc4 pm4 an4 cd4 ct4), sl4⟩)
    (c4 : PySem.W.codeIn K cd4 "NotNow.__init__" = true)
    (k4 : PySem.W.keepIn K (.ref f4) = true)
    (a5 : PySem.W.findIn K (.ref CE5) "__init__" = some (some (.ref f5)))
    (i5 : PySem.W.isFn K (.ref f5) = true)
    (l5 : K.lookup f5 = some ⟨oc5, od5, .func (PySem.W.fnOf "__init__" "TooMany.__init__" (defArgs s_TooMany_init) (defBody s_TooMany_init) (defScope s_TooMany_init) .none kV5 dc5 pm5 an5 cd5 ct5), sl5⟩)
    (c5 : PySem.W.codeIn K cd5 "TooMany.__init__" = true)
    (k5 : PySem.W.keepIn K (.ref f5) = true)
    (a6 : PySem.W.nsIn K mainGlobals "_law_hour_line" = some (some (.ref f6)))
    (l6 : K.lookup f6 = some ⟨oc6, od6, .func (PySem.W.fnOf "_law_hour_line" "_law_hour_line" (defArgs s__law_hour_line) (defBody s__law_hour_line) (defScope s__law_hour_line) .none kV6 dc6 pm6 an6 cd6 ct6), sl6⟩)
    (c6 : PySem.W.codeIn K cd6 "_law_hour_line" = true)
    (k6 : PySem.W.keepIn K (.ref f6) = true)
    (a7 : PySem.W.nsIn K mainGlobals "_law_plan_line" = some (some (.ref f7)))
    (l7 : K.lookup f7 = some ⟨oc7, od7, .func (PySem.W.fnOf "_law_plan_line" "_law_plan_line" (defArgs s__law_plan_line) (defBody s__law_plan_line) (defScope s__law_plan_line) .none kV7 dc7 pm7 an7 cd7 ct7), sl7⟩)
    (c7 : PySem.W.codeIn K cd7 "_law_plan_line" = true)
    (k7 : PySem.W.keepIn K (.ref f7) = true)
    (a8 : PySem.W.nsIn K mainGlobals "_law_any_hour" = some (some (.ref f8)))
    (l8 : K.lookup f8 = some ⟨oc8, od8, .func (PySem.W.fnOf "_law_any_hour" "_law_any_hour" (defArgs s__law_any_hour) (defBody s__law_any_hour) (defScope s__law_any_hour) .none kV8 dc8 pm8 an8 cd8 ct8), sl8⟩)
    (c8 : PySem.W.codeIn K cd8 "_law_any_hour" = true)
    (k8 : PySem.W.keepIn K (.ref f8) = true)
    (a9 : PySem.W.nsIn K mainGlobals "_law_same" = some (some (.ref f9)))
    (l9 : K.lookup f9 = some ⟨oc9, od9, .func (PySem.W.fnOf "_law_same" "_law_same" (defArgs s__law_same) (defBody s__law_same) (defScope s__law_same) .none kV9 dc9 pm9 an9 cd9 ct9), sl9⟩)
    (c9 : PySem.W.codeIn K cd9 "_law_same" = true)
    (k9 : PySem.W.keepIn K (.ref f9) = true)
    (a10 : PySem.W.nsIn K mainGlobals "_law_any_plan" = some (some (.ref f10)))
    (l10 : K.lookup f10 = some ⟨oc10, od10, .func (PySem.W.fnOf "_law_any_plan" "_law_any_plan" (defArgs s__law_any_plan) (defBody s__law_any_plan) (defScope s__law_any_plan) .none kV10 dc10 pm10 an10 cd10 ct10), sl10⟩)
    (c10 : PySem.W.codeIn K cd10 "_law_any_plan" = true)
    (k10 : PySem.W.keepIn K (.ref f10) = true)
    (a11 : PySem.W.nsIn K mainGlobals "number_of" = some (some (.ref f11)))
    (l11 : K.lookup f11 = some ⟨oc11, od11, .func (PySem.W.fnOf "number_of" "number_of" (defArgs s_number_of) (defBody s_number_of) (defScope s_number_of) .none kV11 dc11 pm11 an11 cd11 ct11), sl11⟩)
    (c11 : PySem.W.codeIn K cd11 "number_of" = true)
    (k11 : PySem.W.keepIn K (.ref f11) = true)
    (a12 : PySem.W.nsIn K mainGlobals "number_behind" = some (some (.ref f12)))
    (l12 : K.lookup f12 = some ⟨oc12, od12, .func (PySem.W.fnOf "number_behind" "number_behind" (defArgs s_number_behind) (defBody s_number_behind) (defScope s_number_behind) .none kV12 dc12 pm12 an12 cd12 ct12), sl12⟩)
    (c12 : PySem.W.codeIn K cd12 "number_behind" = true)
    (k12 : PySem.W.keepIn K (.ref f12) = true)
    (a13 : PySem.W.nsIn K mainGlobals "read_hour" = some (some (.ref f13)))
    (l13 : K.lookup f13 = some ⟨oc13, od13, .func (PySem.W.fnOf "read_hour" "read_hour" (defArgs s_read_hour) (defBody s_read_hour) (defScope s_read_hour) .none kV13 dc13 pm13 an13 cd13 ct13), sl13⟩)
    (c13 : PySem.W.codeIn K cd13 "read_hour" = true)
    (k13 : PySem.W.keepIn K (.ref f13) = true)
    (a14 : PySem.W.nsIn K mainGlobals "read_plan" = some (some (.ref f14)))
    (l14 : K.lookup f14 = some ⟨oc14, od14, .func (PySem.W.fnOf "read_plan" "read_plan" (defArgs s_read_plan) (defBody s_read_plan) (defScope s_read_plan) .none kV14 dc14 pm14 an14 cd14 ct14), sl14⟩)
    (c14 : PySem.W.codeIn K cd14 "read_plan" = true)
    (k14 : PySem.W.keepIn K (.ref f14) = true)
    (a15 : PySem.W.nsIn K mainGlobals "_law_number" = some (some (.ref f15)))
    (l15 : K.lookup f15 = some ⟨oc15, od15, .func (PySem.W.fnOf "_law_number" "_law_number" (defArgs s__law_number) (defBody s__law_number) (defScope s__law_number) .none kV15 dc15 pm15 an15 cd15 ct15), sl15⟩)
    (c15 : PySem.W.codeIn K cd15 "_law_number" = true)
    (k15 : PySem.W.keepIn K (.ref f15) = true)
    (a16 : PySem.W.nsIn K mainGlobals "_law_any_sign" = some (some (.ref f16)))
    (l16 : K.lookup f16 = some ⟨oc16, od16, .func (PySem.W.fnOf "_law_any_sign" "_law_any_sign" (defArgs s__law_any_sign) (defBody s__law_any_sign) (defScope s__law_any_sign) .none kV16 dc16 pm16 an16 cd16 ct16), sl16⟩)
    (c16 : PySem.W.codeIn K cd16 "_law_any_sign" = true)
    (k16 : PySem.W.keepIn K (.ref f16) = true)
    (a17 : PySem.W.nsIn K mainGlobals "_law_spoilt" = some (some (.ref f17)))
    (l17 : K.lookup f17 = some ⟨oc17, od17, .func (PySem.W.fnOf "_law_spoilt" "_law_spoilt" (defArgs s__law_spoilt) (defBody s__law_spoilt) (defScope s__law_spoilt) .none kV17 dc17 pm17 an17 cd17 ct17), sl17⟩)
    (c17 : PySem.W.codeIn K cd17 "_law_spoilt" = true)
    (k17 : PySem.W.keepIn K (.ref f17) = true)
    (a18 : PySem.W.nsIn K mainGlobals "_law_hour_read" = some (some (.ref f18)))
    (l18 : K.lookup f18 = some ⟨oc18, od18, .func (PySem.W.fnOf "_law_hour_read" "_law_hour_read" (defArgs s__law_hour_read) (defBody s__law_hour_read) (defScope s__law_hour_read) .none kV18 dc18 pm18 an18 cd18 ct18), sl18⟩)
    (c18 : PySem.W.codeIn K cd18 "_law_hour_read" = true)
    (k18 : PySem.W.keepIn K (.ref f18) = true)
    (a19 : PySem.W.nsIn K mainGlobals "_law_plan_read" = some (some (.ref f19)))
    (l19 : K.lookup f19 = some ⟨oc19, od19, .func (PySem.W.fnOf "_law_plan_read" "_law_plan_read" (defArgs s__law_plan_read) (defBody s__law_plan_read) (defScope s__law_plan_read) .none kV19 dc19 pm19 an19 cd19 ct19), sl19⟩)
    (c19 : PySem.W.codeIn K cd19 "_law_plan_read" = true)
    (k19 : PySem.W.keepIn K (.ref f19) = true)
    (a20 : PySem.W.nsIn K mainGlobals "_law_told" = some (some (.ref f20)))
    (l20 : K.lookup f20 = some ⟨oc20, od20, .func (PySem.W.fnOf "_law_told" "_law_told" (defArgs s__law_told) (defBody s__law_told) (defScope s__law_told) .none kV20 dc20 pm20 an20 cd20 ct20), sl20⟩)
    (c20 : PySem.W.codeIn K cd20 "_law_told" = true)
    (k20 : PySem.W.keepIn K (.ref f20) = true)
    (a21 : PySem.W.nsIn K mainGlobals "_law_right" = some (some (.ref f21)))
    (l21 : K.lookup f21 = some ⟨oc21, od21, .func (PySem.W.fnOf "_law_right" "_law_right" (defArgs s__law_right) (defBody s__law_right) (defScope s__law_right) .none kV21 dc21 pm21 an21 cd21 ct21), sl21⟩)
    (c21 : PySem.W.codeIn K cd21 "_law_right" = true)
    (k21 : PySem.W.keepIn K (.ref f21) = true)
    (a22 : PySem.W.nsIn K mainGlobals "law" = some (some (.ref f22)))
    (l22 : K.lookup f22 = some ⟨oc22, od22, .func (PySem.W.fnOf "law" "law" (defArgs s_law) (defBody s_law) (defScope s_law) .none kV22 dc22 pm22 an22 cd22 ct22), sl22⟩)
    (c22 : PySem.W.codeIn K cd22 "law" = true)
    (k22 : PySem.W.keepIn K (.ref f22) = true)
    (Ega2 : PySem.W.findIn K (.ref CE2) "__getattribute__" = some (some (.builtin "BaseException.__getattribute__")))
    (Egx2 : PySem.W.findIn K (.ref CE2) "__getattr__" = some none)
    (Eex2 : PySem.W.mroIn K CE2 (.type "BaseException") = some true)
    (Esa2 : PySem.W.findIn K (.ref CE2) "__setattr__" = some (some (.builtin "object.__setattr__")))
    (Eca2 : PySem.W.findIn K (.ref CE2) "__class__" = some (some (.builtin "object.__class__")))
    (Ecg2 : PySem.W.specialIn K (.builtin "object.__class__") "__get__" = some (some (.builtin "getset_descriptor.__get__")))
    (Ect2 : PySem.W.takesIn K (.builtin "object.__class__") = some true)
    (Emo2 : PySem.W.mroIn K CE2 (.type "object") = some true)
    (Ehd2 : PySem.W.hasDictIn K CE2 = true)
    (Ekp2 : PySem.W.keepIn K (.ref CE2) = true)
    (Emm2 : (PySem.W.clsIn K CE2).any (fun cd => errMro cd.mro && cd.hasDict) = true)
    (Emd2 : excMkIn K CE2 = true)
    (Eno2 : PySem.W.excIn K CE2 veMro "ValueError.__new__" = true)
    (Ex2_StintError : PySem.W.exmOne K (.ref CE2) (.ref CE4) = some true)
    (Ek2_ValueError : PySem.W.kitOne K (.ref CE2) (.type "ValueError") = some true)
    (Ek2_NoText : PySem.W.kitOne K (.ref CE2) (.ref CE2) = some true)
    (Ek2_NoDeed : PySem.W.kitOne K (.ref CE2) (.ref CE0) = some false)
    (Ek2_NoHour : PySem.W.kitOne K (.ref CE2) (.ref CE1) = some false)
    (Ek2_NotNow : PySem.W.kitOne K (.ref CE2) (.ref CE3) = some false)
    (Ek2_TooMany : PySem.W.kitOne K (.ref CE2) (.ref CE5) = some false)
    (Ek2_Wrong : PySem.W.kitOne K (.ref CE2) (.ref CE6) = some false)
    (z_ValueError : PySem.W.nsIn K mainGlobals "ValueError" = some none)
    (z_abs : PySem.W.nsIn K mainGlobals "abs" = some none)
    (z_all : PySem.W.nsIn K mainGlobals "all" = some none)
    (z_any : PySem.W.nsIn K mainGlobals "any" = some none)
    (z_bool : PySem.W.nsIn K mainGlobals "bool" = some none)
    (z_int : PySem.W.nsIn K mainGlobals "int" = some none)
    (z_isinstance : PySem.W.nsIn K mainGlobals "isinstance" = some none)
    (z_len : PySem.W.nsIn K mainGlobals "len" = some none)
    (z_list : PySem.W.nsIn K mainGlobals "list" = some none)
    (z_max : PySem.W.nsIn K mainGlobals "max" = some none)
    (z_min : PySem.W.nsIn K mainGlobals "min" = some none)
    (z_range : PySem.W.nsIn K mainGlobals "range" = some none)
    (z_str : PySem.W.nsIn K mainGlobals "str" = some none)
    (z_tuple : PySem.W.nsIn K mainGlobals "tuple" = some none)
    (z_zip : PySem.W.nsIn K mainGlobals "zip" = some none)
    (v_FIGURES : PySem.W.nsIn K mainGlobals "FIGURES" = some (some (.str (Str.ofString "0123456789") tk_FIGURES)))
    (v_MOST_FIGURES : PySem.W.nsIn K mainGlobals "MOST_FIGURES" = some (some (.int 20 tk_MOST_FIGURES)))
    (v_RESTS : PySem.W.nsIn K mainGlobals "RESTS" = some (some (.str (Str.ofString "-") tk_RESTS)))
    (v_LEVEL_AHEAD : PySem.W.nsIn K mainGlobals "LEVEL_AHEAD" = some (some (.str (Str.ofString "@") tk_LEVEL_AHEAD)))
    (v_NOTHING : PySem.W.nsIn K mainGlobals "NOTHING" = some (some (.str (Str.ofString "none") tk_NOTHING))) :
    ∃ fd : FuncData, (∀ (s : Shared) (v : Value), BindsTo s fd ⟨[v], []⟩ [("_law_script", v)]) ∧ ∀ base : Heap, K.In base → base.Ns mainGlobals mg → FnOk l.prog w K mg base CX0 7 fa fd ["_law_script"] (sp_law K) := by
  have e := hfa.symm.trans (PySem.W.mg_of X G a22)
  cases e
  have F0 := fun_mk (st := s__law_open) l0 c0 k0
  have b0 := F0.binds (ps := ["_law_script", "_law_place"]) fun _ _ _ _ _ _ us hl => by obtain ⟨_, _, rfl⟩ := ar2 us hl; rfl
  have F1 := fun_mk (st := s__law_draw) l1 c1 k1
  have b1 := F1.binds (ps := ["_law_hand", "_law_many"]) fun _ _ _ _ _ _ us hl => by obtain ⟨_, _, rfl⟩ := ar2 us hl; rfl
  have F2 := fun_mk (st := s__law_far) l2 c2 k2
  have b2 := F2.binds (ps := ["_law_hand", "_law_bound"]) fun _ _ _ _ _ _ us hl => by obtain ⟨_, _, rfl⟩ := ar2 us hl; rfl
  have F3 := fun_mk (st := s_Wrong_init) l3 c3 k3
  have b3 := F3.binds (ps := ["self", "at"]) fun _ _ _ _ _ _ us hl => by obtain ⟨_, _, rfl⟩ := ar2 us hl; rfl
  have F4 := fun_mk (st := s_NotNow_init) l4 c4 k4
  have b4 := F4.binds (ps := ["self", "at"]) fun _ _ _ _ _ _ us hl => by obtain ⟨_, _, rfl⟩ := ar2 us hl; rfl
  have F5 := fun_mk (st := s_TooMany_init) l5 c5 k5
  have b5 := F5.binds (ps := ["self", "limit"]) fun _ _ _ _ _ _ us hl => by obtain ⟨_, _, rfl⟩ := ar2 us hl; rfl
  have F6 := fun_mk (st := s__law_hour_line) l6 c6 k6
  have b6 := F6.binds (ps := ["_law_hour"]) fun _ _ _ _ _ _ us hl => by obtain ⟨_, rfl⟩ := ar1 us hl; rfl
  have F7 := fun_mk (st := s__law_plan_line) l7 c7 k7
  have b7 := F7.binds (ps := ["_law_plan"]) fun _ _ _ _ _ _ us hl => by obtain ⟨_, rfl⟩ := ar1 us hl; rfl
  have F8 := fun_mk (st := s__law_any_hour) l8 c8 k8
  have b8 := F8.binds (ps := ["_law_hand", "_law_machines"]) fun _ _ _ _ _ _ us hl => by obtain ⟨_, _, rfl⟩ := ar2 us hl; rfl
  have F9 := fun_mk (st := s__law_same) l9 c9 k9
  have b9 := F9.binds (ps := ["_law_one", "_law_due"]) fun _ _ _ _ _ _ us hl => by obtain ⟨_, _, rfl⟩ := ar2 us hl; rfl
  have F10 := fun_mk (st := s__law_any_plan) l10 c10 k10
  have b10 := F10.binds (ps := ["_law_hand", "_law_most"]) fun _ _ _ _ _ _ us hl => by obtain ⟨_, _, rfl⟩ := ar2 us hl; rfl
  have F11 := fun_mk (st := s_number_of) l11 c11 k11
  have b11 := F11.binds (ps := ["word"]) fun _ _ _ _ _ _ us hl => by obtain ⟨_, rfl⟩ := ar1 us hl; rfl
  have F12 := fun_mk (st := s_number_behind) l12 c12 k12
  have b12 := F12.binds (ps := ["word", "ahead"]) fun _ _ _ _ _ _ us hl => by obtain ⟨_, _, rfl⟩ := ar2 us hl; rfl
  have F13 := fun_mk (st := s_read_hour) l13 c13 k13
  have b13 := F13.binds (ps := ["part"]) fun _ _ _ _ _ _ us hl => by obtain ⟨_, rfl⟩ := ar1 us hl; rfl
  have F14 := fun_mk (st := s_read_plan) l14 c14 k14
  have b14 := F14.binds (ps := ["line"]) fun _ _ _ _ _ _ us hl => by obtain ⟨_, rfl⟩ := ar1 us hl; rfl
  have F15 := fun_mk (st := s__law_number) l15 c15 k15
  have b15 := F15.binds (ps := ["_law_word"]) fun _ _ _ _ _ _ us hl => by obtain ⟨_, rfl⟩ := ar1 us hl; rfl
  have F16 := fun_mk (st := s__law_any_sign) l16 c16 k16
  have b16 := F16.binds (ps := ["_law_hand"]) fun _ _ _ _ _ _ us hl => by obtain ⟨_, rfl⟩ := ar1 us hl; rfl
  have F17 := fun_mk (st := s__law_spoilt) l17 c17 k17
  have b17 := F17.binds (ps := ["_law_hand", "_law_line"]) fun _ _ _ _ _ _ us hl => by obtain ⟨_, _, rfl⟩ := ar2 us hl; rfl
  have F18 := fun_mk (st := s__law_hour_read) l18 c18 k18
  have b18 := F18.binds (ps := ["_law_part"]) fun _ _ _ _ _ _ us hl => by obtain ⟨_, rfl⟩ := ar1 us hl; rfl
  have F19 := fun_mk (st := s__law_plan_read) l19 c19 k19
  have b19 := F19.binds (ps := ["_law_line"]) fun _ _ _ _ _ _ us hl => by obtain ⟨_, rfl⟩ := ar1 us hl; rfl
  have F20 := fun_mk (st := s__law_told) l20 c20 k20
  have b20 := F20.binds (ps := ["_law_line"]) fun _ _ _ _ _ _ us hl => by obtain ⟨_, rfl⟩ := ar1 us hl; rfl
  have F21 := fun_mk (st := s__law_right) l21 c21 k21
  have b21 := F21.binds (ps := ["_law_line"]) fun _ _ _ _ _ _ us hl => by obtain ⟨_, rfl⟩ := ar1 us hl; rfl
  have F22 := fun_mk (st := s_law) l22 c22 k22
  have b22 := F22.binds (ps := ["_law_script"]) fun _ _ _ _ _ _ us hl => by obtain ⟨_, rfl⟩ := ar1 us hl; rfl
  have tx : Txt K mg { f__law_open := f0, d__law_open := _, f__law_draw := f1, d__law_draw := _, f__law_far := f2, d__law_far := _, f_Wrong_init := f3, d_Wrong_init := _, f_NotNow_init := f4, d_NotNow_init := _, f_TooMany_init := f5, d_TooMany_init := _, f__law_hour_line := f6, d__law_hour_line := _, f__law_plan_line := f7, d__law_plan_line := _, f__law_any_hour := f8, d__law_any_hour := _, f__law_same := f9, d__law_same := _, f__law_any_plan := f10, d__law_any_plan := _, f_number_of := f11, d_number_of := _, f_number_behind := f12, d_number_behind := _, f_read_hour := f13, d_read_hour := _, f_read_plan := f14, d_read_plan := _, f__law_number := f15, d__law_number := _, f__law_any_sign := f16, d__law_any_sign := _, f__law_spoilt := f17, d__law_spoilt := _, f__law_hour_read := f18, d__law_hour_read := _, f__law_plan_read := f19, d__law_plan_read := _, f__law_told := f20, d__law_told := _, f__law_right := f21, d__law_right := _, f_law := fa, d_law := _, c_NoDeed := CE0, c_NoHour := CE1, c_NoText := CE2, c_NotNow := CE3, c_StintError := CE4, c_TooMany := CE5, c_Wrong := CE6 } := { F__law_open := F0, b__law_open := b0, g__law_open := PySem.W.mg_of X G a0, F__law_draw := F1, b__law_draw := b1, g__law_draw := PySem.W.mg_of X G a1, F__law_far := F2, b__law_far := b2, g__law_far := PySem.W.mg_of X G a2, F_Wrong_init := F3, b_Wrong_init := b3, F_NotNow_init := F4, b_NotNow_init := b4, F_TooMany_init := F5, b_TooMany_init := b5, F__law_hour_line := F6, b__law_hour_line := b6, g__law_hour_line := PySem.W.mg_of X G a6, F__law_plan_line := F7, b__law_plan_line := b7, g__law_plan_line := PySem.W.mg_of X G a7, F__law_any_hour := F8, b__law_any_hour := b8, g__law_any_hour := PySem.W.mg_of X G a8, F__law_same := F9, b__law_same := b9, g__law_same := PySem.W.mg_of X G a9, F__law_any_plan := F10, b__law_any_plan := b10, g__law_any_plan := PySem.W.mg_of X G a10, F_number_of := F11, b_number_of := b11, g_number_of := PySem.W.mg_of X G a11, F_number_behind := F12, b_number_behind := b12, g_number_behind := PySem.W.mg_of X G a12, F_read_hour := F13, b_read_hour := b13, g_read_hour := PySem.W.mg_of X G a13, F_read_plan := F14, b_read_plan := b14, g_read_plan := PySem.W.mg_of X G a14, F__law_number := F15, b__law_number := b15, g__law_number := PySem.W.mg_of X G a15, F__law_any_sign := F16, b__law_any_sign := b16, g__law_any_sign := PySem.W.mg_of X G a16, F__law_spoilt := F17, b__law_spoilt := b17, g__law_spoilt := PySem.W.mg_of X G a17, F__law_hour_read := F18, b__law_hour_read := b18, g__law_hour_read := PySem.W.mg_of X G a18, F__law_plan_read := F19, b__law_plan_read := b19, g__law_plan_read := PySem.W.mg_of X G a19, F__law_told := F20, b__law_told := b20, g__law_told := PySem.W.mg_of X G a20, F__law_right := F21, b__law_right := b21, g__law_right := PySem.W.mg_of X G a21, F_law := F22, b_law := b22, g_law := PySem.W.mg_of X G a22, g_NoDeed := PySem.W.mg_of X G aE0, g_NoHour := PySem.W.mg_of X G aE1, g_NoText := PySem.W.mg_of X G aE2, Z_NoText := ⟨⟨Ega2, Egx2, Eex2⟩, Esa2, Eca2, Ecg2, Ect2, Emo2, Ehd2, Emm2, Emd2, Ekp2⟩, ex_NoText := Eno2, x_NoText_StintError := Ex2_StintError, k_NoText_ValueError := Ek2_ValueError, k_NoText_NoText := Ek2_NoText, k_NoText_NoDeed := Ek2_NoDeed, k_NoText_NoHour := Ek2_NoHour, k_NoText_NotNow := Ek2_NotNow, k_NoText_TooMany := Ek2_TooMany, k_NoText_Wrong := Ek2_Wrong, g_NotNow := PySem.W.mg_of X G aE3, g_StintError := PySem.W.mg_of X G aE4, g_TooMany := PySem.W.mg_of X G aE5, g_Wrong := PySem.W.mg_of X G aE6, z_ValueError := PySem.W.mg_none_of X G z_ValueError, z_abs := PySem.W.mg_none_of X G z_abs, z_all := PySem.W.mg_none_of X G z_all, z_any := PySem.W.mg_none_of X G z_any, z_bool := PySem.W.mg_none_of X G z_bool, z_int := PySem.W.mg_none_of X G z_int, z_isinstance := PySem.W.mg_none_of X G z_isinstance, z_len := PySem.W.mg_none_of X G z_len, z_list := PySem.W.mg_none_of X G z_list, z_max := PySem.W.mg_none_of X G z_max, z_min := PySem.W.mg_none_of X G z_min, z_range := PySem.W.mg_none_of X G z_range, z_str := PySem.W.mg_none_of X G z_str, z_tuple := PySem.W.mg_none_of X G z_tuple, z_zip := PySem.W.mg_none_of X G z_zip, v_FIGURES := ⟨_, PySem.W.mg_of X G v_FIGURES⟩, v_MOST_FIGURES := ⟨_, PySem.W.mg_of X G v_MOST_FIGURES⟩, v_RESTS := ⟨_, PySem.W.mg_of X G v_RESTS⟩, v_LEVEL_AHEAD := ⟨_, PySem.W.mg_of X G v_LEVEL_AHEAD⟩, v_NOTHING := ⟨_, PySem.W.mg_of X G v_NOTHING⟩ }
  exact ⟨_, fun s v => .of_eq rfl, fun base _ _ => ok_law tx⟩
theorem walk {l : PySem.W.OpenLaw} {q : Program} {loose : List Str} {XP : (Str → Option Value) → Heap → Prop} {YP : World → Heap → Prop} {d : DefRec} {K : Params → PySem.W.Frag} (hn : l.most = some 63) (hdf : d.params.defaults = [])
    (hY : ∀ (w : World) (h : Heap), YP w h → (K w.params).In h)
    (F : ∀ (w : World) (mg : Str → Option Value) (fa : Addr) (h : Heap), (K w.params).In h → h.Ns mainGlobals mg → mg d.name = some (.ref fa) →
      ∃ fd : FuncData, (∀ (s : Shared) (u : Value), BindsTo s fd ⟨[u], []⟩ [("_law_script", u)]) ∧ ∀ base : Heap, (K w.params).In base → base.Ns mainGlobals mg → FnOk l.prog w (K w.params) mg base CX0 7 fa fd ["_law_script"] (sp_law (K w.params))) :
    PySem.W.WalkO q loose XP YP l.row.toRowW d [] (fun f vs => PySem.call f vs) :=
  L2.walk_of (n := 63) (k := 7) (x := "_law_script") (CX := fun _ => CX0) (sp := fun w => sp_law (K w.params)) hn (by decide) hdf ⟨rfl, by decide, by decide⟩ hY F (fun _ _ a ns hl _ hS => ⟨a, ns, rfl, hS, hl, fun _ => rfl⟩) fun _ _ _ _ _ z => z
end My
open PySem PySem.W PyProof.Rows
set_option maxRecDepth 100000 in
set_option maxHeartbeats 0 in
theorem PySem.Challenge.cw_stintwise_k98_lines_of_plans_amiss_holds : PySem.Challenge.rw_stintwise_k98_lines_of_plans_amiss.Holds := by
  w_on; o_law; k_head; (case hw => w_witness2)
  k_fill
  refine My.walk (l := PySem.Challenge.rw_stintwise_k98_lines_of_plans_amiss) rfl rfl (fun w h Y => PySem.W.kIn_of Y) ?F
  case F =>
    intro w mg fa h KX G hmg
    refine' My.all_mk KX G hmg ?aE0 ?aE1 ?aE2 ?aE3 ?aE4 ?aE5 ?aE6 ?a0 ?l0 ?c0 ?k0 ?a1 ?l1 ?c1 ?k1 ?a2 ?l2 ?c2 ?k2 ?a3 ?i3 ?l3 ?c3 ?k3 ?a4 ?i4 ?l4 ?c4 ?k4 ?a5 ?i5 ?l5 ?c5 ?k5 ?a6 ?l6 ?c6 ?k6 ?a7 ?l7 ?c7 ?k7 ?a8 ?l8 ?c8 ?k8 ?a9 ?l9 ?c9 ?k9 ?a10 ?l10 ?c10 ?k10 ?a11 ?l11 ?c11 ?k11 ?a12 ?l12 ?c12 ?k12 ?a13 ?l13 ?c13 ?k13 ?a14 ?l14 ?c14 ?k14 ?a15 ?l15 ?c15 ?k15 ?a16 ?l16 ?c16 ?k16 ?a17 ?l17 ?c17 ?k17 ?a18 ?l18 ?c18 ?k18 ?a19 ?l19 ?c19 ?k19 ?a20 ?l20 ?c20 ?k20 ?a21 ?l21 ?c21 ?k21 ?a22 ?l22 ?c22 ?k22 ?Ega2 ?Egx2 ?Eex2 ?Esa2 ?Eca2 ?Ecg2 ?Ect2 ?Emo2 ?Ehd2 ?Ekp2 ?Emm2 ?Emd2 ?Eno2 ?Ex2_StintError ?Ek2_ValueError ?Ek2_NoText ?Ek2_NoDeed ?Ek2_NoHour ?Ek2_NotNow ?Ek2_TooMany ?Ek2_Wrong ?z_ValueError ?z_abs ?z_all ?z_any ?z_bool ?z_int ?z_isinstance ?z_len ?z_list ?z_max ?z_min ?z_range ?z_str ?z_tuple ?z_zip ?v_FIGURES ?v_MOST_FIGURES ?v_RESTS ?v_LEVEL_AHEAD ?v_NOTHING
    (case aE0 => k_is); (case aE1 => k_is); (case aE2 => k_is); (case aE3 => k_is); (case aE4 => k_is); (case aE5 => k_is); (case aE6 => k_is); (case a0 => k_is)
    (case l0 => k_is); (case c0 => k_is); (case k0 => k_is); (case a1 => k_is); (case l1 => k_is); (case c1 => k_is); (case k1 => k_is); (case a2 => k_is)
    (case l2 => k_is); (case c2 => k_is); (case k2 => k_is); (case a3 => k_is); (case i3 => k_is); (case l3 => k_is); (case c3 => k_is); (case k3 => k_is)
    (case a4 => k_is); (case i4 => k_is); (case l4 => k_is); (case c4 => k_is); (case k4 => k_is); (case a5 => k_is); (case i5 => k_is); (case l5 => k_is)
    (case c5 => k_is); (case k5 => k_is); (case a6 => k_is); (case l6 => k_is); (case c6 => k_is); (case k6 => k_is); (case a7 => k_is); (case l7 => k_is)
    (case c7 => k_is); (case k7 => k_is); (case a8 => k_is); (case l8 => k_is); (case c8 => k_is); (case k8 => k_is); (case a9 => k_is); (case l9 => k_is)
    (case c9 => k_is); (case k9 => k_is); (case a10 => k_is); (case l10 => k_is); (case c10 => k_is); (case k10 => k_is); (case a11 => k_is); (case l11 => k_is)
    (case c11 => k_is); (case k11 => k_is); (case a12 => k_is); (case l12 => k_is); (case c12 => k_is); (case k12 => k_is); (case a13 => k_is); (case l13 => k_is)
    (case c13 => k_is); (case k13 => k_is); (case a14 => k_is); (case l14 => k_is); (case c14 => k_is); (case k14 => k_is); (case a15 => k_is); (case l15 => k_is)
    (case c15 => k_is); (case k15 => k_is); (case a16 => k_is); (case l16 => k_is); (case c16 => k_is); (case k16 => k_is); (case a17 => k_is); (case l17 => k_is)
    (case c17 => k_is); (case k17 => k_is); (case a18 => k_is); (case l18 => k_is); (case c18 => k_is); (case k18 => k_is); (case a19 => k_is); (case l19 => k_is)
    (case c19 => k_is); (case k19 => k_is); (case a20 => k_is); (case l20 => k_is); (case c20 => k_is); (case k20 => k_is); (case a21 => k_is); (case l21 => k_is)
    (case c21 => k_is); (case k21 => k_is); (case a22 => k_is); (case l22 => k_is); (case c22 => k_is); (case k22 => k_is); (case Ega2 => k_is); (case Egx2 => k_is)
    (case Eex2 => k_is); (case Esa2 => k_is); (case Eca2 => k_is); (case Ecg2 => k_is); (case Ect2 => k_is); (case Emo2 => k_is); (case Ehd2 => k_is); (case Ekp2 => k_is)
    (case Emm2 => kernel_rfl); (case Emd2 => kernel_rfl); (case Eno2 => kernel_rfl); (case Ex2_StintError => kernel_rfl); (case Ek2_ValueError => kernel_rfl); (case Ek2_NoText => kernel_rfl); (case Ek2_NoDeed => kernel_rfl); (case Ek2_NoHour => kernel_rfl)
    (case Ek2_NotNow => kernel_rfl); (case Ek2_TooMany => kernel_rfl); (case Ek2_Wrong => kernel_rfl); (case z_ValueError => k_is); (case z_abs => k_is); (case z_all => k_is); (case z_any => k_is); (case z_bool => k_is)
    (case z_int => k_is); (case z_isinstance => k_is); (case z_len => k_is); (case z_list => k_is); (case z_max => k_is); (case z_min => k_is); (case z_range => k_is); (case z_str => k_is)
    (case z_tuple => k_is); (case z_zip => k_is); (case v_FIGURES => k_is); (case v_MOST_FIGURES => k_is); (case v_RESTS => k_is); (case v_LEVEL_AHEAD => k_is); (case v_NOTHING => k_is)
