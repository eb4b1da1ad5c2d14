import PyProof.Rows.All
import Wide.All
import OpenK.AllK
import Wide.FinOn
import Lean
import PyProof.EqAt
import PyProof.EqKinds
import PyProof.NeKinds
import PyProof.TupleCall
import KE.KDictSum
import KE.KSortTup
import KE.KLam
import KE.KNestM
import PyProof.DictItems
import PyProof.DictValues
import PyProof.Rows.TupDisplay
import PySem.Challenge.RW_stintwise_k47_prices_raised
set_option Elab.async false
set_option linter.all false
set_option maxRecDepth 100000
def PySem.W.Fast.tw9505690432100498071 : Unit := ()
def PySem.W.Fast.tw12706423158782770596 : Unit := ()
def PySem.W.Fast.tw4794496900551340693 : Unit := ()
def PySem.W.Fast.tw9460683545584465801 : Unit := ()
def PySem.W.Fast.tw2730544257913613431 : Unit := ()
def PySem.W.Fast.tw13487858991334934561 : Unit := ()
def PySem.W.Fast.tw17199982737586711482 : Unit := ()
def PySem.W.Fast.tw18256273113524738843 : Unit := ()
def PySem.W.Fast.tw11948962350925927085 : Unit := ()
def PySem.W.Fast.tw8090936137134444177 : Unit := ()
def PySem.W.Fast.tw4871025969956193332 : Unit := ()
def PySem.W.Fast.tw7407892173585818610 : Unit := ()
def PySem.W.Fast.tw13226887806069529637 : Unit := ()
def PySem.W.Fast.tw12858961054275660006 : Unit := ()
def PySem.W.Fast.tw1518129736756706585 : Unit := ()
def PySem.W.Fast.tw12419932202129671192 : Unit := ()
def PySem.W.Fast.tw3048584877466978321 : Unit := ()
namespace L2
open PySem PySem.Spec PyProof.Rows
abbrev Key := Sum Int Str
def keyIs : Key → Value → Bool
  | .inl k, v => Value.isInt k v
  | .inr x, v => Value.isStrOf x v
def keyH (w : World) : Key → Int
  | .inl k => hashInt k
  | .inr x => hashStr w x
theorem keyIs_shape : ∀ {k : Key} {v : Value}, keyIs k v = true → (∃ i t, k = Sum.inl i ∧ v = Value.int i t) ∨ (∃ x t, k = Sum.inr x ∧ v = Value.str x t)
  | .inl i, v, h => by
    obtain ⟨t, e⟩ := Value.isInt_shape (k := i) (v := v) h
    exact .inl ⟨i, t, rfl, e⟩
  | .inr x, v, h => by
    obtain ⟨t, e⟩ := Value.isStrOf_shape (x := x) (v := v) h
    exact .inr ⟨x, t, rfl, e⟩
theorem keyIs_int (i : Int) (t : Tok) : keyIs (.inl i) (.int i t) = true := by simp [keyIs, Value.isInt]
theorem keyIs_str (x : Str) (t : Tok) : keyIs (.inr x) (.str x t) = true := by simp [keyIs, Value.isStrOf]
theorem key_ll (a b : Int) : decide ((Sum.inl a : Key) = Sum.inl b) = (a == b) := by
  by_cases e : a = b
  · subst e; simp
  · have h : ¬ (Sum.inl a : Key) = Sum.inl b := fun q => e (Sum.inl.inj q)
    rw [decide_eq_false h]
    exact (beq_eq_false_iff_ne.mpr e).symm
theorem key_rr (a b : Str) : decide ((Sum.inr a : Key) = Sum.inr b) = decide (a = b) := by
  by_cases e : a = b
  · subst e; simp
  · have h : ¬ (Sum.inr a : Key) = Sum.inr b := fun q => e (Sum.inr.inj q)
    rw [decide_eq_false h, decide_eq_false e]
theorem key_lr (a : Int) (b : Str) : decide ((Sum.inl a : Key) = Sum.inr b) = false := decide_eq_false (fun q => nomatch q)
theorem key_rl (a : Str) (b : Int) : decide ((Sum.inr a : Key) = Sum.inl b) = false := decide_eq_false (fun q => nomatch q)
def mixKind (prog : Program) (w : World) : PySem.KeyKind prog w Key where
  is := keyIs
  hash := keyH w
  inj := fun v a b ha hb => by
    rcases keyIs_shape ha with ⟨i, t, rfl, rfl⟩ | ⟨x, t, rfl, rfl⟩
    · rcases keyIs_shape hb with ⟨j, u, rfl, e⟩ | ⟨y, u, rfl, e⟩
      · injection e with e1 _; rw [e1]
      · exact nomatch e
    · rcases keyIs_shape hb with ⟨j, u, rfl, e⟩ | ⟨y, u, rfl, e⟩
      · exact nomatch e
      · injection e with e1 _; rw [e1]
  byValue := fun k v h => by
    rcases keyIs_shape h with ⟨i, t, rfl, rfl⟩ | ⟨x, t, rfl, rfl⟩ <;> rfl
  pyHash := fun hv h => by
    rcases keyIs_shape hv with ⟨i, t, rfl, rfl⟩ | ⟨x, t, rfl, rfl⟩
    · exact wpAny_pyHash_int h
    · exact wpAny_pyHash_str h
  eqBool := fun hu hv h => by
    rcases keyIs_shape hu with ⟨i, t, rfl, rfl⟩ | ⟨x, t, rfl, rfl⟩
    · rcases keyIs_shape hv with ⟨j, u, rfl, rfl⟩ | ⟨y, u, rfl, rfl⟩
      · rw [key_ll] at h; exact wpAny_eqBool_int h
      · rw [key_lr] at h; exact SeqAt.EqAt.int_str i t y u _ _ _ _ h
    · rcases keyIs_shape hv with ⟨j, u, rfl, rfl⟩ | ⟨y, u, rfl, rfl⟩
      · rw [key_rl] at h; exact SeqAt.EqAt.str_int x t j u _ _ _ _ h
      · rw [key_rr] at h; exact wpAny_eqBool_str h
  «strs» := fun k x t v h => by
    rcases keyIs_shape h with ⟨i, u, rfl, e⟩ | ⟨y, u, rfl, e⟩
    · exact nomatch e
    · injection e with e1 _
      subst e1
      cases v <;> rfl
theorem mixKind_int (prog : Program) (w : World) (i : Int) (t : Tok) : (mixKind prog w).is (.inl i) (.int i t) = true := keyIs_int i t
theorem mixKind_str (prog : Program) (w : World) (x : Str) (t : Tok) : (mixKind prog w).is (.inr x) (.str x t) = true := keyIs_str x t
end L2
namespace L2
open PySem PySem.Spec PyProof.Rows
inductive V where
  | non | bl (b : Bool) | int (i : Int) | str (x : Str) | byt (b : Array UInt8) | flt (b : UInt64) | ref (a : Addr) | ty (n : String)
  deriving DecidableEq
def RelV : V → Value → Prop
  | .non, u => u = Value.none
  | .bl b, u => u = Value.bool b
  | .int i, u => ∃ t, u = Value.int i t
  | .str x, u => ∃ t, u = Value.str x t
  | .byt b, u => ∃ t, u = Value.bytes b t
  | .flt b, u => ∃ t, u = Value.float b t
  | .ref a, u => u = Value.ref a
  | .ty n, u => u = Value.type n
abbrev Vals : List V → List Value → Prop := Paired RelV
theorem Vals.length {xs : List V} {us : List Value} (r : Vals xs us) : xs.length = us.length := Paired.length r
theorem Vals.get : ∀ {xs : List V} {us : List Value} {i : Nat} {x : V}, Vals xs us → xs[i]? = some x → ∃ u, us[i]? = some u ∧ RelV x u
  | _, _, _, _, .nil, e => by simp at e
  | _, _, 0, _, .cons r _, e => by simp at e; subst e; exact ⟨_, rfl, r⟩
  | _, _, i + 1, x, .cons _ t, e => by
    obtain ⟨u, h1, h2⟩ := Vals.get (i := i) (x := x) t (by simpa using e)
    exact ⟨u, by simpa using h1, h2⟩
theorem Vals.set {x : V} {u : Value} (r : RelV x u) : ∀ {xs : List V} {us : List Value} (i : Nat), Vals xs us → Vals (xs.set i x) (us.set i u)
  | _, _, _, .nil => .nil
  | _, _, 0, .cons _ t => .cons r t
  | _, _, i + 1, .cons q t => .cons q (Vals.set r i t)
theorem Vals.append : ∀ {xs ys : List V} {us ws : List Value}, Vals xs us → Vals ys ws → Vals (xs ++ ys) (us ++ ws)
  | _, _, _, _, .nil, s => s
  | _, _, _, _, .cons r t, s => .cons r (Vals.append t s)
theorem Vals.take : ∀ {xs : List V} {us : List Value} (n : Nat), Vals xs us → Vals (xs.take n) (us.take n)
  | _, _, 0, _ => .nil
  | _, _, _ + 1, .nil => .nil
  | _, _, n + 1, .cons r t => .cons r (Vals.take n t)
theorem Vals.drop : ∀ {xs : List V} {us : List Value} (n : Nat), Vals xs us → Vals (xs.drop n) (us.drop n)
  | _, _, 0, r => r
  | _, _, _ + 1, .nil => .nil
  | _, _, n + 1, .cons _ t => Vals.drop n t
theorem Vals.none_of : ∀ {xs : List V} {us : List Value} {i : Nat}, Vals xs us → xs[i]? = none → us[i]? = none := fun {xs us i} r e => by
  have h1 := r.length
  have h2 : xs.length ≤ i := List.getElem?_eq_none_iff.mp e
  exact List.getElem?_eq_none_iff.mpr (by omega)
def RelO : Option V → Option Value → Prop
  | some v, some u => RelV v u
  | none, none => True
  | _, _ => False
def KV {κ : Type} : List (κ × V) → List (κ × Value) → Prop := Paired fun (p : κ × V) (q : κ × Value) => p.1 = q.1 ∧ RelV p.2 q.2
def kV : Key → V
  | .inl i => .int i
  | .inr x => .str x
inductive HO where
  | lst (xs : List V)
  | tup (xs : List V)
  | dK (kvs : List (Key × V)) | dT (kvs : List (List Key × V))
  | set (S : Int → Bool) (n : Nat)
  | ins (C dx : Addr) (fs : List (Str × V))
  | own (x : Addr)
  | xd (fs : List (Str × V))
  | met (f x : Addr)
  | rng (lo hi : Int)
  | frz (o : Obj) (u : HO)
  | tbl (ps : Array Value)
  | ext (φ : Heap → Prop)
  | cod (q : Str) | ctb (pos : Pos) (q : Str)
def Sty : HO → Prop
  | .tup _ => True
  | .cod _ => True
  | _ => False
abbrev Hp := Addr → Option HO
def upd (H : Hp) (a : Addr) (o : HO) : Hp := fun b => if b = a then some o else H b
theorem upd_same {H : Hp} {a : Addr} {o : HO} : upd H a o a = some o := by unfold upd; rw [if_pos rfl]
theorem upd_ne {H : Hp} {a b : Addr} {o : HO} (h : b ≠ a) : upd H a o b = H b := by unfold upd; rw [if_neg h]
theorem upd_upd {H : Hp} {a : Addr} {o u : HO} : upd (upd H a o) a u = upd H a u := by
  funext b; unfold upd; split <;> rfl
theorem ne_of {H : Hp} {a b : Addr} {o u : HO} (h : H a = some o) (h' : H b = some u) (d : o ≠ u) : a ≠ b := by
  intro e; subst e; rw [h] at h'; exact d (Option.some.inj h')
theorem ne_of_none {H : Hp} {a b : Addr} {o : HO} (h : H a = some o) (h' : H b = none) : a ≠ b := by
  intro e; subst e; rw [h] at h'; cases h'
section
variable (P : Program) (w : World)
def ObjOk (H : Hp) (h : Heap) (a : Addr) : HO → Prop
  | .lst xs => xs.length ≤ sizeLine ∧ ∃ (its : List Value) (n : Nat), Vals xs its ∧ h.get? a = some { cls := .type "list", data := .seq its.toArray n }
  | .tup xs => xs.length ≤ sizeLine ∧ ∃ its : List Value, Vals xs its ∧ IsTup h a its.toArray
  | .dK kvs => kvs.length ≤ sizeLine ∧ (a == sysModules) = false ∧ ∃ vs, KV kvs vs ∧ h.DictOf (mixKind P w) a vs
  | .dT kvs => kvs.length ≤ sizeLine ∧ (a == sysModules) = false ∧ ∃ xs : List (List Key × Addr × Value),
      Paired (fun (p : List Key × V) (q : List Key × Addr × Value) => p.1 = q.1 ∧ H q.2.1 = some (.tup (p.1.map kV)) ∧ RelV p.2 q.2.2) kvs xs ∧
      ∃ o es ep, h.get? a = some o ∧ o.ExactDict ∧ o.data = .dict es ep ∧ es.toList = xs.map (entryOfKey (tupleKind (mixKind P w))) ∧ (xs.map (·.1)).Nodup
  | .set S n => h.SetOf (intKind P w) a S n
  | .ins C dx fs => H dx = some (.own a) ∧ fs.length ≤ 1000 ∧ dx ≠ a ∧ h.get? a = some (PySem.W.instObj C dx) ∧
      ∃ mA, h.Ns1 dx mA ∧ (∀ f, RelO (fs.lookup f) (mA f)) ∧ PySem.Within mA (fs.map (·.1))
  | .own _ => ∃ o, h.get? a = some o
  | .xd fs => ∃ mA, h.Ns1 a mA ∧ ∀ f, RelO (fs.lookup f) (mA f)
  | .rng lo hi => ∃ t u v, h.get? a = some { cls := .type "range", data := .fields #[.int lo t, .int hi u, .int 1 v] }
  | .frz o u => h.get? a = some o ∧ ObjOk H h a u
  | .tbl ps => h.get? a = some { cls := .none, data := .fields ps }
  | .met f x => h.get? a = some (PySem.W.methodObj (.ref f) (.ref x))
  | .ext φ => φ h ∧ (∃ o, h.get? a = some o) ∧ ∀ h1 h2 : Heap, φ h1 → (∀ o, h1.get? a = some o → h2.get? a = some o) → φ h2
  | .cod q => ∃ o vs t, h.get? a = some o ∧ o.data = .fields vs ∧ vs[1]? = some (.str q t)
  | .ctb pos q => ∃ ps : Array Value, h.get? a = some { cls := .none, data := .fields ps } ∧ TriplesOk ps.toList ∧ (codeAmong pos ps.toList = none ∨ ∃ c, codeAmong pos ps.toList = some (.ref c) ∧ H c = some (.cod q))
def HOk (H : Hp) (h : Heap) : Prop := ∀ a o, H a = some o → ObjOk P w H h a o
end
section
variable {P : Program} {w : World} {H H' : Hp} {h h' : Heap} {a : Addr} {o : HO}
theorem ObjOk.lt (x : ObjOk P w H h a o) : a < h.objs.size := by
  cases o with
  | lst xs => obtain ⟨_, _, _, _, e⟩ := x; exact Heap.lt_size e
  | tup xs => obtain ⟨_, _, _, p⟩ := x; exact p.lt
  | dK kvs => obtain ⟨_, _, _, _, o, _, _, e, _⟩ := x; exact Heap.lt_size e
  | dT kvs => obtain ⟨_, _, _, _, o, _, _, e, _⟩ := x; exact Heap.lt_size e
  | set S n => obtain ⟨o, _, _, _, e, _⟩ := x; exact Heap.lt_size e
  | ins C dx fs => obtain ⟨_, _, _, e, _⟩ := x; exact Heap.lt_size e
  | own y => obtain ⟨_, e⟩ := x; exact Heap.lt_size e
  | xd fs => obtain ⟨_, ⟨_, _, _, e, _⟩, _⟩ := x; exact Heap.lt_size e
  | rng lo hi => obtain ⟨_, _, _, e⟩ := x; exact Heap.lt_size e
  | frz ob u => obtain ⟨e, _⟩ := x; exact Heap.lt_size e
  | tbl ps => exact Heap.lt_size (show h.get? a = some _ from x)
  | met f y => exact Heap.lt_size (show h.get? a = some _ from x)
  | ext φ => obtain ⟨_, ⟨_, e⟩, _⟩ := x; exact Heap.lt_size e
  | cod q => obtain ⟨_, _, _, e, _⟩ := x; exact Heap.lt_size e
  | ctb pos q => obtain ⟨_, e, _⟩ := x; exact Heap.lt_size e
theorem Paired.mapP {α β : Type} {F G : α → β → Prop} : ∀ {l₁ : List α} {l₂ : List β}, Paired F l₁ l₂ → (∀ a b, F a b → G a b) → Paired G l₁ l₂
  | _, _, .nil, _ => .nil
  | _, _, .cons r t, f => .cons (f _ _ r) (Paired.mapP t f)
theorem ObjOk.stay (x : ObjOk P w H h a o) (k : ∀ b u, (b = a ∨ H b = some (.own a)) → h.get? b = some u → h'.get? b = some u)
    (ho : ∀ b, H b = some (.own a) → H' b = some (.own a)) (ht : ∀ b u, Sty u → H b = some u → H' b = some u) : ObjOk P w H' h' a o := by
  induction o with
  | lst xs => obtain ⟨z, its, n, r, e⟩ := x; exact ⟨z, its, n, r, k _ _ (.inl rfl) e⟩
  | tup xs => obtain ⟨z, its, r, ob, e, c⟩ := x; exact ⟨z, its, r, ob, k _ _ (.inl rfl) e, c⟩
  | dK kvs => obtain ⟨z, y, vs, r, ob, es, ep, e, c⟩ := x; exact ⟨z, y, vs, r, ob, es, ep, k _ _ (.inl rfl) e, c⟩
  | dT kvs =>
    obtain ⟨z, y, xs, r, ob, es, ep, e, c⟩ := x
    exact ⟨z, y, xs, Paired.mapP r fun p q z => ⟨z.1, ht _ _ trivial z.2.1, z.2.2⟩, ob, es, ep, k _ _ (.inl rfl) e, c⟩
  | set S n => obtain ⟨ob, es, ep, t, e, c⟩ := x; exact ⟨ob, es, ep, t, k _ _ (.inl rfl) e, c⟩
  | ins C dx fs =>
    obtain ⟨d, z, ne, e, mA, ⟨od, es, ep, e2, c⟩, r⟩ := x
    exact ⟨ho _ d, z, ne, k _ _ (.inl rfl) e, mA, ⟨od, es, ep, k _ _ (.inr d) e2, c⟩, r⟩
  | own y => obtain ⟨ob, e⟩ := x; exact ⟨ob, k _ _ (.inl rfl) e⟩
  | xd fs => obtain ⟨mA, ⟨od, es, ep, e, c⟩, r⟩ := x; exact ⟨mA, ⟨od, es, ep, k _ _ (.inl rfl) e, c⟩, r⟩
  | rng lo hi => obtain ⟨t, u, v, e⟩ := x; exact ⟨t, u, v, k _ _ (.inl rfl) e⟩
  | frz ob u ih => obtain ⟨e, q⟩ := x; exact ⟨k _ _ (.inl rfl) e, ih q⟩
  | tbl ps =>
    have e : h.get? a = some { cls := .none, data := .fields ps } := x
    show h'.get? a = some { cls := .none, data := .fields ps }
    exact k a _ (.inl rfl) e
  | met f y =>
    have e : h.get? a = some (PySem.W.methodObj (.ref f) (.ref y)) := x
    show h'.get? a = some (PySem.W.methodObj (.ref f) (.ref y))
    exact k a _ (.inl rfl) e
  | ext φ => obtain ⟨p, ⟨o, e⟩, st⟩ := x; exact ⟨st _ _ p fun o q => k _ _ (.inl rfl) q, ⟨o, k _ _ (.inl rfl) e⟩, st⟩
  | cod q => obtain ⟨o, vs, t, e, r⟩ := x; exact ⟨o, vs, t, k _ _ (.inl rfl) e, r⟩
  | ctb pos q =>
    obtain ⟨ps, e, t, c⟩ := x
    refine ⟨ps, k _ _ (.inl rfl) e, t, ?_⟩
    rcases c with c | ⟨c, e1, e2⟩
    · exact .inl c
    · exact .inr ⟨c, e1, ht _ _ trivial e2⟩
theorem HOk.lt (x : HOk P w H h) (e : H a = some o) : a < h.objs.size := (x a o e).lt
theorem HOk.fresh (x : HOk P w H h) (e : h.objs.size ≤ a) : H a = none := by
  cases q : H a with
  | none => rfl
  | some u => exact absurd (Nat.lt_of_lt_of_le (x.lt q) e) (Nat.lt_irrefl _)
theorem HOk.kept (x : HOk P w H h) (k : ∀ b u, h.get? b = some u → h'.get? b = some u) : HOk P w H h' := fun a o e =>
  (x a o e).stay (fun b u _ q => k b u q) (fun _ q => q) fun _ _ _ q => q
theorem HOk.laid (x : HOk P w H h) (k : ∀ b u, h.get? b = some u → h'.get? b = some u) (hp : h.objs.size ≤ a) (new : ObjOk P w (upd H a o) h' a o) : HOk P w (upd H a o) h' := fun b u e => by
  have hn := x.fresh hp
  by_cases hb : b = a
  · subst hb; rw [upd_same] at e; cases e; exact new
  · rw [upd_ne hb] at e
    exact (x b u e).stay (fun c v _ q => k c v q) (fun c q => by rw [upd_ne (ne_of_none q hn)]; exact q) fun c xs _ q => by rw [upd_ne (ne_of_none q hn)]; exact q
end
def Rd (H : Hp) (a : Addr) (u : HO) : Prop := H a = some u ∨ ∃ o, H a = some (.frz o u)
theorem Rd.of {H : Hp} {a : Addr} {u : HO} (h : H a = some u) : Rd H a u := .inl h
theorem Rd.ok {P : Program} {w : World} {H : Hp} {h : Heap} {a : Addr} {u : HO} (r : Rd H a u) (x : HOk P w H h) : ObjOk P w H h a u := by
  rcases r with r | ⟨o, r⟩
  · exact x a u r
  · obtain ⟨_, q⟩ := x a _ r
    exact q
def Mut : Option HO → Prop
  | some (.lst _) => True
  | some (.dK _) => True
  | some (.dT _) => True
  | some (.set _ _) => True
  | some (.ins _ _ _) => True
  | some (.ext _) => True
  | _ => False
section
variable {P : Program} {w : World} {H : Hp} {h h' : Heap} {x e : Addr} {o' : HO}
theorem HOk.write (ok : HOk P w H h) (mu : Mut (H x)) (he : e = x ∨ H e = some (.own x)) (k : ∀ b u, b ≠ e → h.get? b = some u → h'.get? b = some u) (heo : ∃ u, h'.get? e = some u)
    (new : ObjOk P w (upd H x o') h' x o') : HOk P w (upd H x o') h' := fun b u q => by
  have nown : ∀ c y, H c = some (.own y) → c ≠ x := fun c y r z => by subst z; rw [r] at mu; exact mu
  have ntup : ∀ c u, Sty u → H c = some u → c ≠ x := fun c u y r z => by
    subst z
    rw [r] at mu
    cases u <;> first | exact mu | exact y
  by_cases hb : b = x
  · subst hb; rw [upd_same] at q; cases q; exact new
  · rw [upd_ne hb] at q
    by_cases hbe : b = e
    · have q' : H b = some (.own x) := by
        rcases he with z | z
        · exact absurd (hbe.trans z) hb
        · rw [hbe]; exact z
      rw [q] at q'; cases q'
      obtain ⟨v, hv⟩ := heo
      exact ⟨v, by rw [hbe]; exact hv⟩
    · refine (ok b u q).stay (fun c v hc r => k c v ?_ r) (fun c r => by rw [upd_ne (nown c b r)]; exact r) fun c xs y r => by rw [upd_ne (ntup c xs y r)]; exact r
      rcases hc with rfl | hc
      · exact hbe
      · rintro rfl
        rcases he with z | z
        · exact nown c b hc z
        · rw [hc] at z; cases z; exact hb rfl
end
structure Un (fs ex : List Addr) (H H' : Hp) (h h' : Heap) : Prop where
  keep : ∀ b o, h.get? b = some o → H b = none → b ∉ fs → b ∉ ex → h'.get? b = some o
  slot : ∀ b o, h.get? b = some o → H b = none → b ∈ fs → b ∉ ex → ∃ sl, h'.get? b = some { o with slots := sl }
  free : ∀ b o, h.get? b = some o → H b = none → b ∉ ex → H' b = none
  there : ∀ b o, h.get? b = some o → b ∉ ex → ∃ o', h'.get? b = some o'
  tups : ∀ b xs, H b = some (.tup xs) → H' b = some (.tup xs)
  frzs : ∀ b o u, H b = some (.frz o u) → H' b = some (.frz o u)
  tbls : ∀ b ps, H b = some (.tbl ps) → ∃ more, H' b = some (.tbl (ps ++ more))
section
variable {fs fs' ex ex' : List Addr} {H H1 H2 : Hp} {h h1 h2 h' : Heap} {a x e : Addr} {o : HO}
theorem Un.any (u : Un fs ex H H1 h h1) {b : Addr} {ob : Obj} (q : h.get? b = some ob) (n : H b = none) (hx : b ∉ ex) : ∃ sl, h1.get? b = some { ob with slots := sl } := by
  by_cases hb : b ∈ fs
  · exact u.slot b ob q n hb hx
  · exact ⟨ob.slots, u.keep b ob q n hb hx⟩
theorem Un.trans (a : Un fs ex H H1 h h1) (b : Un fs ex H1 H2 h1 h2) : Un fs ex H H2 h h2 where
  keep := fun c ob q n hc hx => b.keep c ob (a.keep c ob q n hc hx) (a.free c ob q n hx) hc hx
  slot := fun c ob q n hc hx => by
    obtain ⟨sl, e1⟩ := a.slot c ob q n hc hx
    obtain ⟨sl', e2⟩ := b.slot c _ e1 (a.free c ob q n hx) hc hx
    exact ⟨sl', e2⟩
  free := fun c ob q n hx => by
    obtain ⟨o', e1⟩ := a.there c ob q hx
    exact b.free c o' e1 (a.free c ob q n hx) hx
  there := fun c ob q hx => by
    obtain ⟨o', e1⟩ := a.there c ob q hx
    exact b.there c o' e1 hx
  tups := fun c xs q => b.tups c xs (a.tups c xs q)
  frzs := fun c ob xs q => b.frzs c ob xs (a.frzs c ob xs q)
  tbls := fun c ps q => by
    obtain ⟨m1, e1⟩ := a.tbls c ps q
    obtain ⟨m2, e2⟩ := b.tbls c _ e1
    exact ⟨m1 ++ m2, by rw [e2, Array.append_assoc]⟩
theorem Un.kept (k : ∀ b u, h.get? b = some u → h'.get? b = some u) : Un fs ex H H h h' :=
  ⟨fun b ob q _ _ _ => k b ob q, fun b ob q _ _ _ => ⟨ob.slots, k b ob q⟩, fun _ _ _ n _ => n, fun b ob q _ => ⟨ob, k b ob q⟩, fun _ _ q => q, fun _ _ _ q => q, fun _ ps q => ⟨#[], by rw [q]; simp⟩⟩
theorem Un.refl : Un fs ex H H h h := Un.kept fun _ _ q => q
theorem Un.laid (k : ∀ b u, h.get? b = some u → h'.get? b = some u) (hp : h.objs.size ≤ a) (hn : H a = none) : Un fs ex H (upd H a o) h h' where
  keep := fun b u q _ _ _ => k b u q
  slot := fun b u q _ _ _ => ⟨u.slots, k b u q⟩
  free := fun b u q n _ => by rw [upd_ne (Nat.ne_of_lt (Nat.lt_of_lt_of_le (Heap.lt_size q) hp))]; exact n
  there := fun b u q _ => ⟨u, k b u q⟩
  tups := fun b xs q => by rw [upd_ne (ne_of_none q hn)]; exact q
  frzs := fun b u xs q => by rw [upd_ne (ne_of_none q hn)]; exact q
  tbls := fun b ps q => ⟨#[], by rw [upd_ne (ne_of_none q hn), q]; simp⟩
theorem Un.write (mu : Mut (H x)) (he : e = x ∨ H e = some (.own x)) (k : ∀ b u, b ≠ e → h.get? b = some u → h'.get? b = some u) (heo : ∃ u, h'.get? e = some u) : Un fs ex H (upd H x o) h h' := by
  have hx : ∀ b, H b = none → b ≠ x := fun b n z => by subst z; rw [n] at mu; exact mu
  have hb : ∀ b, H b = none → b ≠ e := fun b n z => by
    subst z
    rcases he with r | r
    · exact hx b n r
    · rw [n] at r; cases r
  have hm : ∀ b u, H b = some u → ¬ Mut (some u) → b ≠ x := fun b u q nm z => by subst z; rw [q] at mu; exact nm mu
  refine ⟨fun b u q n _ _ => k b u (hb b n) q, fun b u q n _ _ => ⟨u.slots, k b u (hb b n) q⟩, fun b u q n _ => by rw [upd_ne (hx b n)]; exact n, fun b u q _ => ?_,
    fun b xs q => by rw [upd_ne (hm b _ q fun z => z)]; exact q, fun b u xs q => by rw [upd_ne (hm b _ q fun z => z)]; exact q, fun b ps q => ⟨#[], by rw [upd_ne (hm b _ q fun z => z), q]; simp⟩⟩
  by_cases hbe : b = e
  · subst hbe; exact heo
  · exact ⟨u, k b u hbe q⟩
theorem Un.mono (u : Un fs ex H H1 h h1) (hs : ∀ b ∈ fs, b ∈ fs') (hx : ∀ b ∈ ex, b ∈ ex') : Un fs' ex' H H1 h h1 :=
  ⟨fun b ob q n hb he => u.keep b ob q n (fun z => hb (hs b z)) fun z => he (hx b z), fun _ _ q n _ he => u.any q n fun z => he (hx _ z), fun b ob q n he => u.free b ob q n fun z => he (hx b z), fun b ob q he => u.there b ob q fun z => he (hx b z), u.tups, u.frzs, u.tbls⟩
end
def trk (h : Heap) (H : Hp) : List Addr := (List.range h.objs.size).filter fun a => (H a).isSome
def hidT (h : Heap) (H : Hp) : Heap := PySem.W.hideAll h (trk h H)
theorem hidT_size (h : Heap) (H : Hp) : (hidT h H).objs.size = h.objs.size := PySem.W.hideAll_size _ _
theorem hidT_get {h : Heap} {H : Hp} {b : Addr} {o : Obj} (e : h.get? b = some o) (n : H b = none) : (hidT h H).get? b = some o :=
  PySem.W.hideAll_get _ e fun hm => by
    have q : (H b).isSome = true := (List.mem_filter.mp hm).2
    rw [n] at q; simp at q
theorem of_hidT {h : Heap} {H : Hp} {b : Addr} {o : Obj} (e : (hidT h H).get? b = some o) : h.get? b = some o ∧ H b = none := by
  have e' : h.get? b = some o := PySem.W.of_hideAll (trk h H) e
  refine ⟨e', ?_⟩
  cases q : H b with
  | none => rfl
  | some x =>
    have hm : b ∈ trk h H := List.mem_filter.mpr ⟨List.mem_range.mpr (Heap.lt_size e'), by simp [q]⟩
    have z : (hidT h H).get? b = none := PySem.W.hideAll_none (trk h H) hm
    rw [z] at e; cases e
def allNews (g h : Heap) (L : Addr) : List (Addr × Obj) := (List.range h.objs.size).filterMap fun a => if a = L ∨ (g.get? a).isSome = true then none else (h.get? a).map fun o => (a, o)
def rest (g h : Heap) (L d : Addr) : List (Addr × Obj) := (allNews g h L).filter fun p => decide (p.1 ≠ d)
end L2
namespace L2
open PySem PySem.Spec PyProof.Rows
structure Mod (K : PySem.W.Frag) (mg : Str → Option Value) (base : Heap) : Prop where
  kin : K.In base
  glob : base.Ns mainGlobals mg
  blt : ∃ mb, base.Ns builtinsNs mb ∧ ∀ x : Str, x ≠ "__name__" → mb x = bootBuiltins x
  nolimit : base.NoLimit
  bm : ∃ bm o, mg "__builtins__" = some (.ref bm) ∧ bm ≠ builtinsNs ∧ base.get? bm = some o ∧ o.cls = .type "module" ∧ o.dict = some builtinsNs ∧ o.data = .plain
structure Cx where
  prog : Program
  w : World
  K : PySem.W.Frag
  mg : Str → Option Value
  base : Heap
  A : Around
  N : List Str
  s₀ : Shared
  H₀ : Hp
  env : Env
  outer : List Env
  stack : List Env
  ex : List Addr
  fn : Str → Bool
  calm : Bool
  pn : List (Addr × Obj)
  xe : Value → Shared → Prop
def frs (l : List Env) : List Addr := l.filterMap (·.frame)
abbrev Cx.fs (X : Cx) : List Addr := frs X.outer
def Vis (sc : Scope) (x : Str) : Prop := sc.names.lookup x = some .local ∨ sc.names.lookup x = some .cell ∨ sc.names.lookup x = some .free
def Loc (sc : Scope) (x : Str) : Prop := sc.names.lookup x = some .local ∨ sc.names.lookup x = some .cell
def Look (env : Env) (h : Heap) (m : Str → Option Value) (x : Str) (u : Value) : Prop :=
  (env.kindOf x = some .local ∧ m x = some u) ∨ ((env.kindOf x = some .cell ∨ env.kindOf x = some .free) ∧ ∃ c, env.cells.lookup x = some c ∧ h.IsCell c (some u))
structure Cx.Ok (X : Cx) : Prop where
  mod : Mod X.K X.mg X.base
  kind : X.env.scope.kind = .function
  glob : X.env.globals = mainGlobals
  blt : X.env.builtins = builtinsNs
  above : X.s₀.heap.objs.size ≤ X.env.locals
  inj : ∀ x y c, X.env.cells.lookup x = some c → X.env.cells.lookup y = some c → x = y
  has : ∀ x, (X.env.kindOf x = some .cell ∨ X.env.kindOf x = some .free) → ∃ c, X.env.cells.lookup x = some c
  cab : ∀ x c, X.fn x = true → X.env.cells.lookup x = some c → X.s₀.heap.objs.size ≤ c
  hd : X.calm = true → X.A.handled = none
  frames : X.A.frames = some X.stack
  stk : X.stack = X.outer ∨ (X.stack = X.env :: X.outer ∧ X.env.frame = some X.env.locals)
  exf : ∀ b ∈ X.ex, b ≠ X.env.locals ∧ ∀ x c, X.env.cells.lookup x = some c → c ≠ b
  bs : ∀ b o, X.base.get? b = some o → X.s₀.heap.get? b = some o ∧ X.H₀ b = none
  bsz : X.base.objs.size ≤ X.s₀.heap.objs.size
  noex : ∀ b o, X.base.get? b = some o → b ∉ X.ex
  exfs : ∀ b ∈ X.ex, b ∉ X.fs
  funs : X.s₀.heap.FunFrames X.base X.outer
  frf : ∀ b ∈ X.fs, X.H₀ b = none
structure Inv (X : Cx) (pins : List (Addr × Obj)) (σ : List (Option V)) (H : Hp) (s : Shared) : Prop where
  ok : X.Ok
  os : s.os = X.s₀.os
  bare : AllBare s.gens
  base : Un X.fs X.ex X.H₀ H X.s₀.heap s.heap
  loc : ∃ m, s.heap.Ns X.env.locals m ∧ ∀ (i : Nat) (x : Str) (v : V), X.N[i]? = some x → σ[i]? = some (some v) → Vis X.env.scope x → ∃ u, RelV v u ∧ Look X.env s.heap m x u
  cell : ∀ x c, X.env.cells.lookup x = some c → ∃ v, s.heap.IsCell c v
  free : H X.env.locals = none
  freeC : ∀ x c, X.env.cells.lookup x = some c → H c = none
  pin : ∀ p ∈ X.pn ++ pins, s.heap.get? p.1 = some p.2 ∧ H p.1 = none ∧ p.1 ≠ X.env.locals ∧ p.1 ∉ X.fs ∧ ∀ v, p.2.data ≠ .cell v
  hok : HOk X.prog X.w H s.heap
  len : σ.length = X.N.length
section
variable {X : Cx} {pins : List (Addr × Obj)} {σ : List (Option V)} {H H' : Hp} {s : Shared} {h' : Heap}
theorem Cx.Ok.nofr (ok : X.Ok) {b : Addr} {o : Obj} (e : X.base.get? b = some o) : b ∉ X.fs := fun hb => by
  have := (ok.funs.mem hb).1
  rw [e] at this; cases this
theorem Inv.bs (I : Inv X pins σ H s) : ∀ b o, X.base.get? b = some o → s.heap.get? b = some o ∧ H b = none := fun b o e =>
  ⟨I.base.keep b o (I.ok.bs b o e).1 (I.ok.bs b o e).2 (I.ok.nofr e) (I.ok.noex b o e), I.base.free b o (I.ok.bs b o e).1 (I.ok.bs b o e).2 (I.ok.noex b o e)⟩
theorem Inv.bk (I : Inv X pins σ H s) : ∀ b o, X.base.get? b = some o → s.heap.get? b = some o := fun b o e => (I.bs b o e).1
theorem Inv.mod (I : Inv X pins σ H s) : Mod X.K X.mg X.base := I.ok.mod
theorem Inv.kIn (I : Inv X pins σ H s) : X.K.In s.heap := I.ok.mod.kin.keeps I.bk
theorem Inv.nolimit (I : Inv X pins σ H s) : s.heap.NoLimit := I.ok.mod.nolimit.keeps I.bk
theorem Inv.lt (I : Inv X pins σ H s) : X.env.locals < s.heap.objs.size := let ⟨_, hn, _⟩ := I.loc; hn.lt
theorem Inv.sz (I : Inv X pins σ H s) : X.s₀.heap.objs.size ≤ s.heap.objs.size := Nat.le_trans I.ok.above (Nat.le_of_lt I.lt)
theorem Inv.nofs (I : Inv X pins σ H s) {a : Addr} (h : s.heap.objs.size ≤ a) : a ∉ X.fs := fun hb => by
  obtain ⟨_, o, ho, _⟩ := I.ok.funs.mem hb
  exact absurd (Nat.lt_of_lt_of_le (Heap.lt_size ho) (Nat.le_trans I.sz h)) (Nat.lt_irrefl _)
theorem Inv.cne (I : Inv X pins σ H s) : ∀ x c, X.env.cells.lookup x = some c → c ≠ X.env.locals := fun x c e z => by
  obtain ⟨v, o, ho, hd⟩ := I.cell x c e
  obtain ⟨m, ⟨o', es, ep, ho', hd', _⟩, _⟩ := I.loc
  rw [z, ho'] at ho; cases ho; rw [hd'] at hd; cases hd
theorem Inv.funs (I : Inv X pins σ H s) : s.heap.FunFrames X.base X.outer := by
  have all : ∀ (l : List Env), (∀ b ∈ frs l, b ∈ X.fs) → X.s₀.heap.FunFrames X.base l → s.heap.FunFrames X.base l := by
    intro l
    induction l with
    | nil => intro _ _; trivial
    | cons env r ih =>
      intro hs hl
      obtain ⟨hk, ⟨L, o, hf, hn, ho, hd⟩, hr⟩ := hl
      have hL : L ∈ X.fs := hs L (by unfold frs; rw [List.filterMap_cons, hf]; exact List.mem_cons_self)
      obtain ⟨sl, e⟩ := I.base.slot L o ho (I.ok.frf L hL) hL fun z => I.ok.exfs L z hL
      exact ⟨hk, ⟨L, _, hf, hn, e, hd⟩, ih (fun b hb => hs b (by unfold frs; rw [List.filterMap_cons, hf]; exact List.mem_cons_of_mem _ hb)) hr⟩
  exact all X.outer (fun _ hb => hb) I.ok.funs
theorem Inv.stack (I : Inv X pins σ H s) : s.heap.FunFrames X.base X.stack := by
  rcases I.ok.stk with e | ⟨e, hf⟩
  · rw [e]; exact I.funs
  · rw [e]
    obtain ⟨m, hn, _⟩ := I.loc
    refine .cons (by rw [I.ok.kind]; decide) hf hn ?_ I.funs
    exact Heap.get?_none_of_le (Nat.le_trans I.ok.bsz I.ok.above)
theorem Inv.stkSub (I : Inv X pins σ H s) : ∀ b ∈ frs X.stack, b ∈ X.env.locals :: X.fs := fun b hb => by
  rcases I.ok.stk with e | ⟨e, hf⟩
  · rw [e] at hb; exact List.mem_cons_of_mem _ hb
  · rw [e] at hb
    unfold frs at hb
    rw [List.filterMap_cons, hf] at hb
    exact hb
theorem Inv.stkFree (I : Inv X pins σ H s) : ∀ b ∈ frs X.stack, H b = none := fun b hb => by
  rcases List.mem_cons.mp (I.stkSub b hb) with e | hb
  · rw [e]; exact I.free
  · obtain ⟨_, o, ho, _⟩ := I.ok.funs.mem hb
    exact I.base.free b o ho (I.ok.frf b hb) fun z => I.ok.exfs b z hb
theorem Inv.step {g' : Array GenState} {t' : Nat} {d' : Drawn} {ch : List Addr} (I : Inv X pins σ H s)
    (hch : ∀ b ∈ ch, (b ∈ X.ex ∨ X.s₀.heap.objs.size ≤ b) ∧ b ≠ X.env.locals ∧ (∀ x c, X.env.cells.lookup x = some c → c ≠ b) ∧ ∀ p ∈ X.pn ++ pins, p.1 ≠ b)
    (keep : ∀ b o, b ≠ X.env.locals → b ∉ X.fs → b ∉ ch → s.heap.get? b = some o → H b = none → h'.get? b = some o)
    (slot : ∀ b o, b ≠ X.env.locals → b ∈ X.fs → b ∉ ch → s.heap.get? b = some o → H b = none → ∃ sl, h'.get? b = some { o with slots := sl }) (free : ∀ b o, b ∉ ch → s.heap.get? b = some o → H b = none → H' b = none)
    (there : ∀ b o, b ∉ ch → s.heap.get? b = some o → ∃ o', h'.get? b = some o')
    (tups : ∀ b xs, H b = some (.tup xs) → H' b = some (.tup xs)) (frzs : ∀ b o u, H b = some (.frz o u) → H' b = some (.frz o u)) (tbls : ∀ b ps, H b = some (.tbl ps) → ∃ more, H' b = some (.tbl (ps ++ more)))
    (ns : ∀ m, s.heap.Ns X.env.locals m → h'.Ns X.env.locals m) (hok : HOk X.prog X.w H' h') (hg : AllBare g') :
    Inv X pins σ H' { s with heap := h', gens := g', drawn := d', toks := t' } := by
  have neL : ∀ b o, X.s₀.heap.get? b = some o → b ≠ X.env.locals := fun b o e => Nat.ne_of_lt (Nat.lt_of_lt_of_le (Heap.lt_size e) I.ok.above)
  have neC : ∀ b o, X.s₀.heap.get? b = some o → b ∉ X.ex → b ∉ ch := fun b o e hx hb => by
    rcases (hch b hb).1 with z | z
    · exact hx z
    · exact absurd (Nat.lt_of_lt_of_le (Heap.lt_size e) z) (Nat.lt_irrefl _)
  have cellK : ∀ x c, X.env.cells.lookup x = some c → ∀ v, s.heap.IsCell c v → h'.IsCell c v := fun x c e v ⟨o, ho, hd⟩ => by
    have nch : c ∉ ch := fun z => (hch c z).2.2.1 x c e rfl
    by_cases hc : c ∈ X.fs
    · obtain ⟨sl, q⟩ := slot c o (I.cne x c e) hc nch ho (I.freeC x c e)
      exact ⟨_, q, hd⟩
    · exact ⟨o, keep c o (I.cne x c e) hc nch ho (I.freeC x c e), hd⟩
  refine ⟨I.ok, I.os, hg, ⟨fun b o e n hb hx => ?_, fun b o e n hb hx => ?_, fun b o e n hx => ?_, fun b o e hx => ?_, fun b xs e => tups b xs (I.base.tups b xs e), fun b o xs e => frzs b o xs (I.base.frzs b o xs e), fun b ps e => ?_⟩, ?_, fun x c e => ?_, ?_, fun x c e => ?_, fun p hp => ?_, hok, I.len⟩
  · exact keep b o (neL b o e) hb (neC b o e hx) (I.base.keep b o e n hb hx) (I.base.free b o e n hx)
  · obtain ⟨sl, e1⟩ := I.base.slot b o e n hb hx
    obtain ⟨sl', e2⟩ := slot b _ (neL b o e) hb (neC b o e hx) e1 (I.base.free b o e n hx)
    exact ⟨sl', e2⟩
  · obtain ⟨o', e1⟩ := I.base.there b o e hx
    exact free b o' (neC b o e hx) e1 (I.base.free b o e n hx)
  · obtain ⟨o', e1⟩ := I.base.there b o e hx
    exact there b o' (neC b o e hx) e1
  · obtain ⟨m1, e1⟩ := I.base.tbls b ps e
    obtain ⟨m2, e2⟩ := tbls b _ e1
    exact ⟨m1 ++ m2, by rw [e2, Array.append_assoc]⟩
  · obtain ⟨m, hn, hl⟩ := I.loc
    refine ⟨m, ns m hn, fun i x v e1 e2 e3 => ?_⟩
    obtain ⟨u, r, l⟩ := hl i x v e1 e2 e3
    refine ⟨u, r, ?_⟩
    rcases l with l | ⟨k, c, e, z⟩
    · exact .inl l
    · exact .inr ⟨k, c, e, cellK x c e _ z⟩
  · obtain ⟨v, z⟩ := I.cell x c e
    exact ⟨v, cellK x c e v z⟩
  · obtain ⟨m, ⟨o, _, _, ho, _⟩, _⟩ := I.loc
    exact free _ o (fun z => (hch _ z).2.1 rfl) ho I.free
  · obtain ⟨v, o, ho, hd⟩ := I.cell x c e
    exact free c o (fun z => (hch c z).2.2.1 x c e rfl) ho (I.freeC x c e)
  · obtain ⟨e, n, ne, nf, d⟩ := I.pin p hp
    have nch : p.1 ∉ ch := fun z => (hch p.1 z).2.2.2 p hp rfl
    exact ⟨keep p.1 p.2 ne nf nch e n, free p.1 p.2 nch e n, ne, nf, d⟩
theorem Inv.un {t' : Nat} (I : Inv X pins σ H s) (u : Un X.fs [] H H' s.heap h') (hok : HOk X.prog X.w H' h') : Inv X pins σ H' { s with heap := h', toks := t' } := by
  obtain ⟨m, ⟨o, es, ep, ho, r⟩, _⟩ := id I.loc
  obtain ⟨sl, hL⟩ := u.any ho I.free (by simp)
  exact I.step (g' := s.gens) (d' := s.drawn) (ch := []) (fun _ z => nomatch z) (fun b o _ hb _ e n => u.keep b o e n hb (by simp)) (fun b o _ hb _ e n => u.slot b o e n hb (by simp)) (fun b o _ e n => u.free b o e n (by simp)) (fun b o _ e => u.there b o e (by simp)) u.tups u.frzs u.tbls (fun m' hm => by
    obtain ⟨o', es', ep', ho', r'⟩ := hm
    rw [ho] at ho'; cases ho'
    exact ⟨_, es', ep', hL, r'⟩) hok I.bare
theorem Inv.call {g' : Array GenState} {t' : Nat} {d' : Drawn} {ch : List Addr} (I : Inv X pins σ H s) (u : Un (frs X.stack) ch H H' s.heap h') (hok : HOk X.prog X.w H' h') (hg : AllBare g')
    (hch : ∀ b ∈ ch, (b ∈ X.ex ∨ X.s₀.heap.objs.size ≤ b) ∧ b ≠ X.env.locals ∧ (∀ x c, X.env.cells.lookup x = some c → c ≠ b) ∧ ∀ p ∈ X.pn ++ pins, p.1 ≠ b) :
    Inv X pins σ H' { s with heap := h', gens := g', drawn := d', toks := t' } := by
  obtain ⟨m, ⟨o, es, ep, ho, r⟩, _⟩ := id I.loc
  obtain ⟨sl, hL⟩ := u.any ho I.free fun z => (hch _ z).2.1 rfl
  exact I.step (ch := ch) hch (fun b o hL hb hc e n => u.keep b o e n (fun z => (List.mem_cons.mp (I.stkSub b z)).elim hL hb) hc) (fun b o _ _ hc e n => u.any e n hc) (fun b o hc e n => u.free b o e n hc) (fun b o hc e => u.there b o e hc) u.tups u.frzs u.tbls (fun m' hm => by
    obtain ⟨o', es', ep', ho', r'⟩ := hm
    rw [ho] at ho'; cases ho'
    exact ⟨_, es', ep', hL, r'⟩) hok hg
theorem Inv.turned {t' : Nat} {it : Addr} (I : Inv X pins σ H s) (k : ∀ b o, b ≠ it → s.heap.get? b = some o → h'.get? b = some o) (hn : H it = none) (hL : it ≠ X.env.locals)
    (h1 : it ∈ X.ex ∨ X.s₀.heap.objs.size ≤ it) (h2 : ∀ x c, X.env.cells.lookup x = some c → c ≠ it) (h3 : ∀ p ∈ X.pn ++ pins, p.1 ≠ it) : Inv X pins σ H { s with heap := h', toks := t' } := by
  have nit : ∀ b u, H b = some u → b ≠ it := fun b u e z => by rw [z, hn] at e; cases e
  refine I.step (g' := s.gens) (d' := s.drawn) (ch := [it]) (fun b hb => ?_) (fun b o _ _ hc e _ => k b o (fun z => hc (by simp [z])) e) (fun b o _ _ hc e _ => ⟨o.slots, k b o (fun z => hc (by simp [z])) e⟩) (fun _ _ _ _ n => n)
    (fun b o hc e => ⟨o, k b o (fun z => hc (by simp [z])) e⟩) (fun _ _ e => e) (fun _ _ _ e => e) (fun b ps e => ⟨#[], by rw [e]; simp⟩) (fun m hm => ?_) (fun b u e => ?_) I.bare
  · have e : b = it := by simpa using hb
    subst e
    exact ⟨h1, hL, h2, h3⟩
  · obtain ⟨o, es, ep, ho, r⟩ := hm
    exact ⟨o, es, ep, k _ o (Ne.symm hL) ho, r⟩
  · refine (I.hok b u e).stay (fun c v hc q => k c v ?_ q) (fun _ q => q) fun _ _ _ q => q
    rcases hc with z | z
    · rw [z]; exact nit b u e
    · exact nit c _ z
theorem Inv.tok (I : Inv X pins σ H s) (t : Nat) : Inv X pins σ H { s with toks := t } := I.un (h' := s.heap) (t' := t) Un.refl I.hok
theorem Inv.kept {t' : Nat} (I : Inv X pins σ H s) (k : ∀ b u, s.heap.get? b = some u → h'.get? b = some u) : Inv X pins σ H { s with heap := h', toks := t' } := I.un (Un.kept k) (I.hok.kept k)
theorem Inv.laid {a : Addr} {o : HO} {t' : Nat} (I : Inv X pins σ H s) (k : ∀ b u, s.heap.get? b = some u → h'.get? b = some u) (hp : s.heap.objs.size ≤ a) (new : ObjOk X.prog X.w (upd H a o) h' a o) :
    Inv X pins σ (upd H a o) { s with heap := h', toks := t' } := I.un (Un.laid k hp (I.hok.fresh hp)) (I.hok.laid k hp new)
theorem Inv.write {x e : Addr} {o : HO} {t' : Nat} (I : Inv X pins σ H s) (mu : Mut (H x)) (he : e = x ∨ H e = some (.own x)) (k : ∀ b u, b ≠ e → s.heap.get? b = some u → h'.get? b = some u) (heo : ∃ u, h'.get? e = some u)
    (new : ObjOk X.prog X.w (upd H x o) h' x o) : Inv X pins σ (upd H x o) { s with heap := h', toks := t' } := I.un (Un.write mu he k heo) (I.hok.write mu he k heo new)
theorem Inv.weak {σ' : List (Option V)} (I : Inv X pins σ H s) (hl : σ'.length = σ.length) (w : ∀ (i : Nat) v, σ'[i]? = some (some v) → σ[i]? = some (some v)) : Inv X pins σ' H s :=
  ⟨I.ok, I.os, I.bare, I.base, let ⟨m, hn, hl'⟩ := I.loc; ⟨m, hn, fun i x v e1 e2 e3 => hl' i x v e1 (w i v e2) e3⟩, I.cell, I.free, I.freeC, I.pin, I.hok, hl.trans I.len⟩
theorem Inv.pins_of {pins' : List (Addr × Obj)} (I : Inv X pins σ H s) (h : ∀ p ∈ pins', s.heap.get? p.1 = some p.2 ∧ H p.1 = none ∧ p.1 ≠ X.env.locals ∧ p.1 ∉ X.fs ∧ ∀ v, p.2.data ≠ .cell v) : Inv X pins' σ H s :=
  ⟨I.ok, I.os, I.bare, I.base, I.loc, I.cell, I.free, I.freeC, fun p hp => (List.mem_append.mp hp).elim (fun z => I.pin p (List.mem_append_left _ z)) (h p), I.hok, I.len⟩
theorem nodup_ix {N : List Str} (hN : N.Nodup) {i j : Nat} {x : Str} (a : N[i]? = some x) (b : N[j]? = some x) : i = j := by
  obtain ⟨h1, e1⟩ := List.getElem?_eq_some_iff.mp a
  obtain ⟨h2, e2⟩ := List.getElem?_eq_some_iff.mp b
  exact (List.getElem_inj hN).mp (e1.trans e2.symm)
theorem store_ok2 {M : Model} {A : Around} {E : Value → Shared → Prop} {i : Nat} {x : Str} {v : V} {u : Value} {Q : Unit → Shared → Prop} (I : Inv X pins σ H s) (hN : X.N.Nodup) (hi : X.N[i]? = some x) (hx : Loc X.env.scope x) (r : RelV v u)
    (h : ∀ s', Inv X pins (σ.set i (some v)) H s' → (∃ a, Heap.SameBut a s.heap s'.heap ∧ (a = X.env.locals ∨ X.env.cells.lookup x = some a)) → Q () s') (hf : X.fn x = true ∨ X.env.scope.names.lookup x = some .local := by first | exact .inl rfl | exact .inr rfl | assumption) : wpAny M A (storeName X.env x u) Q E s := by
  obtain ⟨m, hn, hl⟩ := id I.loc
  have hcls : (X.env.scope.kind == .class || (X.env.scope.kind == .module && X.env.locals != X.env.globals)) = false := by rw [I.ok.kind]; rfl
  have hiσ : i < σ.length := by rw [I.len]; exact (List.getElem?_eq_some_iff.mp hi).1
  have cne := I.cne
  have tracked : ∀ {a : Addr} {h' : Heap}, (∃ o, s.heap.get? a = some o ∧ H a = none) → Heap.SameBut a s.heap h' → HOk X.prog X.w H h' := fun {a h'} ha hs b ob e => by
    obtain ⟨_, _, hfree⟩ := ha
    refine (I.hok b ob e).stay (fun c w' hc q => (hs.2 c ?_).trans q) (fun _ q => q) fun _ _ _ q => q
    rintro rfl
    rcases hc with rfl | hc
    · rw [hfree] at e; cases e
    · rw [hfree] at hc; cases hc
  rcases hx with hk | hk
  · refine wpAny_storeName_local hk hn (fun h' hn' hs => ?_) hcls
    obtain ⟨oL, _, _, hoL, _⟩ := id hn
    refine h _ ⟨I.ok, I.os, I.bare, ⟨fun b o e n hb hx => ?_, fun b o e n hb hx => ?_, I.base.free, fun b o e hx => ?_, I.base.tups, I.base.frzs, I.base.tbls⟩, ⟨_, hn', fun j y v' e1 e2 e3 => ?_⟩, fun y c e => ?_, I.free, I.freeC, fun p hp => ?_, tracked ⟨oL, hoL, I.free⟩ hs, by simpa using I.len⟩ ⟨_, hs, .inl rfl⟩
    · exact (hs.2 b (Nat.ne_of_lt (Nat.lt_of_lt_of_le (Heap.lt_size e) I.ok.above))).trans (I.base.keep b o e n hb hx)
    · obtain ⟨sl, e1⟩ := I.base.slot b o e n hb hx
      exact ⟨sl, (hs.2 b (Nat.ne_of_lt (Nat.lt_of_lt_of_le (Heap.lt_size e) I.ok.above))).trans e1⟩
    · obtain ⟨o', e1⟩ := I.base.there b o e hx
      exact ⟨o', (hs.2 b (Nat.ne_of_lt (Nat.lt_of_lt_of_le (Heap.lt_size e) I.ok.above))).trans e1⟩
    · by_cases hj : j = i
      · subst hj
        rw [hi] at e1; cases e1
        rw [List.getElem?_set_self hiσ] at e2
        cases e2
        exact ⟨u, r, .inl ⟨hk, by simp⟩⟩
      · rw [List.getElem?_set_ne (Ne.symm hj)] at e2
        obtain ⟨u', r', q⟩ := hl j y v' e1 e2 e3
        refine ⟨u', r', ?_⟩
        rcases q with ⟨k, e⟩ | ⟨k, c, e, z⟩
        · refine .inl ⟨k, ?_⟩
          have : y ≠ x := fun e => hj (nodup_ix hN e1 (e ▸ hi))
          simp [this, e]
        · exact .inr ⟨k, c, e, z.sameBut hs (cne y c e)⟩
    · obtain ⟨w', z⟩ := I.cell y c e
      exact ⟨w', z.sameBut hs (cne y c e)⟩
    · obtain ⟨e, n, ne, nf, d⟩ := I.pin p hp
      exact ⟨(hs.2 p.1 ne).trans e, n, ne, nf, d⟩
  · have hfn : X.fn x = true := by
      rcases hf with z | z
      · exact z
      · rw [z] at hk; cases hk
    obtain ⟨c, hc⟩ := I.ok.has x (.inl hk)
    obtain ⟨w', z⟩ := I.cell x c hc
    refine wpAny_storeName_cell I.ok.kind hk hc z (fun h' hc' hs => ?_)
    obtain ⟨oc, hoc, hocd⟩ := id z
    refine h { s with heap := h' } ⟨I.ok, I.os, I.bare, ⟨fun b o e n hb hx => ?_, fun b o e n hb hx => ?_, I.base.free, fun b o e hx => ?_, I.base.tups, I.base.frzs, I.base.tbls⟩, ⟨m, hn.sameBut hs (Ne.symm (cne x c hc)), fun j y v' e1 e2 e3 => ?_⟩, fun y c' e => ?_, I.free, I.freeC, fun p hp => ?_, tracked ⟨oc, hoc, I.freeC x c hc⟩ hs, by simpa using I.len⟩ ⟨c, hs, .inr hc⟩
    · exact (hs.2 b (Nat.ne_of_lt (Nat.lt_of_lt_of_le (Heap.lt_size e) (I.ok.cab x c hfn hc)))).trans (I.base.keep b o e n hb hx)
    · obtain ⟨sl, e1⟩ := I.base.slot b o e n hb hx
      exact ⟨sl, (hs.2 b (Nat.ne_of_lt (Nat.lt_of_lt_of_le (Heap.lt_size e) (I.ok.cab x c hfn hc)))).trans e1⟩
    · obtain ⟨o', e1⟩ := I.base.there b o e hx
      exact ⟨o', (hs.2 b (Nat.ne_of_lt (Nat.lt_of_lt_of_le (Heap.lt_size e) (I.ok.cab x c hfn hc)))).trans e1⟩
    · by_cases hj : j = i
      · subst hj
        rw [hi] at e1; cases e1
        rw [List.getElem?_set_self hiσ] at e2
        cases e2
        exact ⟨u, r, .inr ⟨.inl hk, c, hc, hc'⟩⟩
      · rw [List.getElem?_set_ne (Ne.symm hj)] at e2
        obtain ⟨u', r', q⟩ := hl j y v' e1 e2 e3
        refine ⟨u', r', ?_⟩
        rcases q with q | ⟨k, c', e, z'⟩
        · exact .inl q
        · refine .inr ⟨k, c', e, z'.sameBut hs ?_⟩
          rintro rfl
          exact hj (nodup_ix hN e1 (I.ok.inj _ _ _ e hc ▸ hi))
    · by_cases hcc : c' = c
      · subst hcc; exact ⟨_, hc'⟩
      · obtain ⟨w2, z2⟩ := I.cell y c' e
        exact ⟨w2, z2.sameBut hs hcc⟩
    · obtain ⟨e, n, ne, nf, d⟩ := I.pin p hp
      refine ⟨(hs.2 p.1 ?_).trans e, n, ne, nf, d⟩
      intro q
      rw [q, hoc] at e
      have q' : oc = p.2 := Option.some.inj e
      exact d w' (by rw [← q']; exact hocd)
theorem store_ok {M : Model} {A : Around} {E : Value → Shared → Prop} {i : Nat} {x : Str} {v : V} {u : Value} {Q : Unit → Shared → Prop} (I : Inv X pins σ H s) (hN : X.N.Nodup) (hi : X.N[i]? = some x) (hx : Loc X.env.scope x) (r : RelV v u)
    (h : ∀ s', Inv X pins (σ.set i (some v)) H s' → Q () s') (hf : X.fn x = true ∨ X.env.scope.names.lookup x = some .local := by first | exact .inl rfl | exact .inr rfl | assumption) : wpAny M A (storeName X.env x u) Q E s :=
  store_ok2 I hN hi hx r (fun s' I' _ => h s' I') hf
theorem Inv.call' {s' : Shared} {ch : List Addr} (I : Inv X pins σ H s) (ho : s'.os = s.os) (u : Un (frs X.stack) ch H H' s.heap s'.heap) (hok : HOk X.prog X.w H' s'.heap) (hg : AllBare s'.gens)
    (hch : ∀ b ∈ ch, (b ∈ X.ex ∨ X.s₀.heap.objs.size ≤ b) ∧ b ≠ X.env.locals ∧ (∀ x c, X.env.cells.lookup x = some c → c ≠ b) ∧ ∀ p ∈ X.pn ++ pins, p.1 ≠ b) : Inv X pins σ H' s' := by
  obtain ⟨h', g', d', t', o'⟩ := s'
  have e : o' = s.os := ho
  subst e
  exact I.call (g' := g') (t' := t') (d' := d') u hok hg hch
end
abbrev XK := Value → Option Addr → Hp → Prop
abbrev St := List (Option V)
abbrev VK := V → Hp → Prop
abbrev TE := St → Hp → VK → Prop
abbrev TT := St → Hp → (Bool → Hp → Prop) → Prop
abbrev TA := St → Hp → (List V → Hp → Prop) → Prop
structure Ends where
  nx : St → Hp → Prop
  rt : VK
  bk : St → Hp → Prop := fun _ _ => False
  ct : St → Hp → Prop := fun _ _ => False
abbrev TS := Ends → St → Hp → Prop
def EP (X : Cx) (pins : List (Addr × Obj)) (σ : St) (Q : VK) (u : Value) (s' : Shared) : Prop := ∃ v H', Inv X pins σ H' s' ∧ RelV v u ∧ Q v H'
def TP (X : Cx) (pins : List (Addr × Obj)) (σ : St) (Q : Bool → Hp → Prop) (b : Bool) (s' : Shared) : Prop := ∃ H', Inv X pins σ H' s' ∧ Q b H'
def AP (X : Cx) (pins : List (Addr × Obj)) (σ : St) (Q : List V → Hp → Prop) (us : List Value) (s' : Shared) : Prop := ∃ vs H', Inv X pins σ H' s' ∧ Vals vs us ∧ Q vs H'
def SP (X : Cx) (pins : List (Addr × Obj)) (D : Ends) (f : Flow) (s' : Shared) : Prop :=
  match f with
  | .next => ∃ σ' H', Inv X pins σ' H' s' ∧ D.nx σ' H'
  | .brk => ∃ σ' H', Inv X pins σ' H' s' ∧ D.bk σ' H'
  | .cont => ∃ σ' H', Inv X pins σ' H' s' ∧ D.ct σ' H'
  | .ret u => ∃ v σ' H', Inv X pins σ' H' s' ∧ RelV v u ∧ D.rt v H'
def PE (X : Cx) (e : Expr) (t : TE) : Prop :=
  ∀ (pins : List (Addr × Obj)) (s : Shared) (σ : St) (H : Hp) (Q : VK), Inv X pins σ H s → t σ H Q → wpAny (model X.prog X.w) X.A (eval e X.env) (EP X pins σ Q) X.xe s
def PT (X : Cx) (e : Expr) (t : TT) : Prop :=
  ∀ (pins : List (Addr × Obj)) (s : Shared) (σ : St) (H : Hp) (Q : Bool → Hp → Prop), Inv X pins σ H s → t σ H Q → wpAny (model X.prog X.w) X.A (isTrue e X.env (eval e X.env)) (TP X pins σ Q) X.xe s
def PW (X : Cx) (e : Expr) (t : TT) : Prop :=
  ∀ (whole : Sem Value) (pins : List (Addr × Obj)) (s : Shared) (σ : St) (H : Hp) (Q : Bool → Hp → Prop), Inv X pins σ H s → t σ H Q → wpAny (model X.prog X.w) X.A (isTrue e X.env whole) (TP X pins σ Q) X.xe s
theorem PW.pt {X : Cx} {e : Expr} {t : TT} (h : PW X e t) : PT X e t := h _
def PA (X : Cx) (es : List Expr) (t : TA) : Prop :=
  ∀ (pos : Pos) (pins : List (Addr × Obj)) (s : Shared) (σ : St) (H : Hp) (Q : List V → Hp → Prop), Inv X pins σ H s → t σ H Q → wpAny (model X.prog X.w) X.A (spliced (backTo pos (starEach es X.env))) (AP X pins σ Q) X.xe s
def PS (X : Cx) (st : Stmt) (t : TS) : Prop :=
  ∀ (pins : List (Addr × Obj)) (s : Shared) (σ : St) (H : Hp) (D : Ends), Inv X pins σ H s → t D σ H → wpAny (model X.prog X.w) X.A (exec st X.env) (SP X pins D) X.xe s
def PSs (X : Cx) (st : List Stmt) (t : TS) : Prop :=
  ∀ (pins : List (Addr × Obj)) (s : Shared) (σ : St) (H : Hp) (D : Ends), Inv X pins σ H s → t D σ H → wpAny (model X.prog X.w) X.A (execs st X.env) (SP X pins D) X.xe s
theorem thn {α : Type} {t : Sem α} {Q Q' : α → Shared → Prop} {M : Model} {A : Around} {E : Value → Shared → Prop} {s : Shared} (h : wpAny M A t Q E s) (hQ : ∀ a s, Q a s → Q' a s) : wpAny M A t Q' E s := wpAny_mono h hQ fun _ _ x => x
end L2
namespace L2
open PySem PySem.Spec PyProof.Rows
section
variable {X : Cx}
def tVar (i : Nat) : TE := fun σ H Q => ∃ v, σ[i]? = some (some v) ∧ Q v H
def tC (v : V) : TE := fun _ H Q => Q v H
theorem pe_var {i : Nat} {x : Str} {pos : Pos} (hN : X.N[i]? = some x) (hv : Vis X.env.scope x) (hd : (x == ("__debug__" : Str)) = false := by decide) (hcd : (x == ("__classdict__" : Str)) = false := by decide) : PE X (.Name x pos) (tVar i) := by
  intro pins s σ H Q I h
  obtain ⟨v, e, h⟩ := h
  obtain ⟨m, hn, hl⟩ := I.loc
  obtain ⟨u, r, l⟩ := hl i x v hN e hv
  have fin : EP X pins σ Q u s := ⟨v, H, I, r, h⟩
  rcases l with ⟨hk, hm⟩ | ⟨hk, c, hc, hcell⟩
  · exact wpAny_Name (wpAny_loadName_local I.ok.kind hk hn hm fin) hd
  · rcases hk with hk | hk
    · exact wpAny_Name (wpAny_loadName_cell I.ok.kind hk hc hcell fin) hd
    · exact wpAny_Name (wpAny_loadName_free I.ok.kind hk hc hcell fin hcd) hd
theorem pe_int {i j pos} : PE X (.Constant (.int i) j pos) (tC (.int i)) := fun _ _ _ H _ I h => wpAny_Constant_int ⟨.int i, H, I.tok _, ⟨_, rfl⟩, h⟩
theorem pe_bl {b j pos} : PE X (.Constant (.bool b) j pos) (tC (.bl b)) := fun _ _ _ H _ I h => Constant_bool ⟨.bl b, H, I, rfl, h⟩
theorem pe_non {j pos} : PE X (.Constant .none j pos) (tC .non) := fun _ _ _ H _ I h => Constant_none ⟨.non, H, I, rfl, h⟩
def Gl (X : Cx) (x : Str) : Prop := X.env.kindOf x = some .globalImplicit
theorem ld_glob {E : Value → Shared → Prop} {pins : List (Addr × Obj)} {s : Shared} {σ : St} {H : Hp} {x : Str} {u : Value} {pos : Pos} {Q : Value → Shared → Prop} (I : Inv X pins σ H s) (hg : Gl X x) (hm : X.mg x = some u) (h : Q u s)
    (hd : (x == ("__debug__" : Str)) = false := by decide) : wpAny (model X.prog X.w) X.A (eval (.Name x pos) X.env) Q E s :=
  Calls.Name_function_global I.ok.kind hg (Calls.loadGlobal_global (by rw [I.ok.glob]; exact I.mod.glob.keeps I.bk) hm h) hd
theorem ld_blt {E : Value → Shared → Prop} {pins : List (Addr × Obj)} {s : Shared} {σ : St} {H : Hp} {x : Str} {u : Value} {pos : Pos} {Q : Value → Shared → Prop} (I : Inv X pins σ H s) (hg : Gl X x) (hm : X.mg x = none) (hv : bootBuiltins x = some u) (h : Q u s)
    (hn : x ≠ "__name__" := by decide) (hd : (x == ("__debug__" : Str)) = false := by decide) : wpAny (model X.prog X.w) X.A (eval (.Name x pos) X.env) Q E s := by
  obtain ⟨mb, h1, h2⟩ := I.mod.blt
  exact Calls.Name_function_global I.ok.kind hg (Calls.loadGlobal_builtin (by rw [I.ok.glob]; exact I.mod.glob.keeps I.bk) hm (by rw [I.ok.blt]; exact h1.keeps I.bk) ((h2 x hn).trans hv) h) hd
theorem pe_glob {x : Str} {v : V} {u : Value} {pos : Pos} (hg : Gl X x) (hm : X.mg x = some u) (r : RelV v u) (hd : (x == ("__debug__" : Str)) = false := by decide) : PE X (.Name x pos) (tC v) :=
  fun _ _ _ H _ I h => ld_glob I hg hm ⟨v, H, I, r, h⟩ hd
theorem pe_bltn {x : Str} {v : V} {u : Value} {pos : Pos} (hg : Gl X x) (hm : X.mg x = none) (hv : bootBuiltins x = some u) (r : RelV v u) (hn : x ≠ "__name__" := by decide) (hd : (x == ("__debug__" : Str)) = false := by decide) : PE X (.Name x pos) (tC v) :=
  fun _ _ _ H _ I h => ld_blt I hg hm hv ⟨v, H, I, r, h⟩ hn hd
variable {a b : Expr} {ta tb : TE} {pos : Pos}
def tB (t : TE) : TT := fun σ H Q => t σ H fun x H1 => ∃ c, x = .bl c ∧ Q c H1
theorem pt_val {e : Expr} {t : TE} (h : PE X e t) (he : ∀ whole, isTrue e X.env whole = (do let v ← whole; standAt e.pos; holding [v] (truthy v)) := by intro _; rfl) : PT X e (tB t) := by
  intro pins s σ H Q I hw
  refine isTrue_plain (thn (h pins s σ H _ I hw) fun v s1 ⟨x, H1, I1, r1, q1⟩ => ?_) (he _)
  obtain ⟨d, rfl, q⟩ := q1
  cases r1
  exact wpAny_truthy_bool ⟨H1, I1, q⟩
variable {tA tB' : TT} {rest : List Expr}
def tAnd (t u : TT) : TT := fun σ H Q => t σ H fun c H1 => if c = true then u σ H1 Q else Q false H1
def tOr (t u : TT) : TT := fun σ H Q => t σ H fun c H1 => if c = true then Q true H1 else u σ H1 Q
def tNot (t : TT) : TT := fun σ H Q => t σ H fun c H1 => Q (!c) H1
theorem pw_and1 (ha : PT X a tA) : PW X (.BoolOp .And [a] pos) tA := by
  intro wh pins s σ H Q I h
  refine isTrue_and (thn (ha pins s σ H Q I h) fun c s1 e => ?_)
  cases c with
  | true => exact isTrue_and_nil e
  | false => exact e
theorem pw_or1 (ha : PT X a tA) : PW X (.BoolOp .Or [a] pos) tA := by
  intro wh pins s σ H Q I h
  refine isTrue_or (thn (ha pins s σ H Q I h) fun c s1 e => ?_)
  cases c with
  | false => exact isTrue_or_nil e
  | true => exact e
theorem pw_and (ha : PT X a tA) (hb : PW X (.BoolOp .And (b :: rest) pos) tB') : PW X (.BoolOp .And (a :: b :: rest) pos) (tAnd tA tB') := by
  intro wh pins s σ H Q I h
  refine isTrue_and (thn (ha pins s σ H _ I h) fun c s1 ⟨H1, I1, q1⟩ => ?_)
  cases c with
  | true => exact hb wh pins s1 σ H1 Q I1 q1
  | false => exact ⟨H1, I1, q1⟩
theorem pw_or (ha : PT X a tA) (hb : PW X (.BoolOp .Or (b :: rest) pos) tB') : PW X (.BoolOp .Or (a :: b :: rest) pos) (tOr tA tB') := by
  intro wh pins s σ H Q I h
  refine isTrue_or (thn (ha pins s σ H _ I h) fun c s1 ⟨H1, I1, q1⟩ => ?_)
  cases c with
  | true => exact ⟨H1, I1, q1⟩
  | false => exact hb wh pins s1 σ H1 Q I1 q1
theorem pt_not (ha : PT X a tA) : PT X (.UnaryOp .Not a pos) (tNot tA) := by
  intro pins s σ H Q I h
  exact isTrue_not (ha pins s σ H (fun c H1 => Q (!c) H1) I h)
def tAndV (ta tb : TE) : TE := fun σ H Q => ta σ H fun x H1 => ∃ c, x = .bl c ∧ if c = true then tb σ H1 Q else Q (.bl false) H1
def tOrV (ta tb : TE) : TE := fun σ H Q => ta σ H fun x H1 => ∃ c, x = .bl c ∧ if c = true then Q (.bl true) H1 else tb σ H1 Q
def tNotV (ta : TE) : TE := fun σ H Q => ta σ H fun x H1 => ∃ c, x = .bl c ∧ Q (.bl (!c)) H1
theorem pe_one {op} {t : TE} (h : PE X a t) : PE X (.BoolOp op [a] pos) t := fun pins s σ H Q I hw => BoolOp_one (h pins s σ H Q I hw)
theorem pe_and (ha : PE X a ta) (hb : PE X (.BoolOp .And (b :: rest) pos) tb) : PE X (.BoolOp .And (a :: b :: rest) pos) (tAndV ta tb) := by
  intro pins s σ H Q I h
  refine BoolOp_and (thn (ha pins s σ H _ I h) fun v s1 ⟨x, H1, I1, r1, q1⟩ => ?_)
  obtain ⟨c, rfl, q1⟩ := q1
  cases r1
  refine wpAny_truthy_bool ?_
  cases c with
  | true => exact hb pins s1 σ H1 Q I1 q1
  | false => exact ⟨.bl false, H1, I1, rfl, q1⟩
theorem pe_or (ha : PE X a ta) (hb : PE X (.BoolOp .Or (b :: rest) pos) tb) : PE X (.BoolOp .Or (a :: b :: rest) pos) (tOrV ta tb) := by
  intro pins s σ H Q I h
  refine BoolOp_or (thn (ha pins s σ H _ I h) fun v s1 ⟨x, H1, I1, r1, q1⟩ => ?_)
  obtain ⟨c, rfl, q1⟩ := q1
  cases r1
  refine wpAny_truthy_bool ?_
  cases c with
  | false => exact hb pins s1 σ H1 Q I1 q1
  | true => exact ⟨.bl true, H1, I1, rfl, q1⟩
theorem pe_not (ha : PE X a ta) : PE X (.UnaryOp .Not a pos) (tNotV ta) := by
  intro pins s σ H Q I h
  refine UnaryOp_ (thn (ha pins s σ H _ I h) fun v s1 ⟨x, H1, I1, r1, q1⟩ => ?_)
  obtain ⟨c, rfl, q1⟩ := q1
  cases r1
  exact not_of (wpAny_truthy_bool ⟨.bl (!c), H1, I1, rfl, q1⟩)
def tIf (t : TT) (ta tb : TE) : TE := fun σ H Q => t σ H fun c H1 => if c = true then ta σ H1 Q else tb σ H1 Q
end
end L2
namespace L2
open PySem PySem.Spec PyProof.Rows
def SqL (K : PySem.W.Frag) (H : Hp) (a : Addr) (xs : List V) : Prop :=
  Rd H a (.lst xs) ∨
    ∃ (o : Obj) (its : Array Value) (n : Nat), K.lookup a = some o ∧ o.cls = .type "list" ∧ o.dict = none ∧ o.data = .seq its n ∧ its.size ≤ sizeLine ∧ Vals xs its.toList
def SqT (K : PySem.W.Frag) (H : Hp) (a : Addr) (xs : List V) : Prop :=
  Rd H a (.tup xs) ∨
    ∃ (o : Obj) (its : Array Value) (n : Nat), K.lookup a = some o ∧ o.cls = .type "tuple" ∧ o.data = .seq its n ∧ its.size ≤ sizeLine ∧ Vals xs its.toList
def absV : Value → Option V
  | .none => some .non
  | .bool b => some (.bl b)
  | .int i _ => some (.int i)
  | .str x _ => some (.str x)
  | .bytes b _ => some (.byt b)
  | .float b _ => some (.flt b)
  | .ref a => some (.ref a)
  | .type n => some (.ty n)
  | _ => none
theorem RelV.abs {x : V} {u : Value} (r : RelV x u) : absV u = some x := by
  cases x with
  | non => cases r; rfl
  | bl _ => cases r; rfl
  | int _ => obtain ⟨t, rfl⟩ := r; rfl
  | str _ => obtain ⟨t, rfl⟩ := r; rfl
  | byt _ => obtain ⟨t, rfl⟩ := r; rfl
  | flt _ => obtain ⟨t, rfl⟩ := r; rfl
  | ref _ => cases r; rfl
  | ty _ => cases r; rfl
theorem RelV.inj {x y : V} {u : Value} (r : RelV x u) (q : RelV y u) : x = y := Option.some.inj (r.abs.symm.trans q.abs)
theorem Vals.inj : ∀ {xs ys : List V} {us : List Value}, Vals xs us → Vals ys us → xs = ys
  | _, _, _, .nil, .nil => rfl
  | _, _, _, .cons r t, .cons r' t' => by rw [r.inj r', Vals.inj t t']
section
variable {X : Cx} {pins : List (Addr × Obj)} {σ : St} {H : Hp} {s : Shared} {a : Addr} {xs ys : List V}
theorem SqL.of {K : PySem.W.Frag} (h : H a = some (.lst xs)) : SqL K H a xs := .inl (.inl h)
theorem SqT.of {K : PySem.W.Frag} (h : H a = some (.tup xs)) : SqT K H a xs := .inl (.inl h)
theorem Inv.list (I : Inv X pins σ H s) (h : SqL X.K H a xs) : ∃ its : List Value, Vals xs its ∧ PlainL s.heap a its.toArray ∧ xs.length ≤ sizeLine := by
  rcases h with h | ⟨o, its, n, hk, hc, hd, hs, hz, r⟩
  · obtain ⟨z, its, n, r, e⟩ := h.ok I.hok
    exact ⟨its, r, ⟨_, n, e, rfl, rfl, rfl⟩, z⟩
  · refine ⟨its.toList, r, ⟨o, n, I.kIn a o hk, hc, hd, by simpa using hs⟩, ?_⟩
    have e := r.length
    simp only [Array.length_toList] at e
    omega
theorem Inv.tuple (I : Inv X pins σ H s) (h : SqT X.K H a xs) : ∃ its : List Value, Vals xs its ∧ IsTup s.heap a its.toArray ∧ xs.length ≤ sizeLine := by
  rcases h with h | ⟨o, its, n, hk, hc, hs, hz, r⟩
  · obtain ⟨z, its, r, p⟩ := h.ok I.hok
    exact ⟨its, r, p, z⟩
  · refine ⟨its.toList, r, ⟨o, I.kIn a o hk, hc, n, by simpa using hs⟩, ?_⟩
    have e := r.length
    simp only [Array.length_toList] at e
    omega
theorem Inv.list_inj (I : Inv X pins σ H s) (h : SqL X.K H a xs) (h' : SqL X.K H a ys) : xs = ys := by
  obtain ⟨its, r, ⟨o, n, e, _, _, d⟩, _⟩ := I.list h
  obtain ⟨its', r', ⟨o', n', e', _, _, d'⟩, _⟩ := I.list h'
  rw [e] at e'; cases e'
  rw [d] at d'
  injection d' with d1 _
  have : its = its' := by simpa using congrArg Array.toList d1
  subst this
  exact r.inj r'
theorem Inv.tuple_inj (I : Inv X pins σ H s) (h : SqT X.K H a xs) (h' : SqT X.K H a ys) : xs = ys := by
  obtain ⟨its, r, ⟨o, e, _, n, d⟩, _⟩ := I.tuple h
  obtain ⟨its', r', ⟨o', e', _, n', d'⟩, _⟩ := I.tuple h'
  rw [e] at e'; cases e'
  rw [d] at d'
  injection d' with d1 _
  have : its = its' := by simpa using congrArg Array.toList d1
  subst this
  exact r.inj r'
end
abbrev Cx.wish (X : Cx) (E : Value → Shared → Prop) : Cx := { X with xe := E }
abbrev Cx.nox (X : Cx) : Cx := X.wish fun _ _ => False
theorem Cx.Ok.wish {X : Cx} (ok : X.Ok) (E : Value → Shared → Prop) : (X.wish E).Ok :=
  ⟨ok.mod, ok.kind, ok.glob, ok.blt, ok.above, ok.inj, ok.has, ok.cab, ok.hd, ok.frames, ok.stk, ok.exf, ok.bs, ok.bsz, ok.noex, ok.exfs, ok.funs, ok.frf⟩
theorem Cx.Ok.unwish {X : Cx} {E : Value → Shared → Prop} (ok : (X.wish E).Ok) : X.Ok :=
  ⟨ok.mod, ok.kind, ok.glob, ok.blt, ok.above, ok.inj, ok.has, ok.cab, ok.hd, ok.frames, ok.stk, ok.exf, ok.bs, ok.bsz, ok.noex, ok.exfs, ok.funs, ok.frf⟩
section
variable {X : Cx} {pins : List (Addr × Obj)} {σ : St} {H : Hp} {s : Shared} {E : Value → Shared → Prop}
theorem Inv.wish (I : Inv X pins σ H s) (E : Value → Shared → Prop) : Inv (X.wish E) pins σ H s := ⟨I.ok.wish E, I.os, I.bare, I.base, I.loc, I.cell, I.free, I.freeC, I.pin, I.hok, I.len⟩
theorem Inv.unwish (I : Inv (X.wish E) pins σ H s) : Inv X pins σ H s := ⟨I.ok.unwish, I.os, I.bare, I.base, I.loc, I.cell, I.free, I.freeC, I.pin, I.hok, I.len⟩
theorem SP.unwish {D : Ends} {f : Flow} {s' : Shared} (h : SP (X.wish E) pins D f s') : SP X pins D f s' := by
  cases f with
  | next => obtain ⟨σ', H', I, q⟩ := h; exact ⟨σ', H', I.unwish, q⟩
  | brk => obtain ⟨σ', H', I, q⟩ := h; exact ⟨σ', H', I.unwish, q⟩
  | cont => obtain ⟨σ', H', I, q⟩ := h; exact ⟨σ', H', I.unwish, q⟩
  | ret u => obtain ⟨v, σ', H', I, r, q⟩ := h; exact ⟨v, σ', H', I.unwish, r, q⟩
theorem PE.nox {e : Expr} {t : TE} (h : PE X.nox e t) : PE X e t := fun pins s σ H Q I hw =>
  wpAny_mono (h pins s σ H Q (I.wish _) hw) (fun _ _ ⟨v, H', I', r, q⟩ => ⟨v, H', I'.unwish, r, q⟩) fun _ _ z => False.elim z
theorem PT.nox {e : Expr} {t : TT} (h : PT X.nox e t) : PT X e t := fun pins s σ H Q I hw =>
  wpAny_mono (h pins s σ H Q (I.wish _) hw) (fun _ _ ⟨H', I', q⟩ => ⟨H', I'.unwish, q⟩) fun _ _ z => False.elim z
theorem PSs.nox {st : List Stmt} {t : TS} (h : PSs X.nox st t) : PSs X st t := fun pins s σ H D I hw =>
  wpAny_mono (h pins s σ H D (I.wish _) hw) (fun _ _ q => q.unwish) fun _ _ z => False.elim z
end
section
variable {X : Cx} {st : Stmt} {rest : List Stmt} {t u : TS} {e : Expr} {te : TE} {pos : Pos}
def tNext : TS := fun D σ H => D.nx σ H
def tSeq (t u : TS) : TS := fun D σ H => t { D with nx := u D } σ H
theorem pss_nil : PSs X [] tNext := fun _ _ σ H _ I h => wpAny_execs_nil ⟨σ, H, I, h⟩
theorem pss_cons (h1 : PS X st t) (h2 : PSs X rest u) : PSs X (st :: rest) (tSeq t u) := by
  intro pins s σ H D I h
  refine wpAny_execs_cons (thn (h1 pins s σ H { D with nx := u D } I h) fun f s1 q => ?_)
  cases f with
  | next =>
    obtain ⟨σ', H', I', q⟩ := q
    exact h2 pins s1 σ' H' D I' q
  | ret v => exact q
  | brk => exact q
  | cont => exact q
theorem pss_one (h1 : PS X st t) : PSs X [st] t := by
  intro pins s σ H D I h
  refine wpAny_execs_cons (thn (h1 pins s σ H D I h) fun f s1 q => ?_)
  cases f with
  | next => exact wpAny_execs_nil q
  | ret v => exact q
  | brk => exact q
  | cont => exact q
def tBreak : TS := fun D σ H => D.bk σ H
def tCont : TS := fun D σ H => D.ct σ H
theorem Inv.quiet {pins : List (Addr × Obj)} {σ : St} {H : Hp} {s : Shared} (I : Inv X pins σ H s) : interactive X.env = false := by simp [interactive, I.ok.kind]
def tDrop (te : TE) : TS := fun D σ H => te σ H fun _ H1 => D.nx σ H1
theorem ps_expr (he : PE X e te) (hs : swapsWith e none pos.line X.env = pure false := by rfl) : PS X (.Expr e pos) (tDrop te) := by
  intro pins s σ H D I h
  exact wpAny_Expr_any (thn (he pins s σ H _ I h) fun v s1 ⟨x, H1, I1, r1, q1⟩ => ⟨σ, H1, I1, q1⟩) I.quiet hs
def tRet (te : TE) : TS := fun D σ H => te σ H D.rt
theorem ps_ret (he : PE X e te) : PS X (.Return (some e) pos) (tRet te) := by
  intro pins s σ H D I h
  exact wpAny_Return_some (thn (he pins s σ H _ I h) fun v s1 ⟨x, H1, I1, r1, q1⟩ => ⟨x, σ, H1, I1, r1, q1⟩)
def tRetN : TS := fun D _ H => D.rt .non H
def tIfS (c : TT) (t u : TS) : TS := fun D σ H => c σ H fun b H1 => if b = true then t D σ H1 else u D σ H1
theorem ps_if {c : Expr} {a b : List Stmt} {tc : TT} (hc : PT X c tc) (ha : PSs X a t) (hb : PSs X b u) : PS X (.If c a b pos) (tIfS tc t u) := by
  intro pins s σ H D I h
  refine wpAny_If (thn (hc pins s σ H _ I h) fun d s1 ⟨H1, I1, q1⟩ => ?_)
  cases d with
  | true => exact ha pins s1 σ H1 D I1 q1
  | false => exact hb pins s1 σ H1 D I1 q1
def tNever : TS := fun _ _ _ => False
theorem ps_never : PS X st tNever := fun _ _ _ _ _ _ h => h.elim
end
abbrev TG := V → St → Hp → (St → Hp → Prop) → Prop
abbrev TGs := List V → St → Hp → (St → Hp → Prop) → Prop
def PG (X : Cx) (target : Expr) (t : TG) : Prop :=
  ∀ (pins : List (Addr × Obj)) (s : Shared) (σ : St) (H : Hp) (v : V) (u : Value) (Q : St → Hp → Prop), Inv X pins σ H s → RelV v u → t v σ H Q →
    wpAny (model X.prog X.w) X.A (assign target X.env u) (fun _ s' => ∃ σ' H', Inv X pins σ' H' s' ∧ Q σ' H') X.xe s
def PGs (X : Cx) (ts : List Expr) (t : TGs) : Prop :=
  ∀ (pins : List (Addr × Obj)) (s : Shared) (σ : St) (H : Hp) (vs : List V) (us : List Value) (Q : St → Hp → Prop), Inv X pins σ H s → Vals vs us → t vs σ H Q →
    wpAny (model X.prog X.w) X.A (assignInOrder ((assignEach ts X.env).map (·.2)) us) (fun _ s' => ∃ σ' H', Inv X pins σ' H' s' ∧ Q σ' H') X.xe s
abbrev TSet := V → V → V → Hp → (Hp → Prop) → Prop
def PSet (X : Cx) (t : TSet) : Prop :=
  ∀ (pins : List (Addr × Obj)) (s : Shared) (σ : St) (H : Hp) (o i v : V) (ov iv u : Value) (Q : Hp → Prop), Inv X pins σ H s → RelV o ov → RelV i iv → RelV v u → t o i v H Q →
    wpAny (model X.prog X.w) X.A (setItem ov iv u) (fun _ s' => ∃ H', Inv X pins σ H' s' ∧ Q H') X.xe s
abbrev TIp := V → V → Hp → VK → Prop
def PIp (X : Cx) (op : Operator) (t : TIp) : Prop :=
  ∀ (pins : List (Addr × Obj)) (s : Shared) (σ : St) (H : Hp) (x y : V) (v u : Value) (Q : VK), Inv X pins σ H s → RelV x v → RelV y u → t x y H Q →
    wpAny (model X.prog X.w) X.A (inplaceOp op v u) (EP X pins σ Q) X.xe s
section
variable {X : Cx} {pos : Pos}
def gName (i : Nat) : TG := fun v σ H Q => Q (σ.set i (some v)) H
theorem pg_name {i : Nat} {x : Str} (hN : X.N.Nodup) (hi : X.N[i]? = some x) (hx : Loc X.env.scope x) (hf : X.fn x = true ∨ X.env.scope.names.lookup x = some .local := by first | exact .inl rfl | exact .inr rfl | assumption) : PG X (.Name x pos) (gName i) := by
  intro pins s σ H v u Q I r h
  exact wpAny_assign_Name (store_ok I hN hi hx r (fun s' I' => ⟨_, H, I', h⟩) hf)
def gNil : TGs := fun vs σ H Q => vs = [] ∧ Q σ H
def gCons (t : TG) (u : TGs) : TGs := fun vs σ H Q => ∃ v r, vs = v :: r ∧ t v σ H fun σ' H' => u r σ' H' Q
theorem pgs_nil : PGs X [] gNil := by
  intro pins s σ H vs us Q I r h
  obtain ⟨e, h⟩ := h
  subst e
  cases r
  exact assignInOrder_nil ⟨σ, H, I, h⟩
theorem pgs_cons {e : Expr} {es : List Expr} {t : TG} {u : TGs} (h1 : PG X e t) (h2 : PGs X es u)
    (hs : (assignEach (e :: es) X.env).map (·.2) = assign e X.env :: (assignEach es X.env).map (·.2) := by rfl) : PGs X (e :: es) (gCons t u) := by
  intro pins s σ H vs us Q I r h
  obtain ⟨v, vr, e1, h⟩ := h
  subst e1
  cases r with
  | cons r rr =>
    rw [hs]
    refine assignInOrder_cons (thn (h1 pins s σ H _ _ _ I r h) fun _ s1 ⟨σ1, H1, I1, q1⟩ => ?_)
    exact h2 pins s1 σ1 H1 _ _ Q I1 rr q1
def gTup (K : PySem.W.Frag) (n : Nat) (t : TGs) : TG := fun v σ H Q => ∃ a xs, v = .ref a ∧ SqT K H a xs ∧ xs.length = n ∧ t xs σ H Q
theorem pg_tup {es : List Expr} {k : Nat} {t : TGs} {n : Nat} (hc : X.calm = true) (h : PGs X es t)
    (hn : (assignEach es X.env).length = n := by rfl) (hst : (assignEach es X.env).findIdx? (·.1) = none := by rfl) : PG X (.Tuple es k pos) (gTup X.K n t) := by
  intro pins s σ H v u Q I r hw
  obtain ⟨a, xs, e1, hq, hl, hw⟩ := hw
  subst e1
  cases r
  obtain ⟨its, rv, ht, hz⟩ := I.tuple hq
  refine assign_Tuple_tuple (I.ok.hd hc) ht (by simp [hn, ← hl, rv.length]) hst fun h' hx => ?_
  have I1 : Inv X pins σ H { s with heap := h' } := I.kept (t' := s.toks) fun b o e => hx b o (Nat.ne_of_lt (Heap.lt_size e)) e
  exact h pins _ σ H xs _ Q I1 (by simpa using rv) hw
def gSub (to ti : TE) (t : TSet) : TG := fun v σ H Q => to σ H fun o H1 => ti σ H1 fun i H2 => t o i v H2 fun H3 => Q σ H3
theorem pg_sub {o i : Expr} {to ti : TE} {t : TSet} (ho : PE X o to) (hi : PE X i ti) (hs : PSet X t)
    (ha : ∀ v, assign (.Subscript o i pos) X.env v = (do
      let ov ← holding [v] (eval o X.env)
      let iv ← holding [v, ov] (eval i X.env)
      standAt pos
      holding [v, ov, iv] (setItem ov iv v)
      release [v, ov, iv] []) := by intro _; rfl) : PG X (.Subscript o i pos) (gSub to ti t) := by
  intro pins s σ H v u Q I r h
  rw [ha]
  refine wpAny_bind (wpAny_holding (thn (ho pins s σ H _ I h) fun ov s1 ⟨x, H1, I1, r1, q1⟩ => ?_))
  refine wpAny_bind (wpAny_holding (thn (hi pins s1 σ H1 _ I1 q1) fun iv s2 ⟨y, H2, I2, r2, q2⟩ => ?_))
  refine wpAny_bind (wpAny_standAt (wpAny_bind (wpAny_holding (thn (hs pins s2 σ H2 x y v ov iv u _ I2 r1 r2 r q2) fun _ s3 ⟨H3, I3, q3⟩ => ?_))))
  exact wpAny_release ⟨σ, H3, I3, q3⟩
def tAsg (te : TE) (g : TG) : TS := fun D σ H => te σ H fun x H1 => g x σ H1 D.nx
theorem ps_asg {tg e : Expr} {te : TE} {g : TG} (he : PE X e te) (hg : PG X tg g) (hs : swapsWithSole [tg] e pos.line X.env = pure false := by rfl) (hw : swappedStores [tg] e X.env = pure none := by rfl)
    (h1 : (assignEach [tg] X.env).map (·.2) = [assign tg X.env] := by rfl) : PS X (.Assign [tg] e pos) (tAsg te g) := by
  intro pins s σ H D I h
  refine wpAny_Assign_stores (thn (he pins s σ H _ I h) fun v s1 ⟨x, H1, I1, r1, q1⟩ => ?_) hs hw
  rw [h1]
  exact thn (hg pins s1 σ H1 x v _ I1 r1 q1) fun _ s2 q => q
theorem ps_set {i : Nat} {x : Str} {e : Expr} {te : TE} {pos' : Pos} (hN : X.N.Nodup) (hi : X.N[i]? = some x) (hx : Loc X.env.scope x) (he : PE X e te) (hs : swapsWith e (some (.Name x pos')) pos.line X.env = pure false := by rfl) (hf : X.fn x = true ∨ X.env.scope.names.lookup x = some .local := by first | exact .inl rfl | exact .inr rfl | assumption) :
    PS X (.Assign [.Name x pos'] e pos) (tAsg te (gName i)) := by
  intro pins s σ H D I h
  refine wpAny_Assign_Name (thn (he pins s σ H _ I h) fun v s1 ⟨y, H1, I1, r1, q1⟩ => ?_) hs
  exact store_ok I1 hN hi hx r1 (fun s2 I2 => ⟨_, H1, I2, q1⟩) hf
def tPar (i j : Nat) (ta : TA) : TS := fun D σ H => ta σ H fun vs H1 => ∃ v w, vs = [v, w] ∧ D.nx ((σ.set i (some v)).set j (some w)) H1
def tAug (i : Nat) (te : TE) (ti : TIp) : TS := fun D σ H => ∃ x, σ[i]? = some (some x) ∧ te σ H fun y H1 => ti x y H1 fun z H2 => D.nx (σ.set i (some z)) H2
theorem ps_aug {i : Nat} {x : Str} {e : Expr} {te : TE} {op : Operator} {ti : TIp} {pos' : Pos} (hN : X.N.Nodup) (hi : X.N[i]? = some x) (hx : Loc X.env.scope x) (he : PE X e te) (ho : PIp X op ti) (hf : X.fn x = true ∨ X.env.scope.names.lookup x = some .local := by first | exact .inl rfl | exact .inr rfl | assumption) :
    PS X (.AugAssign (.Name x pos') op e pos) (tAug i te ti) := by
  intro pins s σ H D I h
  obtain ⟨v, e1, h⟩ := h
  obtain ⟨m, hn, hl⟩ := I.loc
  have vis : Vis X.env.scope x := by rcases hx with k | k; exact .inl k; exact .inr (.inl k)
  obtain ⟨u, r, l⟩ := hl i x v hi e1 vis
  refine wpAny_AugAssign_Name ?_
  have go : wpAny (model X.prog X.w) X.A (eval e X.env) (fun w s₂ => wpAny (model X.prog X.w) X.A (inplaceOp op u w) (fun r s₃ => wpAny (model X.prog X.w) X.A (storeName X.env x r) (fun _ => SP X pins D .next) X.xe s₃) X.xe s₂) X.xe s := by
    refine thn (he pins s σ H _ I h) fun w s1 ⟨y, H1, I1, r1, q1⟩ => ?_
    refine thn (ho pins s1 σ H1 v y u w _ I1 r r1 q1) fun z s2 ⟨zv, H2, I2, r2, q2⟩ => ?_
    exact store_ok I2 hN hi hx r2 (fun s3 I3 => ⟨_, H2, I3, q2⟩) hf
  rcases l with ⟨hk, hm⟩ | ⟨hk, c, hc, hcell⟩
  · exact wpAny_loadName_local I.ok.kind hk hn hm go
  · rcases hk with hk | hk
    · exact wpAny_loadName_cell I.ok.kind hk hc hcell go
    · rcases hx with k | k
      · have : X.env.scope.names.lookup x = some .free := hk
        rw [k] at this; cases this
      · have : X.env.scope.names.lookup x = some .free := hk
        rw [k] at this; cases this
def tAugS (to ti te : TE) (tget : V → V → Hp → VK → Prop) (tip : TIp) (tset : TSet) : TS := fun D σ H => to σ H fun o H1 => ti σ H1 fun i H2 => tget o i H2 fun x H3 => te σ H3 fun y H4 => tip x y H4 fun z H5 => tset o i z H5 fun H6 => D.nx σ H6
def PGet (X : Cx) (t : V → V → Hp → VK → Prop) : Prop :=
  ∀ (pins : List (Addr × Obj)) (s : Shared) (σ : St) (H : Hp) (o i : V) (ov iv : Value) (Q : VK), Inv X pins σ H s → RelV o ov → RelV i iv → t o i H Q →
    wpAny (model X.prog X.w) X.A (getItem ov iv) (EP X pins σ Q) X.xe s
theorem ps_augS {o i e : Expr} {to ti te : TE} {tget : V → V → Hp → VK → Prop} {tip : TIp} {tset : TSet} {op : Operator} {tpos : Pos} (ho : PE X o to) (hi : PE X i ti) (hg : PGet X tget) (he : PE X e te) (hp : PIp X op tip) (hs : PSet X tset)
    (ha : ∀ ov iv new, augStore i ov iv new = (do holding [new, ov, iv] (setItem ov iv new); release [new, ov, iv] []; pure .next) := by intros; rfl) : PS X (.AugAssign (.Subscript o i tpos) op e pos) (tAugS to ti te tget tip tset) := by
  intro pins s σ H D I h
  refine wpAny_AugAssign_SubscriptAny (thn (ho pins s σ H _ I h) fun ov s1 ⟨x1, H1, I1, r1, q1⟩ => ?_) ha
  refine thn (hi pins s1 σ H1 _ I1 q1) fun iv s2 ⟨x2, H2, I2, r2, q2⟩ => ?_
  refine thn (hg pins s2 σ H2 x1 x2 ov iv _ I2 r1 r2 q2) fun old s3 ⟨x3, H3, I3, r3, q3⟩ => ?_
  refine thn (he pins s3 σ H3 _ I3 q3) fun v s4 ⟨x4, H4, I4, r4, q4⟩ => ?_
  refine thn (hp pins s4 σ H4 x3 x4 old v _ I4 r3 r4 q4) fun new s5 ⟨x5, H5, I5, r5, q5⟩ => ?_
  exact thn (hs pins s5 σ H5 x1 x2 x5 ov iv new _ I5 r1 r2 r5 q5) fun _ s6 ⟨H6, I6, q6⟩ => ⟨σ, H6, I6, q6⟩
def ipI (f : Int → Int → Int) : TIp := fun x y H Q => ∃ i j, x = .int i ∧ y = .int j ∧ Q (.int (f i j)) H
theorem ip_add : PIp X .Add (ipI fun i j => i + j) := by
  intro pins s σ H x y v u Q I r1 r2 h
  obtain ⟨i, j, e1, e2, q⟩ := h
  subst e1; subst e2
  obtain ⟨t, rfl⟩ := r1
  obtain ⟨t', rfl⟩ := r2
  exact iadd_int ⟨.int _, H, I.tok _, ⟨_, rfl⟩, q⟩
end
section
variable {X : Cx} {pos : Pos}
end
structure It where
  go : Nat → Hp → Prop
  yld : Nat → Hp → V → Hp → Prop
  stop : Nat → Hp → Prop
def FpOk (X : Cx) (pins : List (Addr × Obj)) (H : Hp) (b : Addr) : Prop :=
  H b = none ∧ b ≠ X.env.locals ∧ b ∉ X.fs ∧ (b ∈ X.ex ∨ X.s₀.heap.objs.size ≤ b) ∧ (∀ x c, X.env.cells.lookup x = some c → c ≠ b) ∧ ∀ p ∈ X.pn ++ pins, p.1 ≠ b
theorem Inv.fpOk {X : Cx} {pins : List (Addr × Obj)} {σ : St} {H H' : Hp} {s : Shared} {b : Addr} (I : Inv X pins σ H s) (hb : s.heap.objs.size ≤ b) (hn : H' b = none) : FpOk X pins H' b := by
  refine ⟨hn, Nat.ne_of_gt (Nat.lt_of_lt_of_le I.lt hb), I.nofs hb, .inr (Nat.le_trans I.sz hb), fun x c e z => ?_, fun p hp z => ?_⟩
  · obtain ⟨v, q⟩ := I.cell x c e
    exact absurd (Nat.lt_of_lt_of_le q.lt (by rw [z]; exact hb)) (Nat.lt_irrefl _)
  · exact absurd (Nat.lt_of_lt_of_le (Heap.lt_size (I.pin p hp).1) (by rw [z]; exact hb)) (Nat.lt_irrefl _)
structure Turn (P : Program) (w : World) (K : PySem.W.Frag) (tg : Expr) (J : It) (fp : List Addr) (it : Addr) (tn : Nat → Heap → Prop) : Prop where
  mem : it ∈ fp
  obj : ∀ i h, tn i h → ∀ b ∈ fp, ∃ o, h.get? b = some o ∧ ∀ v, o.data ≠ .cell v
  keep : ∀ i h h', tn i h → (∀ b ∈ fp, ∀ o, h.get? b = some o → h'.get? b = some o) → tn i h'
  item : ∀ (X : Cx), X.prog = P → X.w = w → X.K = K → X.calm = true → ∀ (i : Nat) (pins : List (Addr × Obj)) (s : Shared) (σ : St) (H : Hp) (E : Value → Shared → Prop), Inv X pins σ H s → (∀ b ∈ fp, FpOk X pins H b) → tn i s.heap → J.go i H →
    wpAny (model P w) X.A (pyNext (.ref it)) (fun r s1 => ∃ u, r = some u ∧
      wpAny (model P w) X.A (letOwnedTupleGo tg (.ref it) u) (fun _ s2 => ∃ x H', Inv X pins σ H' s2 ∧ RelV x u ∧ J.yld i H x H' ∧ tn (i + 1) s2.heap ∧ ∀ b ∈ fp, H' b = none) E s1) E s
  done : ∀ (X : Cx), X.prog = P → X.w = w → X.K = K → X.calm = true → ∀ (i : Nat) (pins : List (Addr × Obj)) (s : Shared) (σ : St) (H : Hp) (E : Value → Shared → Prop), Inv X pins σ H s → (∀ b ∈ fp, FpOk X pins H b) → tn i s.heap → J.stop i H →
    wpAny (model P w) X.A (pyNext (.ref it)) (fun r s1 => r = none ∧ Inv X pins σ H s1) E s
  self : ∀ (A : Around) (i : Nat) (s : Shared) (Q : Value → Shared → Prop) (E : Value → Shared → Prop), tn i s.heap → Q (.ref it) s → wpAny (model P w) A (pyIter (.ref it)) Q E s
abbrev TI := St → Hp → (It → Hp → Prop) → Prop
def PIE (X : Cx) (pins : List (Addr × Obj)) (σ : St) (tg : Expr) (R : It → Hp → Prop) (itv : Value) (s2 : Shared) : Prop :=
  ∃ (it : Addr) (fp : List Addr) (tn : Nat → Heap → Prop) (J : It) (H' : Hp), itv = .ref it ∧ Inv X pins σ H' s2 ∧ Turn X.prog X.w X.K tg J fp it tn ∧ tn 0 s2.heap ∧ (∀ b ∈ fp, FpOk X pins H' b) ∧ R J H'
def PI (X : Cx) (tg iter : Expr) (wi : TI) : Prop :=
  ∀ (pins : List (Addr × Obj)) (s : Shared) (σ : St) (H : Hp) (R : It → Hp → Prop), Inv X pins σ H s → wi σ H R →
    wpAny (model X.prog X.w) X.A (eval iter X.env) (fun v s1 => wpAny (model X.prog X.w) X.A (pyIter v) (PIE X pins σ tg R) X.xe s1) X.xe s
theorem go_of {M : Model} {A : Around} {E : Value → Shared → Prop} {s : Shared} {tg : Expr} {it : Addr} {u : Value} {o : Obj} {n : String} {vs : Array Value} {Q : Unit → Shared → Prop} (ho : s.heap.get? it = some o) (hc : o.cls = .type n) (hd : o.data = .fields vs)
    (hn : ["enumerate", "zip", "dict_itemiterator", "dict_reverseitemiterator", "odict_iterator", "itertools.zip_longest", "itertools.pairwise"].contains n = false) (hQ : Q () s) : wpAny M A (letOwnedTupleGo tg (.ref it) u) Q E s := by
  unfold letOwnedTupleGo
  cases tg <;> first
    | exact wpAny_pure hQ
    | (cases u <;> first
        | exact wpAny_pure hQ
        | (refine wpAny_bind (wpAny_load ho ?_)
           rw [hc, hd]
           show wpAny M A (if (["enumerate", "zip", "dict_itemiterator", "dict_reverseitemiterator", "odict_iterator", "itertools.zip_longest", "itertools.pairwise"].contains n && vs[0]? == some (rawInt _)) = true then _ else _) Q E s
           rw [if_neg (by intro h; rw [hn, Bool.false_and] at h; cases h)]
           exact wpAny_pure hQ))
def Itl (K : PySem.W.Frag) (a : Addr) : It :=
  ⟨fun i H => ∃ xs x, SqL K H a xs ∧ xs[i]? = some x, fun i H x H' => H' = H ∧ ∀ xs, SqL K H a xs → xs[i]? = some x, fun i H => ∃ xs, SqL K H a xs ∧ xs.length ≤ i⟩
def Itt (K : PySem.W.Frag) (a : Addr) : It :=
  ⟨fun i H => ∃ xs x, SqT K H a xs ∧ xs[i]? = some x, fun i H x H' => H' = H ∧ ∀ xs, SqT K H a xs → xs[i]? = some x, fun i H => ∃ xs, SqT K H a xs ∧ xs.length ≤ i⟩
def Itr (lo : Int) (n : Nat) : It := ⟨fun i _ => i < n, fun i H x H' => H' = H ∧ x = .int (lo + i), fun i _ => n ≤ i⟩
theorem turn_list {P : Program} {w : World} {K : PySem.W.Frag} {tg : Expr} (a it : Addr) : Turn P w K tg (Itl K a) [it] it (fun i h => h.IsListIter it a i) where
  mem := by simp
  obj := fun i h st b hb => by
    have e : b = it := by simpa using hb
    subst e
    obtain ⟨o, e, c, d⟩ := st
    exact ⟨o, e, fun v z => by rw [d] at z; cases z⟩
  keep := fun i h h' st k => st.at fun o e => k it (by simp) o e
  item := by
    intro X hP hw hK hc i pins s σ H E I hf st hg
    subst hP hw hK
    obtain ⟨xs, x, hq, hx⟩ := hg
    obtain ⟨its, rv, p, hz⟩ := I.list hq
    obtain ⟨u, hu, ru⟩ := rv.get hx
    obtain ⟨f0, f1, f2, f3, f4, f5⟩ := hf it (by simp)
    refine wpAny_pyNext_list_item st p.isList (x := u) (by simpa using hu) fun h' st' sb => ?_
    have I1 : Inv X pins σ H { s with heap := h' } := I.turned (t' := s.toks) (fun b o hb e => (sb.2 b hb).trans e) f0 f1 f3 f4 f5
    obtain ⟨o, e, c, d⟩ := id st'
    exact ⟨u, rfl, go_of (s := { s with heap := h' }) e c d (by decide) ⟨x, H, I1, ru, ⟨rfl, fun ys hy => by rw [I.list_inj hy hq]; exact hx⟩, st', fun b hb => (hf b hb).1⟩⟩
  done := by
    intro X hP hw hK hc i pins s σ H E I hf st hg
    subst hP hw hK
    obtain ⟨xs, hq, hx⟩ := hg
    obtain ⟨its, rv, p, hz⟩ := I.list hq
    obtain ⟨f0, f1, f2, f3, f4, f5⟩ := hf it (by simp)
    have hl := rv.length
    exact wpAny_pyNext_list_end (I.ok.hd hc) st p.isList (by simp; omega) fun h' eb => ⟨rfl, I.turned (t' := s.toks) (fun b o hb e => eb b o hb e) f0 f1 f3 f4 f5⟩
  self := fun _ _ _ _ _ st h => wpAny_pyIter_listiter st h
theorem turn_tuple {P : Program} {w : World} {K : PySem.W.Frag} {tg : Expr} (a it : Addr) : Turn P w K tg (Itt K a) [it] it (fun i h => h.IsTupleIter it a i) where
  mem := by simp
  obj := fun i h st b hb => by
    have e : b = it := by simpa using hb
    subst e
    obtain ⟨o, e, c, d⟩ := st
    exact ⟨o, e, fun v z => by rw [d] at z; cases z⟩
  keep := fun i h h' st k => st.at fun o e => k it (by simp) o e
  item := by
    intro X hP hw hK hc i pins s σ H E I hf st hg
    subst hP hw hK
    obtain ⟨xs, x, hq, hx⟩ := hg
    obtain ⟨its, rv, p, hz⟩ := I.tuple hq
    obtain ⟨u, hu, ru⟩ := rv.get hx
    obtain ⟨f0, f1, f2, f3, f4, f5⟩ := hf it (by simp)
    refine wpAny_pyNext_tuple_item st (show s.heap.IsTuple a its.toArray from p) (x := u) (by simpa using hu) fun h' st' sb => ?_
    have I1 : Inv X pins σ H { s with heap := h' } := I.turned (t' := s.toks) (fun b o hb e => (sb.2 b hb).trans e) f0 f1 f3 f4 f5
    obtain ⟨o, e, c, d⟩ := id st'
    exact ⟨u, rfl, go_of (s := { s with heap := h' }) e c d (by decide) ⟨x, H, I1, ru, ⟨rfl, fun ys hy => by rw [I.tuple_inj hy hq]; exact hx⟩, st', fun b hb => (hf b hb).1⟩⟩
  done := by
    intro X hP hw hK hc i pins s σ H E I hf st hg
    subst hP hw hK
    obtain ⟨xs, hq, hx⟩ := hg
    obtain ⟨its, rv, p, hz⟩ := I.tuple hq
    obtain ⟨f0, f1, f2, f3, f4, f5⟩ := hf it (by simp)
    have hl := rv.length
    exact wpAny_pyNext_tuple_end (I.ok.hd hc) st (show s.heap.IsTuple a its.toArray from p) (by simp; omega) fun h' eb => ⟨rfl, I.turned (t' := s.toks) (fun b o hb e => eb b o hb e) f0 f1 f3 f4 f5⟩
  self := fun _ _ _ _ _ st h => wpAny_pyIter_tupleiter st h
theorem turn_range {P : Program} {w : World} {K : PySem.W.Frag} {tg : Expr} (it : Addr) (lo : Int) (n : Nat) : Turn P w K tg (Itr lo n) [it] it (fun i h => IsRangeIter h it (lo + (i : Nat) * 1) ((n : Int) - (i : Nat)) 1) where
  mem := by simp
  obj := fun i h st b hb => by
    have e : b = it := by simpa using hb
    subst e
    exact ⟨_, st, fun v z => by
      have z' : Data.fields _ = Data.cell v := z
      cases z'⟩
  keep := fun i h h' st k => k it (by simp) _ st
  item := by
    intro X hP hw hK hc i pins s σ H E I hf st hg
    subst hP hw hK
    obtain ⟨f0, f1, f2, f3, f4, f5⟩ := hf it (by simp)
    have W := Walks.range (prog := X.prog) (w := X.w) (I.ok.hd hc) it lo 1 n
    refine W.item i s _ _ hg st fun v h' tk hv st' kk => ?_
    obtain ⟨t, rfl⟩ := hv
    have I1 : Inv X pins σ H { s with heap := h', toks := tk } := I.turned (fun b o hb e => kk b o (by simpa using hb) e) f0 f1 f3 f4 f5
    refine ⟨_, rfl, go_of (s := { s with heap := h', toks := tk }) (n := "range_iterator") st' rfl rfl (by decide) ⟨.int (lo + i), H, I1, ⟨t, ?_⟩, ⟨rfl, rfl⟩, st', fun b hb => (hf b hb).1⟩⟩
    rw [Int.mul_one]
  done := by
    intro X hP hw hK hc i pins s σ H E I hf st hg
    subst hP hw hK
    obtain ⟨f0, f1, f2, f3, f4, f5⟩ := hf it (by simp)
    exact wpAny_pyNext_range_end (I.ok.hd hc) st (by have : n ≤ i := hg; omega) fun h' eb => ⟨rfl, I.turned (t' := s.toks) (fun b o hb e => eb b o hb e) f0 f1 f3 f4 f5⟩
  self := fun _ _ _ _ _ st h => wpAny_pyIter_rangeiter st h
end L2
namespace L2
open PySem PySem.Spec PyProof.Rows
section
variable {X : Cx} {tg : Expr}
def iList (K : PySem.W.Frag) (tl : TE) : TI := fun σ H R => tl σ H fun x H1 => ∃ a, x = .ref a ∧ (∃ xs, SqL K H1 a xs) ∧ R (Itl K a) H1
def iTup (K : PySem.W.Frag) (tl : TE) : TI := fun σ H R => tl σ H fun x H1 => ∃ a, x = .ref a ∧ (∃ xs, SqT K H1 a xs) ∧ R (Itt K a) H1
theorem pi_list {l : Expr} {tl : TE} (hl : PE X l tl) : PI X tg l (iList X.K tl) := by
  intro pins s σ H R I h
  refine thn (hl pins s σ H _ I h) fun v s1 ⟨x, H1, I1, r1, q1⟩ => ?_
  obtain ⟨a, e, ⟨xs, hq⟩, q⟩ := q1
  subst e
  cases r1
  obtain ⟨its, rv, p, hz⟩ := I1.list hq
  refine wpAny_pyIter_list p.isList ?_
  refine ⟨s1.heap.objs.size, [s1.heap.objs.size], _, _, H1, rfl, I1.kept (t' := s1.toks) fun b o e => Heap.get?_push_of_some _ e, turn_list a _, ⟨_, Heap.get?_push_size _ rfl, rfl, rfl⟩, fun b hb => ?_, q⟩
  have e : b = s1.heap.objs.size := by simpa using hb
  subst e
  exact I1.fpOk (Nat.le_refl _) (I1.hok.fresh (Nat.le_refl _))
theorem pi_tup {l : Expr} {tl : TE} (hl : PE X l tl) : PI X tg l (iTup X.K tl) := by
  intro pins s σ H R I h
  refine thn (hl pins s σ H _ I h) fun v s1 ⟨x, H1, I1, r1, q1⟩ => ?_
  obtain ⟨a, e, ⟨xs, hq⟩, q⟩ := q1
  subst e
  cases r1
  obtain ⟨its, rv, p, hz⟩ := I1.tuple hq
  refine wpAny_pyIter_tuple (show s1.heap.IsTuple a its.toArray from p) ?_
  refine ⟨s1.heap.objs.size, [s1.heap.objs.size], _, _, H1, rfl, I1.kept (t' := s1.toks) fun b o e => Heap.get?_push_of_some _ e, turn_tuple a _, ⟨_, Heap.get?_push_size _ rfl, rfl, rfl⟩, fun b hb => ?_, q⟩
  have e : b = s1.heap.objs.size := by simpa using hb
  subst e
  exact I1.fpOk (Nat.le_refl _) (I1.hok.fresh (Nat.le_refl _))
theorem range_it {pins : List (Addr × Obj)} {σ : St} {H : Hp} {s : Shared} {R : It → Hp → Prop} {E : Value → Shared → Prop} {lo hi : Int} {t u v : Tok} {tk : Nat} (I : Inv X pins σ H s) (h1 : -(2 ^ 62) ≤ lo) (h2 : lo < 2 ^ 62) (h3 : -(2 ^ 62) ≤ hi) (h4 : hi < 2 ^ 62)
    (q : R (Itr lo (hi - lo).toNat) H) : wpAny (model X.prog X.w) X.A (pyIter (.ref s.heap.objs.size)) (PIE X pins σ tg R) E { s with heap := s.heap.push { cls := .type "range", data := .fields #[.int lo t, .int hi u, .int 1 v] }, toks := tk } := by
  refine wpAny_pyIter_range (IsRange.new ..) (small_one h1 h2 h3 h4) ?_
  have I1 : Inv X pins σ H { s with heap := s.heap.push { cls := .type "range", data := .fields #[.int lo t, .int hi u, .int 1 v] }, toks := tk } := I.kept fun b o e => Heap.get?_push_of_some _ e
  refine ⟨(s.heap.push { cls := .type "range", data := .fields #[.int lo t, .int hi u, .int 1 v] }).objs.size, [(s.heap.push { cls := .type "range", data := .fields #[.int lo t, .int hi u, .int 1 v] }).objs.size], _, _, H, rfl,
    I1.kept (t' := tk) fun b o e => Heap.get?_push_of_some _ e, turn_range _ lo (hi - lo).toNat, ?_, fun b hb => ?_, q⟩
  · have e1 : lo + ((0 : Nat) : Int) * 1 = lo := by simp
    have e2 : (((hi - lo).toNat : Nat) : Int) - ((0 : Nat) : Int) = Builtin.Range.rangeSize lo hi 1 := by rw [rangeSize_one]; split <;> omega
    show IsRangeIter _ _ (lo + ((0 : Nat) : Int) * 1) ((((hi - lo).toNat : Nat) : Int) - ((0 : Nat) : Int)) 1
    rw [e1, e2]
    exact Heap.get?_push_size _ rfl
  · have e : b = (s.heap.push { cls := .type "range", data := .fields #[.int lo t, .int hi u, .int 1 v] }).objs.size := by simpa using hb
    subst e
    exact I1.fpOk (Nat.le_refl _) (I1.hok.fresh (Nat.le_refl _))
def iRng1 (ta : TA) : TI := fun σ H R => ta σ H fun vs H1 => ∃ j : Int, vs = [.int j] ∧ -(2 ^ 62) ≤ j ∧ j < 2 ^ 62 ∧ R (Itr 0 j.toNat) H1
def iRng2 (ta : TA) : TI := fun σ H R => ta σ H fun vs H1 => ∃ i j : Int, vs = [.int i, .int j] ∧ (-(2 ^ 62) ≤ i ∧ i < 2 ^ 62 ∧ -(2 ^ 62) ≤ j ∧ j < 2 ^ 62) ∧ R (Itr i (j - i).toNat) H1
theorem pi_range1 {a : Expr} {ta : TA} {p pos : Pos} (hg : Gl X "range") (hm : X.mg "range" = none) (ha : PA X [a] ta) (hs : starEach [a] X.env = [(false, eval a X.env)] := by rfl) : PI X tg (.Call (.Name "range" p) [a] [] pos) (iRng1 ta) := by
  intro pins s σ H R I h
  refine Call_ (ld_blt I hg hm boot_range (PyProof.Rows.callWith_type1 (thn (ha pos pins s σ H _ I h) fun us s1 ⟨vs, H1, I1, r1, q1⟩ => ?_) hs rfl))
  obtain ⟨j, e, q1, q2, q⟩ := q1
  subst e
  cases r1 with
  | cons r rr =>
    cases rr
    obtain ⟨t, rfl⟩ := r
    exact call_range_1 (range_it I1 (by omega) (by omega) q1 q2 (by simpa using q))
theorem pi_range2 {a b : Expr} {ta : TA} {p pos : Pos} (hg : Gl X "range") (hm : X.mg "range" = none) (ha : PA X [a, b] ta) (hs : starEach [a, b] X.env = [(false, eval a X.env), (false, eval b X.env)] := by rfl) (hs2 : starEach [b] X.env = [(false, eval b X.env)] := by rfl) :
    PI X tg (.Call (.Name "range" p) [a, b] [] pos) (iRng2 ta) := by
  intro pins s σ H R I h
  refine Call_ (ld_blt I hg hm boot_range (PyProof.Rows.callWith_type1 (thn (ha pos pins s σ H _ I h) fun us s1 ⟨vs, H1, I1, r1, q1⟩ => ?_) (by rw [hs, hs2]) (by rw [hs2]; rfl)))
  obtain ⟨i, j, e, ⟨q1, q2, q3, q4⟩, q⟩ := q1
  subst e
  cases r1 with
  | cons r rr =>
    cases rr with
    | cons r' rr =>
      cases rr
      obtain ⟨t, rfl⟩ := r
      obtain ⟨t', rfl⟩ := r'
      exact call_range_2 (range_it I1 q1 q2 q3 q4 q)
def tFor (wi : TI) (g : TG) (tb : TS) : TS := fun D σ H => wi σ H fun J H1 => ∃ W : Nat → Nat → St → Hp → Prop, (∃ m, W 0 m σ H1) ∧ ∀ i m σ H, W i m σ H →
  (J.stop i H ∧ D.nx σ H) ∨ (J.go i H ∧ ∃ N : St → Hp → Prop, (∀ σ' H', N σ' H' → ∃ m', m' < m ∧ W (i + 1) m' σ' H') ∧ ∀ x H', J.yld i H x H' → g x σ H' fun σ2 H2 => tb { D with nx := N, ct := N, bk := D.nx } σ2 H2)
def pinsAt (fp : List Addr) (h : Heap) : List (Addr × Obj) := fp.filterMap fun b => (h.get? b).map fun o => (b, o)
theorem mem_pinsAt {fp : List Addr} {h : Heap} {b : Addr} {o : Obj} (hb : b ∈ fp) (e : h.get? b = some o) : (b, o) ∈ pinsAt fp h := List.mem_filterMap.mpr ⟨b, hb, by rw [e]; rfl⟩
theorem of_pinsAt {fp : List Addr} {h : Heap} {p : Addr × Obj} (hp : p ∈ pinsAt fp h) : p.1 ∈ fp ∧ h.get? p.1 = some p.2 := by
  obtain ⟨b, hb, e⟩ := List.mem_filterMap.mp hp
  cases q : h.get? b with
  | none => rw [q] at e; cases e
  | some o =>
    rw [q] at e
    have e' : (b, o) = p := Option.some.inj e
    subst e'
    exact ⟨hb, q⟩
theorem Inv.pinned {pins : List (Addr × Obj)} {σ : St} {H : Hp} {s : Shared} {fp : List Addr} (I : Inv X pins σ H s) (hf : ∀ b ∈ fp, FpOk X pins H b) (ho : ∀ b ∈ fp, ∃ o, s.heap.get? b = some o ∧ ∀ v, o.data ≠ .cell v) : Inv X (pins ++ pinsAt fp s.heap) σ H s :=
  I.pins_of fun p hp => (List.mem_append.mp hp).elim (fun z => I.pin p (List.mem_append_right _ z)) fun z => by
    obtain ⟨hb, e⟩ := of_pinsAt z
    obtain ⟨f0, f1, f2, _⟩ := hf p.1 hb
    obtain ⟨o, e', d⟩ := ho p.1 hb
    rw [e] at e'; cases e'
    exact ⟨e, f0, f1, f2, d⟩
theorem Inv.unpinned {pins pl : List (Addr × Obj)} {σ : St} {H : Hp} {s : Shared} (I : Inv X (pins ++ pl) σ H s) : Inv X pins σ H s := I.pins_of fun p hp => I.pin p (List.mem_append_right _ (List.mem_append_left _ hp))
theorem ps_for {iter : Expr} {body : List Stmt} {wi : TI} {g : TG} {tb : TS} {pos : Pos} (hp : PassesOwn (model X.prog X.w) X.A X.env X.xe) (hc : X.calm = true) (hi : PI X tg iter wi) (hg : PG X tg g) (hb : PSs X body tb)
    (hs : ∀ x, foldedSetIterable iter X.env x = pure x := by intro _; rfl) : PS X (.For tg iter body [] pos) (tFor wi g tb) := by
  intro pins s σ H D I h
  refine wpAny_For (thn (hi pins s σ H _ I h) fun v s1 h1 => thn h1 fun itv s2 h2 => ?_) hs
  obtain ⟨it, fp, tn, J, H2, e, I2, T, st2, f2, W, ⟨m0, w0⟩, turn⟩ := h2
  subst e
  -- what stays true of the iterator's objects through the loop
  have stat : ∀ {H' : Hp}, (∀ b ∈ fp, H' b = none) → ∀ b ∈ fp, FpOk X pins H' b := fun hn b hb => ⟨hn b hb, (f2 b hb).2⟩
  refine codeAny_forLoop_any (fun n s' => ∃ i σ' H', Inv X pins σ' H' s' ∧ tn i s'.heap ∧ (∀ b ∈ fp, H' b = none) ∧ W i n σ' H') ?_ m0 ⟨0, σ, H2, I2, st2, fun b hb => (f2 b hb).1, w0⟩
  rintro n s3 ⟨i, σ3, H3, I3, st3, fr3, w3⟩
  rcases turn i n σ3 H3 w3 with ⟨stop, qn⟩ | ⟨go, N, hN, step⟩
  · refine wpAny_passesOwn hp (thn (T.done X rfl rfl rfl hc i pins s3 σ3 H3 X.xe I3 (stat fr3) st3 stop) fun r s4 ⟨hr, I4⟩ => ?_)
    subst hr
    exact wpAny_execs_nil ⟨σ3, H3, I4, qn⟩
  · refine wpAny_passesOwn hp (thn (T.item X rfl rfl rfl hc i pins s3 σ3 H3 X.xe I3 (stat fr3) st3 go) fun r s4 ⟨u, hr, h4⟩ => ?_)
    subst hr
    refine wpAny_passesOwn hp (thn h4 fun _ s5 ⟨x, H5, I5, r5, y5, st5, fr5⟩ => ?_)
    have I5' := I5.pinned (stat fr5) (T.obj _ _ st5)
    refine wpAny_passesOwn hp (thn (hg _ s5 σ3 H5 x u _ I5' r5 (step x H5 y5)) fun _ s6 ⟨σ6, H6, I6, q6⟩ => ?_)
    refine wpAny_passesOwn hp (thn (hb _ s6 σ6 H6 _ I6 q6) fun f s7 q7 => ?_)
    have again : ∀ {σ7 : St} {H7 : Hp}, Inv X (pins ++ pinsAt fp s5.heap) σ7 H7 s7 → N σ7 H7 → ∃ m, m < n ∧ ∃ i σ' H', Inv X pins σ' H' s7 ∧ tn i s7.heap ∧ (∀ b ∈ fp, H' b = none) ∧ W i m σ' H' := fun {σ7 H7} I7 n7 => by
      obtain ⟨m', hm, w7⟩ := hN σ7 H7 n7
      refine ⟨m', hm, i + 1, σ7, H7, I7.unpinned, T.keep _ _ _ st5 fun b hb o e => (I7.pin (b, o) (List.mem_append_right _ (List.mem_append_right _ (mem_pinsAt hb e)))).1, fun b hb => ?_, w7⟩
      obtain ⟨o, e, d⟩ := T.obj _ _ st5 b hb
      exact (I7.pin (b, o) (List.mem_append_right _ (List.mem_append_right _ (mem_pinsAt hb e)))).2.1
    cases f with
    | next => obtain ⟨σ7, H7, I7, n7⟩ := q7; exact again I7 n7
    | cont => obtain ⟨σ7, H7, I7, n7⟩ := q7; exact again I7 n7
    | brk => obtain ⟨σ7, H7, I7, q7⟩ := q7; exact ⟨σ7, H7, I7.unpinned, q7⟩
    | ret v => obtain ⟨x7, σ7, H7, I7, r7, q7⟩ := q7; exact ⟨x7, σ7, H7, I7.unpinned, r7, q7⟩
end
theorem for_list {K : PySem.W.Frag} {a : Addr} {xs : List V} {g : TG} {tb : TS} {D : Ends} {σ : St} {H : Hp} (Pv : Nat → St → Hp → Prop) (h0 : Pv 0 σ H) (hl : ∀ i σ H, i ≤ xs.length → Pv i σ H → SqL K H a xs)
    (hs : ∀ i x σ H, xs[i]? = some x → Pv i σ H → g x σ H fun σ2 H2 => tb { D with nx := Pv (i + 1), ct := Pv (i + 1), bk := D.nx } σ2 H2) (hd : ∀ σ H, Pv xs.length σ H → D.nx σ H) :
    ∃ W : Nat → Nat → St → Hp → Prop, (∃ m, W 0 m σ H) ∧ ∀ i m σ H, W i m σ H →
      ((Itl K a).stop i H ∧ D.nx σ H) ∨ ((Itl K a).go i H ∧ ∃ N : St → Hp → Prop, (∀ σ' H', N σ' H' → ∃ m', m' < m ∧ W (i + 1) m' σ' H') ∧ ∀ x H', (Itl K a).yld i H x H' → g x σ H' fun σ2 H2 => tb { D with nx := N, ct := N, bk := D.nx } σ2 H2) := by
  refine ⟨fun i m σ H => m = xs.length - i ∧ i ≤ xs.length ∧ Pv i σ H, ⟨xs.length, by simp, Nat.zero_le _, h0⟩, ?_⟩
  rintro i m σ H ⟨rfl, hi, p⟩
  have q := hl i σ H hi p
  by_cases hlt : i < xs.length
  · refine .inr ⟨⟨xs, xs[i], q, by simp [hlt]⟩, Pv (i + 1), fun σ' H' p' => ⟨xs.length - (i + 1), by omega, rfl, hlt, p'⟩, fun x H' y => ?_⟩
    obtain ⟨e, y⟩ := y
    subst e
    exact hs i x σ _ (y xs q) p
  · have e : i = xs.length := by omega
    subst e
    exact .inl ⟨⟨xs, q, Nat.le_refl _⟩, hd σ H p⟩
theorem for_tup {K : PySem.W.Frag} {a : Addr} {xs : List V} {g : TG} {tb : TS} {D : Ends} {σ : St} {H : Hp} (Pv : Nat → St → Hp → Prop) (h0 : Pv 0 σ H) (hl : ∀ i σ H, i ≤ xs.length → Pv i σ H → SqT K H a xs)
    (hs : ∀ i x σ H, xs[i]? = some x → Pv i σ H → g x σ H fun σ2 H2 => tb { D with nx := Pv (i + 1), ct := Pv (i + 1), bk := D.nx } σ2 H2) (hd : ∀ σ H, Pv xs.length σ H → D.nx σ H) :
    ∃ W : Nat → Nat → St → Hp → Prop, (∃ m, W 0 m σ H) ∧ ∀ i m σ H, W i m σ H →
      ((Itt K a).stop i H ∧ D.nx σ H) ∨ ((Itt K a).go i H ∧ ∃ N : St → Hp → Prop, (∀ σ' H', N σ' H' → ∃ m', m' < m ∧ W (i + 1) m' σ' H') ∧ ∀ x H', (Itt K a).yld i H x H' → g x σ H' fun σ2 H2 => tb { D with nx := N, ct := N, bk := D.nx } σ2 H2) := by
  refine ⟨fun i m σ H => m = xs.length - i ∧ i ≤ xs.length ∧ Pv i σ H, ⟨xs.length, by simp, Nat.zero_le _, h0⟩, ?_⟩
  rintro i m σ H ⟨rfl, hi, p⟩
  have q := hl i σ H hi p
  by_cases hlt : i < xs.length
  · refine .inr ⟨⟨xs, xs[i], q, by simp [hlt]⟩, Pv (i + 1), fun σ' H' p' => ⟨xs.length - (i + 1), by omega, rfl, hlt, p'⟩, fun x H' y => ?_⟩
    obtain ⟨e, y⟩ := y
    subst e
    exact hs i x σ _ (y xs q) p
  · have e : i = xs.length := by omega
    subst e
    exact .inl ⟨⟨xs, q, Nat.le_refl _⟩, hd σ H p⟩
theorem for_range {lo : Int} {n : Nat} {g : TG} {tb : TS} {D : Ends} {σ : St} {H : Hp} (Pv : Nat → St → Hp → Prop) (h0 : Pv 0 σ H)
    (hs : ∀ i σ H, i < n → Pv i σ H → g (.int (lo + i)) σ H fun σ2 H2 => tb { D with nx := Pv (i + 1), ct := Pv (i + 1), bk := D.nx } σ2 H2) (hd : ∀ σ H, Pv n σ H → D.nx σ H) :
    ∃ W : Nat → Nat → St → Hp → Prop, (∃ m, W 0 m σ H) ∧ ∀ i m σ H, W i m σ H →
      ((Itr lo n).stop i H ∧ D.nx σ H) ∨ ((Itr lo n).go i H ∧ ∃ N : St → Hp → Prop, (∀ σ' H', N σ' H' → ∃ m', m' < m ∧ W (i + 1) m' σ' H') ∧ ∀ x H', (Itr lo n).yld i H x H' → g x σ H' fun σ2 H2 => tb { D with nx := N, ct := N, bk := D.nx } σ2 H2) := by
  refine ⟨fun i m σ H => m = n - i ∧ i ≤ n ∧ Pv i σ H, ⟨n, by simp, Nat.zero_le _, h0⟩, ?_⟩
  rintro i m σ H ⟨rfl, hi, p⟩
  by_cases hlt : i < n
  · refine .inr ⟨hlt, Pv (i + 1), fun σ' H' p' => ⟨n - (i + 1), by omega, rfl, hlt, p'⟩, fun x H' y => ?_⟩
    obtain ⟨e, y⟩ := y
    subst e y
    exact hs i σ _ hlt p
  · have e : i = n := by omega
    subst e
    exact .inl ⟨Nat.le_refl _, hd σ H p⟩
end L2
namespace L2
open PySem PySem.Spec PyProof.Rows
abbrev R2 := V → V → Hp → VK → Prop
def OpR (X : Cx) (f : Value → Value → Sem Value) (r : R2) : Prop :=
  ∀ (pins : List (Addr × Obj)) (s : Shared) (σ : St) (H : Hp) (x y : V) (v u : Value) (Q : VK), Inv X pins σ H s → RelV x v → RelV y u → r x y H Q →
    wpAny (model X.prog X.w) X.A (f v u) (EP X pins σ Q) X.xe s
def UnR (X : Cx) (f : Value → Sem Value) (r : V → Hp → VK → Prop) : Prop :=
  ∀ (pins : List (Addr × Obj)) (s : Shared) (σ : St) (H : Hp) (x : V) (v : Value) (Q : VK), Inv X pins σ H s → RelV x v → r x H Q →
    wpAny (model X.prog X.w) X.A (f v) (EP X pins σ Q) X.xe s
def CallR (X : Cx) (f : Value) (r : List V → Hp → VK → Prop) : Prop :=
  ∀ (pins : List (Addr × Obj)) (s : Shared) (σ : St) (H : Hp) (xs : List V) (us : List Value) (Q : VK), Inv X pins σ H s → Vals xs us → r xs H Q →
    wpAny (model X.prog X.w) X.A (call f us) (EP X pins σ Q) X.xe s
def tOp (r : R2) (ta tb : TE) : TE := fun σ H Q => ta σ H fun x H1 => tb σ H1 fun y H2 => r x y H2 Q
def tUn (r : V → Hp → VK → Prop) (ta : TE) : TE := fun σ H Q => ta σ H fun x H1 => r x H1 Q
def rI (C : Int → Int → Prop) (g : Int → Int → V) : R2 := fun x y H Q => ∃ i j, x = .int i ∧ y = .int j ∧ C i j ∧ Q (g i j) H
def rI0 (g : Int → Int → V) : R2 := fun x y H Q => ∃ i j, x = .int i ∧ y = .int j ∧ Q (g i j) H
def rU (g : Int → V) : V → Hp → VK → Prop := fun x H Q => ∃ i, x = .int i ∧ Q (g i) H
section
variable {X : Cx} {a b c : Expr} {ta tb tc : TE} {pos : Pos}
theorem binT (ha : PE X a ta) (hb : PE X b tb) {pins : List (Addr × Obj)} {s : Shared} {σ : St} {H : Hp} {R : V → V → Hp → Prop} (I : Inv X pins σ H s)
    (h : ta σ H fun x H1 => tb σ H1 fun y H2 => R x y H2) {Q : Value → Shared → Prop} {f : Value → Value → Sem Value}
    (hf : ∀ v u s2 x y H2, Inv X pins σ H2 s2 → RelV x v → RelV y u → R x y H2 → wpAny (model X.prog X.w) X.A (f v u) Q X.xe s2) :
    wpAny (model X.prog X.w) X.A (eval a X.env) (fun v s₁ => wpAny (model X.prog X.w) X.A (eval b X.env) (fun u s₂ => wpAny (model X.prog X.w) X.A (f v u) Q X.xe s₂) X.xe s₁) X.xe s := by
  refine thn (ha pins s σ H _ I h) fun v s1 ⟨x, H1, I1, r1, q1⟩ => ?_
  refine thn (hb pins s1 σ H1 _ I1 q1) fun u s2 ⟨y, H2, I2, r2, q2⟩ => ?_
  exact hf v u s2 x y H2 I2 r1 r2 q2
theorem pe_op {op : Operator} {r : R2} (ho : OpR X (binaryOp op) r) (ha : PE X a ta) (hb : PE X b tb) : PE X (.BinOp a op b pos) (tOp r ta tb) := by
  intro pins s σ H Q I h
  exact wpAny_BinOp (binT ha hb I h fun v u s2 x y H2 I2 rx ry q => ho pins s2 σ H2 x y v u Q I2 rx ry q)
theorem pe_un {op : UnaryOp} {r : V → Hp → VK → Prop} (ho : UnR X (unaryOp op) r) (ha : PE X a ta) : PE X (.UnaryOp op a pos) (tUn r ta) := by
  intro pins s σ H Q I h
  exact UnaryOp_ (thn (ha pins s σ H _ I h) fun v s1 ⟨x, H1, I1, r1, q1⟩ => ho pins s1 σ H1 x v Q I1 r1 q1)
theorem opI {f : Value → Value → Sem Value} {C : Int → Int → Prop} {g : Int → Int → Int}
    (rule : ∀ (i j : Int) (t u : Tok) (s : Shared) (Q : Value → Shared → Prop) (E : Value → Shared → Prop), C i j → Q (.int (g i j) s.toks) { s with toks := s.toks + 1 } → wpAny (model X.prog X.w) X.A (f (.int i t) (.int j u)) Q E s) :
    OpR X f (rI C fun i j => .int (g i j)) := by
  intro pins s σ H x y v u Q I rx ry h
  obtain ⟨i, j, rfl, rfl, hc, q⟩ := h
  obtain ⟨t, rfl⟩ := rx
  obtain ⟨t', rfl⟩ := ry
  exact rule i j t t' s _ _ hc ⟨.int (g i j), H, I.tok _, ⟨_, rfl⟩, q⟩
theorem opI0 {f : Value → Value → Sem Value} {g : Int → Int → Int}
    (rule : ∀ (i j : Int) (t u : Tok) (s : Shared) (Q : Value → Shared → Prop) (E : Value → Shared → Prop), Q (.int (g i j) s.toks) { s with toks := s.toks + 1 } → wpAny (model X.prog X.w) X.A (f (.int i t) (.int j u)) Q E s) :
    OpR X f (rI0 fun i j => .int (g i j)) := by
  intro pins s σ H x y v u Q I rx ry h
  obtain ⟨i, j, rfl, rfl, q⟩ := h
  obtain ⟨t, rfl⟩ := rx
  obtain ⟨t', rfl⟩ := ry
  exact rule i j t t' s _ _ ⟨.int (g i j), H, I.tok _, ⟨_, rfl⟩, q⟩
theorem opB0 {f : Value → Value → Sem Value} {g : Int → Int → Bool}
    (rule : ∀ (i j : Int) (t u : Tok) (s : Shared) (Q : Value → Shared → Prop) (E : Value → Shared → Prop), Q (.bool (g i j)) s → wpAny (model X.prog X.w) X.A (f (.int i t) (.int j u)) Q E s) :
    OpR X f (rI0 fun i j => .bl (g i j)) := by
  intro pins s σ H x y v u Q I rx ry h
  obtain ⟨i, j, rfl, rfl, q⟩ := h
  obtain ⟨t, rfl⟩ := rx
  obtain ⟨t', rfl⟩ := ry
  exact rule i j t t' s _ _ ⟨.bl (g i j), H, I, rfl, q⟩
def CDiv (i j : Int) : Prop := 0 < j ∧ j < 1073741824
def CPow (i j : Int) : Prop := 0 ≤ j ∧ j ≤ 1000000 ∧ i.natAbs < 2 ^ 64
def CMul (i j : Int) : Prop := (-(2 ^ 64) < i ∧ i < 2 ^ 64) ∨ (-(2 ^ 64) < j ∧ j < 2 ^ 64)
theorem CMul.ok {i j : Int} (h : CMul i j) : IntMulOk i j := by
  rcases h with ⟨h1, h2⟩ | ⟨h1, h2⟩
  · exact .of_left (intBits_le_64 h1 h2)
  · exact .of_right (intBits_le_64 h1 h2)
theorem op_add : OpR X (binaryOp .Add) (rI0 fun i j => .int (i + j)) := opI0 fun _ _ _ _ _ _ _ q => add_int q
theorem op_sub : OpR X (binaryOp .Sub) (rI0 fun i j => .int (i - j)) := opI0 fun _ _ _ _ _ _ _ q => sub_int q
theorem op_mul : OpR X (binaryOp .Mult) (rI CMul fun i j => .int (i * j)) := opI fun _ _ _ _ _ _ _ hc q => mul_int q hc.ok
theorem op_fdiv : OpR X (binaryOp .FloorDiv) (rI CDiv fun i j => .int (i / j)) := opI fun i j _ _ _ _ _ hc q => by
  have h1 : (0 : Int) < j := hc.1
  have h2 : j < 1073741824 := hc.2
  exact floordiv_int (by omega) (by rw [Int.fdiv_eq_ediv_of_nonneg i (by omega)]; exact q) (.inl (PyProof.noPylong_small (by omega)))
theorem op_mod : OpR X (binaryOp .Mod) (rI (fun _ j => 0 < j) fun i j => .int (i % j)) := opI fun i j _ _ _ _ _ hc q => by
  have h1 : (0 : Int) < j := hc
  exact mod_int' (by omega) (by rw [Int.fmod_eq_emod_of_nonneg i (by omega)]; exact q)
theorem op_pow : OpR X (binaryOp .Pow) (rI CPow fun i j => .int (i ^ j.toNat)) := opI fun _ _ _ _ _ _ _ hc q => pow_int_small hc.1 hc.2.1 hc.2.2 q
theorem unI {f : Value → Sem Value} {g : Int → Int}
    (rule : ∀ (i : Int) (t : Tok) (s : Shared) (Q : Value → Shared → Prop) (E : Value → Shared → Prop), Q (.int (g i) s.toks) { s with toks := s.toks + 1 } → wpAny (model X.prog X.w) X.A (f (.int i t)) Q E s) :
    UnR X f (rU fun i => .int (g i)) := by
  intro pins s σ H x v Q I rx h
  obtain ⟨i, rfl, q⟩ := h
  obtain ⟨t, rfl⟩ := rx
  exact rule i t s _ _ ⟨.int (g i), H, I.tok _, ⟨_, rfl⟩, q⟩
theorem un_neg : UnR X (unaryOp .USub) (rU fun i => .int (-i)) := unI fun _ _ _ _ _ q => neg_int q
end
section
variable {X : Cx} {a b c : Expr} {ta tb tc : TE} {pos : Pos}
theorem op_lt : OpR X (compareOp .Lt) (rI0 fun i j => .bl (decide (i < j))) := opB0 fun _ _ _ _ _ _ _ q => lt_int q
theorem op_le : OpR X (compareOp .LtE) (rI0 fun i j => .bl (decide (i ≤ j))) := opB0 fun _ _ _ _ _ _ _ q => le_int q
theorem op_gt : OpR X (compareOp .Gt) (rI0 fun i j => .bl (decide (j < i))) := opB0 fun _ _ _ _ _ _ _ q => gt_int q
theorem op_ge : OpR X (compareOp .GtE) (rI0 fun i j => .bl (decide (j ≤ i))) := opB0 fun _ _ _ _ _ _ _ q => ge_int q
theorem OpR.or {f : Value → Value → Sem Value} {r r' : R2} (h : OpR X f r) (h' : OpR X f r') : OpR X f (fun x y H Q => r x y H Q ∨ r' x y H Q) := by
  intro pins s σ H x y v u Q I rx ry q
  rcases q with q | q
  · exact h pins s σ H x y v u Q I rx ry q
  · exact h' pins s σ H x y v u Q I rx ry q
theorem nomark (b : Expr) {op : CmpOp} (h : op ≠ .In := by decide) (h2 : op ≠ .NotIn := by decide) : behindInMarks op b = false := by
  have e1 : (op == CmpOp.In) = false := by cases op <;> first | rfl | exact absurd rfl h
  have e2 : (op == CmpOp.NotIn) = false := by cases op <;> first | rfl | exact absurd rfl h2
  cases b <;> simp [behindInMarks, e1, e2]
theorem pe_cmpR {op : CmpOp} {r : R2} (ho : OpR X (compareOp op) r) (ha : PE X a ta) (hb : PE X b tb) (hm : behindInMarks op b = false) : PE X (.Compare a [op] [b] pos) (tOp r ta tb) := by
  intro pins s σ H Q I h
  exact wpAny_Compare1 (binT ha hb I h fun v u s2 x y H2 I2 rx ry q => ho pins s2 σ H2 x y v u Q I2 rx ry q) hm
def tTest (t : TE) : TT := fun σ H Q => t σ H fun x H' => ∃ k, x = .bl k ∧ Q k H'
theorem pt_cmpR {op : CmpOp} {r : R2} (ho : OpR X (compareOp op) r) (ha : PE X a ta) (hb : PE X b tb) (hm : behindInMarks op b = false) : PT X (.Compare a [op] [b] pos) (tTest (tOp r ta tb)) := by
  intro pins s σ H Q I h
  refine wpAny_isTrue_Compare1 (thn (ha pins s σ H _ I h) fun v s1 ⟨x, H1, I1, r1, q1⟩ => thn (hb pins s1 σ H1 _ I1 q1) fun u s2 ⟨y, H2, I2, r2, q2⟩ =>
    thn (ho pins s2 σ H2 x y v u _ I2 r1 r2 q2) fun c s3 ⟨z, H3, I3, r3, k, e, q3⟩ => ?_) hm
  subst e
  cases r3
  exact wpAny_truthy_bool ⟨H3, I3, q3⟩
def tChain (r r' : R2) (ta tb tc : TE) : TE := fun σ H Q => ta σ H fun x H1 => tb σ H1 fun y H2 => r x y H2 fun z H3 => ∃ k, z = .bl k ∧
  (if k = true then tc σ H3 fun w' H4 => r' y w' H4 Q else Q (.bl false) H3)
theorem pe_chain {op op' : CmpOp} {r r' : R2} (ho : OpR X (compareOp op) r) (ho' : OpR X (compareOp op') r') (ha : PE X a ta) (hb : PE X b tb) (hc : PE X c tc)
    (hm : lastMarks [op, op'] [b, c] = false := by with_unfolding_all rfl) : PE X (.Compare a [op, op'] [b, c] pos) (tChain r r' ta tb tc) := by
  intro pins s σ H Q I h
  refine Compare_chain (thn (ha pins s σ H _ I h) fun v s1 ⟨x, H1, I1, r1, q1⟩ => chain_link (thn (hb pins s1 σ H1 _ I1 q1) fun u s2 ⟨y, H2, I2, r2, q2⟩ =>
    thn (ho pins s2 σ H2 x y v u _ I2 r1 r2 q2) fun d s3 ⟨z, H3, I3, r3, k, e, q3⟩ => ?_)) hm
  subst e
  cases r3
  refine wpAny_truthy_bool ?_
  cases k with
  | false => exact ite_ff ⟨.bl false, H3, I3, rfl, q3⟩
  | true => exact ite_tt (chain_last (thn (hc pins s3 σ H3 _ I3 q3) fun w' s4 ⟨z', H4, I4, r4, q4⟩ => ho' pins s4 σ H4 y z' u w' Q I4 r2 r4 q4))
theorem pt_chain {op op' : CmpOp} {r r' : R2} (ho : OpR X (compareOp op) r) (ho' : OpR X (compareOp op') r') (ha : PE X a ta) (hb : PE X b tb) (hc : PE X c tc)
    (hm : lastMarks [op, op'] [b, c] = false := by with_unfolding_all rfl) : PT X (.Compare a [op, op'] [b, c] pos) (tTest (tChain r r' ta tb tc)) := by
  intro pins s σ H Q I h
  refine isTrue_chain (thn (ha pins s σ H _ I h) fun v s1 ⟨x, H1, I1, r1, q1⟩ => test_link (thn (hb pins s1 σ H1 _ I1 q1) fun u s2 ⟨y, H2, I2, r2, q2⟩ =>
    thn (ho pins s2 σ H2 x y v u _ I2 r1 r2 q2) fun d s3 ⟨z, H3, I3, r3, k, e, q3⟩ => ?_)) hm
  subst e
  cases r3
  refine wpAny_truthy_bool ?_
  cases k with
  | false =>
    obtain ⟨k', e', q'⟩ := q3
    cases e'
    exact ite_ff ⟨H3, I3, q'⟩
  | true =>
    refine ite_tt (test_last (thn (hc pins s3 σ H3 _ I3 q3) fun w' s4 ⟨z', H4, I4, r4, q4⟩ => thn (ho' pins s4 σ H4 y z' u w' _ I4 r2 r4 q4) fun d' s5 ⟨z2, H5, I5, r5, k2, e2, q5⟩ => ?_))
    subst e2
    cases r5
    exact wpAny_truthy_bool ⟨H5, I5, q5⟩
theorem line63 : (sizeLine : Nat) < 2 ^ 63 := by rw [sizeLine_eq]; decide
theorem vals1 {x : V} {us : List Value} (r : Vals [x] us) : ∃ u, us = [u] ∧ RelV x u := by
  cases r with
  | cons r1 r2 => cases r2; exact ⟨_, rfl, r1⟩
theorem vals2 {x y : V} {us : List Value} (r : Vals [x, y] us) : ∃ u w', us = [u, w'] ∧ RelV x u ∧ RelV y w' := by
  cases r with
  | cons r1 r2 =>
    cases r2 with
    | cons r3 r4 => cases r4; exact ⟨_, _, rfl, r1, r3⟩
theorem call_abs : CallR X (.builtin "abs") (fun xs H Q => ∃ i, xs = [.int i] ∧ Q (.int (if i < 0 then -i else i)) H) := by
  intro pins s σ H xs us Q I r h
  obtain ⟨i, rfl, q⟩ := h
  obtain ⟨u, rfl, t, rfl⟩ := vals1 r
  exact call_abs_int fun u tk => ⟨.int (if i < 0 then -i else i), H, I.tok _, ⟨_, rfl⟩, q⟩
theorem call_max2 (hc : X.calm = true) : CallR X (.builtin "max") (fun xs H Q => ∃ i j, xs = [.int i, .int j] ∧ Q (.int (if j > i then j else i)) H) := by
  intro pins s σ H xs us Q I r h
  obtain ⟨i, j, rfl, q⟩ := h
  obtain ⟨u, w', rfl, ⟨t, rfl⟩, ⟨t', rfl⟩⟩ := vals2 r
  refine max_two_ints (I.ok.hd hc) fun h' tk k => ⟨_, H, I.kept k, ?_, q⟩
  by_cases hj : j > i
  · rw [if_pos hj, if_pos hj]; exact ⟨_, rfl⟩
  · rw [if_neg hj, if_neg hj]; exact ⟨_, rfl⟩
theorem call_min2 (hc : X.calm = true) : CallR X (.builtin "min") (fun xs H Q => ∃ i j, xs = [.int i, .int j] ∧ Q (.int (if j < i then j else i)) H) := by
  intro pins s σ H xs us Q I r h
  obtain ⟨i, j, rfl, q⟩ := h
  obtain ⟨u, w', rfl, ⟨t, rfl⟩, ⟨t', rfl⟩⟩ := vals2 r
  refine min_two_ints (I.ok.hd hc) fun h' tk k => ⟨_, H, I.kept k, ?_, q⟩
  by_cases hj : j < i
  · rw [if_pos hj, if_pos hj]; exact ⟨_, rfl⟩
  · rw [if_neg hj, if_neg hj]; exact ⟨_, rfl⟩
def LenV (K : PySem.W.Frag) (x : V) (H : Hp) (n : Nat) : Prop :=
  match x with
  | .str y => y.length ≤ sizeLine ∧ n = y.length
  | .byt y => y.size ≤ sizeLine ∧ n = y.size
  | .ref p => (∃ xs, SqL K H p xs ∧ n = xs.length) ∨ ∃ xs, SqT K H p xs ∧ n = xs.length
  | _ => False
theorem call_len : CallR X (.builtin "len") (fun xs H Q => ∃ x n, xs = [x] ∧ LenV X.K x H n ∧ Q (.int n) H) := by
  intro pins s σ H xs us Q I r h
  obtain ⟨x, n, rfl, e, q⟩ := h
  obtain ⟨u, rfl, rx⟩ := vals1 r
  have hl := line63
  have hs : sizeLine = 16777216 := sizeLine_eq
  cases x with
  | str y =>
    obtain ⟨t, rfl⟩ := rx
    obtain ⟨hy, e'⟩ : y.length ≤ sizeLine ∧ n = y.length := e
    subst e'
    exact len_str (by omega) ⟨.int _, H, I.tok _, ⟨_, rfl⟩, q⟩
  | byt y =>
    obtain ⟨t, rfl⟩ := rx
    obtain ⟨hy, e'⟩ : y.size ≤ sizeLine ∧ n = y.size := e
    subst e'
    exact PySem.W.len_bytes (by omega) ⟨.int _, H, I.tok _, ⟨_, rfl⟩, q⟩
  | ref p =>
    cases rx
    have e' : (∃ xs, SqL X.K H p xs ∧ n = xs.length) ∨ ∃ xs, SqT X.K H p xs ∧ n = xs.length := e
    rcases e' with ⟨xs, hx, e'⟩ | ⟨xs, hx, e'⟩
    · subst e'
      obtain ⟨its, r', pl, hz⟩ := I.list hx
      have hlen := r'.length
      exact Calls.call_len_list pl.isList (by simp only [List.size_toArray]; omega) ⟨.int xs.length, H, I.tok _, ⟨_, by simp only [List.size_toArray]; rw [hlen]⟩, q⟩
    · subst e'
      obtain ⟨its, r', pl, hz⟩ := I.tuple hx
      have hlen := r'.length
      exact len_tuple pl (by simp only [List.size_toArray]; omega) ⟨.int xs.length, H, I.tok _, ⟨_, by simp only [List.size_toArray]; rw [hlen]⟩, q⟩
  | _ => exact (show False from e).elim
end
end L2
namespace L2
open PySem PySem.Spec PyProof.Rows
structure ObjM (h : Heap) (x dx C : Addr) (mA : Str → Option Value) : Prop where
  obj : h.get? x = some (PySem.W.instObj C dx)
  ns : h.Ns1 dx mA
  ne : dx ≠ x
theorem lookIn_ns {h : Heap} {dx : Addr} {mA : Str → Option Value} (n : h.Ns1 dx mA) : ∃ od, h.get? dx = some od ∧ ∀ name, PySem.W.lookIn name od = some (mA name) := by
  obtain ⟨o, es, ep, ho, hd, hk, _, hm⟩ := n
  refine ⟨o, ho, fun name => ?_⟩
  have e := hm name
  unfold nsFind findBy at e
  rw [← Array.find?_toList] at e
  unfold PySem.W.lookIn
  rw [hd]
  dsimp only
  split
  · rename_i y q
    rw [q] at e
    exact congrArg some e
  · rename_i q
    rw [q] at e
    have a : es.toList.any (·.refKey) = false := by
      rw [List.any_eq_false]
      intro y hy
      obtain ⟨z, t, hkey⟩ := hk y (Array.mem_toList_iff.mp hy)
      simp [DictEntry.refKey, hkey]
    have a' : ¬ es.toList.any (·.refKey) = true := by rw [a]; exact Bool.false_ne_true
    rw [if_neg a']
    exact congrArg some e
theorem ObjM.look {h : Heap} {x dx C : Addr} {mA : Str → Option Value} (I : ObjM h x dx C mA) : ∃ od, PySem.W.InstAt h x (PySem.W.instObj C dx) C (some od) ∧ ∀ name, PySem.W.lookIn name od = some (mA name) :=
  let ⟨od, ho, hl⟩ := lookIn_ns I.ns
  ⟨od, ⟨I.obj, rfl, rfl, ho⟩, hl⟩
section
variable {prog : Program} {w : World} {A : Around} {E : Value → Shared → Prop} {s : Shared} {K : PySem.W.Frag} {x dx C f : Addr} {mA : Str → Option Value} {name : Str} {v : Value}
theorem get_map {expr : Bool} {Q : Value → Shared → Prop} (X : K.In s.heap) (I : ObjM s.heap x dx C mA) (hg : PySem.W.plainGet K C name = true) (hh : PySem.W.hasDictIn K C = true)
    (ha : PySem.W.findIn K (.ref C) name = some none) (hv : mA name = some v) (hv' : PySem.W.handedIn v = true) (h : Q v { s with toks := s.toks + 1 }) :
    wpAny (model prog w) A (getAttr (.ref x) name expr) Q E s := by
  obtain ⟨od, J, hl⟩ := I.look
  exact PySem.W.get_value X J (PySem.W.plainGet_of hg).1 (PySem.W.findObj_own hh ha rfl (by rw [hl, hv])) hv' h
theorem get_meth {pl : Sem Bool} {Q : Value × List Value → Shared → Prop} (X : K.In s.heap) (I : ObjM s.heap x dx C mA) (hg : PySem.W.plainGet K C name = true)
    (hf : PySem.W.findIn K (.ref C) name = some (some (.ref f))) (ht : PySem.W.isFn K (.ref f) = true) (hv : mA name = none) (h : Q (.ref f, [.ref x]) s) :
    wpAny (model prog w) A (getMethod (.ref x) name pl) Q E s := by
  obtain ⟨od, J, hl⟩ := I.look
  exact PySem.W.method_fn X J (PySem.W.plainGet_of hg).1 (PySem.W.plainGet_of hg).2 hf (beq_iff_eq.mp ht) (by show (PySem.W.lookIn name od).map (·.isSome) = some false; rw [hl, hv]; rfl) h
theorem set_map {ns : List Str} {Q : Unit → Shared → Prop} (X : K.In s.heap) (I : ObjM s.heap x dx C mA)
    (hs : PySem.W.findIn K (.ref C) "__setattr__" = some (some (.builtin "object.__setattr__"))) (hp : PySem.W.plainOver K C = true) (ht : PySem.W.takerIn K C name = some none) (hh : PySem.W.hasDictIn K C = true)
    (hw : PySem.Within mA ns) (hsz : ns.length ≤ sizeLine)
    (h : ∀ h', ObjM h' x dx C (fun y => if y = name then some v else mA y) → Heap.SameBut dx s.heap h' → Q () { s with heap := h', toks := s.toks + 2 }) :
    wpAny (model prog w) A (setAttr (.ref x) name v) Q E s := by
  obtain ⟨od, J, hl⟩ := I.look
  refine PySem.W.set_plain X J hs (PySem.W.osa_open (s := { s with toks := s.toks + 1 }) (r := none) X J hp ht fun b => ?_)
  obtain ⟨cd, hc, hd'⟩ := PySem.W.any_some hh
  have hx : s.heap.get? x = some ⟨.ref C, some dx, .plain, #[]⟩ := I.obj
  refine wpAny_bind (wpAny_pure (wpAny_bind (wpAny_bind (wpAny_loadPart hx (wpAny_bind (PySem.W.Looks.here (s := { s with toks := s.toks + 1 }) (PySem.W.looks_clsIn X hc) ?_))))))
  rw [hd']
  refine wpAny_pure (a := some dx) (wpAny_bind (wpAny_pure (wpAny_bind ?_)))
  refine wpAny_nsSet1 (s := { s with toks := s.toks + 1 }) I.ns fun h' hn2 hs2 => ?_
  obtain ⟨oD, esD, epD, hoD, hdD, hcD⟩ := hn2.count (PySem.Within.cons name v hw)
  refine wpAny_bind (wpAny_lookBehind hoD (by rw [hdD]; exact pastItsLine_dict (Nat.le_trans hcD (by rw [List.length_cons]; omega))) ?_)
  exact wpAny_pure (h _ ⟨(hs2.2 _ (Ne.symm I.ne)).trans I.obj, hn2, I.ne⟩ hs2)
theorem make_map {R : Result → Shared → Prop} {vs : List Value} {kw : List (Str × Value)} (X : K.In s.heap) (hm : PySem.W.makesIn K C = true)
    (hi : PySem.W.findIn K (.ref C) "__init__" = some (some (.ref f))) (hf : PySem.W.typeIn K (.ref f) = some (.type "function"))
    (h : codeAny (model prog w) (A.under (.builtin "type.__call__" ⟨.ref C :: vs, kw⟩)) (.call (.ref f) ⟨.ref (s.heap.objs.size + 1) :: vs, kw⟩) (PySem.W.InitBack (s.heap.objs.size + 1) R)
      { s with heap := (s.heap.push PySem.W.emptyDict).push (PySem.W.instObj C s.heap.objs.size) }) :
    codeAny (model prog w) A (.call (.ref C) ⟨vs, kw⟩) R s := by
  obtain ⟨hh, g, d, t, os⟩ := s
  exact PySem.W.make_core (PySem.W.makes_of X hm) (PySem.W.looks_findIn X hi) (fun self => PySem.W.bind_fn X self hf) (.inl rfl) h
end
def putF (f : Str) (v : V) : List (Str × V) → List (Str × V)
  | [] => [(f, v)]
  | (g, x) :: r => if g = f then (g, v) :: r else (g, x) :: putF f v r
theorem lookup_putF (f g : Str) (v : V) : ∀ fs : List (Str × V), (putF f v fs).lookup g = if g = f then some v else fs.lookup g
  | [] => by
    show List.lookup g [(f, v)] = _
    by_cases h : g = f
    · have hb : (g == f) = true := beq_iff_eq.mpr h
      simp only [List.lookup, hb, if_pos h]
    · have hb : (g == f) = false := beq_eq_false_iff_ne.mpr h
      simp only [List.lookup, hb, if_neg h]
  | (k, x) :: r => by
    have ih := lookup_putF f g v r
    rw [show putF f v ((k, x) :: r) = (if k = f then (k, v) :: r else (k, x) :: putF f v r) from rfl]
    by_cases hk : k = f
    · rw [if_pos hk]
      by_cases h : g = k
      · have hb : (g == k) = true := beq_iff_eq.mpr h
        simp only [List.lookup, hb, if_pos (h.trans hk)]
      · have hb : (g == k) = false := beq_eq_false_iff_ne.mpr h
        simp only [List.lookup, hb, if_neg (fun e : g = f => h (e.trans hk.symm))]
    · rw [if_neg hk]
      by_cases h : g = k
      · have hb : (g == k) = true := beq_iff_eq.mpr h
        simp only [List.lookup, hb, if_neg (fun e : g = f => hk (h.symm.trans e))]
      · have hb : (g == k) = false := beq_eq_false_iff_ne.mpr h
        simp only [List.lookup, hb]
        exact ih
theorem keys_putF (f : Str) (v : V) : ∀ fs : List (Str × V), f ∈ (putF f v fs).map (·.1) ∧ ∀ g, g ∈ fs.map (·.1) → g ∈ (putF f v fs).map (·.1)
  | [] => ⟨by simp [putF], fun g h => by simp at h⟩
  | (k, x) :: r => by
    obtain ⟨i1, i2⟩ := keys_putF f v r
    rw [show putF f v ((k, x) :: r) = (if k = f then (k, v) :: r else (k, x) :: putF f v r) from rfl]
    by_cases hk : k = f
    · rw [if_pos hk]
      subst hk
      exact ⟨by simp, fun g h => by simpa using h⟩
    · rw [if_neg hk]
      refine ⟨?_, fun g h => ?_⟩
      · rw [List.map_cons]
        exact List.mem_cons_of_mem _ i1
      · rw [List.map_cons] at h ⊢
        rcases List.mem_cons.mp h with e | e
        · exact List.mem_cons.mpr (.inl e)
        · exact List.mem_cons_of_mem _ (i2 g e)
theorem length_putF (f : Str) (v : V) : ∀ fs : List (Str × V), (putF f v fs).length ≤ fs.length + 1
  | [] => by simp [putF]
  | (k, x) :: r => by
    have ih := length_putF f v r
    rw [show putF f v ((k, x) :: r) = (if k = f then (k, v) :: r else (k, x) :: putF f v r) from rfl]
    by_cases hk : k = f
    · rw [if_pos hk, List.length_cons, List.length_cons]; omega
    · rw [if_neg hk, List.length_cons, List.length_cons]; omega
theorem RelO.some_of {v : V} {o : Option Value} (r : RelO (some v) o) : ∃ u, o = some u ∧ RelV v u := by
  cases o with
  | none => exact (show False from r).elim
  | some u => exact ⟨u, rfl, r⟩
theorem RelO.none_of {o : Option Value} (r : RelO none o) : o = none := by
  cases o with
  | none => rfl
  | some u => exact (show False from r).elim
theorem handed_of {v : V} {u : Value} (r : RelV v u) : PySem.W.handedIn u = true := by
  cases v with
  | non => cases (show u = Value.none from r); rfl
  | bl b => cases (show u = Value.bool b from r); rfl
  | int i => obtain ⟨t, e⟩ := (show ∃ t, u = Value.int i t from r); cases e; rfl
  | str x => obtain ⟨t, e⟩ := (show ∃ t, u = Value.str x t from r); cases e; rfl
  | byt b => obtain ⟨t, e⟩ := (show ∃ t, u = Value.bytes b t from r); cases e; rfl
  | flt b => obtain ⟨t, e⟩ := (show ∃ t, u = Value.float b t from r); cases e; rfl
  | ref a => cases (show u = Value.ref a from r); rfl
  | ty n => cases (show u = Value.type n from r); rfl
section
variable {P : Program} {w : World} {H H' : Hp} {h h' : Heap} {a C dx : Addr} {fs fs' : List (Str × V)}
theorem ins_get (hok : HOk P w H h) (e : H a = some (.ins C dx fs)) : ∃ mA, ObjM h a dx C mA ∧ (∀ f, RelO (fs.lookup f) (mA f)) ∧ PySem.Within mA (fs.map (·.1)) ∧ fs.length ≤ 1000 ∧ H dx = some (.own a) := by
  obtain ⟨d, z, ne, ob, mA, n, r, q⟩ := (show ObjOk P w H h a (.ins C dx fs) from hok a _ e)
  exact ⟨mA, ⟨ob, n, ne⟩, r, q, z, d⟩
end
structure Cls (K : PySem.W.Frag) (C : Addr) : Prop where
  pg : PySem.W.plainGet K C Str.empty = true
  hd : PySem.W.hasDictIn K C = true
  po : PySem.W.plainOver K C = true
  sa : PySem.W.findIn K (.ref C) "__setattr__" = some (some (.builtin "object.__setattr__"))
theorem Cls.get {K : PySem.W.Frag} {C : Addr} (c : Cls K C) (f : Str) : PySem.W.plainGet K C f = true := c.pg
def NoAttr (K : PySem.W.Frag) (C : Addr) (f : Str) : Prop := PySem.W.findIn K (.ref C) f = some none
theorem NoAttr.taker {K : PySem.W.Frag} {C : Addr} {f : Str} (n : NoAttr K C f) : PySem.W.takerIn K C f = some none := by
  unfold PySem.W.takerIn
  rw [show PySem.W.findIn K (.ref C) f = some none from n]
  rfl
structure Meth (K : PySem.W.Frag) (C : Addr) (m : Str) (f : Addr) : Prop where
  at_ : PySem.W.findIn K (.ref C) m = some (some (.ref f))
  fn : PySem.W.isFn K (.ref f) = true
  kp : PySem.W.keepIn K (.ref f) = true
section
variable {X : Cx} {pins : List (Addr × Obj)} {σ : St} {H : Hp} {s : Shared} {a C dx : Addr} {fs : List (Str × V)} {f : Str} {v : V} {A : Around} {E : Value → Shared → Prop}
theorem getattr_ok {b : Bool} {Q : Value → Shared → Prop} (I : Inv X pins σ H s) (e : H a = some (.ins C dx fs)) (c : Cls X.K C) (n : NoAttr X.K C f) (l : fs.lookup f = some v)
    (h : ∀ u s', Inv X pins σ H s' → RelV v u → Q u s') : wpAny (model X.prog X.w) A (getAttr (.ref a) f b) Q E s := by
  obtain ⟨mA, O, r, _, _, _⟩ := ins_get I.hok e
  obtain ⟨u, hu, ru⟩ := RelO.some_of (v := v) (o := mA f) (by rw [← l]; exact r f)
  exact get_map I.kIn O (c.get f) c.hd n hu (handed_of ru) (h u _ (I.tok _) ru)
theorem getmeth_ok {m : Str} {g : Addr} {pl : Sem Bool} {Q : Value × List Value → Shared → Prop} (I : Inv X pins σ H s) (e : H a = some (.ins C dx fs)) (c : Cls X.K C) (k : Meth X.K C m g) (l : fs.lookup m = none)
    (h : Q (.ref g, [.ref a]) s) : wpAny (model X.prog X.w) A (getMethod (.ref a) m pl) Q E s := by
  obtain ⟨mA, O, r, _, _, _⟩ := ins_get I.hok e
  have hn : mA m = none := RelO.none_of (by rw [← l]; exact r m)
  exact get_meth I.kIn O (c.get m) k.at_ k.fn hn h
theorem setattr_ok {y : V} {u : Value} {Q : Unit → Shared → Prop} (I : Inv X pins σ H s) (e : H a = some (.ins C dx fs)) (c : Cls X.K C) (n : NoAttr X.K C f) (hl : fs.length < 1000) (ry : RelV y u)
    (h : ∀ s', Inv X pins σ (upd H a (.ins C dx (putF f y fs))) s' → Q () s') : wpAny (model X.prog X.w) A (setAttr (.ref a) f u) Q E s := by
  obtain ⟨mA, O, r, wi, _, ho⟩ := ins_get I.hok e
  have hz : (fs.map (·.1)).length ≤ sizeLine := by rw [List.length_map, sizeLine_eq]; omega
  refine set_map I.kIn O c.sa c.po n.taker c.hd wi hz fun h' O' sb => h _ ?_
  have hd : ∃ o, h'.get? dx = some o := let ⟨o, _, _, e', _⟩ := O'.ns; ⟨o, e'⟩
  refine I.write (x := a) (e := dx) (by rw [e]; exact True.intro) (.inr ho) (fun b q hb z => (sb.2 b hb).trans z) hd ?_
  refine ⟨by rw [upd_ne O.ne]; exact ho, ?_, O.ne, O'.obj, _, O'.ns, fun g => ?_, fun g hg => ?_⟩
  · have := length_putF f y fs; omega
  · show RelO ((putF f y fs).lookup g) (if g = f then some u else mA g)
    rw [lookup_putF]
    by_cases q : g = f
    · rw [if_pos q, if_pos q]; exact ry
    · rw [if_neg q, if_neg q]; exact r g
  · by_cases q : g = f
    · rw [q]; exact (keys_putF f y fs).1
    · refine (keys_putF f y fs).2 g (wi g fun z => hg ?_)
      show (if g = f then some u else mA g) = none
      rw [if_neg q]; exact z
theorem Inv.made (I : Inv X pins σ H s) : Inv X pins σ (upd (upd H s.heap.objs.size (.own (s.heap.objs.size + 1))) (s.heap.objs.size + 1) (.ins C s.heap.objs.size []))
    { s with heap := (s.heap.push PySem.W.emptyDict).push (PySem.W.instObj C s.heap.objs.size) } := by
  have e1 : (s.heap.push PySem.W.emptyDict).get? s.heap.objs.size = some PySem.W.emptyDict := Heap.get?_push_size s.heap rfl
  have e2 : ((s.heap.push PySem.W.emptyDict).push (PySem.W.instObj C s.heap.objs.size)).get? (s.heap.objs.size + 1) = some (PySem.W.instObj C s.heap.objs.size) := by
    have := Heap.get?_push_size (s.heap.push PySem.W.emptyDict) (o := PySem.W.instObj C s.heap.objs.size) rfl
    rwa [Heap.size_push] at this
  have e3 : (s.heap.push PySem.W.emptyDict).Ns s.heap.objs.size (fun _ => none) := ⟨PySem.W.emptyDict, #[], _, e1, rfl, (fun e he => absurd he (by simp)), fun _ => rfl⟩
  have I1 := I.laid (a := s.heap.objs.size) (o := .own (s.heap.objs.size + 1)) (h' := s.heap.push PySem.W.emptyDict) (t' := s.toks) (fun b u q => Heap.get?_push_of_some _ q) (Nat.le_refl _) ⟨_, e1⟩
  refine I1.laid (a := s.heap.objs.size + 1) (o := .ins C s.heap.objs.size []) (t' := s.toks) (fun b u q => Heap.get?_push_of_some _ q) (Nat.le_of_eq (Heap.size_push _ _)) ?_
  have ne : s.heap.objs.size ≠ s.heap.objs.size + 1 := Nat.ne_of_lt (Nat.lt_succ_self _)
  refine ⟨by rw [upd_ne ne, upd_same], Nat.zero_le _, ne, e2, fun _ => none, (Heap.Ns1.of_empty e3).at fun o q => Heap.get?_push_of_some _ q, fun _ => True.intro, fun y hy => absurd rfl hy⟩
theorem attr_of {prog : Program} {w : World} {env : Env} {e : Expr} {f : Str} {pos : Pos} {s : Shared} {Q : Value → Shared → Prop} (hb : attributeBase e f env (eval e env) = eval e env)
    (h : wpAny (model prog w) A (eval e env) (fun o s₁ => wpAny (model prog w) A (getAttr o f true) Q E s₁) E s) : wpAny (model prog w) A (eval (.Attribute e f pos) env) Q E s :=
  Attribute_any_ h (by rw [arm_eval_Attribute, hb])
end
def tFld (K : PySem.W.Frag) (ta : TE) (f : Str) : TE := fun σ H Q => ta σ H fun x H1 => ∃ a C dx fs v, x = .ref a ∧ H1 a = some (.ins C dx fs) ∧ Cls K C ∧ NoAttr K C f ∧ fs.lookup f = some v ∧ Q v H1
def sFld (K : PySem.W.Frag) (ta tv : TE) (f : Str) : TS := fun D σ H => tv σ H fun y H1 => ta σ H1 fun x H2 => ∃ a C dx fs, x = .ref a ∧ H2 a = some (.ins C dx fs) ∧ Cls K C ∧ NoAttr K C f ∧ fs.length < 1000 ∧
  D.nx σ (upd H2 a (.ins C dx (putF f y fs)))
section
variable {X : Cx} {o e value : Expr} {f : Str} {pos pos' tpos : Pos} {ta tv : TE}
theorem pe_fld (he : PE X e ta) (hb : attributeBase e f X.env (eval e X.env) = eval e X.env) : PE X (.Attribute e f pos) (tFld X.K ta f) := by
  intro pins s σ H Q I h
  refine attr_of hb (thn (he pins s σ H _ I h) fun u s1 ⟨x, H1, I1, rx, a, C, dx, fs, v, ex, ea, c, n, l, q⟩ => ?_)
  subst ex
  obtain rfl : u = Value.ref a := rx
  exact getattr_ok I1 ea c n l fun u' s2 I2 ru => ⟨v, H1, I2, ru, q⟩
theorem ps_fld (ha : PE X o ta) (hv : PE X value tv) (hs : swapsWith value (some (.Attribute o f pos')) pos.line X.env = pure false) : PS X (.Assign [.Attribute o f pos'] value pos) (sFld X.K ta tv f) := by
  intro pins s σ H D I h
  refine plainObj_wpAny_Assign_Attribute (thn (hv pins s σ H _ I h) fun u s1 ⟨y, H1, I1, ry, q⟩ => thn (ha pins s1 σ H1 _ I1 q) fun ov s2 ⟨x, H2, I2, rx, a, C, dx, fs, ex, ea, c, n, l, q2⟩ => ?_) hs
  subst ex
  obtain rfl : ov = Value.ref a := rx
  exact setattr_ok I2 ea c n l ry fun s3 I3 => ⟨σ, _, I3, q2⟩
end
section
variable {X : Cx} {pins : List (Addr × Obj)} {σ : St} {H : Hp} {s : Shared} {A : Around} {E : Value → Shared → Prop} {Q : Value → Shared → Prop} {c : Value} {b : Bool}
inductive TyOf (K : PySem.W.Frag) (H : Hp) : V → Value → Prop where
  | non : TyOf K H .non (.type "NoneType")
  | bl (x : Bool) : TyOf K H (.bl x) (.type "bool")
  | int (i : Int) : TyOf K H (.int i) (.type "int")
  | str (x : Str) : TyOf K H (.str x) (.type "str")
  | flt (x : UInt64) : TyOf K H (.flt x) (.type "float")
  | lst {a : Addr} {xs : List V} (e : H a = some (.lst xs)) : TyOf K H (.ref a) (.type "list")
  | frz {a : Addr} {o : Obj} {xs : List V} (e : H a = some (.frz o (.lst xs))) : TyOf K H (.ref a) (.type "list")
  | tup {a : Addr} {xs : List V} (e : H a = some (.tup xs)) : TyOf K H (.ref a) (.type "tuple")
  | dK {a : Addr} {kvs : List (Key × V)} (e : H a = some (.dK kvs)) : TyOf K H (.ref a) (.type "dict")
  | dT {a : Addr} {kvs : List (List Key × V)} (e : H a = some (.dT kvs)) : TyOf K H (.ref a) (.type "dict")
  | ins {a C dx : Addr} {fs : List (Str × V)} (e : H a = some (.ins C dx fs)) (cl : Cls K C) (ha : PySem.W.findIn K (.ref C) "__class__" = some (some (.builtin "object.__class__")))
      (hn : PySem.W.specialIn K (.builtin "object.__class__") "__get__" = some (some (.builtin "getset_descriptor.__get__"))) (htk : PySem.W.takesIn K (.builtin "object.__class__") = some true)
      (hm : PySem.W.mroIn K C (.type "object") = some true) : TyOf K H (.ref a) (.ref C)
theorem isinst_ok {x : V} {u t : Value} (I : Inv X pins σ H s) (rx : RelV x u) (ty : TyOf X.K H x t) (e : PySem.W.kitOne X.K t c = some b) (h : ∀ tk, Q (.bool b) { s with toks := tk }) :
    wpAny (model X.prog X.w) A (call (.builtin "isinstance") [u, c]) Q E s := by
  cases ty with
  | non => cases (show u = Value.none from rx); exact PySem.W.kia_one PySem.W.kitx_none I.kIn True.intro e (fun z => nomatch z) h
  | bl y => cases (show u = Value.bool y from rx); exact PySem.W.kia_one PySem.W.kitx_bool I.kIn True.intro e (fun z => nomatch z) h
  | int i => obtain ⟨t, q⟩ := (show ∃ t, u = Value.int i t from rx); cases q; exact PySem.W.kia_one PySem.W.kitx_int I.kIn True.intro e (fun z => nomatch z) h
  | str y => obtain ⟨t, q⟩ := (show ∃ t, u = Value.str y t from rx); cases q; exact PySem.W.kia_one PySem.W.kitx_str I.kIn True.intro e (fun z => nomatch z) h
  | flt y => obtain ⟨t, q⟩ := (show ∃ t, u = Value.float y t from rx); cases q; exact PySem.W.kia_one PySem.W.kitx_float I.kIn True.intro e (fun z => nomatch z) h
  | @lst a xs ea =>
    cases (show u = Value.ref a from rx)
    obtain ⟨_, _, n, _, h1⟩ := (show ObjOk X.prog X.w H s.heap a (.lst xs) from I.hok a _ ea)
    exact PySem.W.kia_one PySem.W.kitx_list I.kIn ⟨_, h1, rfl⟩ e (fun z => nomatch z) h
  | @frz a ob xs ea =>
    cases (show u = Value.ref a from rx)
    obtain ⟨_, _, _, n, _, h1⟩ := (show ObjOk X.prog X.w H s.heap a (.frz ob (.lst xs)) from I.hok a _ ea)
    exact PySem.W.kia_one PySem.W.kitx_list I.kIn ⟨_, h1, rfl⟩ e (fun z => nomatch z) h
  | @tup a xs ea =>
    cases (show u = Value.ref a from rx)
    obtain ⟨_, _, _, p⟩ := (show ObjOk X.prog X.w H s.heap a (.tup xs) from I.hok a _ ea)
    obtain ⟨o, h1, h2, _⟩ := p
    exact PySem.W.kia_one PySem.W.kitx_tuple I.kIn ⟨o, h1, h2⟩ e (fun z => nomatch z) h
  | @dK a kvs ea =>
    cases (show u = Value.ref a from rx)
    obtain ⟨_, _, vs, _, p⟩ := (show ObjOk X.prog X.w H s.heap a (.dK kvs) from I.hok a _ ea)
    obtain ⟨o, es, ep, h1, h2, _⟩ := p
    exact PySem.W.kia_one PySem.W.kitx_dict I.kIn ⟨o, h1, h2.1⟩ e (fun z => nomatch z) h
  | @dT a kvs ea =>
    cases (show u = Value.ref a from rx)
    obtain ⟨_, _, xs, _, o, es, ep, h1, h2, _⟩ := (show ObjOk X.prog X.w H s.heap a (.dT kvs) from I.hok a _ ea)
    exact PySem.W.kia_one PySem.W.kitx_dict I.kIn ⟨o, h1, h2.1⟩ e (fun z => nomatch z) h
  | @ins a C dx fs ea cl ha hn htk hm =>
    cases (show u = Value.ref a from rx)
    obtain ⟨mA, O, _⟩ := ins_get I.hok ea
    obtain ⟨od, J, _⟩ := O.look
    exact PySem.W.kia_one (PySem.W.kitx_own (cl.get _) cl.hd ha hn htk hm) I.kIn J e (fun z => nomatch z) h
end
end L2
namespace L2
open PySem PySem.Spec PyProof.Rows
structure Room (k : Nat) (A : Around) : Prop where
  hd : A.handled = none
  dp : A.depth + 3 * k + 5 < recursionLimit
  un : A.units + 16 * k + 200 < cLine
theorem Room.mono {j k : Nat} {A : Around} (r : Room k A) (h : j ≤ k) : Room j A := ⟨r.hd, by have := r.dp; omega, by have := r.un; omega⟩
theorem Room.deeper {k : Nat} {A : Around} (r : Room (k + 1) A) (env : Env) : Room k (A.deeper env) :=
  ⟨r.hd, by have := r.dp; show A.depth + 1 + 3 * k + 5 < _; omega, by have := r.un; show A.units + 3 + 16 * k + 200 < _; omega⟩
theorem Room.in1 {k : Nat} {A : Around} (r : Room (k + 1) A) : Room k A.in1 :=
  ⟨r.hd, by have := r.dp; show A.depth + 3 * k + 5 < _; omega, by have := r.un; show A.units + 1 + 16 * k + 200 < _; omega⟩
theorem make_depth {A : Around} {C : Addr} {us : List Value} {kw : List (Str × Value)} : (A.under (.builtin "type.__call__" ⟨.ref C :: us, kw⟩)).depth = A.depth + 1 := by
  first | rfl | simp [Around.under, Code.weight, Code.isCreation, Code.isGuard, Code.isCaller, Code.frames, Code.isFrame, guardIds]
theorem make_units {A : Around} {C : Addr} {us : List Value} {kw : List (Str × Value)} : (A.under (.builtin "type.__call__" ⟨.ref C :: us, kw⟩)).units = A.units + 1 := by
  first | rfl | simp [Around.under, Code.cUnits, Code.frames, Code.isFrame]
theorem Room.make {k : Nat} {A : Around} (r : Room (k + 1) A) (C : Addr) (us : List Value) (kw : List (Str × Value)) : Room k (A.under (.builtin "type.__call__" ⟨.ref C :: us, kw⟩)) :=
  ⟨r.hd, by have := r.dp; rw [make_depth]; omega, by have := r.un; rw [make_units]; omega⟩
theorem Room.depth {k : Nat} {A : Around} (r : Room k A) : A.depth < recursionLimit := by have := r.dp; omega
theorem Room.units {k : Nat} {A : Around} (r : Room k A) : A.units + 64 < cLine := by have := r.un; omega
def tNil : TA := fun _ H Q => Q [] H
def tCons (ta : TE) (tr : TA) : TA := fun σ H Q => ta σ H fun x H1 => tr σ H1 fun xs H2 => Q (x :: xs) H2
section
variable {X : Cx} {e : Expr} {es : List Expr} {te : TE} {t : TA} {pos : Pos}
theorem pa_nil : PA X [] tNil := fun _ _ _ _ H Q I h => Calls.spliced_nil ⟨[], H, I, .nil, h⟩
theorem pa_cons (ha : PE X e te) (hr : PA X es t) (hs : starEach (e :: es) X.env = (false, eval e X.env) :: starEach es X.env := by rfl) : PA X (e :: es) (tCons te t) := by
  intro pos pins s σ H Q I h
  rw [hs]
  show wpAny _ _ (spliced ((false, eval e X.env) :: backTo pos (starEach es X.env))) _ _ s
  refine Calls.spliced_cons (thn (ha pins s σ H _ I h) fun u s1 ⟨x, H1, I1, r1, q1⟩ => ?_)
  exact thn (hr pos pins s1 σ H1 _ I1 q1) fun us s2 ⟨xs, H2, I2, r2, q2⟩ => ⟨x :: xs, H2, I2, .cons r1 r2, q2⟩
def tTup (t : TA) : TE := fun σ H Q => t σ H fun xs H1 => xs.length ≤ sizeLine ∧ ∀ p, H1 p = none → Q (.ref p) (upd H1 p (.tup xs))
def tLst (t : TA) : TE := fun σ H Q => t σ H fun xs H1 => xs.length ≤ sizeLine ∧ ∀ p, H1 p = none → Q (.ref p) (upd H1 p (.lst xs))
theorem pe_tup {x1} (h : PA X es t) : PE X (.Tuple es x1 pos) (tTup t) := by
  intro pins s σ H Q I hq
  refine wpAny_Tuple_spliced (thn (h pos pins s σ H _ I hq) fun us s1 ⟨xs, H1, I1, r, z, q⟩ => ⟨by rw [← r.length]; exact z, ?_⟩)
  have hf : H1 s1.heap.objs.size = none := I1.hok.fresh (Nat.le_refl _)
  refine ⟨.ref s1.heap.objs.size, upd H1 s1.heap.objs.size (.tup xs), I1.laid (t' := s1.toks) (fun b u e => Heap.get?_push_of_some _ e) (Nat.le_refl _) ?_, rfl, q _ hf⟩
  exact ⟨z, us, r, ⟨_, Heap.get?_push_size _ rfl, rfl, _, rfl⟩⟩
theorem pe_lst (h : PA X es t) : PE X (.List es pos) (tLst t) := by
  intro pins s σ H Q I hq
  refine wpAny_List_spliced (thn (h pos pins s σ H _ I hq) fun us s1 ⟨xs, H1, I1, r, z, q⟩ => ⟨by rw [← r.length]; exact z, ?_⟩)
  have hf : H1 s1.heap.objs.size = none := I1.hok.fresh (Nat.le_refl _)
  refine ⟨.ref s1.heap.objs.size, upd H1 s1.heap.objs.size (.lst xs), I1.laid (t' := s1.toks) (fun b u e => Heap.get?_push_of_some _ e) (Nat.le_refl _) ?_, rfl, q _ hf⟩
  exact ⟨z, us, 0, r, Heap.get?_push_size _ rfl⟩
end
abbrev Sp := List V → Hp → VK → XK → Prop
abbrev CXT := List Env → Hp → Shared → XK → Value → Shared → Prop
structure Env0 (P : Program) (w : World) (K : PySem.W.Frag) (mg : Str → Option Value) (base : Heap) (A : Around) (outer : List Env) (s : Shared) (H : Hp) : Prop where
  frames : A.frames = some outer
  mod : Mod K mg base
  bs : ∀ b o, base.get? b = some o → s.heap.get? b = some o ∧ H b = none
  bsz : base.objs.size ≤ s.heap.objs.size
  funs : s.heap.FunFrames base outer
  frf : ∀ b ∈ frs outer, H b = none
  hok : HOk P w H s.heap
  bare : AllBare s.gens
def CE (outer : List Env) (P : Program) (w : World) (H : Hp) (s : Shared) (Q : VK) (u : Value) (s' : Shared) : Prop :=
  ∃ v H', s'.os = s.os ∧ AllBare s'.gens ∧ Un (frs outer) [] H H' s.heap s'.heap ∧ HOk P w H' s'.heap ∧ RelV v u ∧ Q v H'
def CR (CX : CXT) (outer : List Env) (P : Program) (w : World) (H : Hp) (s : Shared) (Q : VK) (E : XK) (r : Result) (s' : Shared) : Prop :=
  match r with
  | .ok (.ret u) => CE outer P w H s Q u s'
  | .ok _ => False
  | .error e => CX outer H s E e s'
structure FnOk (P : Program) (w : World) (K : PySem.W.Frag) (mg : Str → Option Value) (base : Heap) (CX : CXT) (k : Nat) (f : Addr) (fd : FuncData) (ps : List Str) (sp : Sp) : Prop where
  len : ∀ vs H Q E, sp vs H Q E → vs.length = ps.length
  run : ∀ (A : Around) (outer : List Env) (s : Shared) (H : Hp) (args : Args) (us : List Value) (vs : List V) (Q : VK) (E : XK), Room k A → Env0 P w K mg base A outer s H → BindsTo s fd args (ps.zip us) → Vals vs us → sp vs H Q E →
    codeAny (model P w) A (.call (.ref f) args) (CR CX outer P w H s Q E) s
theorem FnOk.mono {P : Program} {w : World} {K : PySem.W.Frag} {mg : Str → Option Value} {base : Heap} {CX : CXT} {j k : Nat} {f : Addr} {fd : FuncData} {ps : List Str} {sp : Sp} (F : FnOk P w K mg base CX j f fd ps sp) (h : j ≤ k) :
    FnOk P w K mg base CX k f fd ps sp := ⟨F.len, fun A outer s H args us vs Q E hr => F.run A outer s H args us vs Q E (hr.mono h)⟩
theorem FnOk.imp {P : Program} {w : World} {K : PySem.W.Frag} {mg : Str → Option Value} {base : Heap} {CX : CXT} {k : Nat} {f : Addr} {fd : FuncData} {ps : List Str} {sp sp' : Sp} (F : FnOk P w K mg base CX k f fd ps sp)
    (h : ∀ vs H Q E, sp' vs H Q E → sp vs H Q E) : FnOk P w K mg base CX k f fd ps sp' :=
  ⟨fun vs H Q E q => F.len vs H Q E (h _ _ _ _ q), fun A outer s H args us vs Q E hr he hb hv hs => F.run A outer s H args us vs Q E hr he hb hv (h _ _ _ _ hs)⟩
theorem Env0.make {P : Program} {w : World} {K : PySem.W.Frag} {mg : Str → Option Value} {base : Heap} {A : Around} {outer : List Env} {s : Shared} {H : Hp} (e : Env0 P w K mg base A outer s H) (C : Addr) (us : List Value) (kw : List (Str × Value)) :
    Env0 P w K mg base (A.under (.builtin "type.__call__" ⟨.ref C :: us, kw⟩)) outer s H := ⟨by first | exact e.frames | (simpa [Around.under, Code.envs, Code.isFrame, pushEnvs] using e.frames), e.mod, e.bs, e.bsz, e.funs, e.frf, e.hok, e.bare⟩
theorem Env0.in1 {P : Program} {w : World} {K : PySem.W.Frag} {mg : Str → Option Value} {base : Heap} {A : Around} {outer : List Env} {s : Shared} {H : Hp} (e : Env0 P w K mg base A outer s H) :
    Env0 P w K mg base A.in1 outer s H := ⟨e.frames, e.mod, e.bs, e.bsz, e.funs, e.frf, e.hok, e.bare⟩
section
variable {X : Cx} {pins : List (Addr × Obj)} {σ : St} {H : Hp} {s s' : Shared}
theorem Inv.env0 (I : Inv X pins σ H s) : Env0 X.prog X.w X.K X.mg X.base X.A X.stack s H :=
  ⟨I.ok.frames, I.ok.mod, I.bs, Nat.le_trans I.ok.bsz I.sz, I.stack, I.stkFree, I.hok, I.bare⟩
theorem Inv.after {Q : VK} {u : Value} (I : Inv X pins σ H s) (h : CE X.stack X.prog X.w H s Q u s') : EP X pins σ Q u s' := by
  obtain ⟨v, H', os, bare, un, hok, r, q⟩ := h
  obtain ⟨hh, g, d, t, os'⟩ := s'
  obtain rfl : os' = s.os := os
  exact ⟨v, H', I.call (h' := hh) (g' := g) (d' := d) (t' := t) (ch := []) un hok bare (fun b z => absurd z (by simp)), r, q⟩
end
def tCall (sp : Sp) (dvs : List V) (E : XK) (t : TA) : TE := fun σ H Q => t σ H fun vs H1 => sp (vs ++ dvs) H1 Q E
def tMeth (C : Addr) (m : Str) (sp : Sp) (dvs : List V) (E : XK) (ta : TE) (t : TA) : TE := fun σ H Q => ta σ H fun x H1 => ∃ a dx fs, x = .ref a ∧ H1 a = some (.ins C dx fs) ∧ fs.lookup m = none ∧
  t σ H1 fun vs H2 => sp (x :: (vs ++ dvs)) H2 Q E
def tMake (C : Addr) (sp : Sp) (dvs : List V) (E : XK) (t : TA) : TE := fun σ H Q => t σ H fun vs H1 => ∀ x dx, H1 x = none → H1 dx = none → dx ≠ x →
  sp (.ref x :: (vs ++ dvs)) (upd (upd H1 dx (.own x)) x (.ins C dx [])) (fun v H2 => v = .non ∧ Q (.ref x) H2) E
def Binds (K : PySem.W.Frag) (fd : FuncData) (ps : List Str) (ds : List Value) : Prop :=
  ∀ (s : Shared) (us : List Value), K.In s.heap → (us ++ ds).length = ps.length → BindsTo s fd ⟨us, []⟩ (ps.zip (us ++ ds))
theorem Binds.all {K : PySem.W.Frag} {fd : FuncData} {ps : List Str} (h : ∀ us : List Value, us.length = ps.length → bindArgs fd ⟨us, []⟩ = pure (ps.zip us)) : Binds K fd ps [] := fun s us _ hl => by
  rw [List.append_nil] at hl ⊢
  exact .of_eq (h us hl)
def Passes (CX : CXT) (X : Cx) (E : XK) : Prop := ∀ (pins : List (Addr × Obj)) (σ : St) (H : Hp) (s : Shared) (e : Value) (s' : Shared), Inv X pins σ H s → CX X.stack H s E e s' → X.xe e s'
section
variable {X : Cx} {CX : CXT} {k : Nat} {f C : Addr} {fd : FuncData} {ps : List Str} {sp : Sp} {dvs : List V} {ds : List Value} {E : XK} {x m : Str} {p pos apos : Pos} {e o : Expr} {es : List Expr} {ta : TE} {t : TA}
theorem run_fn {pins : List (Addr × Obj)} {σ : St} {H : Hp} {s : Shared} {Q : VK} {us : List Value} {vs : List V} (F : FnOk X.prog X.w X.K X.mg X.base CX k f fd ps sp) (hr : Room k X.A) (hb : Binds X.K fd ps ds) (hd : Vals dvs ds) (hx : Passes CX X E)
    (I : Inv X pins σ H s) (r : Vals vs us) (h : sp (vs ++ dvs) H Q E) : wpAny (model X.prog X.w) X.A (call (.ref f) us) (EP X pins σ Q) X.xe s := by
  have r2 : Vals (vs ++ dvs) (us ++ ds) := r.append hd
  have hl : (us ++ ds).length = ps.length := by rw [← r2.length]; exact F.len _ _ _ _ h
  refine wpAny_call (codeAny_mono (F.run X.A X.stack s H ⟨us, []⟩ (us ++ ds) (vs ++ dvs) Q E hr I.env0 (hb s us I.kIn hl) r2 h) fun r s' hq => ?_)
  cases r with
  | error e => exact hx pins σ H s e s' I hq
  | ok fl =>
    cases fl with
    | ret u => exact I.after hq
    | next => exact False.elim hq
    | brk => exact False.elim hq
    | cont => exact False.elim hq
theorem pe_call (F : FnOk X.prog X.w X.K X.mg X.base CX k f fd ps sp) (hr : Room k X.A) (hg : Gl X x) (hm : X.mg x = some (.ref f)) (hk : PySem.W.keepIn X.K (.ref f) = true) (hb : Binds X.K fd ps ds) (hd : Vals dvs ds) (hx : Passes CX X E)
    (ha : PA X (e :: es) t) (hdb : (x == ("__debug__" : Str)) = false := by decide) (he : starEach (e :: es) X.env = (false, eval e X.env) :: starEach es X.env := by rfl) (hpl : (backTo pos (starEach es X.env)).any (·.1) = false := by rfl) :
    PE X (.Call (.Name x p) (e :: es) [] pos) (tCall sp dvs E t) := by
  intro pins s σ H Q I h
  refine wpAny_Call_Name_kw (ld_glob I hg hm ?_ hdb)
  refine PySem.W.callWith_K (h₀ := X.base) I.ok.mod.kin hk (thn (ha pos pins s σ H _ I h) fun us s1 ⟨vs, H1, I1, r, q⟩ => ⟨I1.kIn, ?_⟩) he hpl
  exact run_fn F hr hb hd hx I1 r q
theorem pe_meth {pl : Sem Bool} (he : PE X o ta) (c : Cls X.K C) (hm : Meth X.K C m f) (F : FnOk X.prog X.w X.K X.mg X.base CX k f fd ps sp) (hr : Room k X.A) (hb : Binds X.K fd ps ds) (hd : Vals dvs ds) (hx : Passes CX X E) (ha : PA X (e :: es) t)
    (hst : starEach (e :: es) X.env = (false, eval e X.env) :: starEach es X.env := by rfl) (hpl : (backTo pos (starEach es X.env)).any (·.1) = false := by rfl)
    (ht : eval (.Call (.Attribute o m apos) (e :: es) [] pos) X.env = (do
      let ov ← eval o X.env
      standAt apos.atName
      let (f, first) ← holding [ov] (getMethod ov m pl)
      callWith pos f first (backTo pos (starEach (e :: es) X.env)) (backToKw pos (keywordEach [] X.env))) := by rfl) :
    PE X (.Call (.Attribute o m apos) (e :: es) [] pos) (tMeth C m sp dvs E ta t) := by
  intro pins s σ H Q I h
  refine PySem.W.methodCall_KW (pl := pl) (thn (he pins s σ H _ I h) fun u s1 ⟨x, H1, I1, rx, a, dx, fs, ex, ea, l, q⟩ => ?_) ht
  subst ex
  obtain rfl : u = Value.ref a := rx
  refine getmeth_ok I1 ea c hm l ?_
  refine PySem.W.callWith_K (first := [.ref a]) (h₀ := X.base) I.ok.mod.kin hm.kp (thn (ha pos pins s1 σ H1 _ I1 q) fun us s2 ⟨vs, H2, I2, r, q2⟩ => ⟨I2.kIn, ?_⟩) hst hpl
  exact run_fn (us := .ref a :: us) (vs := .ref a :: vs) F hr hb hd hx I2 (.cons rfl r) q2
structure Mk (K : PySem.W.Frag) (C f : Addr) : Prop where
  makes : PySem.W.makesIn K C = true
  init : PySem.W.findIn K (.ref C) "__init__" = some (some (.ref f))
  fn : PySem.W.isFn K (.ref f) = true
  kp : PySem.W.keepIn K (.ref C) = true
theorem run_make {pins : List (Addr × Obj)} {σ : St} {H : Hp} {s : Shared} {Q : VK} {us : List Value} {vs : List V} (M : Mk X.K C f) (F : FnOk X.prog X.w X.K X.mg X.base CX k f fd ps sp) (hr : Room (k + 1) X.A) (hb : Binds X.K fd ps ds) (hd : Vals dvs ds)
    (hx : Passes CX X E) (I : Inv X pins σ H s) (r : Vals vs us)
    (h : ∀ x dx, H x = none → H dx = none → dx ≠ x → sp (.ref x :: (vs ++ dvs)) (upd (upd H dx (.own x)) x (.ins C dx [])) (fun v H2 => v = .non ∧ Q (.ref x) H2) E) :
    wpAny (model X.prog X.w) X.A (call (.ref C) us) (EP X pins σ Q) X.xe s := by
  have hq := h (s.heap.objs.size + 1) s.heap.objs.size (I.hok.fresh (Nat.le_succ _)) (I.hok.fresh (Nat.le_refl _)) (Nat.ne_of_lt (Nat.lt_succ_self _))
  have I2 := Inv.made (C := C) I
  have r2 : Vals (V.ref (s.heap.objs.size + 1) :: (vs ++ dvs)) (Value.ref (s.heap.objs.size + 1) :: (us ++ ds)) := .cons rfl (r.append hd)
  have hl : (Value.ref (s.heap.objs.size + 1) :: us ++ ds).length = ps.length := by
    have e := r2.length
    rw [F.len _ _ _ _ hq] at e
    exact e.symm
  refine wpAny_call (make_map (f := f) I.kIn M.makes M.init (beq_iff_eq.mp M.fn) (codeAny_mono (F.run _ X.stack _ _ ⟨Value.ref (s.heap.objs.size + 1) :: us, []⟩ (Value.ref (s.heap.objs.size + 1) :: (us ++ ds)) _ _ E (hr.make C us [])
    (I2.env0.make C us []) (hb _ (Value.ref (s.heap.objs.size + 1) :: us) I2.kIn hl) r2 hq) fun r s' hq' => ?_))
  cases r with
  | error e => exact hx pins σ _ _ e s' I2 hq'
  | ok fl =>
    cases fl with
    | ret u =>
      obtain ⟨v, H', I3, rv, ev, q3⟩ := I2.after hq'
      subst ev
      exact ⟨rv, ⟨V.ref (s.heap.objs.size + 1), H', I3, rfl, q3⟩⟩
    | next => exact False.elim hq'
    | brk => exact False.elim hq'
    | cont => exact False.elim hq'
theorem pe_make (M : Mk X.K C f) (F : FnOk X.prog X.w X.K X.mg X.base CX k f fd ps sp) (hr : Room (k + 1) X.A) (hg : Gl X x) (hm : X.mg x = some (.ref C)) (hb : Binds X.K fd ps ds) (hd : Vals dvs ds) (hx : Passes CX X E)
    (ha : PA X (e :: es) t) (hdb : (x == ("__debug__" : Str)) = false := by decide) (he : starEach (e :: es) X.env = (false, eval e X.env) :: starEach es X.env := by rfl) (hpl : (backTo pos (starEach es X.env)).any (·.1) = false := by rfl) :
    PE X (.Call (.Name x p) (e :: es) [] pos) (tMake C sp dvs E t) := by
  intro pins s σ H Q I h
  refine wpAny_Call_Name_kw (ld_glob I hg hm ?_ hdb)
  refine PySem.W.callWith_K (h₀ := X.base) I.ok.mod.kin M.kp (thn (ha pos pins s σ H _ I h) fun us s1 ⟨vs, H1, I1, r, q⟩ => ⟨I1.kIn, ?_⟩) he hpl
  exact run_make M F hr hb hd hx I1 r q
end
def PK (X : Cx) (kws : List Keyword) (t : TA) : Prop :=
  ∀ (pos : Pos) (pins : List (Addr × Obj)) (s : Shared) (σ : St) (H : Hp) (Q : List V → Hp → Prop), Inv X pins σ H s → t σ H Q → wpAny (model X.prog X.w) X.A (evalAll ((backToKw pos (keywordEach kws X.env)).map (·.2))) (AP X pins σ Q) X.xe s
section
variable {X : Cx} {CX : CXT} {k : Nat} {f C : Addr} {fd : FuncData} {ps ks : List Str} {sp : Sp} {E : XK} {x m : Str} {p pos apos kpos : Pos} {e o : Expr} {es : List Expr} {kws : List Keyword} {te ta : TE} {t tk : TA} {nm : Option Str}
variable {g : List Value → List Value → List Value} {gV : List V → List V → List V}
end
structure FnScope (N P : List Str) (sc : Scope) : Prop where
  kind : sc.kind = .function
  co : sc.isCoroutine = false
  gen : sc.isGenerator = false
  nd : N.Nodup
  pre : N.take P.length = P
  par : ∀ x ∈ P, sc.names.lookup x = some .local ∨ sc.names.lookup x = some .cell
  nofree : ∀ y ∈ sc.names, y.2 ≠ .free
theorem bindL_out {kindOf : Str → Option NameKind} {x : Str} : ∀ {binds : List (Str × Value)} {m : Str → Option Value}, (∀ v, (x, v) ∉ binds) → bindL kindOf binds m x = m x
  | [], _, _ => rfl
  | (n, v) :: r, m, h => by
    unfold bindL
    rw [bindL_out fun w hw => h w (List.mem_cons_of_mem _ hw)]
    split
    · have : x ≠ n := by rintro rfl; exact h v List.mem_cons_self
      simp [this]
    · rfl
theorem bindC_out {kindOf : Str → Option NameKind} {x : Str} : ∀ {binds : List (Str × Value)} {m : Str → Option Value}, (∀ v, (x, v) ∉ binds) → bindC kindOf binds m x = m x
  | [], _, _ => rfl
  | (n, v) :: r, m, h => by
    unfold bindC
    rw [bindC_out fun w hw => h w (List.mem_cons_of_mem _ hw)]
    split
    · rfl
    · have : x ≠ n := by rintro rfl; exact h v List.mem_cons_self
      simp [this]
theorem bindL_get {kindOf : Str → Option NameKind} {x : Str} {v : Value} : ∀ {P : List Str} {vs : List Value} {i : Nat} {m : Str → Option Value}, P.Nodup → P[i]? = some x → vs[i]? = some v → kindOf x = some .local →
    bindL kindOf (P.zip vs) m x = some v
  | [], _, _, _, _, h, _, _ => by simp at h
  | _ :: _, [], _, _, _, _, h, _ => by simp at h
  | p :: P, w :: vs, 0, m, nd, h1, h2, hk => by
    simp at h1 h2; subst h1; subst h2
    show bindL kindOf ((p, w) :: P.zip vs) m p = _
    unfold bindL
    rw [bindL_out fun v hv => (List.nodup_cons.mp nd).1 (List.of_mem_zip hv).1, if_pos hk]
    simp
  | p :: P, w :: vs, i + 1, m, nd, h1, h2, hk => by
    show bindL kindOf ((p, w) :: P.zip vs) m x = _
    unfold bindL
    exact bindL_get (i := i) (List.nodup_cons.mp nd).2 (by simpa using h1) (by simpa using h2) hk
theorem bindC_get {kindOf : Str → Option NameKind} {x : Str} {v : Value} : ∀ {P : List Str} {vs : List Value} {i : Nat} {m : Str → Option Value}, P.Nodup → P[i]? = some x → vs[i]? = some v → kindOf x ≠ some .local →
    bindC kindOf (P.zip vs) m x = some v
  | [], _, _, _, _, h, _, _ => by simp at h
  | _ :: _, [], _, _, _, _, h, _ => by simp at h
  | p :: P, w :: vs, 0, m, nd, h1, h2, hk => by
    simp at h1 h2; subst h1; subst h2
    show bindC kindOf ((p, w) :: P.zip vs) m p = _
    unfold bindC
    rw [bindC_out fun v hv => (List.nodup_cons.mp nd).1 (List.of_mem_zip hv).1, if_neg hk]
    simp
  | p :: P, w :: vs, i + 1, m, nd, h1, h2, hk => by
    show bindC kindOf ((p, w) :: P.zip vs) m x = _
    unfold bindC
    exact bindC_get (i := i) (List.nodup_cons.mp nd).2 (by simpa using h1) (by simpa using h2) hk
def start (N : List Str) (vs : List V) : St := vs.map some ++ List.replicate (N.length - vs.length) none
def cxOf (CX : CXT) (P : Program) (w : World) (K : PySem.W.Frag) (mg : Str → Option Value) (base : Heap) (N : List Str) (qual : Str) (scope : Scope) (f : Addr) (cd : Value) (A : Around) (outer : List Env) (s : Shared) (H : Hp) (E : XK) : Cx where
  prog := P
  w := w
  K := K
  mg := mg
  base := base
  A := A.deeper (envOfC qual scope s.heap.objs.size f cd)
  N := N
  s₀ := s
  H₀ := H
  env := envOfC qual scope s.heap.objs.size f cd
  outer := outer
  stack := envOfC qual scope s.heap.objs.size f cd :: outer
  ex := []
  calm := true
  fn := fun _ => true
  pn := []
  xe := fun e s' => wpAny (model P w) (A.deeper (envOfC qual scope s.heap.objs.size f cd)) (leaving (envOfC qual scope s.heap.objs.size f cd) e) (fun _ s'' => CX outer H s E e s'') (fun e' s'' => CX outer H s E e' s'') s'
theorem cell_has {sc : Scope} {n : Nat} {x : Str} (h : sc.names.lookup x = some .cell) : ∃ c, (cellsFrom n sc.names []).lookup x = some c := by
  have q := PySem.W.cellsFrom_some sc.names n [] (.inl h)
  exact Option.isSome_iff_exists.mp q
theorem inv_start {CX : CXT} {P : Program} {w : World} {K : PySem.W.Frag} {mg : Str → Option Value} {base : Heap} {N ps : List Str} {qual : Str} {scope : Scope} {f : Addr} {cd : Value} {A : Around} {outer : List Env} {s s1 : Shared} {H : Hp} {E : XK} {us : List Value} {vs : List V}
    (S : FnScope N ps scope) (hd : A.handled = none) (e0 : Env0 P w K mg base A outer s H) (hl : vs.length = ps.length) (r : Vals vs us)
    (x : InCallC s s.heap.objs.size (bindL (envOfC qual scope s.heap.objs.size f cd).kindOf (ps.zip us) fun _ => none) (cellsFrom (s.heap.objs.size + 1) scope.names []) (bindC (envOfC qual scope s.heap.objs.size f cd).kindOf (ps.zip us) fun _ => none) s1) :
    Inv (cxOf CX P w K mg base N qual scope f cd A outer s H E) [] (start N vs) H s1 := by
  have hpl : ps.length ≤ N.length := by have := congrArg List.length S.pre; rw [List.length_take] at this; omega
  obtain ⟨h1, tk, rfl, hk⟩ := x.done
  have noA : ∀ b : Addr, b ∉ (cxOf CX P w K mg base N qual scope f cd A outer s H E).ex := fun b z => absurd (show b ∈ ([] : List Addr) from z) (by simp)
  refine ⟨⟨e0.mod, S.kind, rfl, rfl, Nat.le_refl _, fun y z c h1 h2 => ?_, fun y hy => ?_, fun y c _ h => ?_, fun _ => hd, Around.frames_deeper e0.frames, .inr ⟨rfl, rfl⟩, fun b z => absurd z (noA b), e0.bs, e0.bsz, fun b _ _ => noA b, fun b z => absurd z (noA b), e0.funs, e0.frf⟩,
    rfl, e0.bare, Un.kept hk, ⟨_, x.toInCall.ns, fun i y v h1 h2 h3 => ?_⟩, fun y c h => ⟨_, x.cell y c h⟩, e0.hok.fresh (Nat.le_refl _), fun y c h => ?_, fun p hp => absurd (show p ∈ ([] : List (Addr × Obj)) from hp) (by simp), e0.hok.kept hk, ?_⟩
  · exact name_of_addr x.apart (PySem.mem_of_lookup h1) (PySem.mem_of_lookup h2)
  · have hy : scope.names.lookup y = some .cell ∨ scope.names.lookup y = some .free := hy
    rcases hy with hy | hy
    · exact cell_has hy
    · exact absurd rfl (S.nofree _ (PySem.mem_of_lookup hy))
  · exact Nat.le_of_lt (x.above y c (PySem.mem_of_lookup h))
  · have hi : i < vs.length := by
      unfold start at h2
      by_cases hi : i < vs.length
      · exact hi
      · rw [List.getElem?_append_right (by simpa using hi)] at h2
        rw [List.getElem?_replicate] at h2
        split at h2 <;> cases h2
    have ha : vs[i]? = some v := by
      unfold start at h2
      rw [List.getElem?_append_left (by simpa using hi), List.getElem?_map] at h2
      cases e : vs[i]? with
      | none => rw [e] at h2; cases h2
      | some a => rw [e] at h2; cases h2; rfl
    obtain ⟨u, hu, rv⟩ := r.get ha
    have hp : ps[i]? = some y := by
      rw [← S.pre, List.getElem?_take_of_lt (by omega)]; exact h1
    have ndP : ps.Nodup := by rw [← S.pre]; exact S.nd.sublist (List.take_sublist _ _)
    refine ⟨u, rv, ?_⟩
    rcases S.par y (List.mem_of_getElem? hp) with k | k
    · exact .inl ⟨k, bindL_get ndP hp hu k⟩
    · obtain ⟨c, e⟩ := cell_has (n := s.heap.objs.size + 1) k
      refine .inr ⟨.inl k, c, e, ?_⟩
      have q := x.cell y c e
      rw [bindC_get ndP hp hu (by show scope.names.lookup y ≠ _; rw [k]; decide)] at q
      exact q
  · exact e0.hok.fresh (Nat.le_of_lt (x.above y c (PySem.mem_of_lookup h)))
  · unfold start
    show _ = N.length
    rw [List.length_append, List.length_map, List.length_replicate]
    omega
theorem fn_of {CX : CXT} {P : Program} {w : World} {K : PySem.W.Frag} {mg : Str → Option Value} {base : Heap} {k : Nat} {f : Addr} {name qual : Str} {params : Arguments} {body : List Stmt} {scope : Scope} {dV kV doc pm cdv ct oc : Value} {an od : Option Addr}
    {osl : Array (Option Value)} {N ps : List Str} {sp : Sp} (lk : K.lookup f = some ⟨oc, od, .func (PySem.W.fnOf name qual params body scope dV kV doc pm an cdv ct), osl⟩) (hcd : PySem.W.codeIn K cdv qual = true) (S : FnScope N ps scope)
    (len : ∀ vs H Q E, sp vs H Q E → vs.length = ps.length)
    (hbody : ∀ (A : Around) (outer : List Env) (s : Shared) (H : Hp) (vs : List V) (Q : VK) (E : XK), Room k (A.deeper (envOfC qual scope s.heap.objs.size f cdv)) → sp vs H Q E →
      ∃ t, PSs (cxOf CX P w K mg base N qual scope f cdv A outer s H E) body t ∧ t { nx := fun _ H' => Q .non H', rt := Q } (start N vs) H) :
    FnOk P w K mg base CX (k + 1) f (PySem.W.fnOf name qual params body scope dV kV doc pm an cdv ct) ps sp := by
  refine ⟨len, fun A outer s H args us vs Q E hr e0 hb r hsp => ?_⟩
  have hl := len _ _ _ _ hsp
  have KX : K.In s.heap := e0.mod.kin.keeps fun b o e => (e0.bs b o e).1
  have lim : s.heap.NoLimit := e0.mod.nolimit.keeps fun b o e => (e0.bs b o e).1
  have hkind : ∀ y ∈ ps.zip us, scope.names.lookup y.1 = some .local ∨ (scope.names.lookup y.1 = some .cell ∧ ((cellsFrom (s.heap.objs.size + 1) scope.names []).lookup y.1).isSome = true) := fun ⟨n, v⟩ hy => by
    rcases S.par n (List.of_mem_zip hy).1 with q | q
    · exact .inl q
    · exact .inr ⟨q, PySem.W.cellsFrom_some _ _ _ (.inl q)⟩
  refine codeAny_call_function hr.depth (KX _ _ lk) rfl S.co S.gen rfl (PySem.W.codeRec_of KX hcd) (hb _ _ _ _ ?_)
  refine wpAny_newFunctionEnv_cells S.kind hkind fun env he s1 x => ?_
  subst he
  refine ⟨lim.keeps x.toInCall.keep, codeAny_func ?_⟩
  obtain ⟨t, ht, hq⟩ := hbody A outer s H vs Q E (hr.deeper _) hsp
  have I : Inv (cxOf CX P w K mg base N qual scope f cdv A outer s H E) [] (start N vs) H s1 := inv_start S hr.hd e0 hl r x
  refine wpAny_mono (ht [] s1 (start N vs) H _ I hq) (fun fl s' hs => ?_) fun e s' hs => hs
  have fin : ∀ {σ' : St} {H' : Hp} {v : V} {u : Value}, Inv (cxOf CX P w K mg base N qual scope f cdv A outer s H E) [] σ' H' s' → RelV v u → Q v H' → CE outer P w H s Q u s' :=
    fun {σ' H' v u} J rv q => ⟨v, H', J.os, J.bare, J.base, J.hok, rv, q⟩
  cases fl with
  | ret u =>
    obtain ⟨v, σ', H', J, rv, q⟩ := hs
    exact fin J rv q
  | next =>
    obtain ⟨σ', H', J, q⟩ := hs
    exact fin (v := V.non) (u := Value.none) J rfl q
  | brk =>
    obtain ⟨_, _, _, q⟩ := hs
    exact False.elim q
  | cont =>
    obtain ⟨_, _, _, q⟩ := hs
    exact False.elim q
end L2
namespace L2
open PySem PySem.Spec PyProof.Rows
section
variable {X : Cx} {x : Str} {p pos : Pos} {e : Expr} {es : List Expr} {t : TA} {id T : String} {r : List V → Hp → VK → Prop}
def tCB (r : List V → Hp → VK → Prop) (t : TA) : TE := fun σ H Q => t σ H fun vs H1 => r vs H1 Q
theorem pe_callB (hc : CallR X (.builtin id) r) (hg : Gl X x) (hm : X.mg x = none) (hv : bootBuiltins x = some (.builtin id)) (ha : PA X (e :: es) t) (hn : x ≠ "__name__" := by decide) (hdb : (x == ("__debug__" : Str)) = false := by decide)
    (he : starEach (e :: es) X.env = (false, eval e X.env) :: starEach es X.env := by rfl) (hpl : (backTo pos (starEach es X.env)).any (·.1) = false := by rfl) : PE X (.Call (.Name x p) (e :: es) [] pos) (tCB r t) := by
  intro pins s σ H Q I h
  refine wpAny_Call_Name_kw (ld_blt I hg hm hv ?_ hn hdb)
  exact PyProof.Rows.callWith_builtin1 (thn (ha pos pins s σ H _ I h) fun us s1 ⟨vs, H1, I1, r1, q1⟩ => hc pins s1 σ H1 vs us Q I1 r1 q1) he hpl
theorem pe_callTy (hc : CallR X (.type T) r) (hg : Gl X x) (hm : X.mg x = none) (hv : bootBuiltins x = some (.type T)) (ha : PA X (e :: es) t) (hn : x ≠ "__name__" := by decide) (hdb : (x == ("__debug__" : Str)) = false := by decide)
    (he : starEach (e :: es) X.env = (false, eval e X.env) :: starEach es X.env := by rfl) (hpl : (backTo pos (starEach es X.env)).any (·.1) = false := by rfl) : PE X (.Call (.Name x p) (e :: es) [] pos) (tCB r t) := by
  intro pins s σ H Q I h
  refine wpAny_Call_Name_kw (ld_blt I hg hm hv ?_ hn hdb)
  exact PyProof.Rows.callWith_type1 (thn (ha pos pins s σ H _ I h) fun us s1 ⟨vs, H1, I1, r1, q1⟩ => hc pins s1 σ H1 vs us Q I1 r1 q1) he hpl
end
end L2
namespace HT
open PySem PyProof.Rows
section
open PySem.SeqAt
open PySem.AutoSeq1 (wpAny_loadPart')
open PySem.MeetsSeq PySem.MeetsSeq2 PySem.MeetsSeq3
end
section
variable {prog : Program} {w : World} {A : Around} {E : Value → Shared → Prop} {s : Shared}
def sIx (n d : Nat) : Option Int → Nat
  | none => d
  | some v => if v < 0 then (v + (n : Int)).toNat else min v.toNat n
theorem sIx_none (n d : Nat) : sIx n d none = d := rfl
theorem sIx_nat (n d k : Nat) : sIx n d (some (k : Int)) = min k n := by
  show (if (k : Int) < 0 then ((k : Int) + (n : Int)).toNat else min (k : Int).toNat n) = min k n
  rw [if_neg (by omega), Int.toNat_natCast]
theorem sIx_le (n d : Nat) (hd : d ≤ n) (o : Option Int) : sIx n d o ≤ n := by
  cases o with
  | none => exact hd
  | some v =>
    show (if v < 0 then (v + (n : Int)).toNat else min v.toNat n) ≤ n
    by_cases hv : v < 0
    · rw [if_pos hv]; omega
    · rw [if_neg hv]; exact Nat.min_le_right _ _
theorem clip_eq (v : Int) (n d : Nat) : (if v < 0 then max (v + (n : Int)) 0 else min v (n : Int)) = ((sIx n d (some v) : Nat) : Int) := by
  show (if v < 0 then max (v + (n : Int)) 0 else min v (n : Int)) = (((if v < 0 then (v + (n : Int)).toNat else min v.toNat n) : Nat) : Int)
  by_cases hv : v < 0
  · simp only [if_pos hv]; omega
  · simp only [if_neg hv]; omega
theorem adjust_gen (lo hi : Option Int) (n : Nat) : Builtin.Slice.sliceAdjust lo hi 1 (n : Int) = (((sIx n 0 lo : Nat) : Int), ((sIx n n hi : Nat) : Int)) := by
  have h1 : ¬ ((1 : Int) < 0) := by omega
  unfold Builtin.Slice.sliceAdjust
  simp only [h1, if_false]
  refine Prod.ext ?_ ?_
  · cases lo with
    | none => rfl
    | some v => exact clip_eq v n 0
  · cases hi with
    | none => rfl
    | some v => exact clip_eq v n n
theorem places_gen (i j : Nat) : Builtin.Slice.slicePlaces (i : Int) (j : Int) 1 = j - i := by
  unfold Builtin.Slice.slicePlaces
  have h1 : (1 : Int) > 0 := by omega
  simp only [h1, if_true, Int.ediv_one]
  split <;> omega
theorem slicePart_ {v : Value} {o : Option Int} {Q : Option Int → Shared → Prop} (p : IsPart v o) (h : Q o s) : wpAny (model prog w) A (Builtin.Slice.slicePartIndex v) Q E s := by
  cases p with
  | none => exact slicePart_none h
  | int i t => exact slicePart_int h
theorem sliceApplied_gen {sl : Addr} {vl vu : Value} {lo hi : Option Int} {n : Nat} {Q : Int × Int × Nat → Shared → Prop} (hs : s.heap.IsSliceOf sl vl vu .none) (pl : IsPart vl lo) (pu : IsPart vu hi)
    (h : Q (((sIx n 0 lo : Nat) : Int), 1, sIx n n hi - sIx n 0 lo) s) : wpAny (model prog w) A (Builtin.Slice.sliceApplied (.ref sl) (pure (n : Int))) Q E s := by
  obtain ⟨os, hos, hcs, hds⟩ := id hs
  unfold Builtin.Slice.sliceApplied Builtin.Slice.sliceFields
  refine wpAny_bind (wpAny_bind (wpAny_field hos hds (x := vl) rfl (wpAny_bind (wpAny_field hos hds (x := vu) rfl (wpAny_bind (wpAny_field hos hds (x := .none) rfl (wpAny_pure ?_)))))))
  refine wpAny_bind (slicePart_none ?_)
  show wpAny _ _ (if ((1 : Int) == 0) = true then _ else _) _ _ s
  rw [if_neg (by decide)]
  refine wpAny_bind (slicePart_ pl (wpAny_bind (slicePart_ pu (wpAny_bind (wpAny_pure ?_)))))
  show wpAny _ _ (match Builtin.Slice.sliceAdjust lo hi 1 (n : Int) with | (lo, hi) => pure (lo, (1 : Int), Builtin.Slice.slicePlaces lo hi 1)) _ _ s
  rw [adjust_gen lo hi n]
  show wpAny _ _ (pure (((sIx n 0 lo : Nat) : Int), (1 : Int), Builtin.Slice.slicePlaces ((sIx n 0 lo : Nat) : Int) ((sIx n n hi : Nat) : Int) 1)) _ _ s
  rw [places_gen]
  exact wpAny_pure h
theorem pick_gen (xs : Array Value) (i k : Nat) : ((List.range k).filterMap fun (m : Nat) => xs[((i : Int) + (m : Int) * 1).toNat]?).toArray = ((xs.toList.drop i).take k).toArray := by
  have e : (fun (m : Nat) => xs[((i : Int) + (m : Int) * 1).toNat]?) = fun m => xs[i + m]? := by
    funext m
    have : ((i : Int) + (m : Int) * 1).toNat = i + m := by omega
    rw [this]
  rw [e]
  have := pick_run xs i k
  rw [List.filterMap_map] at this
  have e2 : ((fun x => xs[x]?) ∘ fun x => i + x) = fun m => xs[i + m]? := rfl
  rw [e2] at this
  rw [this]
theorem getItem_tuple_cut {t sl : Addr} {items : Array Value} {vl vu : Value} {lo hi : Option Int} {Q : Value → Shared → Prop} (ht : IsTup s.heap t items) (hs : s.heap.IsSliceOf sl vl vu .none) (pl : IsPart vl lo) (pu : IsPart vu hi)
    (hw : ¬ (sIx items.size 0 lo = 0 ∧ sIx items.size items.size hi = items.size))
    (h : Q (.ref s.heap.objs.size) { s with heap := s.heap.push { cls := .type "tuple", data := .seq ((items.toList.drop (sIx items.size 0 lo)).take (sIx items.size items.size hi - sIx items.size 0 lo)).toArray } })
    (hsz : items.size ≤ sizeLine) : wpAny (model prog w) A (getItem (.ref t) (.ref sl)) Q E s := by
  have htake : sizeOk (.seq ((items.toList.drop (sIx items.size 0 lo)).take (sIx items.size items.size hi - sIx items.size 0 lo)).toArray) := by
    show ((items.toList.drop (sIx items.size 0 lo)).take (sIx items.size items.size hi - sIx items.size 0 lo)).toArray.size ≤ sizeLine
    rw [List.size_toArray, List.length_take, List.length_drop, Array.length_toList]
    omega
  have hj : sIx items.size items.size hi ≤ items.size := sIx_le _ _ (Nat.le_refl _) hi
  obtain ⟨os, hos, hcs, hds⟩ := id hs
  have hTs : s.TypeIs (.ref sl) "slice" := ⟨os, hos, hcs⟩
  unfold getItem
  try with_reducible refine wpAny_holding ?_
  first | refine wpAny_bind (wpAny_pure ?_) | skip
  refine wpAny_bind (wpAny_sequenceKey ht.typeIs (by decide) ?_)
  refine wpAny_bind (wpAny_callSpecial?_slot (name := Str.ofString "__getitem__") ht.typeIs PyProof.Rows.slot_tuple_getitem
    (wpAny_call_entry PyProof.Rows.slot_tuple_getitem ht.typeIs entry_tuple_getitem ?_ (args_tuple_getitem _ _)))
  show wpAny _ _ (Builtin.Tuple.tupleItemsOf (.ref t) >>= _) _ _ s
  refine wpAny_bind (tupleItemsOf_ ht ?_)
  refine wpAny_bind (wpAny_typeOf hTs ?_)
  rw [if_pos (by decide)]
  refine wpAny_bind (sliceApplied_gen hs pl pu ?_)
  have hno : ¬ ((((sIx items.size 0 lo : Nat) : Int) == 0 && (1 : Int) == 1 && (sIx items.size items.size hi - sIx items.size 0 lo) == items.size) = true) := by
    intro q
    rw [Bool.and_eq_true, Bool.and_eq_true] at q
    have q1 : ((sIx items.size 0 lo : Nat) : Int) = 0 := eq_of_beq q.1.1
    have q2 : sIx items.size items.size hi - sIx items.size 0 lo = items.size := eq_of_beq q.2
    exact hw ⟨by omega, by omega⟩
  show wpAny _ _ (if (((sIx items.size 0 lo : Nat) : Int) == 0 && (1 : Int) == 1 && (sIx items.size items.size hi - sIx items.size 0 lo) == items.size) = true then _ else _) _ _ s
  rw [if_neg hno, pick_gen]
  first
    | exact wpAny_bind (m := Builtin.Tuple.tupleExact _) (wpAny_newObj_type (wpAny_pure ⟨_, rfl, wpAny_pure h⟩) htake)
    | exact wpAny_bind (m := Builtin.Tuple.tupleExact _) (wpAny_newObj_type (wpAny_bind (wpAny_pure (wpAny_pure ⟨_, rfl, wpAny_pure h⟩))) htake)
    | exact wpAny_bind (wpAny_bind (m := Builtin.Tuple.tupleExact _) (wpAny_newObj_type (wpAny_pure (wpAny_pure ⟨_, rfl, wpAny_pure h⟩)) htake))
    | exact wpAny_bind (wpAny_bind (m := Builtin.Tuple.tupleExact _) (wpAny_newObj_type (wpAny_pure ⟨_, rfl, wpAny_pure h⟩) htake))
end
end HT
namespace L2
open PySem PySem.Spec PyProof.Rows
abbrev TO := St → Hp → (Option Int → Hp → Prop) → Prop
def PO (X : Cx) (e : Option Expr) (t : TO) : Prop :=
  ∀ (pins : List (Addr × Obj)) (s : Shared) (σ : St) (H : Hp) (Q : Option Int → Hp → Prop), Inv X pins σ H s → t σ H Q →
    wpAny (model X.prog X.w) X.A (evalPart e X.env) (fun u s' => ∃ o H', Inv X pins σ H' s' ∧ IsPart u o ∧ Q o H') X.xe s
def tNoPart : TO := fun _ H Q => Q none H
def tPart (t : TE) : TO := fun σ H Q => t σ H fun x H1 => ∃ i, x = .int i ∧ Q (some i) H1
theorem intsAre_of {ns : List Int} : ∀ {us : List Value}, Vals (ns.map V.int) us → IntsAre us ns := by
  induction ns with
  | nil => intro us r; rw [List.map_nil] at r; cases r; exact .nil
  | cons n ns ih =>
    intro us r
    rw [List.map_cons] at r
    cases r with
    | cons r1 r2 =>
      obtain ⟨t, e⟩ := r1
      subst e
      exact .cons n t (ih r2)
section
variable {X : Cx} {e : Expr} {te : TE} {lo hi : Option Expr} {tl th : TO} {pos p2 : Pos}
theorem po_none : PO X none tNoPart := by
  intro pins s σ H Q I h
  rw [evalPart_none]
  exact wpAny_pure ⟨none, H, I, .none, h⟩
theorem po_some (h : PE X e te) : PO X (some e) (tPart te) := by
  intro pins s σ H Q I hw
  rw [evalPart_some]
  refine thn (h pins s σ H _ I hw) fun u s1 ⟨x, H1, I1, r1, q1⟩ => ?_
  obtain ⟨i, rfl, q⟩ := q1
  obtain ⟨t, rfl⟩ := r1
  exact ⟨some i, H1, I1, .int i t, q⟩
def SlR (X : Cx) (r : V → Option Int → Option Int → Hp → VK → Prop) : Prop :=
  ∀ (pins : List (Addr × Obj)) (s : Shared) (σ : St) (H : Hp) (x : V) (v vl vu : Value) (lo hi : Option Int) (sl : Addr) (Q : VK), Inv X pins σ H s → RelV x v → s.heap.IsSliceOf sl vl vu .none → IsPart vl lo → IsPart vu hi → r x lo hi H Q →
    ∃ T id, typeLookup (.type T) "__getitem__" = pure (some (.builtin id)) ∧ s.TypeIs v T ∧ wpAny (model X.prog X.w) X.A (getItem v (.ref sl)) (EP X pins σ Q) X.xe s
theorem SlR.or {r r' : V → Option Int → Option Int → Hp → VK → Prop} (h : SlR X r) (h' : SlR X r') : SlR X (fun x lo hi H Q => r x lo hi H Q ∨ r' x lo hi H Q) := by
  intro pins s σ H x v vl vu lo hi sl Q I rx hs pl pu q
  rcases q with q | q
  · exact h pins s σ H x v vl vu lo hi sl Q I rx hs pl pu q
  · exact h' pins s σ H x v vl vu lo hi sl Q I rx hs pl pu q
def tSl (r : V → Option Int → Option Int → Hp → VK → Prop) (te : TE) (tl th : TO) : TE := fun σ H Q => te σ H fun x H1 => tl σ H1 fun l H2 => th σ H2 fun u H3 => r x l u H3 Q
theorem pe_slice {r : V → Option Int → Option Int → Hp → VK → Prop} (hr : SlR X r) (he : PE X e te) (hl : PO X lo tl) (hu : PO X hi th) : PE X (.Subscript e (.Slice lo hi none p2) pos) (tSl r te tl th) := by
  intro pins s σ H Q I h
  refine Subscript_ (thn (he pins s σ H _ I h) fun v s1 ⟨x, H1, I1, r1, q1⟩ => ?_)
  refine wpAny_Slice (thn (hl pins s1 σ H1 _ I1 q1) fun vl s2 ⟨l, H2, I2, pl, q2⟩ => thn (hu pins s2 σ H2 _ I2 q2) fun vu s3 ⟨u, H3, I3, pu, q3⟩ => ?_)
  rw [evalPart_none]
  refine wpAny_pure ?_
  have I4 : Inv X pins σ H3 { s3 with heap := s3.heap.push { cls := .type "slice", data := .fields #[vl, vu, .none] } } := I3.kept (t' := s3.toks) fun b ob q => Heap.get?_push_of_some _ q
  obtain ⟨T, id, hT, ht, hg⟩ := hr pins { s3 with heap := s3.heap.push { cls := .type "slice", data := .fields #[vl, vu, .none] } } σ H3 x v vl vu l u s3.heap.objs.size Q I4 r1 (Heap.IsSliceOf.new ..) pl pu q3
  show wpAny (model X.prog X.w) X.A (subscriptTail e (.Slice lo hi none p2) v (.ref s3.heap.objs.size)) (EP X pins σ Q) X.xe { s3 with heap := s3.heap.push { cls := .type "slice", data := .fields #[vl, vu, .none] } }
  exact tail_any (ops := [.ref s3.heap.objs.size, v]) ht hT hg (by with_unfolding_all rfl)
def cutV (xs : List V) (lo hi : Option Int) : List V := (xs.drop (HT.sIx xs.length 0 lo)).take (HT.sIx xs.length xs.length hi - HT.sIx xs.length 0 lo)
theorem cutV_length (xs : List V) (lo hi : Option Int) : (cutV xs lo hi).length ≤ xs.length := by
  unfold cutV
  rw [List.length_take, List.length_drop]
  omega
def rSlT (K : PySem.W.Frag) : V → Option Int → Option Int → Hp → VK → Prop := fun x lo hi H Q => ∃ a xs, x = .ref a ∧ SqT K H a xs ∧
  ¬ (HT.sIx xs.length 0 lo = 0 ∧ HT.sIx xs.length xs.length hi = xs.length) ∧ ∀ p, H p = none → Q (.ref p) (upd H p (.tup (cutV xs lo hi)))
theorem sl_tup : SlR X (rSlT X.K) := by
  intro pins s σ H x v vl vu lo hi sl Q I rx hs pl pu h
  obtain ⟨a, xs, rfl, hx, hw, q⟩ := h
  cases rx
  obtain ⟨its, r, ht, hz⟩ := I.tuple hx
  have hlen : its.toArray.size = xs.length := by rw [List.size_toArray]; exact r.length.symm
  refine ⟨"tuple", _, PyProof.Rows.slot_tuple_getitem.lookup, ht.typeIs, ?_⟩
  refine HT.getItem_tuple_cut ht hs pl pu (by rw [hlen]; exact hw) ?_ (by rw [hlen]; exact hz)
  rw [hlen]
  refine ⟨.ref s.heap.objs.size, _, I.laid (t' := s.toks) (o := .tup (cutV xs lo hi)) (fun b ob q => Heap.get?_push_of_some _ q) (Nat.le_refl _) ?_, rfl, q _ (I.hok.fresh (Nat.le_refl _))⟩
  exact ⟨Nat.le_trans (cutV_length xs lo hi) hz, _, (r.drop (HT.sIx xs.length 0 lo)).take (HT.sIx xs.length xs.length hi - HT.sIx xs.length 0 lo), IsTup.new _ _⟩
end
end L2
namespace L2
open PySem PySem.Spec PyProof.Rows
def ixN (n : Nat) (i : Int) : Option Nat := if 0 ≤ i then (if i < n then some i.toNat else none) else if -(n : Int) ≤ i then some (i + n).toNat else none
def atI {α : Type} (xs : List α) (i : Int) : Option α := (ixN xs.length i).bind fun j => xs[j]?
theorem ixN_seq {n : Nat} {i : Int} {j : Nat} (h : ixN n i = some j) : seqIndex? i n = some j ∧ j < n ∧ -(n : Int) ≤ i ∧ i < n := by
  unfold ixN at h
  by_cases h0 : 0 ≤ i
  · rw [if_pos h0] at h
    by_cases h1 : i < n
    · rw [if_pos h1] at h
      have e : i.toNat = j := Option.some.inj h
      exact ⟨by rw [seqIndex_of h0 h1, e], by omega, by omega, h1⟩
    · rw [if_neg h1] at h; cases h
  · rw [if_neg h0] at h
    by_cases h1 : -(n : Int) ≤ i
    · rw [if_pos h1] at h
      have e : (i + n).toNat = j := Option.some.inj h
      exact ⟨by rw [seqIndex_neg (by omega) h1, e], by omega, h1, by omega⟩
    · rw [if_neg h1] at h; cases h
theorem atI_get {α : Type} {xs : List α} {i : Int} {v : α} (h : atI xs i = some v) : ∃ j, seqIndex? i xs.length = some j ∧ xs[j]? = some v ∧ j < xs.length ∧ -(xs.length : Int) ≤ i ∧ i < xs.length := by
  unfold atI at h
  cases e : ixN xs.length i with
  | none => rw [e] at h; cases h
  | some j =>
    rw [e] at h
    obtain ⟨h1, h2, h3, h4⟩ := ixN_seq e
    exact ⟨j, h1, h, h2, h3, h4⟩
theorem atI_nat {α : Type} {xs : List α} {j : Nat} {v : α} (h : xs[j]? = some v) : atI xs (j : Int) = some v := by
  have hj : j < xs.length := (List.getElem?_eq_some_iff.mp h).1
  have e : ixN xs.length (j : Int) = some j := by
    unfold ixN
    rw [if_pos (by omega), if_pos (by omega)]; simp
  unfold atI; rw [e]; exact h
theorem atI_last {α : Type} (xs : List α) (v : α) : atI (xs ++ [v]) (-1) = some v := by
  have hl : (xs ++ [v]).length = xs.length + 1 := by simp
  have e : ixN (xs ++ [v]).length (-1) = some xs.length := by
    unfold ixN
    rw [hl, if_neg (by decide), if_pos (by omega)]
    congr 1
    omega
  unfold atI
  rw [e]
  show (xs ++ [v])[xs.length]? = some v
  simp
def PlainIx (b : Expr) : Prop := ∀ o i, subscripted b false o i = operate [o, i] (getItem o i)
def IxR (X : Cx) (r : R2) : Prop :=
  ∀ (value slice : Expr) (pins : List (Addr × Obj)) (s : Shared) (σ : St) (H : Hp) (x y : V) (v u : Value) (Q : VK), Inv X pins σ H s → RelV x v → RelV y u → r x y H Q →
    subscripted slice false v u = operate [v, u] (getItem v u) → wpAny (model X.prog X.w) X.A (subscriptTail value slice v u) (EP X pins σ Q) X.xe s
def MtR (X : Cx) (id : String) (r : V → List V → Hp → VK → Prop) : Prop :=
  ∀ (pins : List (Addr × Obj)) (s : Shared) (σ : St) (H : Hp) (x : V) (xs : List V) (v : Value) (us : List Value) (Q : VK), Inv X pins σ H s → RelV x v → Vals xs us → r x xs H Q →
    wpAny (model X.prog X.w) X.A (call (.builtin id) (v :: us)) (EP X pins σ Q) X.xe s
section
variable {X : Cx} {a b : Expr} {ta tb : TE} {pos : Pos}
theorem IxR.or {r r' : R2} (h : IxR X r) (h' : IxR X r') : IxR X (fun x y H Q => r x y H Q ∨ r' x y H Q) := by
  intro value slice pins s σ H x y v u Q I rx ry q hs
  rcases q with q | q
  · exact h value slice pins s σ H x y v u Q I rx ry q hs
  · exact h' value slice pins s σ H x y v u Q I rx ry q hs
theorem MtR.or {id : String} {r r' : V → List V → Hp → VK → Prop} (h : MtR X id r) (h' : MtR X id r') : MtR X id (fun x xs H Q => r x xs H Q ∨ r' x xs H Q) := by
  intro pins s σ H x xs v us Q I rx rs q
  rcases q with q | q
  · exact h pins s σ H x xs v us Q I rx rs q
  · exact h' pins s σ H x xs v us Q I rx rs q
theorem pe_ix {r : R2} (hr : IxR X r) (ha : PE X a ta) (hb : PE X b tb) (hs : PlainIx b) : PE X (.Subscript a b pos) (tOp r ta tb) := by
  intro pins s σ H Q I h
  exact Subscript_ (binT ha hb I h fun v u s2 x y H2 I2 rx ry q => hr a b pins s2 σ H2 x y v u Q I2 rx ry q (hs _ _))
def rIxL (K : PySem.W.Frag) : R2 := fun x y H Q => ∃ p xs i v, x = .ref p ∧ y = .int i ∧ SqL K H p xs ∧ atI xs i = some v ∧ Q v H
def rIxT (K : PySem.W.Frag) : R2 := fun x y H Q => ∃ p xs i v, x = .ref p ∧ y = .int i ∧ SqT K H p xs ∧ atI xs i = some v ∧ Q v H
def rIxS : R2 := fun x y H Q => ∃ z i c, x = .str z ∧ y = .int i ∧ z.length ≤ sizeLine ∧ atI z.cps.toList i = some c ∧ Q (.str ⟨#[c]⟩) H
theorem ix_list : IxR X (rIxL X.K) := by
  intro value slice pins s σ H x y v u Q I rx ry h hs
  obtain ⟨p, xs, i, z, rfl, rfl, hq, he, q⟩ := h
  cases rx
  obtain ⟨t, rfl⟩ := ry
  obtain ⟨its, r, pl, hz⟩ := I.list hq
  obtain ⟨j, h1, h2, h3, h4, h5⟩ := atI_get he
  obtain ⟨w, ew, rw'⟩ := r.get h2
  have hl := r.length
  have hn := line63
  have fin : EP X pins σ Q w s := ⟨z, H, I, rw', q⟩
  by_cases h0 : 0 ≤ i
  · have hj : i.toNat = j := by
      rw [seqIndex_of h0 h5] at h1
      exact Option.some.inj h1
    exact item_listR pl.isList h0 (by omega) (by rw [hj]; simpa using ew) fin hs
  · have hj : (i + (its.toArray.size : Int)).toNat = j := by
      rw [seqIndex_neg (by omega) h4] at h1
      rw [List.size_toArray, ← hl]
      exact Option.some.inj h1
    exact subscriptTail_builtinR (x := w) pl.isList.typeIs slot_list_getitem.lookup
      (wpAny_getItem_list_neg (Q := fun r s' => r = w ∧ EP X pins σ Q r s') pl.isList (by omega) (by rw [List.size_toArray] <;> omega) (by omega) (by rw [hj]; simpa using ew) ⟨rfl, fin⟩) hs
theorem ix_tup : IxR X (rIxT X.K) := by
  intro value slice pins s σ H x y v u Q I rx ry h hs
  obtain ⟨p, xs, i, z, rfl, rfl, hq, he, q⟩ := h
  cases rx
  obtain ⟨t, rfl⟩ := ry
  obtain ⟨its, r, pl, hz⟩ := I.tuple hq
  obtain ⟨j, h1, h2, h3, h4, h5⟩ := atI_get he
  obtain ⟨w, ew, rw'⟩ := r.get h2
  have hl := r.length
  have hn := line63
  have fin : EP X pins σ Q w s := ⟨z, H, I, rw', q⟩
  exact subscriptTail_builtinR (x := w) pl.typeIs slot_tuple_getitem.lookup
    (getItem_tuple (j := j) (Q := fun r s' => r = w ∧ EP X pins σ Q r s') pl (by omega) (by omega) (by rw [List.size_toArray, ← hl]; exact h1) (by simpa using ew) ⟨rfl, fin⟩) hs
theorem ix_str : IxR X rIxS := by
  intro value slice pins s σ H x y v u Q I rx ry h hs
  obtain ⟨z, i, c, rfl, rfl, hz, he, q⟩ := h
  obtain ⟨t, rfl⟩ := rx
  obtain ⟨t', rfl⟩ := ry
  obtain ⟨j, h1, h2, h3, h4, h5⟩ := atI_get he
  have hl : z.cps.toList.length = z.length := by simp [Str.length]
  rw [hl] at h1 h4 h5
  have hn := line63
  exact tail_any (typeIs_str s z t) slot_str_getitem.lookup (getItem_str (c := c) (by
    have e1 : decide (i < -(2 ^ 63 : Int)) = false := decide_eq_false (by omega)
    have e2 : decide (i ≥ 2 ^ 63) = false := decide_eq_false (by omega)
    rw [e1, e2, Bool.or_false]) (by rw [h1]; simpa using h2) ⟨.str ⟨#[c]⟩, H, I.tok _, ⟨_, rfl⟩, q⟩) hs
def rIx (K : PySem.W.Frag) : R2 := fun x y H Q => rIxL K x y H Q ∨ rIxT K x y H Q ∨ rIxS x y H Q
theorem ix_seq : IxR X (rIx X.K) := ix_list.or (ix_tup.or ix_str)
theorem mapSeq_set (its : List Value) (n j : Nat) (u : Value) : Obj.mapSeq (·.setIfInBounds j u) { cls := .type "list", data := .seq its.toArray n } = { cls := .type "list", data := .seq (its.set j u).toArray n } := by
  simp [Obj.mapSeq]
theorem Inv.lst {pins : List (Addr × Obj)} {σ : St} {H : Hp} {s : Shared} {p : Addr} {xs : List V} (I : Inv X pins σ H s) (h : H p = some (.lst xs)) :
    ∃ (its : List Value) (n : Nat), Vals xs its ∧ s.heap.get? p = some { cls := .type "list", data := .seq its.toArray n } ∧ xs.length ≤ sizeLine := by
  obtain ⟨z, its, n, r, e⟩ := I.hok p _ h
  exact ⟨its, n, r, e, z⟩
theorem Inv.lstUpd {pins : List (Addr × Obj)} {σ : St} {H : Hp} {s : Shared} {p : Addr} {xs ys : List V} {its its' : List Value} {n n' : Nat} {f : Obj → Obj} (I : Inv X pins σ H s) (h : H p = some (.lst xs))
    (ho : s.heap.get? p = some { cls := .type "list", data := .seq its.toArray n }) (hf : f { cls := .type "list", data := .seq its.toArray n } = { cls := .type "list", data := .seq its'.toArray n' }) (r : Vals ys its') (hz : ys.length ≤ sizeLine) (t : Nat) :
    Inv X pins σ (upd H p (.lst ys)) { s with heap := s.heap.update p f, toks := t } := by
  have e : (s.heap.update p f).get? p = some { cls := .type "list", data := .seq its'.toArray n' } := by
    rw [Heap.get?_update_self f ho (by rw [hf] <;> rfl), hf]
  refine I.write (x := p) (e := p) (by rw [h]; trivial) (.inl rfl) (fun b u hb q => (Heap.get?_update_other _ _ (Ne.symm hb)).trans q) ⟨_, e⟩ ?_
  exact ⟨hz, its', n', r, e⟩
def rSetL : V → V → V → Hp → (Hp → Prop) → Prop := fun o i v H Q => ∃ p xs k j, o = .ref p ∧ i = .int k ∧ H p = some (.lst xs) ∧ ixN xs.length k = some j ∧ Q (upd H p (.lst (xs.set j v)))
theorem set_list : PSet X rSetL := by
  intro pins s σ H o i v ov iv u Q I ro ri rv h
  obtain ⟨p, xs, k, j, rfl, rfl, hp, hj, q⟩ := h
  cases ro
  obtain ⟨t, rfl⟩ := ri
  obtain ⟨its, n, r, ho, hz⟩ := I.lst hp
  obtain ⟨h1, h2, h3, h4⟩ := ixN_seq hj
  have hl := r.length
  have hn := line63
  have I' : Inv X pins σ (upd H p (.lst (xs.set j v))) { s with heap := s.heap.update p (Obj.mapSeq (·.setIfInBounds j u)) } :=
    I.lstUpd hp ho (mapSeq_set its n j u) (r.set rv j) (by rw [List.length_set]; exact hz) s.toks
  by_cases h0 : 0 ≤ k
  · have hk : k.toNat = j := by
      rw [seqIndex_of h0 h4] at h1
      exact Option.some.inj h1
    exact PySem.W.ki_setAt ho h0 (by omega) (by rw [List.size_toArray, ← hl]; exact h4) (by rw [hk]; exact ⟨_, I', q⟩)
  · have hk : (k + (its.toArray.size : Int)).toNat = j := by
      rw [seqIndex_neg (by omega) h3] at h1
      rw [List.size_toArray, ← hl]
      exact Option.some.inj h1
    exact PySem.W.ki_setBack ho (by omega) (by rw [List.size_toArray, ← hl]; exact h3) (by omega) (by rw [hk]; exact ⟨_, I', q⟩)
theorem slice_bounds (lo hi : Option Int) (n : Nat) : (sliceBounds lo hi none n).1 = ((HT.sIx n 0 lo : Nat) : Int) ∧ (sliceBounds lo hi none n).2.1 = ((HT.sIx n n hi : Nat) : Int) ∧ (sliceBounds lo hi none n).2.2 = 1 := by
  refine ⟨?_, ?_, rfl⟩
  · cases lo with
    | none => simp [sliceBounds, HT.sIx]
    | some i =>
      simp only [sliceBounds, HT.sIx, Option.getD_none, show (1 : Int) > 0 by decide, if_true]
      by_cases h : i < 0
      · simp only [h, if_true] <;> omega
      · simp only [h, if_false] <;> omega
  · cases hi with
    | none => simp [sliceBounds, HT.sIx]
    | some i =>
      simp only [sliceBounds, HT.sIx, Option.getD_none, show (1 : Int) > 0 by decide, if_true]
      by_cases h : i < 0
      · simp only [h, if_true] <;> omega
      · simp only [h, if_false] <;> omega
theorem slicePick_cut (its : List Value) (lo hi : Option Int) : slicePick its.toArray lo hi none = ((its.drop (HT.sIx its.length 0 lo)).take (HT.sIx its.length its.length hi - HT.sIx its.length 0 lo)).toArray := by
  obtain ⟨h1, h2, h3⟩ := slice_bounds lo hi its.toArray.size
  unfold slicePick
  rw [h1, h2, h3]
  simp only [sliceRange_one, pick_run, List.size_toArray] <;> rfl
def rSlL (K : PySem.W.Frag) : V → Option Int → Option Int → Hp → VK → Prop := fun x lo hi H Q => ∃ a xs, x = .ref a ∧ SqL K H a xs ∧ ∀ p, H p = none → Q (.ref p) (upd H p (.lst (cutV xs lo hi)))
theorem sl_list : SlR X (rSlL X.K) := by
  intro pins s σ H x v vl vu lo hi sl Q I rx hs pl pu h
  obtain ⟨a, xs, rfl, hx, q⟩ := h
  cases rx
  obtain ⟨its, r, ht, hz⟩ := I.list hx
  have hlen := r.length
  refine ⟨"list", _, slot_list_getitem.lookup, ht.isList.typeIs, ?_⟩
  refine wpAny_getItem_list_slice ht.isList hs pl pu .none (by simp) ?_ (by rw [List.size_toArray] <;> omega)
  rw [slicePick_cut, ← hlen]
  refine ⟨.ref s.heap.objs.size, _, I.laid (t' := s.toks) (o := .lst (cutV xs lo hi)) (fun b ob q => Heap.get?_push_of_some _ q) (Nat.le_refl _) ?_, rfl, q _ (I.hok.fresh (Nat.le_refl _))⟩
  exact ⟨Nat.le_trans (cutV_length xs lo hi) hz, _, 0, (r.drop (HT.sIx xs.length 0 lo)).take (HT.sIx xs.length xs.length hi - HT.sIx xs.length 0 lo), Heap.get?_push_size _ rfl⟩
def flatV : V → Bool
  | .non => true
  | .bl _ => true
  | .int _ => true
  | .str _ => true
  | _ => false
def eqV : V → V → Bool
  | .non, .non => true
  | .bl a, .bl b => a == b
  | .bl a, .int b => (if a then 1 else 0) == b
  | .int a, .bl b => a == (if b then 1 else 0)
  | .int a, .int b => a == b
  | .str a, .str b => a == b
  | _, _ => false
theorem eqAt_V {A : Around} {s : Shared} {y x : V} {u v : Value} (ry : RelV y u) (rx : RelV x v) (fy : flatV y = true) (fx : flatV x = true) : SeqAt.EqAt A s u v (eqV y x) := by
  cases y with
  | non =>
    cases ry
    cases x with
    | non => cases rx; exact SeqAt.EqAt.same _
    | bl b => cases rx; exact SeqAt.EqAt.none_bool b
    | int b => obtain ⟨t, rfl⟩ := rx; exact SeqAt.EqAt.none_int b t
    | str b => obtain ⟨t, rfl⟩ := rx; exact SeqAt.EqAt.none_str b t
    | _ => exact absurd (show false = true from fx) Bool.false_ne_true
  | bl a =>
    cases ry
    cases x with
    | non => cases rx; exact SeqAt.EqAt.bool_none a
    | bl b => cases rx; exact SeqAt.EqAt.bool_bool a b
    | int b => obtain ⟨t, rfl⟩ := rx; exact SeqAt.EqAt.bool_int a b t
    | str b => obtain ⟨t, rfl⟩ := rx; exact SeqAt.EqAt.bool_str a b t
    | _ => exact absurd (show false = true from fx) Bool.false_ne_true
  | int a =>
    obtain ⟨t', rfl⟩ := ry
    cases x with
    | non => cases rx; exact SeqAt.EqAt.int_none a t'
    | bl b => cases rx; exact SeqAt.EqAt.int_bool a t' b
    | int b => obtain ⟨t, rfl⟩ := rx; exact SeqAt.EqAt.int_int a t' b t
    | str b => obtain ⟨t, rfl⟩ := rx; exact SeqAt.EqAt.int_str a t' b t
    | _ => exact absurd (show false = true from fx) Bool.false_ne_true
  | str a =>
    obtain ⟨t', rfl⟩ := ry
    cases x with
    | non => cases rx; exact SeqAt.EqAt.str_none a t'
    | bl b => cases rx; exact SeqAt.EqAt.str_bool a t' b
    | int b => obtain ⟨t, rfl⟩ := rx; exact SeqAt.EqAt.str_int a t' b t
    | str b => obtain ⟨t, rfl⟩ := rx; exact SeqAt.EqAt.str_str a t' b t
    | _ => exact absurd (show false = true from fx) Bool.false_ne_true
  | _ => exact absurd (show false = true from fy) Bool.false_ne_true
theorem CallR.or {f : Value} {r r' : List V → Hp → VK → Prop} (h : CallR X f r) (h' : CallR X f r') : CallR X f (fun xs H Q => r xs H Q ∨ r' xs H Q) := by
  intro pins s σ H xs us Q I rs q
  rcases q with q | q
  · exact h pins s σ H xs us Q I rs q
  · exact h' pins s σ H xs us Q I rs q
theorem call_list_of : CallR X (.type "list") (fun xs H Q => ∃ p ys, xs = [.ref p] ∧ (SqL X.K H p ys ∨ SqT X.K H p ys) ∧ ∀ l, H l = none → Q (.ref l) (upd H l (.lst ys))) := by
  intro pins s σ H xs us Q I r h
  obtain ⟨p, ys, rfl, hq, q⟩ := h
  obtain ⟨u, rfl, rx⟩ := vals1 r
  cases rx
  have fin : ∀ (its : List Value), Vals ys its → ys.length ≤ sizeLine → ∀ (h' : Heap) (c' : Nat), (∀ b o', s.heap.get? b = some o' → h'.get? b = some o') →
      h'.get? s.heap.objs.size = some { cls := .type "list", dict := none, data := .seq its.toArray c', slots := #[] } → EP X pins σ Q (.ref s.heap.objs.size) { s with heap := h' } := fun its r' hz h' c' kp e =>
    ⟨.ref s.heap.objs.size, _, I.laid (t' := s.toks) kp (Nat.le_refl _) (show ObjOk X.prog X.w _ h' _ (.lst ys) from ⟨hz, its, c', r', e⟩), rfl, q _ (I.hok.fresh (Nat.le_refl _))⟩
  rcases hq with hq | hq
  · obtain ⟨its, r', pl, hz⟩ := I.list hq
    have hlen := r'.length
    obtain ⟨o, ho, hc, n, hd⟩ := pl.isList
    exact call_list_seq p (.inl rfl) ho hc hd (fun h' c' kp e => fin its r' hz h' c' kp e) (by simp only [List.size_toArray] <;> omega)
  · obtain ⟨its, r', pl, hz⟩ := I.tuple hq
    have hlen := r'.length
    obtain ⟨o, ho, hc, n, hd⟩ := pl
    exact call_list_seq p (.inr rfl) ho hc hd (fun h' c' kp e => fin its r' hz h' c' kp e) (by simp only [List.size_toArray] <;> omega)
def tyV (K : PySem.W.Frag) (T : String) (x : V) (H : Hp) : Prop := match x with
  | .str _ => T = "str"
  | .int _ => T = "int"
  | .ref p => (T = "list" ∧ ∃ xs, SqL K H p xs) ∨ (T = "tuple" ∧ ∃ o, K.lookup p = some o ∧ o.cls = .type "tuple" ∧ o.dict = none) ∨
      (T = "dict" ∧ ((∃ kvs, H p = some (.dK kvs)) ∨ ∃ kvs, H p = some (.dT kvs))) ∨ (T = "set" ∧ ∃ S n, H p = some (.set S n))
  | _ => False
theorem tyV_is {pins : List (Addr × Obj)} {σ : St} {H : Hp} {s : Shared} {T : String} {x : V} {v : Value} (I : Inv X pins σ H s) (r : RelV x v) (ty : tyV X.K T x H) :
    s.TypeIs v T ∧ ∀ a, v = .ref a → ∃ ob, s.heap.get? a = some ob ∧ ob.dict = none := by
  cases x with
  | str z =>
    obtain ⟨t, rfl⟩ := r
    cases (show T = "str" from ty)
    exact ⟨typeIs_str s z t, fun _ e => nomatch e⟩
  | int i =>
    obtain ⟨t, rfl⟩ := r
    cases (show T = "int" from ty)
    exact ⟨typeIs_int s i t, fun _ e => nomatch e⟩
  | ref p =>
    cases r
    rcases ty with ⟨rfl, xs, hq⟩ | ⟨rfl, o, hk, hc, hd⟩ | ⟨rfl, hk⟩ | ⟨rfl, S, n, hk⟩
    · obtain ⟨its, _, pl, _⟩ := I.list hq
      refine ⟨pl.isList.typeIs, fun a e => ?_⟩
      cases e
      obtain ⟨o, n, e, c, hd, _⟩ := pl
      exact ⟨o, e, hd⟩
    · refine ⟨⟨o, I.kIn p o hk, hc⟩, fun a e => ?_⟩
      cases e
      exact ⟨o, I.kIn _ o hk, hd⟩
    · have z : ∃ o, s.heap.get? p = some o ∧ o.ExactDict := by
        rcases hk with ⟨kvs, hk⟩ | ⟨kvs, hk⟩
        · obtain ⟨_, _, _, _, o, _, _, e, ex, _⟩ := I.hok p _ hk
          exact ⟨o, e, ex⟩
        · obtain ⟨_, _, _, _, o, _, _, e, ex, _⟩ := I.hok p _ hk
          exact ⟨o, e, ex⟩
      obtain ⟨o, e, ex⟩ := z
      refine ⟨⟨o, e, ex.1⟩, fun a e2 => ?_⟩
      cases e2
      exact ⟨o, e, ex.2.1⟩
    · obtain ⟨o, _, _, _, e, ex, _⟩ := I.hok p _ hk
      refine ⟨⟨o, e, ex.1⟩, fun a e2 => ?_⟩
      cases e2
      exact ⟨o, e, ex.2.1⟩
  | _ => exact False.elim ty
def tBM (K : PySem.W.Frag) (T : String) (r : V → List V → Hp → VK → Prop) (to : TE) (t : TA) : TE := fun σ H Q => to σ H fun x H1 => tyV K T x H1 ∧ t σ H1 fun xs H2 => r x xs H2 Q
variable {o e : Expr} {es : List Expr} {to : TE} {t : TA} {name : Str} {apos cpos : Pos} {T id : String} {r : V → List V → Hp → VK → Prop}
theorem pe_bm (pa : PlainAttrs T) (slot : Slot T name id) (hty : typeOf (.builtin id) = pure (.type "method_descriptor")) (hm : MtR X id r) (ho : PE X o to) (ha : PA X (e :: es) t)
    (hbase : attributeBase o name X.env (eval o X.env) = eval o X.env := by rfl)
    (hfew : ((backTo cpos (starEach (e :: es) X.env)).all (fun x => !x.1) && (backToKw cpos (keywordEach [] X.env)).all (fun x => x.1.isSome)
      && decide ((e :: es).length + ([] : List Keyword).length + (if ([] : List Keyword).isEmpty then 0 else 1) < 30)) = true := by rfl)
    (hline : (apos.endLine == cpos.line) = true := by rfl) (hs : starEach (e :: es) X.env = (false, eval e X.env) :: starEach es X.env := by rfl) (hplain : (backTo cpos (starEach es X.env)).any (·.1) = false := by rfl) :
    PE X (.Call (.Attribute o name apos) (e :: es) [] cpos) (tBM X.K T r to t) := by
  intro pins s σ H Q I h
  refine wpAny_Call_method_late hbase hfew hline rfl (thn (ho pins s σ H _ I h) fun v s1 ⟨x, H1, I1, r1, ty, q1⟩ => ?_)
  obtain ⟨h1, h2⟩ := tyV_is I1 r1 ty
  refine ⟨T, id, pa, slot, hty, h1, h2, ?_⟩
  have hA := ha cpos pins s1 σ H1 _ I1 q1
  rw [hs] at hA ⊢
  refine Calls.callWith_builtin (by show (false || (backTo cpos (starEach es X.env)).any (·.1)) = false; rw [hplain] <;> rfl) (Calls.evalArgs_plain ?_)
  exact thn hA fun us s2 ⟨vs, H2, I2, r2, q2⟩ => hm pins s2 σ H2 x vs v us Q I2 r1 r2 q2
/- xs.append(e), list.index on a module's tuple .. are MtR facts of 06m -/
end
end L2
namespace L2
open PySem PySem.Spec PyProof.Rows
def MtM (X : Cx) (id : String) (r : V → List V → Hp → VK → Prop) : Prop :=
  ∀ (pins : List (Addr × Obj)) (s : Shared) (σ : St) (H : Hp) (x : V) (xs : List V) (v : Value) (us : List Value) (Q : VK), Inv X pins σ H s → RelV x v → Vals xs us → r x xs H Q →
    wpAny (model X.prog X.w) X.A (call (.builtin id) (v :: us)) (EP X pins σ Q) X.xe s
theorem Vals.one : ∀ {x : V} {us : List Value}, Vals [x] us → ∃ u, us = [u] ∧ RelV x u
  | _, _, .cons r .nil => ⟨_, rfl, r⟩
theorem Vals.two : ∀ {x y : V} {us : List Value}, Vals [x, y] us → ∃ u v, us = [u, v] ∧ RelV x u ∧ RelV y v
  | _, _, _, .cons r (.cons q .nil) => ⟨_, _, rfl, r, q⟩
theorem Vals.zero : ∀ {us : List Value}, Vals [] us → us = []
  | _, .nil => rfl
theorem Vals.reverse {xs : List V} {us : List Value} (h : Vals xs us) : Vals xs.reverse us.reverse := by
  induction h with
  | nil => exact .nil
  | cons r t ih => rw [List.reverse_cons, List.reverse_cons]; exact Vals.append ih (.cons r .nil)
theorem Vals.rep {xs : List V} {us : List Value} (h : Vals xs us) : ∀ k : Nat, Vals (List.replicate k xs).flatten (List.replicate k us).flatten
  | 0 => .nil
  | k + 1 => by
    rw [List.replicate_succ, List.replicate_succ, List.flatten_cons, List.flatten_cons]
    exact Vals.append h (Vals.rep h k)
theorem foldl_rep (its : List Value) : ∀ (k : Nat) (acc : List Value),
    List.foldl (fun x1 x2 => x1 ++ x2) acc.toArray (List.replicate k its.toArray) = (acc ++ (List.replicate k its).flatten).toArray
  | 0, acc => by simp
  | k + 1, acc => by
    have e : acc.toArray ++ its.toArray = (acc ++ its).toArray := by simp
    have e2 : (acc ++ its) ++ (List.replicate k its).flatten = acc ++ (List.replicate (k + 1) its).flatten := by
      rw [List.replicate_succ, List.flatten_cons, List.append_assoc]
    rw [← e2, ← foldl_rep its k (acc ++ its), ← e, List.replicate_succ, List.foldl_cons]
section
variable {X : Cx} {pins : List (Addr × Obj)} {σ : St} {H : Hp} {s : Shared} {l b : Addr} {xs ys zs : List V}
theorem Inv.lset {its its' : List Value} {n : Nat} {f : Array Value → Array Value} {t' : Nat} (I : Inv X pins σ H s) (hH : H l = some (.lst xs))
    (e : s.heap.get? l = some { cls := .type "list", data := .seq its.toArray n }) (hf : f its.toArray = its'.toArray) (hv : Vals ys its') (hz : ys.length ≤ sizeLine) :
    Inv X pins σ (upd H l (.lst ys)) { s with heap := s.heap.update l (Obj.mapSeq f), toks := t' } := by
  have q := PySem.IsL.update e f
  rw [hf] at q
  refine I.write (x := l) (e := l) (by rw [hH]; exact trivial) (.inl rfl) (fun b' u hb hu => (Heap.get?_update_other s.heap (Obj.mapSeq f) (Ne.symm hb)).trans hu) ⟨_, q⟩ ?_
  exact ⟨hz, its', _, hv, q⟩
theorem Inv.lnew {its : List Value} {t' : Nat} (I : Inv X pins σ H s) (hv : Vals ys its) (hz : ys.length ≤ sizeLine) :
    Inv X pins σ (upd H s.heap.objs.size (.lst ys)) { s with heap := s.heap.push { cls := .type "list", data := .seq its.toArray }, toks := t' } :=
  I.laid (fun _ _ q => Heap.get?_push_of_some _ q) (Nat.le_refl _) ⟨hz, its, 0, hv, Heap.get?_push_size _ rfl⟩
theorem Inv.fresh (I : Inv X pins σ H s) : H s.heap.objs.size = none := I.hok.fresh (Nat.le_refl _)
theorem Inv.lstM (I : Inv X pins σ H s) (hH : H l = some (.lst xs)) : xs.length ≤ sizeLine ∧ ∃ (its : List Value) (n : Nat), Vals xs its ∧ xs.length = its.length ∧ s.heap.get? l = some { cls := .type "list", data := .seq its.toArray n } := by
  obtain ⟨z, its, n, r, e⟩ := I.hok l _ hH
  exact ⟨z, its, n, r, r.length, e⟩
theorem notLongL {n : Nat} (h : n ≤ sizeLine) : Builtin.List.listTooLong n = false := by
  unfold Builtin.List.listTooLong
  exact decide_eq_false (by omega)
end
section
variable {X : Cx}
def rAppend : V → List V → Hp → VK → Prop := fun x vs H Q => ∃ l xs y, x = .ref l ∧ vs = [y] ∧ H l = some (.lst xs) ∧ xs.length < sizeLine ∧ Q .non (upd H l (.lst (xs ++ [y])))
theorem mt_append : MtM X "list.append" rAppend := by
  intro pins s σ H x vs v us Q I rx rv h
  obtain ⟨l, xs, y, rfl, rfl, hH, hz, q⟩ := h
  cases rx
  obtain ⟨u, rfl, ru⟩ := rv.one
  obtain ⟨z, its, n, r, hl, e⟩ := I.lstM hH
  refine call_meets F.slot_list_append ⟨_, e, rfl⟩ F.entry_list_append (F.args_list_append_2 _ _) (PySem.list_append l its.toArray n u (by rw [List.size_toArray]; omega)) ⟨e, ?_⟩
  refine ⟨.non, _, I.lset (its' := its ++ [u]) hH e (by simp) (r.append (.cons ru .nil)) ?_, rfl, q⟩
  rw [List.length_append, List.length_singleton]
  omega
def rCat : R2 := fun x y H Q => ∃ l b xs zs, x = .ref l ∧ y = .ref b ∧ H l = some (.lst xs) ∧ H b = some (.lst zs) ∧ xs.length + zs.length ≤ sizeLine ∧ ∀ p, H p = none → Q (.ref p) (upd H p (.lst (xs ++ zs)))
theorem op_cat : OpR X (binaryOp .Add) rCat := by
  intro pins s σ H x y v u Q I rx ry h
  obtain ⟨l, b, xs, zs, rfl, rfl, hH, hB, hz, q⟩ := h
  cases rx
  cases ry
  obtain ⟨z, its, n, r, hl, e⟩ := I.lstM hH
  obtain ⟨z2, its2, n2, r2, hl2, e2⟩ := I.lstM hB
  refine PySem.P.add_list e e2 ?_ (by rw [List.size_toArray, List.size_toArray]; omega)
  have ea : its.toArray ++ its2.toArray = (its ++ its2).toArray := by simp
  rw [ea]
  exact ⟨.ref _, _, I.lnew (t' := s.toks) (r.append r2) (by rw [List.length_append]; omega), rfl, q _ I.fresh⟩
def rRep : R2 := fun x y H Q => ∃ l k xs, x = .ref l ∧ y = .int k ∧ H l = some (.lst xs) ∧ -(2 ^ 63) ≤ k ∧ k < 2 ^ 63 ∧ xs.length * k.toNat ≤ sizeLine ∧
  ∀ p, H p = none → Q (.ref p) (upd H p (.lst (List.replicate k.toNat xs).flatten))
theorem len_rep {α : Type} (xs : List α) (k : Nat) : (List.replicate k xs).flatten.length = k * xs.length := by
  induction k with
  | zero => simp
  | succ k ih => rw [List.replicate_succ, List.flatten_cons, List.length_append, ih, Nat.succ_mul, Nat.add_comm]
theorem op_rep : OpR X (binaryOp .Mult) rRep := by
  intro pins s σ H x y v u Q I rx ry h
  obtain ⟨l, k, xs, rfl, rfl, hH, h1, h2, hz, q⟩ := h
  cases rx
  obtain ⟨t, rfl⟩ := ry
  obtain ⟨z, its, n, r, hl, e⟩ := I.lstM hH
  have hlen : its.toArray.size * k.toNat ≤ sizeLine := by rw [List.size_toArray, ← hl]; exact hz
  have hcap : ¬ its.toArray.size * k.toNat > (2 ^ 63 - 1) / 8 := by
    have : (sizeLine : Nat) ≤ (2 ^ 63 - 1) / 8 := by decide
    omega
  have hfit : ¬ (!Builtin.List.listFitsIndex k) = true := by
    rw [fitsIndex_both h1 h2]
    exact Bool.false_ne_true
  have hlong : ¬ Builtin.List.listTooLong (its.toArray.size * k.toNat) = true := by
    rw [notLongL hlen]
    exact Bool.false_ne_true
  have hnew : List.foldl (fun x1 x2 => x1 ++ x2) #[] (List.replicate (if its.toArray.isEmpty = true then 0 else k.toNat) its.toArray) = (List.replicate k.toNat its).flatten.toArray := by
    have f0 : ∀ m : Nat, List.foldl (fun x1 x2 => x1 ++ x2) #[] (List.replicate m its.toArray) = (List.replicate m its).flatten.toArray := fun m => by
      have := foldl_rep its m []
      rw [List.nil_append] at this
      exact this
    rw [f0]
    cases its with
    | nil => simp
    | cons a r' => rw [if_neg (by simp)]
  refine wpAny_binaryOp_repeat_ref (T := "list") (U := "int") (by decide) ⟨_, e, rfl⟩ (fun s' => typeIs_int s' k t) noFill_list_mul F.fills_int_mul F.slot_int_rmul repeat_list F.slot_int_index.lookup
    (call_meets F.slot_int_rmul (typeIs_int s k t) F.entry_int_rmul (F.args_int_rmul_2 _ _) (int___rmul___int_list k t l its.toArray n)
      ⟨e, rfl, ⟨_, e, rfl⟩, call_meets F.slot_list_mul ⟨_, e, rfl⟩ F.entry_list_mul (F.args_list_mul_2 _ _) (AutoListH.list___mul___list_int_3 l its.toArray n k t hfit hcap hlong) ⟨e, ?_⟩⟩)
  rw [hnew]
  exact ⟨.ref _, _, I.lnew (t' := s.toks) (r.rep k.toNat) (by rw [len_rep, Nat.mul_comm]; exact hz), rfl, q _ I.fresh⟩
end
section
variable {prog : Program} {w : World} {A : Around} {E : Value → Shared → Prop} {s : Shared}
end
section
variable {X : Cx}
end
end L2
namespace L2
open PySem PySem.Spec PyProof.Rows
section
variable {κ : Type} [DecidableEq κ]
def valV (kvs : List (κ × V)) (k : κ) : Option V := (kvs.find? fun kv => decide (kv.1 = k)).map (·.2)
def putK (kvs : List (κ × V)) (k : κ) (v : V) : List (κ × V) :=
  if (kvs.any fun kv => decide (kv.1 = k)) = true then kvs.map (fun kv => if kv.1 = k then (kv.1, v) else kv) else kvs ++ [(k, v)]
def dropK (kvs : List (κ × V)) (k : κ) : List (κ × V) := kvs.filter fun kv => decide (kv.1 ≠ k)
theorem valV_pos {p : κ × V} {r : List (κ × V)} {k : κ} (e : p.1 = k) : valV (p :: r) k = some p.2 := by simp [valV, List.find?_cons, e]
theorem valV_neg {p : κ × V} {r : List (κ × V)} {k : κ} (e : ¬ p.1 = k) : valV (p :: r) k = valV r k := by simp [valV, List.find?_cons, e]
theorem valV_any (k : κ) : ∀ kvs : List (κ × V), (kvs.any fun kv => decide (kv.1 = k)) = (valV kvs k).isSome
  | [] => rfl
  | p :: r => by
    rw [List.any_cons]
    by_cases e : p.1 = k
    · simp only [valV_pos e, decide_eq_true e, Bool.true_or, Option.isSome_some]
    · rw [valV_neg e, decide_eq_false e, Bool.false_or]; exact valV_any k r
theorem valV_map (k j : κ) (y : V) : ∀ kvs : List (κ × V), valV (kvs.map fun kv => if kv.1 = k then (kv.1, y) else kv) j = (valV kvs j).map fun x => if j = k then y else x
  | [] => rfl
  | p :: r => by
    have ih := valV_map k j y r
    rw [List.map_cons]
    by_cases h : p.1 = k
    · rw [if_pos h]
      by_cases e : p.1 = j
      · rw [valV_pos (p := (p.1, y)) e, valV_pos e, Option.map_some, if_pos (e.symm.trans h)]
      · rw [valV_neg (p := (p.1, y)) e, valV_neg e, ih]
    · rw [if_neg h]
      by_cases e : p.1 = j
      · rw [valV_pos (p := p) e, valV_pos e, Option.map_some, if_neg (fun z => h (e.trans z))]
      · rw [valV_neg (p := p) e, valV_neg e, ih]
theorem length_putK (kvs : List (κ × V)) (k : κ) (v : V) : (putK kvs k v).length ≤ kvs.length + 1 := by
  unfold putK
  split
  · rw [List.length_map]; omega
  · rw [List.length_append, List.length_cons, List.length_nil]; omega
theorem putK_new {kvs : List (κ × V)} {k : κ} (v : V) (h : valV kvs k = none) : putK kvs k v = kvs ++ [(k, v)] := by
  unfold putK
  rw [valV_any, h]
  exact if_neg (by decide)
theorem RelO.isSome_eq {o : Option V} {u : Option Value} (r : RelO o u) : o.isSome = u.isSome := by
  cases o with
  | none => cases u with
    | none => rfl
    | some _ => exact (show False from r).elim
  | some _ => cases u with
    | none => exact (show False from r).elim
    | some _ => rfl
theorem RelO.getD {o : Option V} {u : Option Value} {d : V} {d' : Value} (r : RelO o u) (rd : RelV d d') : RelV (o.getD d) (u.getD d') := by
  cases o with
  | none => cases u with
    | none => exact rd
    | some _ => exact (show False from r).elim
  | some _ => cases u with
    | none => exact (show False from r).elim
    | some _ => exact r
theorem KV.val {kvs : List (κ × V)} {vs : List (κ × Value)} (r : KV kvs vs) (k : κ) : RelO (valV kvs k) (valueAt vs k) := by
  unfold KV at r
  induction r with
  | nil => exact True.intro
  | @cons p q ps qs h t ih =>
    obtain ⟨h1, h2⟩ := h
    by_cases e : p.1 = k
    · have e' : q.1 = k := h1.symm.trans e
      have b : valueAt (q :: qs) k = some q.2 := by simp [valueAt, List.find?_cons, e']
      rw [valV_pos e, b]; exact h2
    · have e' : ¬ q.1 = k := fun z => e (h1.trans z)
      have b : valueAt (q :: qs) k = valueAt qs k := by simp [valueAt, List.find?_cons, e']
      rw [valV_neg e, b]; exact ih
theorem KV.any {kvs : List (κ × V)} {vs : List (κ × Value)} (r : KV kvs vs) (k : κ) : (kvs.any fun kv => decide (kv.1 = k)) = vs.any fun kv => decide (kv.1 = k) := by
  unfold KV at r
  induction r with
  | nil => rfl
  | cons h t ih => rw [List.any_cons, List.any_cons, ih, h.1]
theorem KV.repl {kvs : List (κ × V)} {vs : List (κ × Value)} (r : KV kvs vs) (k : κ) {y : V} {u : Value} (ry : RelV y u) :
    KV (kvs.map fun kv => if kv.1 = k then (kv.1, y) else kv) (vs.map fun kv => if kv.1 = k then (kv.1, u) else kv) := by
  unfold KV at r ⊢
  induction r with
  | nil => exact .nil
  | @cons p q ps qs h t ih =>
    rw [List.map_cons, List.map_cons]
    refine .cons ?_ ih
    obtain ⟨h1, h2⟩ := h
    by_cases e : p.1 = k
    · rw [if_pos e, if_pos (h1.symm.trans e)]; exact ⟨h1, ry⟩
    · rw [if_neg e, if_neg (fun z => e (h1.trans z))]; exact ⟨h1, h2⟩
theorem KV.put {kvs : List (κ × V)} {vs : List (κ × Value)} (r : KV kvs vs) (k : κ) {y : V} {u : Value} (ry : RelV y u) : KV (putK kvs k y) (stored vs k u) := by
  unfold putK stored
  rw [r.any k]
  by_cases e : (vs.any fun kv => decide (kv.1 = k)) = true
  · rw [if_pos e, if_pos e]; exact r.repl k ry
  · rw [if_neg e, if_neg e]; exact Paired.snoc r ⟨rfl, ry⟩
theorem KV.drop {kvs : List (κ × V)} {vs : List (κ × Value)} (r : KV kvs vs) (k : κ) : KV (dropK kvs k) (without vs k) := by
  unfold KV at r ⊢
  unfold dropK without
  induction r with
  | nil => exact .nil
  | @cons p q ps qs h t ih =>
    obtain ⟨h1, h2⟩ := h
    rw [List.filter_cons, List.filter_cons]
    by_cases e : p.1 = k
    · have a : ¬ decide (p.1 ≠ k) = true := by simp [e]
      have b : ¬ decide (q.1 ≠ k) = true := by simp [h1.symm.trans e]
      rw [if_neg a, if_neg b]; exact ih
    · have e' : ¬ q.1 = k := fun z => e (h1.trans z)
      have a : decide (p.1 ≠ k) = true := by simp [e]
      have b : decide (q.1 ≠ k) = true := by simp [e']
      rw [if_pos a, if_pos b]; exact .cons ⟨h1, h2⟩ ih
theorem KV.keys {kvs : List (κ × V)} {vs : List (κ × Value)} (r : KV kvs vs) : kvs.map (·.1) = vs.map (·.1) := by
  unfold KV at r
  induction r with
  | nil => rfl
  | cons h t ih => rw [List.map_cons, List.map_cons, ih, h.1]
theorem KV.length {kvs : List (κ × V)} {vs : List (κ × Value)} (r : KV kvs vs) : kvs.length = vs.length := Paired.length r
end
theorem kV_is {P : Program} {w : World} {k : Key} {u : Value} (r : RelV (kV k) u) : (mixKind P w).is k u = true := by
  cases k with
  | inl i => obtain ⟨t, e⟩ := (show ∃ t, u = Value.int i t from r); subst e; exact mixKind_int P w i t
  | inr x => obtain ⟨t, e⟩ := (show ∃ t, u = Value.str x t from r); subst e; exact mixKind_str P w x t
theorem items_are {P : Program} {w : World} : ∀ {ks : List Key} {us : List Value}, Vals (ks.map kV) us → ItemsAre (mixKind P w) ks us
  | [], _, r => by rw [List.map_nil] at r; cases r; exact .nil
  | k :: ks, _, r => by
    rw [List.map_cons] at r
    cases r with
    | cons h t => exact .cons (kV_is h) (items_are t)
abbrev KT (H : Hp) : List (List Key × V) → List (List Key × Addr × Value) → Prop := Paired fun p q => p.1 = q.1 ∧ H q.2.1 = some (.tup (p.1.map kV)) ∧ RelV p.2 q.2.2
theorem KT.val {H : Hp} {kvs : List (List Key × V)} {xs : List (List Key × Addr × Value)} (r : KT H kvs xs) (k : List Key) : RelO (valV kvs k) ((atKey xs k).map (·.2)) := by
  induction r with
  | nil => exact True.intro
  | @cons p q ps qs h t ih =>
    obtain ⟨h1, _, h2⟩ := h
    by_cases e : p.1 = k
    · have e' : q.1 = k := h1.symm.trans e
      have b : atKey (q :: qs) k = some q.2 := by simp [atKey, List.find?_cons, e']
      rw [valV_pos e, b]; exact h2
    · have e' : ¬ q.1 = k := fun z => e (h1.trans z)
      have b : atKey (q :: qs) k = atKey qs k := by simp [atKey, List.find?_cons, e']
      rw [valV_neg e, b]; exact ih
theorem KT.repl {H : Hp} {kvs : List (List Key × V)} {xs : List (List Key × Addr × Value)} (r : KT H kvs xs) (k : List Key) {y : V} {u : Value} (ry : RelV y u) :
    KT H (kvs.map fun kv => if kv.1 = k then (kv.1, y) else kv) (xs.map (putAt k u)) := by
  induction r with
  | nil => exact .nil
  | @cons p q ps qs h t ih =>
    rw [List.map_cons, List.map_cons]
    refine .cons ?_ ih
    obtain ⟨h1, h2, h3⟩ := h
    unfold putAt
    by_cases e : p.1 = k
    · rw [if_pos e, if_pos (h1.symm.trans e)]; exact ⟨h1, h2, ry⟩
    · rw [if_neg e, if_neg (fun z => e (h1.trans z))]; exact ⟨h1, h2, h3⟩
theorem KT.put {H : Hp} {kvs : List (List Key × V)} {xs : List (List Key × Addr × Value)} (r : KT H kvs xs) (k : List Key) {b : Addr} {y : V} {u : Value} (hb : H b = some (.tup (k.map kV))) (ry : RelV y u) :
    KT H (putK kvs k y) (storedH xs k b u) := by
  have e : (kvs.any fun kv => decide (kv.1 = k)) = (atKey xs k).isSome := by
    rw [valV_any, (r.val k).isSome_eq, Option.isSome_map]
  unfold putK storedH
  rw [e]
  by_cases q : (atKey xs k).isSome = true
  · rw [if_pos q, if_pos q]; exact r.repl k ry
  · rw [if_neg q, if_neg q]; exact Paired.snoc r ⟨rfl, hb, ry⟩
theorem KT.keeps {H H' : Hp} {kvs : List (List Key × V)} {xs : List (List Key × Addr × Value)} (r : KT H kvs xs) (ht : ∀ b ys, H b = some (.tup ys) → H' b = some (.tup ys)) : KT H' kvs xs :=
  Paired.mapP r fun _ _ z => ⟨z.1, ht _ _ z.2.1, z.2.2⟩
section
variable {P : Program} {w : World} {H : Hp} {h : Heap} {a : Addr}
theorem rd_of {u : HO} (ok : HOk P w H h) (e : Rd H a u) : ObjOk P w H h a u := e.ok ok
theorem dk_rd {kvs : List (Key × V)} (ok : HOk P w H h) (e : Rd H a (.dK kvs)) : kvs.length ≤ sizeLine ∧ (a == sysModules) = false ∧ ∃ vs, KV kvs vs ∧ h.DictOf (mixKind P w) a vs :=
  show ObjOk P w H h a (.dK kvs) from rd_of ok e
theorem dk_of {kvs : List (Key × V)} (ok : HOk P w H h) (e : H a = some (.dK kvs)) : kvs.length ≤ sizeLine ∧ (a == sysModules) = false ∧ ∃ vs, KV kvs vs ∧ h.DictOf (mixKind P w) a vs := dk_rd ok (.inl e)
theorem key_of {ks : List Key} (ok : HOk P w H h) (e : H a = some (.tup (ks.map kV))) : (tupleKind (mixKind P w)).is h ks a := by
  obtain ⟨_, its, r, o, h1, h2, n, h3⟩ := (show ObjOk P w H h a (.tup (ks.map kV)) from ok a _ e)
  exact ⟨o, its.toArray, n, h1, h2, h3, by simpa using items_are r⟩
theorem dt_rd {kvs : List (List Key × V)} (ok : HOk P w H h) (e : Rd H a (.dT kvs)) : kvs.length ≤ sizeLine ∧ (a == sysModules) = false ∧
    ∃ xs, KT H kvs xs ∧ h.DictOfH (tupleKind (mixKind P w)) a xs := by
  obtain ⟨z, y, xs, r, o, es, ep, h1, h2, h3, h4, h5⟩ := (show ObjOk P w H h a (.dT kvs) from rd_of ok e)
  refine ⟨z, y, xs, r, o, es, ep, h1, h2, h3, h4, fun x hx => ?_, h5⟩
  have all : ∀ {l : List (List Key × V)} {m : List (List Key × Addr × Value)}, KT H l m → ∀ x ∈ m, (tupleKind (mixKind P w)).is h x.1 x.2.1 := by
    intro l m q
    induction q with
    | nil => intro x hx; exact nomatch hx
    | @cons p q ps qs hq t ih =>
      intro x hx
      rcases List.mem_cons.mp hx with e | hx
      · subst e
        exact key_of ok (by rw [← hq.1]; exact hq.2.1)
      · exact ih x hx
  exact all r x hx
theorem dt_of {kvs : List (List Key × V)} (ok : HOk P w H h) (e : H a = some (.dT kvs)) : kvs.length ≤ sizeLine ∧ (a == sysModules) = false ∧
    ∃ xs, KT H kvs xs ∧ h.DictOfH (tupleKind (mixKind P w)) a xs := dt_rd ok (.inl e)
end
def DGet (H : Hp) (a : Addr) (y : V) (r : Option V) : Prop :=
  (∃ kvs k, Rd H a (.dK kvs) ∧ y = kV k ∧ r = valV kvs k) ∨ ∃ kvs k b, Rd H a (.dT kvs) ∧ y = .ref b ∧ H b = some (.tup (k.map kV)) ∧ r = valV kvs k
def DPut (H : Hp) (a : Addr) (y v : V) (H' : Hp) : Prop :=
  (∃ kvs k, H a = some (.dK kvs) ∧ y = kV k ∧ kvs.length < sizeLine ∧ H' = upd H a (.dK (putK kvs k v))) ∨
  ∃ kvs k b, H a = some (.dT kvs) ∧ y = .ref b ∧ H b = some (.tup (k.map kV)) ∧ kvs.length < sizeLine ∧ H' = upd H a (.dT (putK kvs k v))
theorem DGet.k {H : Hp} {a : Addr} {kvs : List (Key × V)} {k : Key} (e : H a = some (.dK kvs)) : DGet H a (kV k) (valV kvs k) := .inl ⟨kvs, k, .inl e, rfl, rfl⟩
theorem DGet.t {H : Hp} {a b : Addr} {kvs : List (List Key × V)} {k : List Key} (e : H a = some (.dT kvs)) (eb : H b = some (.tup (k.map kV))) : DGet H a (.ref b) (valV kvs k) := .inr ⟨kvs, k, b, .inl e, rfl, eb, rfl⟩
theorem DPut.k {H : Hp} {a : Addr} {kvs : List (Key × V)} {k : Key} {v : V} (e : H a = some (.dK kvs)) (hl : kvs.length < sizeLine) : DPut H a (kV k) v (upd H a (.dK (putK kvs k v))) := .inl ⟨kvs, k, e, rfl, hl, rfl⟩
theorem DPut.t {H : Hp} {a b : Addr} {kvs : List (List Key × V)} {k : List Key} {v : V} (e : H a = some (.dT kvs)) (eb : H b = some (.tup (k.map kV))) (hl : kvs.length < sizeLine) :
    DPut H a (.ref b) v (upd H a (.dT (putK kvs k v))) := .inr ⟨kvs, k, b, e, rfl, eb, hl, rfl⟩
section
variable {X : Cx} {pins : List (Addr × Obj)} {σ : St} {H : Hp} {s : Shared} {a : Addr} {y v : V} {u r : Value} {o : Option V} {A : Around} {E : Value → Shared → Prop}
theorem Inv.big (I : Inv X pins σ H s) : sysModules < s.heap.objs.size := by
  have h : mainGlobals < s.heap.objs.size := (I.mod.glob.keeps I.bk).lt
  exact Nat.lt_trans (by decide) h
theorem d_getItem {Q : Value → Shared → Prop} (hu : A.units + 1 < cLine) (I : Inv X pins σ H s) (g : DGet H a y (some v)) (ry : RelV y u) (h : ∀ w' s', Inv X pins σ H s' → RelV v w' → Q w' s') :
    wpAny (model X.prog X.w) A (getItem (.ref a) u) Q E s := by
  rcases g with ⟨kvs, k, e, ey, l⟩ | ⟨kvs, k, b, e, ey, eb, l⟩
  · subst ey
    obtain ⟨z, hd, vs, rel, dd⟩ := dk_rd I.hok e
    obtain ⟨w', hw, rw'⟩ := RelO.some_of (v := v) (o := valueAt vs k) (by rw [l]; exact rel.val k)
    exact wpAny_getItem_of (kV_is ry) dd.mapOf hw (h w' _ (I.tok _) rw')
  · subst ey
    cases (show u = Value.ref b from ry)
    obtain ⟨z, hd, xs, rel, dd⟩ := dt_rd I.hok e
    obtain ⟨w', hw, rw'⟩ := RelO.some_of (v := v) (o := (atKey xs k).map (·.2)) (by rw [l]; exact rel.val k)
    obtain ⟨p, hp, hp2⟩ := Option.map_eq_some_iff.mp hw
    refine wpAny_getItem_heap (tupleKind_room_in1 hu) (key_of I.hok eb) dd hp ?_
    rw [hp2]
    exact h w' _ (I.tok _) rw'
theorem d_write {h' : Heap} {t' : Nat} {ob : HO} (I : Inv X pins σ H s) (mu : Mut (H a)) (hs : Heap.SameBut a s.heap h') (he : ∃ q, h'.get? a = some q) (new : ObjOk X.prog X.w (upd H a ob) h' a ob) :
    Inv X pins σ (upd H a ob) { s with heap := h', toks := t' } :=
  I.write (x := a) (e := a) mu (.inl rfl) (fun b q hb z => (hs.2 b hb).trans z) he new
theorem dk_new {P : Program} {w : World} {H' : Hp} {h' : Heap} {kvs : List (Key × V)} {vs : List (Key × Value)} (z : kvs.length ≤ sizeLine) (hd : (a == sysModules) = false) (rel : KV kvs vs) (dd : h'.DictOf (mixKind P w) a vs) :
    ObjOk P w H' h' a (.dK kvs) := ⟨z, hd, vs, rel, dd⟩
theorem d_setItem {H' : Hp} {Q : Unit → Shared → Prop} (hu : A.units + 1 < cLine) (I : Inv X pins σ H s) (g : DPut H a y v H') (ry : RelV y u) (rv : RelV v r) (h : ∀ s', Inv X pins σ H' s' → Q () s') :
    wpAny (model X.prog X.w) A (setItem (.ref a) u r) Q E s := by
  rcases g with ⟨kvs, k, e, ey, l, eH⟩ | ⟨kvs, k, b, e, ey, eb, l, eH⟩
  · subst ey eH
    obtain ⟨z, hd, vs, rel, dd⟩ := dk_of I.hok e
    have hz : vs.length ≤ sizeLine := by rw [← rel.length]; exact z
    have hl : (putK kvs k v).length ≤ sizeLine := by have := length_putK kvs k v; omega
    refine wpAny_setItem_pairs (hsz := hz) (kV_is ry) dd fun h' dd' hs => h _ ?_
    have he : ∃ q, h'.get? a = some q := let ⟨q, _, _, hq, _⟩ := dd'; ⟨q, hq⟩
    exact d_write I (by rw [e]; exact True.intro) hs he (dk_new hl hd (rel.put k rv) dd')
  · subst ey eH
    cases (show u = Value.ref b from ry)
    obtain ⟨z, hd, xs, rel, dd⟩ := dt_of I.hok e
    have hz : xs.length ≤ sizeLine := by rw [← Paired.length rel]; exact z
    have hl : (putK kvs k v).length ≤ sizeLine := by have := length_putK kvs k v; omega
    refine wpAny_setItem_heap (hsz := hz) (tupleKind_room_in1 hu) (key_of I.hok eb) dd fun h' dd' hs => h _ ?_
    obtain ⟨q, es, ep, hq, h2, h3, h4, _, h5⟩ := dd'
    refine d_write I (by rw [e]; exact True.intro) hs ⟨q, hq⟩ ⟨hl, hd, _, (rel.put k eb rv).keeps fun c ys ec => ?_, q, es, ep, hq, h2, h3, h4, h5⟩
    rw [upd_ne (ne_of ec e (fun z => nomatch z))]
    exact ec
end
section
variable {X : Cx} {pins : List (Addr × Obj)} {σ : St} {H : Hp} {s : Shared} {a : Addr} {kvs : List (Key × V)} {k : Key} {u : Value} {A : Around} {E : Value → Shared → Prop}
end
def NoSl (i : Expr) : Prop := ∀ ov iv, subscripted i false ov iv = operate [ov, iv] (getItem ov iv)
theorem subD_of {prog : Program} {w : World} {A : Around} {E : Value → Shared → Prop} {s : Shared} {env : Env} {value slice : Expr} {pos : Pos} {T id : String} {Q : Value → Shared → Prop}
    (hl : typeLookup (.type T) "__getitem__" = pure (some (.builtin id))) (hs : NoSl slice)
    (h : wpAny (model prog w) A (eval value env) (fun o s₁ => wpAny (model prog w) A (eval slice env) (fun i s₂ => s₂.TypeIs o T ∧ wpAny (model prog w) A (getItem o i) Q E s₂) E s₁) E s) :
    wpAny (model prog w) A (eval (.Subscript value slice pos) env) Q E s := by
  refine Subscript_ (wpAny_mono h (fun o s₁ h₁ => wpAny_mono h₁ (fun i s₂ h₂ => ?_) fun _ _ x => x) fun _ _ x => x)
  obtain ⟨hT, h₂⟩ := h₂
  unfold subscriptTail
  refine wpAny_bind ?_
  rw [getitemInPython_of_ne hT.not_modules]
  refine wpAny_bind (wpAny_specialOf hT hl ?_)
  have fin : wpAny (model prog w) A (subscripted slice false o i) (fun r s₃ => wpAny (model prog w) A (letTemporaryGo value o r >>= fun _ => pure r) Q E s₃) E s₂ := by
    rw [hs o i]
    exact wpAny_operating (wpAny_mono h₂ (fun r s₃ h₃ => wpAny_bind (wpAny_letTemporaryGo (wpAny_pure h₃))) fun _ _ x => x)
  first
    | exact wpAny_pure (wpAny_bind fin)
    | exact wpAny_bind (wpAny_pure (wpAny_bind fin))
    | exact wpAny_bind fin
theorem dict_typeIs {X : Cx} {pins : List (Addr × Obj)} {σ : St} {H : Hp} {s : Shared} {a : Addr} {y : V} {o : Option V} (I : Inv X pins σ H s) (g : DGet H a y o) : s.TypeIs (.ref a) "dict" := by
  rcases g with ⟨kvs, k, e, _, _⟩ | ⟨kvs, k, b, e, _, _, _⟩
  · obtain ⟨_, _, vs, _, dd⟩ := dk_rd I.hok e
    exact dd.typeIs
  · obtain ⟨_, _, xs, _, dd⟩ := dt_rd I.hok e
    exact dd.typeIs
def tDGet (td ty : TE) : TE := fun σ H Q => td σ H fun x H1 => ty σ H1 fun y H2 => ∃ a v, x = .ref a ∧ DGet H2 a y (some v) ∧ Q v H2
def sDPut (td ty tv : TE) : TS := fun D σ H => tv σ H fun v H1 => td σ H1 fun x H2 => ty σ H2 fun y H3 => ∃ a H4, x = .ref a ∧ DPut H3 a y v H4 ∧ D.nx σ H4
section
variable {X : Cx} {o i e value : Expr} {pos pos' tpos : Pos} {td ty tv : TE}
theorem pe_dget (hu : X.A.units + 1 < cLine) (ho : PE X o td) (hi : PE X i ty) (hs : NoSl i) : PE X (.Subscript o i pos) (tDGet td ty) := by
  intro pins s σ H Q I h
  refine subD_of PySem.F.slot_dict_getitem.lookup hs (thn (ho pins s σ H _ I h) fun u s1 ⟨x, H1, I1, rx, q1⟩ => thn (hi pins s1 σ H1 _ I1 q1) fun iv s2 ⟨y, H2, I2, ry, a, v, ex, g, q2⟩ => ?_)
  subst ex
  obtain rfl : u = Value.ref a := rx
  exact ⟨dict_typeIs I2 g, d_getItem hu I2 g ry fun w' s3 I3 rw' => ⟨v, H2, I3, rw', q2⟩⟩
theorem ps_dput (hu : X.A.units + 1 < cLine) (ho : PE X o td) (hi : PE X i ty) (hv : PE X value tv) (hs : swapsWith value (some (.Subscript o i pos')) pos.line X.env = pure false) :
    PS X (.Assign [.Subscript o i pos'] value pos) (sDPut td ty tv) := by
  intro pins s σ H D I h
  refine wpAny_Assign_Subscript (thn (hv pins s σ H _ I h) fun r s1 ⟨v, H1, I1, rv, q1⟩ => thn (ho pins s1 σ H1 _ I1 q1) fun u s2 ⟨x, H2, I2, rx, q2⟩ => thn (hi pins s2 σ H2 _ I2 q2) fun iv s3 ⟨y, H3, I3, ry, a, H4, ex, g, q3⟩ => ?_) hs
  subst ex
  obtain rfl : u = Value.ref a := rx
  exact d_setItem hu I3 g ry rv fun s4 I4 => ⟨σ, H4, I4, q3⟩
end
theorem dk_empty {P : Program} {w : World} {H : Hp} (h : Heap) (hb : sysModules < h.objs.size) : ObjOk P w H (h.push { cls := .type "dict", data := .dict #[] }) h.objs.size (.dK []) :=
  ⟨Nat.zero_le _, beq_eq_false_iff_ne.mpr (Ne.symm (Nat.ne_of_lt hb)), [], .nil, Heap.DictOf.new h⟩
theorem dt_empty {P : Program} {w : World} {H : Hp} (h : Heap) (hb : sysModules < h.objs.size) : ObjOk P w H (h.push { cls := .type "dict", data := .dict #[] }) h.objs.size (.dT []) :=
  ⟨Nat.zero_le _, beq_eq_false_iff_ne.mpr (Ne.symm (Nat.ne_of_lt hb)), [], .nil, _, #[], 0, Heap.get?_push_size _ rfl, ⟨rfl, rfl, rfl⟩, rfl, rfl, List.nodup_nil⟩
def tDNewK : TE := fun _ H Q => ∀ p, H p = none → Q (.ref p) (upd H p (.dK []))
def tDNewT : TE := fun _ H Q => ∀ p, H p = none → Q (.ref p) (upd H p (.dT []))
section
variable {X : Cx} {pos : Pos}
theorem pe_dnewK : PE X (.Dict [] [] pos) tDNewK := fun pins s σ H Q I h =>
  wpAny_Dict_empty ⟨.ref s.heap.objs.size, _, I.laid (a := s.heap.objs.size) (o := .dK []) (t' := s.toks) (fun _ _ q => Heap.get?_push_of_some _ q) (Nat.le_refl _) (dk_empty s.heap I.big), rfl, h _ (I.hok.fresh (Nat.le_refl _))⟩
theorem pe_dnewT : PE X (.Dict [] [] pos) tDNewT := fun pins s σ H Q I h =>
  wpAny_Dict_empty ⟨.ref s.heap.objs.size, _, I.laid (a := s.heap.objs.size) (o := .dT []) (t' := s.toks) (fun _ _ q => Heap.get?_push_of_some _ q) (Nat.le_refl _) (dt_empty s.heap I.big), rfl, h _ (I.hok.fresh (Nat.le_refl _))⟩
end
structure M2 (X : Cx) (o : Expr) (m : Str) (apos : Pos) (e f : Expr) (cpos : Pos) : Prop where
  base : attributeBase o m X.env (eval o X.env) = eval o X.env
  few : ((backTo cpos (starEach [e, f] X.env)).all (fun x => !x.1) && (backToKw cpos (keywordEach [] X.env)).all (fun x => x.1.isSome)
    && decide (([e, f] : List Expr).length + ([] : List Keyword).length + (if ([] : List Keyword).isEmpty then 0 else 1) < 30)) = true
  line : (apos.endLine == cpos.line) = true
  trees : backTo cpos (starEach [e, f] X.env) = [(false, eval e X.env), (false, eval f X.env)]
def IsD (H : Hp) (a : Addr) : Prop := (∃ kvs, Rd H a (.dK kvs)) ∨ ∃ kvs, Rd H a (.dT kvs)
theorem isD_at {X : Cx} {pins : List (Addr × Obj)} {σ : St} {H : Hp} {s : Shared} {a : Addr} (I : Inv X pins σ H s) (d : IsD H a) :
    s.TypeIs (.ref a) "dict" ∧ (∀ b, Value.ref a = .ref b → ∃ ob, s.heap.get? b = some ob ∧ ob.dict = none) ∧ (a == sysModules) = false := by
  rcases d with ⟨kvs, e⟩ | ⟨kvs, e⟩
  · obtain ⟨_, hd, vs, _, dd⟩ := dk_rd I.hok e
    refine ⟨dd.typeIs, fun b q => ?_, hd⟩
    cases q
    obtain ⟨ob, _, _, h1, h2, _⟩ := dd
    exact ⟨ob, h1, h2.2.1⟩
  · obtain ⟨_, hd, xs, _, dd⟩ := dt_rd I.hok e
    refine ⟨dd.typeIs, fun b q => ?_, hd⟩
    cases q
    obtain ⟨ob, _, _, h1, h2, _⟩ := dd
    exact ⟨ob, h1, h2.2.1⟩
section
variable {X : Cx} {pins : List (Addr × Obj)} {σ : St} {H : Hp} {s : Shared} {a : Addr} {y d : V} {u r : Value} {o : Option V} {A : Around} {E : Value → Shared → Prop}
theorem d_get2 {Q : Value → Shared → Prop} (hu : A.units + 1 < cLine) (I : Inv X pins σ H s) (g : DGet H a y o) (ry : RelV y u) (rd : RelV d r) (h : ∀ w' s', Inv X pins σ H s' → RelV (o.getD d) w' → Q w' s') :
    wpAny (model X.prog X.w) A (call (.builtin "dict.get") [.ref a, u, r]) Q E s := by
  rcases g with ⟨kvs, k, e, ey, l⟩ | ⟨kvs, k, b, e, ey, eb, l⟩
  · subst ey
    obtain ⟨z, hd, vs, rel, dd⟩ := dk_rd I.hok e
    refine call_meetsIn PySem.F.slot_dict_get dd.typeIs PySem.F.entry_dict_get (PySem.F.args_dict_get_3 _ _ _) (meets_dict_get_default (mixKind X.prog X.w) a (kV_is ry) hd r) ⟨_, dd.mapOf, h _ _ (I.tok _) ?_⟩
    rw [l]
    exact (rel.val k).getD rd
  · subst ey
    cases (show u = Value.ref b from ry)
    obtain ⟨z, hd, xs, rel, dd⟩ := dt_rd I.hok e
    refine call_meetsIn PySem.F.slot_dict_get dd.typeIs PySem.F.entry_dict_get (PySem.F.args_dict_get_3 _ _ _) (meetsH_dict_get_default (tupleKind (mixKind X.prog X.w)) a b hd r) ⟨tupleKind_room_in1 hu, k, xs, key_of I.hok eb, dd, h _ _ (I.tok _) ?_⟩
    rw [l]
    exact (rel.val k).getD rd
end
def tDGet2 (td ty tx : TE) : TE := fun σ H Q => td σ H fun x H1 => ∃ a, x = .ref a ∧ IsD H1 a ∧ ty σ H1 fun y H2 => tx σ H2 fun z H3 => ∃ o, DGet H3 a y o ∧ Q (o.getD z) H3
section
variable {X : Cx} {o e f : Expr} {apos cpos : Pos} {td ty tx : TE}
theorem pe_dget2 (hu : X.A.units + 1 < cLine) (ho : PE X o td) (he : PE X e ty) (hf : PE X f tx) (m : M2 X o "get" apos e f cpos) : PE X (.Call (.Attribute o "get" apos) [e, f] [] cpos) (tDGet2 td ty tx) := by
  intro pins s σ H Q I h
  refine wpAny_Call_method m.base m.few m.line PySem.F.plainAttrs_dict PySem.F.slot_dict_get PySem.F.type_dict_get (thn (ho pins s σ H _ I h) fun u s1 ⟨x, H1, I1, rx, a, ex, d, q1⟩ => ?_)
  subst ex
  obtain rfl : u = Value.ref a := rx
  obtain ⟨t1, t2, _⟩ := isD_at I1 d
  refine ⟨t1, t2, ?_⟩
  rw [m.trees]
  refine Calls.callWith_builtin rfl (Calls.evalArgs_plain (Calls.spliced_cons (thn (he pins s1 σ H1 _ I1 q1) fun iv s2 ⟨y, H2, I2, ry, q2⟩ =>
    Calls.spliced_cons (thn (hf pins s2 σ H2 _ I2 q2) fun fv s3 ⟨z, H3, I3, rz, ov, g, q3⟩ => Calls.spliced_nil ?_))))
  exact d_get2 hu I3 g ry rz fun w' s4 I4 rw' => ⟨_, H3, I4, rw', q3⟩
end
section
variable {X : Cx} {pins : List (Addr × Obj)} {σ : St} {H : Hp} {s : Shared} {a : Addr} {kvs : List (Key × V)} {A : Around} {E : Value → Shared → Prop}
end
section
variable {X : Cx} {pins : List (Addr × Obj)} {σ : St} {H : Hp} {s : Shared} {a : Addr} {y : V} {u : Value} {A : Around} {E : Value → Shared → Prop}
end
end L2
namespace Att
open PySem PySem.W PySem.Calls PyProof.Rows
theorem ints_of_wellAll {P : Params} {h : Heap} : ∀ (ns : List Int) (vs : List Value), WellAll P h vs (ns.map WData.int) → IntsAre vs ns := by
  intro ns
  induction ns with
  | nil =>
    intro vs w
    rw [List.map_nil] at w
    cases w
    exact .nil
  | cons n ns ih =>
    intro vs w
    rw [List.map_cons] at w
    cases w with
    | cons a b =>
      cases a
      exact .cons _ _ (ih _ b)
theorem script_of {l : OpenLaw} {n : Nat} (hn : l.most = some n) {P : Params} {h : Heap} {args : List WData} {vals : List Value}
    (hpre : l.row.toRowW.claim.pre args = true) (hwl : WellAll P h vals args) :
    ∃ a vs ns, vals = [Value.ref a] ∧ args = [WData.list (ns.map WData.int)] ∧ h.get? a = some { cls := .type "list", data := .seq vs.toArray } ∧ IntsAre vs ns ∧ ns.length ≤ n := by
  have hsh : WShape.hasAll [] args [.list .int] = true := (pre_splitW hpre).1
  have hc : l.pre.holds [] { args := args } = true := (pre_splitW hpre).2
  obtain ⟨d, r, rfl, h1, h2⟩ := hasAllW_cons hsh
  obtain rfl := hasAllW_nil h2
  obtain ⟨xs, rfl, h3⟩ := hasW_list h1
  obtain ⟨ns, rfl⟩ := items_int h3
  have hlen : ns.length ≤ n := by
    unfold OpenLaw.pre at hc
    have h4 : (WTm.not (.lt (.lit (.int (n : Int))) (.len (.arg 0)))).holds [] { args := [.list (ns.map .int)] } = true := by
      have h4 := (holds_andW hc).1
      rw [hn] at h4
      exact h4
    have h5 := condW_of h4 (w_not (w_lt w_lit (w_len_list (w_arg rfl))))
    rw [List.length_map] at h5
    refine Nat.le_of_not_lt fun q => ?_
    have q' : (n : Int) < ((ns.length : Nat) : Int) := by omega
    first
      | (rw [decide_eq_true q'] at h5; exact absurd h5 (by decide))
      | (simp at h5; omega)
  cases hwl with
  | cons w1 w2 =>
    cases w2
    cases w1 with
    | list ho hall => exact ⟨_, _, ns, rfl, rfl, ho, ints_of_wellAll ns _ hall, hlen⟩
theorem post_true (l : OpenLaw) (args : List WData) : l.row.toRowW.claim.post args (.bool true) args = true :=
  postW_of (r := l.row.toRowW) (X := (true == true))
    (show WShape.has [] (.bool true) .bool = true by first | rfl | decide | simp [WShape.has, WShape.arms, WShape.armsAll])
    (show (WTm.eq .res (.lit (.bool true))).value [] { args := args, res := some (.bool true), after := args } = some (.bool (true == true)) from w_eq_bool (w_res rfl) w_lit) rfl
theorem attach_call {l : OpenLaw} {n : Nat} {q : Program} {loose : List Str} {XP : (Str → Option Value) → Heap → Prop} {YP : World → Heap → Prop} {d : DefRec}
    (hn : l.most = some n) (hdf : d.params.defaults = [])
    (call : ∀ (w : World) (s₀ s₁ : Shared) (mg mb : Str → Option Value) (fa : Addr) (o : Obj) (pm cd doc : Value) (a : Addr) (vs : List Value) (ns : List Int),
      Ground q loose [] XP w s₀ mg mb s₁.heap → YP w s₁.heap →
      s₁.heap.get? fa = some o → o.data = .func (docDef d.name d.params d.body d.scope pm cd doc) → s₁.heap.CodeRec cd d.name → mg d.name = some (.ref fa) →
      s₁.heap.get? a = some { cls := .type "list", data := .seq vs.toArray } → IntsAre vs ns → ns.length ≤ n → s₁.gens = #[] →
      codeAny (model l.prog w) callerA (.call (.ref fa) ⟨[.ref a], []⟩) (fun r s' => r = .ok (.ret (.bool true)) ∧ OldK s₁.heap s'.heap ∧ s'.os = s₁.os ∧ AllBare s'.gens) s₁) :
    WalkO q loose XP YP l.row.toRowW d [] (fun f vs => PySem.call f vs) := by
  intro w s₀ s₁ mg mb G Y fa o pm cd doc dV kV ho hd hcd hD hmg hg args vals as hpre hlay hrd hwl hlo
  obtain rfl : dV = .none := Dflts.none hD hdf
  obtain rfl : kV = .none := Dflts.noKw hD
  obtain ⟨a, vs, ns, rfl, rfl, hobj, hints, hlen⟩ := script_of hn hpre hwl
  refine enter_call (codeAny_mono (call w s₀ s₁ mg mb fa o pm cd doc a vs ns G Y ho (fd_plain hd) hcd hmg hobj hints hlen hg) fun r s' hq => ?_)
  obtain ⟨rfl, h2, h3, h4⟩ := hq
  exact ⟨.inl ⟨.bool true, .bool true, [], rfl, fun _ => rfl, .bool true, post_true l _, fun _ => ⟨List.Pairwise.nil, fun _ hm => (nomatch hm)⟩⟩, h2, h3, h4⟩
section
variable {prog : Program} {w : World} {A : Around} {E : Value → Shared → Prop} {s : Shared} {K : Frag}
end
end Att
namespace L2
open PySem PySem.Spec PyProof.Rows
theorem vals_ints : ∀ {vs : List Value} {ns : List Int}, IntsAre vs ns → Vals (ns.map V.int) vs
  | _, _, .nil => .nil
  | _, _, .cons n t h => .cons ⟨t, rfl⟩ (vals_ints h)
def Only (H : Hp) : Prop := ∀ b, H b = none ∨ ∃ o xs, H b = some (.frz o (.lst xs))
theorem law_call {P : Program} {w : World} {K : PySem.W.Frag} {mg mb : Str → Option Value} {CX : CXT} {k : Nat} {fa a : Addr} {fd : FuncData} {x : Str} {sp : Sp} {s₁ : Shared} {vs : List Value} {ns : List Int}
    (KX : K.In s₁.heap) (hns : s₁.heap.Ns mainGlobals mg) (hb : s₁.heap.Ns builtinsNs mb) (hbb : ∀ x : Str, x ≠ "__name__" → mb x = bootBuiltins x) (hlim : s₁.heap.NoLimit) (hbm : ∃ bm o, mg "__builtins__" = some (.ref bm) ∧ bm ≠ builtinsNs ∧ s₁.heap.get? bm = some o ∧ o.cls = .type "module" ∧ o.dict = some builtinsNs ∧ o.data = .plain) (hg : s₁.gens = #[])
    (ha : s₁.heap.get? a = some { cls := .type "list", data := .seq vs.toArray }) (hi : IntsAre vs ns) (hl : ns.length ≤ sizeLine) (hr : Room k callerA)
    (F : ∀ base : Heap, K.In base → base.Ns mainGlobals mg → FnOk P w K mg base CX k fa fd [x] sp) (hbind : ∀ (s : Shared) (u : Value), BindsTo s fd ⟨[u], []⟩ [(x, u)])
    (hsp : ∀ H : Hp, Only H → SqL K H a (ns.map V.int) → sp [.ref a] H (fun v _ => v = .bl true) fun _ _ _ => False)
    (hCX : ∀ H e s', CX [] H s₁ (fun _ _ _ => False) e s' → False) :
    codeAny (model P w) callerA (.call (.ref fa) ⟨[.ref a], []⟩) (fun r s' => r = .ok (.ret (.bool true)) ∧ OldK s₁.heap s'.heap ∧ s'.os = s₁.os ∧ AllBare s'.gens) s₁ := by
  have rv := vals_ints hi
  have lenV := hi.length
  -- from an abstract heap in which nothing but the script may be tracked
  have core : ∀ H : Hp, Only H → SqL K H a (ns.map V.int) → HOk P w H s₁.heap → (∀ b, H b ≠ none → b = a) → (H a ≠ none → K.lookup a = none) →
      codeAny (model P w) callerA (.call (.ref fa) ⟨[.ref a], []⟩) (fun r s' => r = .ok (.ret (.bool true)) ∧ OldK s₁.heap s'.heap ∧ s'.os = s₁.os ∧ AllBare s'.gens) s₁ := by
    intro H hO hS hok hA hK
    have base_of : ∀ {b : Addr} {o : Obj}, s₁.heap.get? b = some o → H b = none → (hidT s₁.heap H).get? b = some o := fun e n => hidT_get e n
    have noA : ∀ {b : Addr} {o : Obj} {es : Array DictEntry} {ep : Nat}, s₁.heap.get? b = some o → o.data = .dict es ep → H b = none := fun {b o es ep} e d => by
      cases q : H b with
      | none => rfl
      | some u =>
        have e' : b = a := hA b (by rw [q]; simp)
        subst e'
        rw [ha] at e; cases e
        have d' : Data.seq vs.toArray _ = Data.dict es ep := d
        cases d'
    have nsK : ∀ {b : Addr} {m : Str → Option Value}, s₁.heap.Ns b m → (hidT s₁.heap H).Ns b m := fun {b m} ⟨o, es, ep, e, d, r⟩ => ⟨o, es, ep, base_of e (noA e d), d, r⟩
    have hKb : K.In (hidT s₁.heap H) := fun b o e => base_of (KX b o e) (by
      cases q : H b with
      | none => rfl
      | some u =>
        have e' : b = a := hA b (by rw [q]; simp)
        subst e'
        rw [hK (by rw [q]; simp)] at e; cases e)
    have hbm' : ∃ bm o, mg "__builtins__" = some (.ref bm) ∧ bm ≠ builtinsNs ∧ (hidT s₁.heap H).get? bm = some o ∧ o.cls = .type "module" ∧ o.dict = some builtinsNs ∧ o.data = .plain := by
      obtain ⟨bm, ob, b1, b2, b3, b4, b5, b6⟩ := hbm
      refine ⟨bm, ob, b1, b2, base_of b3 ?_, b4, b5, b6⟩
      cases q : H bm with
      | none => rfl
      | some u =>
        have e' : bm = a := hA bm (by rw [q]; simp)
        rw [e', ha] at b3
        cases b3
        exact absurd (show Value.type "list" = Value.type "module" from b4) (by decide)
    have hM : Mod K mg (hidT s₁.heap H) := ⟨hKb, nsK hns, ⟨mb, nsK hb, hbb⟩, (let ⟨mc, h1, h2⟩ := hlim; ⟨mc, nsK h1, h2⟩), hbm'⟩
    have e0 : Env0 P w K mg (hidT s₁.heap H) callerA [] s₁ H := ⟨rfl, hM, fun b o e => of_hidT e, Nat.le_of_eq (hidT_size _ _), trivial, fun b hb => absurd (show b ∈ ([] : List Addr) from hb) (by simp), hok, .of_eq hg⟩
    refine codeAny_mono ((F _ hKb (nsK hns)).run callerA [] s₁ H ⟨[.ref a], []⟩ [.ref a] [.ref a] _ _ hr e0 (hbind s₁ (.ref a)) (.cons rfl .nil) (hsp H hO hS)) fun r s' h => ?_
    cases r with
    | error e => exact (hCX H e s' h).elim
    | ok fl =>
      cases fl with
      | next => exact False.elim h
      | brk => exact False.elim h
      | cont => exact False.elim h
      | ret u =>
        obtain ⟨v, H', os, bare, un, hok', r', q⟩ := h
        have q' : v = .bl true := q
        subst q'
        obtain rfl : u = Value.bool true := r'
        refine ⟨rfl, OldK.of_keep fun b o e => ?_, os, bare⟩
        cases q : H b with
        | none => exact un.keep b o e q (by intro z; exact absurd (show b ∈ ([] : List Addr) from z) (by simp)) (by simp)
        | some u =>
          rcases hO b with z | ⟨ob, xs, z⟩
          · rw [q] at z; cases z
          · have z2 := un.frzs b ob _ z
            obtain ⟨e1, _⟩ := hok b _ z
            obtain ⟨e2, _⟩ := hok' b _ z2
            rw [e] at e1; cases e1
            exact e2
  cases hk : K.lookup a with
  | some o =>
    -- the script is one of the module's own objects
    have e := KX a o hk
    rw [ha] at e
    cases e
    refine core (fun _ => none) (fun _ => .inl rfl) (.inr ⟨_, vs.toArray, _, hk, rfl, rfl, rfl, by rw [List.size_toArray, lenV]; exact hl, by simpa using rv⟩) (fun b u z => by have z' : (none : Option HO) = some u := z; cases z') (fun b z => absurd rfl z) fun z => absurd rfl z
  | none =>
    refine core (fun b => if b = a then some (.frz { cls := .type "list", data := .seq vs.toArray } (.lst (ns.map V.int))) else none) (fun b => ?_) (.inl (.inr ⟨{ cls := .type "list", data := .seq vs.toArray }, if_pos rfl⟩)) (fun b u z => ?_) (fun b z => ?_) fun _ => hk
    · by_cases hb : b = a
      · exact .inr ⟨_, _, if_pos hb⟩
      · exact .inl (if_neg hb)
    · by_cases hb : b = a
      · have z' := (if_pos hb).symm.trans z
        cases z'
        subst hb
        exact ⟨ha, by rw [List.length_map]; exact hl, vs, _, rv, ha⟩
      · have z' := (if_neg hb).symm.trans z
        cases z'
    · by_cases hb : b = a
      · exact hb
      · exact absurd (if_neg hb) z
end L2
namespace L2
open PySem PySem.Spec PyProof.Rows
abbrev KOf {K : PySem.W.Frag} {h : Heap} (_ : K.In h) : PySem.W.Frag := K
theorem walk_of {l : PySem.W.OpenLaw} {n k : Nat} {q : Program} {loose : List Str} {XP : (Str → Option Value) → Heap → Prop} {YP : World → Heap → Prop} {d : DefRec} {K : Params → PySem.W.Frag} {CX : World → CXT} {sp : World → Sp} {x : Str}
    (hn : l.most = some n) (hn2 : n ≤ sizeLine) (hdf : d.params.defaults = []) (hr : Room k callerA)
    (hY : ∀ (w : World) (h : Heap), YP w h → (K w.params).In h)
    (F : ∀ (w : World) (mg : Str → Option Value) (fa : Addr) (h : Heap), (K w.params).In h → h.Ns mainGlobals mg → mg d.name = some (.ref fa) →
      ∃ fd : FuncData, (∀ (s : Shared) (u : Value), BindsTo s fd ⟨[u], []⟩ [(x, u)]) ∧
        ∀ base : Heap, (K w.params).In base → base.Ns mainGlobals mg → FnOk l.prog w (K w.params) mg base (CX w) k fa fd [x] (sp w))
    (hsp : ∀ (w : World) (H : Hp) (a : Addr) (ns : List Int), ns.length ≤ n → Only H → SqL (K w.params) H a (ns.map V.int) → sp w [.ref a] H (fun v _ => v = .bl true) fun _ _ _ => False)
    (hCX : ∀ (w : World) (H : Hp) (s : Shared) (e : Value) (s' : Shared), CX w [] H s (fun _ _ _ => False) e s' → False) :
    PySem.W.WalkO q loose XP YP l.row.toRowW d [] (fun f vs => PySem.call f vs) := by
  refine Att.attach_call hn hdf fun w s₀ s₁ mg mb fa o pm cd doc a vs ns G Y ho hd hcd hmg hobj hints hlen hg => ?_
  have KX := hY w _ Y
  obtain ⟨fd, hb, hF⟩ := F w mg fa _ KX G.T.g hmg
  exact law_call KX G.T.g G.T.b G.T.builtins G.T.nolimit G.T.bmain hg hobj hints (Nat.le_trans hlen hn2) hr hF hb (fun H hO hS => hsp w H a ns hlen hO hS) fun H e s' => hCX w H s₁ e s'
end L2
/- THE LAST THEOREM (shape; LID, My.* are yours):
   My.Adr: a structure of the addresses that your layer names (classes, functions); My.Txt K t: a structure (Prop) of the equations over K;
   My.txt_mk : {K} {implicit addresses ..} (e1 : nsIn K mainGlobals "law" = some (some (.ref f))) (e2 : K.lookup f = some ⟨oc, od, .func (fnOf "law" "law" params body scope dV kV doc pm an cdv ct), sl⟩) (e3 : codeIn K cdv "law" = true) .. : ∃ t, My.Txt K t
set_option maxRecDepth 100000 in
set_option maxHeartbeats 0 in
theorem PySem.Challenge.cw_LID_holds : PySem.Challenge.rw_LID.Holds := by
  w_on; o_law; k_head; (case hw => w_witness2)
  k_fill
  refine L2.walk_of (l := PySem.Challenge.rw_LID) (n := 63) (k := 40) (x := "script") (CX := fun w => ..) (sp := fun _ => My.sp_law) rfl (by decide) rfl ⟨rfl, by decide, by decide⟩ (fun w h Y => PySem.W.kIn_of Y) ?F ?S ?C
  case F =>
    intro w mg fa h KX G hmg
    have T : ∃ t, My.Txt (L2.KOf KX) t := by
      dsimp only [L2.KOf]                          -- K must stand as «<heap const> w.params» for k_is
      refine' My.txt_mk ?e1 ?e2 ?e3 ..
      (case e1 => PySem.W.k_is)                    -- in the order: a name -> its address -> its object -> its parts
      (case e2 => PySem.W.k_is)
      ..
    obtain ⟨t, T⟩ := T
    have e0 := hmg.symm.trans (PySem.W.mg_of KX G T.law)
    cases e0                                       -- fa is the law's own address
    exact ⟨_, fun s u => .of_eq rfl, fun base kb nb => My.law_fn T kb nb⟩     -- if «.of_eq rfl» comes too early: refine' ⟨_, ?b, fun base kb nb => My.law_fn T kb nb⟩; exact fun s u => .of_eq rfl
  case S => exact fun w H a ns hl hO hS => ..
  case C => exact ..
(the tactic k_is has no namespace: write k_is) -/
namespace L2
open PySem PySem.Spec PyProof.Rows
def inClass (s : Stmt) (j : Nat) : Stmt := match s with
  | .ClassDef _ _ _ body _ _ _ _ _ _ _ => body.getD j (.Pass ⟨0, 0, 0, 0⟩)
  | _ => .Pass ⟨0, 0, 0, 0⟩
def defArgs (s : Stmt) : Arguments := match s with
  | .FunctionDef _ a _ _ _ _ _ _ _ _ => a
  | _ => { posonlyargs := [], args := [], vararg := none, kwonlyargs := [], kw_defaults := [], kwarg := none, defaults := [] }
def defBody (s : Stmt) : List Stmt := match s with
  | .FunctionDef _ _ b _ _ _ _ _ _ _ => b
  | _ => []
def defScope (s : Stmt) : Scope := match s with
  | .FunctionDef _ _ _ _ _ _ sc _ _ _ => sc
  | _ => { kind := .function, names := [], isGenerator := false, isCoroutine := false }
abbrev CX0 : CXT := fun _ _ _ _ _ _ => False
abbrev E0 : XK := fun _ _ _ => False
theorem pass0 {X : Cx} : Passes CX0 X E0 := fun _ _ _ _ _ _ _ h => h.elim
structure Fun (K : PySem.W.Frag) (x qual : Str) (st : Stmt) (f : Addr) (fd : FuncData) : Prop where
  ex : ∃ (oc : Value) (od : Option Addr) (kV doc pm : Value) (an : Option Addr) (cdv ct : Value) (osl : Array (Option Value)),
    fd = PySem.W.fnOf x qual (defArgs st) (defBody st) (defScope st) .none kV doc pm an cdv ct ∧ K.lookup f = some ⟨oc, od, .func fd, osl⟩ ∧ PySem.W.codeIn K cdv qual = true
  kp : PySem.W.keepIn K (.ref f) = true
section
variable {P : Program} {w : World} {K : PySem.W.Frag} {mg : Str → Option Value} {base : Heap}
theorem Fun.ok {x qual : Str} {st : Stmt} {f : Addr} {fd : FuncData} {N ps : List Str} {k : Nat} {sp : Sp} (F : Fun K x qual st f fd) (S : FnScope N ps (defScope st)) (len : ∀ vs H Q E, sp vs H Q E → vs.length = ps.length)
    (hbody : ∀ (cdv : Value) (A : Around) (outer : List Env) (s : Shared) (H : Hp) (vs : List V) (Q : VK) (E : XK), Room k (A.deeper (envOfC qual (defScope st) s.heap.objs.size f cdv)) → sp vs H Q E →
      ∃ t, PSs (cxOf CX0 P w K mg base N qual (defScope st) f cdv A outer s H E).nox (defBody st) t ∧ t { nx := fun _ H' => Q .non H', rt := Q } (start N vs) H) : FnOk P w K mg base CX0 (k + 1) f fd ps sp := by
  obtain ⟨oc, od, kV, doc, pm, an, cdv, ct, osl, rfl, lk, hcd⟩ := F.ex
  refine fn_of lk hcd S len fun A outer s H vs Q E hr hsp => ?_
  obtain ⟨t, h, q⟩ := hbody cdv A outer s H vs Q E hr hsp
  exact ⟨t, h.nox, q⟩
theorem Fun.binds {x qual : Str} {st : Stmt} {f : Addr} {fd : FuncData} {ps : List Str} (F : Fun K x qual st f fd)
    (h : ∀ (kV doc pm : Value) (an : Option Addr) (cdv ct : Value) (us : List Value), us.length = ps.length → bindArgs (PySem.W.fnOf x qual (defArgs st) (defBody st) (defScope st) .none kV doc pm an cdv ct) ⟨us, []⟩ = pure (ps.zip us)) : Binds K fd ps [] := by
  obtain ⟨oc, od, kV, doc, pm, an, cdv, ct, osl, rfl, lk, hcd⟩ := F.ex
  exact .all (h kV doc pm an cdv ct)
theorem fun_mk {x qual : Str} {st : Stmt} {f : Addr} {oc : Value} {od an : Option Addr} {osl : Array (Option Value)} {kV doc pm cdv ct : Value} (l : K.lookup f = some ⟨oc, od, .func (PySem.W.fnOf x qual (defArgs st) (defBody st) (defScope st) .none kV doc pm an cdv ct), osl⟩)
    (c : PySem.W.codeIn K cdv qual = true) (k : PySem.W.keepIn K (.ref f) = true) : Fun K x qual st f (PySem.W.fnOf x qual (defArgs st) (defBody st) (defScope st) .none kV doc pm an cdv ct) := ⟨⟨oc, od, kV, doc, pm, an, cdv, ct, osl, rfl, l, c⟩, k⟩
end
section
variable {X : Cx}
theorem pv (i : Nat) {x : Str} {pos : Pos} (hN : X.N[i]? = some x := by rfl) (hv : Vis X.env.scope x := by first | exact Or.inl rfl | exact Or.inr (Or.inl rfl) | exact Or.inr (Or.inr rfl)) (hd : (x == ("__debug__" : Str)) = false := by decide)
    (hcd : (x == ("__classdict__" : Str)) = false := by decide) : PE X (.Name x pos) (tVar i) := pe_var hN hv hd hcd
end
theorem iteF {A B : Prop} (h : B) : if false = true then A else B := by
  rw [if_neg Bool.false_ne_true]
  exact h
theorem iteT {A B : Prop} (h : A) : if true = true then A else B := by
  rw [if_pos rfl]
  exact h
def Same (H H' : Hp) : Prop := ∀ b o, H b = some o → H' b = some o
theorem Same.refl (H : Hp) : Same H H := fun _ _ h => h
theorem Same.trans {H H1 H2 : Hp} (a : Same H H1) (b : Same H1 H2) : Same H H2 := fun c o h => b c o (a c o h)
theorem Same.free {H H' : Hp} (e : Same H H') {l : Addr} (h : H' l = Option.none) : H l = Option.none := by
  cases q : H l with
  | none => rfl
  | some o =>
    rw [e l o q] at h
    cases h
theorem Same.seq {K : PySem.W.Frag} {H H' : Hp} {a : Addr} {xs : List V} (e : Same H H') (h : SqL K H a xs) : SqL K H' a xs := by
  rcases h with (h | ⟨o, h⟩) | h
  · exact .inl (.inl (e _ _ h))
  · exact .inl (.inr ⟨o, e _ _ h⟩)
  · exact .inr h
section
variable {κ : Type} [DecidableEq κ]
end
end L2
namespace L2
open PySem PySem.Spec PyProof.Rows
section
variable {prog : Program} {w : World} {A : Around} {R : Result → Shared → Prop} {s : Shared}
theorem compLoop_go {elt target iter : Expr} {ifs : List Expr} {scope : Scope} {pos : Pos} {it acc : Value} {env : Env} (I : Nat → Shared → Prop)
    (turn : ∀ n s, I n s → wpAny (model prog w) A (pyNext it) (fun r s₁ => match r with
      | none => R (.ok .next) s₁
      | some v => wpAny (model prog w) A (letOwnedTupleGo target it v) (fun _ s₁' => wpAny (model prog w) A (assign target env v) (fun _ s₂ =>
          wpAny (model prog w) A (forIn ifs true fun c r => if r = true then do let ok ← isTrue c env (eval c env); pure (ForInStep.yield ok) else pure (ForInStep.yield r)) (fun ok s₃ =>
            if ok = true then wpAny (model prog w) A (eval elt env) (fun x s₄ =>
              wpAny (model prog w) A (call (.builtin "list.append") [acc, x]) (fun _ s₅ => ∃ m, m < n ∧ I m s₅) (notedBy (model prog w) A env fun e s' => R (.error e) s') s₄) (notedBy (model prog w) A env fun e s' => R (.error e) s') s₃
            else ∃ m, m < n ∧ I m s₃) (notedBy (model prog w) A env fun e s' => R (.error e) s') s₂) (notedBy (model prog w) A env fun e s' => R (.error e) s') s₁') (notedBy (model prog w) A env fun e s' => R (.error e) s') s₁)
      (notedBy (model prog w) A env fun e s' => R (.error e) s') s)
    (n : Nat) (h : I n s) :
    codeAny (model prog w) A (.compLoop (.ListComp elt [⟨target, iter, ifs, 0⟩] scope pos) 0 it acc env) R s := by
  refine codeAny_loop rfl I (fun n s hI => ?_) n h
  show wpAny _ A ((compTurn (.ListComp elt [⟨target, iter, ifs, 0⟩] scope pos) 0 it acc env).onRaise (fun x => do noteFrame x env; theTreesLotGoes x)) _ _ s
  refine wpAny_noted ?_
  rw [compTurn_list]
  refine wpAny_bind (wpAny_standAt (wpAny_bind (wpAny_mono (turn n s hI) (fun r s₁ h₁ => ?_) fun _ _ h' => h')))
  cases r with
  | none => exact wpAny_pure h₁
  | some v =>
    refine wpAny_bind (wpAny_mono h₁ (fun _ s₁' h₁' => ?_) fun _ _ h' => h')
    refine wpAny_bind (wpAny_mono h₁' (fun _ s₂ h₂ => wpAny_bind (wpAny_mono h₂ (fun ok s₃ h₃ => ?_) fun _ _ h' => h')) fun _ _ h' => h')
    cases ok with
    | false => exact wpAny_pure ⟨rfl, h₃⟩
    | true =>
      exact wpAny_bind (wpAny_bind (wpAny_mono h₃ (fun x s₄ h₄ => wpAny_bind (wpAny_mono h₄ (fun _ s₅ h₅ => wpAny_pure (wpAny_pure ⟨rfl, h₅⟩)) fun _ _ h' => h')) fun _ _ h' => h'))
end
def clos (env : Env) : List (Str × NameKind) → List (Str × Addr) → List (Str × Addr)
  | [], cs => cs
  | (n, k) :: r, cs => clos env r (if (k == NameKind.free) = true then (n, (env.cells.lookup n).getD 0) :: cs else cs)
theorem closure_eq {scope : Scope} {env : Env} (h : ∀ x ∈ scope.names, x.2 = .free → ∃ c, env.cells.lookup x.1 = some c) : closureFor scope env = pure (clos env scope.names []) := by
  simp only [closureFor]
  generalize ([] : List (Str × Addr)) = cs
  revert h cs
  generalize scope.names = names
  intro h
  induction names with
  | nil => intro cs; rfl
  | cons x r ih =>
    intro cs
    obtain ⟨n, k⟩ := x
    have ih := ih fun y hy => h y (List.mem_cons_of_mem _ hy)
    rw [List.forIn_cons]
    by_cases hk : k = .free
    · subst hk
      obtain ⟨c, hc⟩ := h (n, .free) List.mem_cons_self rfl
      have hc' : env.cells.lookup n = some c := hc
      have e : clos env ((n, NameKind.free) :: r) cs = clos env r ((n, c) :: cs) := by
        show clos env r (if (NameKind.free == NameKind.free) = true then (n, (env.cells.lookup n).getD 0) :: cs else cs) = _
        rw [hc']
        rfl
      rw [e, ← ih]
      simp only [cellOf, hc', beq_self_eq_true, if_true]
      rfl
    · have hb : (k == NameKind.free) = false := by simpa using hk
      have e : clos env ((n, k) :: r) cs = clos env r cs := by
        show clos env r (if (k == NameKind.free) = true then (n, (env.cells.lookup n).getD 0) :: cs else cs) = _
        rw [hb]
        rfl
      rw [e, ← ih]
      simp only [hb, Bool.false_eq_true, if_false]
      rfl
theorem clos_mem {env : Env} {x : Str} {c : Addr} : ∀ (names : List (Str × NameKind)) (cs : List (Str × Addr)), (∀ y ∈ names, y.2 = .free → ∃ c, env.cells.lookup y.1 = some c) → (x, c) ∈ clos env names cs → (x, c) ∈ cs ∨ env.cells.lookup x = some c
  | [], cs, _, h => .inl h
  | (n, k) :: r, cs, hf, h => by
    have h' : (x, c) ∈ clos env r (if (k == NameKind.free) = true then (n, (env.cells.lookup n).getD 0) :: cs else cs) := h
    rcases clos_mem r _ (fun y hy => hf y (List.mem_cons_of_mem _ hy)) h' with q | q
    · by_cases hk : (k == NameKind.free) = true
      · rw [if_pos hk] at q
        rcases List.mem_cons.mp q with e | q
        · cases e
          obtain ⟨c, hc⟩ := hf (x, k) List.mem_cons_self (by simpa using hk)
          have hc' : env.cells.lookup x = some c := hc
          rw [hc']
          exact .inr rfl
        · exact .inl q
      · rw [if_neg hk] at q
        exact .inl q
    · exact .inr q
theorem clos_sub {env : Env} {p : Str × Addr} : ∀ (names : List (Str × NameKind)) (cs : List (Str × Addr)), p ∈ cs → p ∈ clos env names cs
  | [], _, h => h
  | (n, k) :: r, cs, h => by
    show p ∈ clos env r (if (k == NameKind.free) = true then (n, (env.cells.lookup n).getD 0) :: cs else cs)
    refine clos_sub r _ ?_
    split
    · exact List.mem_cons_of_mem _ h
    · exact h
theorem clos_has {env : Env} {x : Str} {c : Addr} : ∀ (names : List (Str × NameKind)) (cs : List (Str × Addr)), (x, NameKind.free) ∈ names → env.cells.lookup x = some c → (x, c) ∈ clos env names cs
  | [], _, h, _ => by cases h
  | (n, k) :: r, cs, h, hc => by
    show (x, c) ∈ clos env r (if (k == NameKind.free) = true then (n, (env.cells.lookup n).getD 0) :: cs else cs)
    rcases List.mem_cons.mp h with e | h
    · cases e
      refine clos_sub r _ ?_
      rw [if_pos (by simp), hc]
      exact List.mem_cons_self
    · exact clos_has r _ h hc
theorem lookup_of_all {x : Str} {c : Addr} : ∀ {l : List (Str × Addr)}, (x, c) ∈ l → (∀ d, (x, d) ∈ l → d = c) → l.lookup x = some c
  | [], h, _ => by cases h
  | (n, d) :: r, h, u => by
    rw [List.lookup_cons]
    by_cases e : x = n
    · subst e
      rw [beq_self_eq_true]
      rw [u d List.mem_cons_self]
    · rw [show (x == n) = false by simpa using e]
      rcases List.mem_cons.mp h with q | q
      · cases q
        exact absurd rfl e
      · exact lookup_of_all q fun d hd => u d (List.mem_cons_of_mem _ hd)
theorem clos_lookup {env : Env} {names : List (Str × NameKind)} {x : Str} {c : Addr} (hf : ∀ y ∈ names, y.2 = .free → ∃ c, env.cells.lookup y.1 = some c) (hx : (x, NameKind.free) ∈ names) (hc : env.cells.lookup x = some c) : (clos env names []).lookup x = some c :=
  lookup_of_all (clos_has names [] hx hc) fun d hd => by
    rcases clos_mem names [] hf hd with q | q
    · cases q
    · rw [hc] at q
      exact (Option.some.inj q).symm
theorem clos_of {env : Env} {names : List (Str × NameKind)} {x : Str} {c : Addr} (hf : ∀ y ∈ names, y.2 = .free → ∃ c, env.cells.lookup y.1 = some c) (h : (clos env names []).lookup x = some c) : env.cells.lookup x = some c := by
  rcases clos_mem names [] hf (PySem.mem_of_lookup h) with q | q
  · cases q
  · exact q
end L2
namespace L2
open PySem PySem.Spec PyProof.Rows
def cxC (X : Cx) (scope : Scope) (N : List Str) (fp : List Addr) (C : Addr) (s : Shared) (H : Hp) : Cx where
  prog := X.prog
  w := X.w
  K := X.K
  mg := X.mg
  base := X.base
  A := X.A
  N := N
  s₀ := s
  H₀ := H
  env := compEnvC scope (clos X.env scope.names []) C X.env
  outer := X.stack
  stack := X.stack
  ex := fp
  fn := fun _ => false
  calm := X.calm
  pn := []
  xe := fun _ _ => False
theorem HOk.track {P : Program} {w : World} {H : Hp} {h : Heap} {a : Addr} {o : HO} (x : HOk P w H h) (hn : H a = none) (new : ObjOk P w (upd H a o) h a o) : HOk P w (upd H a o) h := fun b u e => by
  by_cases hb : b = a
  · subst hb; rw [upd_same] at e; cases e; exact new
  · rw [upd_ne hb] at e
    exact (x b u e).stay (fun c v _ q => q) (fun c q => by rw [upd_ne (ne_of_none q hn)]; exact q) fun c xs _ q => by rw [upd_ne (ne_of_none q hn)]; exact q
theorem Un.track {fs ex : List Addr} {H H1 : Hp} {h h1 : Heap} {a : Addr} {o : HO} (u : Un fs ex H H1 h h1) (hs : h.objs.size ≤ a) (hn : H1 a = none) : Un fs ex H (upd H1 a o) h h1 where
  keep := u.keep
  slot := u.slot
  free := fun b ob q n hx => by rw [upd_ne (Nat.ne_of_lt (Nat.lt_of_lt_of_le (Heap.lt_size q) hs))]; exact u.free b ob q n hx
  there := u.there
  tups := fun b xs q => by rw [upd_ne (ne_of_none (u.tups b xs q) hn)]; exact u.tups b xs q
  frzs := fun b ob xs q => by rw [upd_ne (ne_of_none (u.frzs b ob xs q) hn)]; exact u.frzs b ob xs q
  tbls := fun b ps q => by
    obtain ⟨m, e⟩ := u.tbls b ps q
    exact ⟨m, by rw [upd_ne (ne_of_none e hn)]; exact e⟩
theorem lookup_relabel_free {env : Env} : ∀ {names : List (Str × NameKind)} {x : Str}, names.lookup x = some .free →
    (names.map fun (n, k) => if (k == NameKind.free && env.scope.kind == .function && env.kindOf n == some .cell) then (n, NameKind.cell) else (n, k)).lookup x = some .cell ∨
    (names.map fun (n, k) => if (k == NameKind.free && env.scope.kind == .function && env.kindOf n == some .cell) then (n, NameKind.cell) else (n, k)).lookup x = some .free
  | [], _, h => by simp at h
  | (n, k) :: r, x, h => by
    have ih := @lookup_relabel_free env r x
    show List.lookup x ((if (k == NameKind.free && env.scope.kind == .function && env.kindOf n == some .cell) = true then (n, NameKind.cell) else (n, k)) :: _) = _ ∨ List.lookup x ((if (k == NameKind.free && env.scope.kind == .function && env.kindOf n == some .cell) = true then (n, NameKind.cell) else (n, k)) :: _) = _
    cases hx : x == n with
    | true =>
      simp only [List.lookup_cons, hx] at h
      cases h
      by_cases hc : (NameKind.free == NameKind.free && env.scope.kind == .function && env.kindOf n == some .cell) = true
      · rw [if_pos hc]; simp only [List.lookup_cons, hx]; exact .inl trivial
      · rw [if_neg hc]; simp only [List.lookup_cons, hx]; exact .inr trivial
    | false =>
      simp only [List.lookup_cons, hx] at h
      by_cases hc : (k == NameKind.free && env.scope.kind == .function && env.kindOf n == some .cell) = true
      · rw [if_pos hc]; simp only [List.lookup_cons, hx]; exact ih h
      · rw [if_neg hc]; simp only [List.lookup_cons, hx]; exact ih h
theorem relabel_has {env : Env} : ∀ {names : List (Str × NameKind)} {x : Str}, (∀ y ∈ names, y.2 ≠ .cell) →
    ((names.map fun (n, k) => if (k == NameKind.free && env.scope.kind == .function && env.kindOf n == some .cell) then (n, NameKind.cell) else (n, k)).lookup x = some .cell ∨
    (names.map fun (n, k) => if (k == NameKind.free && env.scope.kind == .function && env.kindOf n == some .cell) then (n, NameKind.cell) else (n, k)).lookup x = some .free) → (x, NameKind.free) ∈ names
  | [], _, _, h => by simp at h
  | (n, k) :: r, x, hc, h => by
    have ih := @relabel_has env r x fun y hy => hc y (List.mem_cons_of_mem _ hy)
    have h' : List.lookup x ((if (k == NameKind.free && env.scope.kind == .function && env.kindOf n == some .cell) = true then (n, NameKind.cell) else (n, k)) :: _) = _ ∨ List.lookup x ((if (k == NameKind.free && env.scope.kind == .function && env.kindOf n == some .cell) = true then (n, NameKind.cell) else (n, k)) :: _) = _ := h
    cases hx : x == n with
    | true =>
      have e : x = n := by simpa using hx
      subst e
      by_cases hq : (k == NameKind.free && env.scope.kind == .function && env.kindOf x == some .cell) = true
      · have hk : (k == NameKind.free) = true := by
          rw [Bool.and_assoc] at hq
          exact (Bool.and_eq_true _ _ ▸ hq).1
        rw [show k = NameKind.free by simpa using hk]
        exact List.mem_cons_self
      · rw [if_neg hq] at h'
        simp only [List.lookup_cons, hx] at h'
        rcases h' with z | z
        · cases z
          exact absurd rfl (hc _ List.mem_cons_self)
        · cases z
          exact List.mem_cons_self
    | false =>
      by_cases hq : (k == NameKind.free && env.scope.kind == .function && env.kindOf n == some .cell) = true
      · rw [if_pos hq] at h'; simp only [List.lookup_cons, hx] at h'; exact List.mem_cons_of_mem _ (ih h')
      · rw [if_neg hq] at h'; simp only [List.lookup_cons, hx] at h'; exact List.mem_cons_of_mem _ (ih h')
structure BlkScope (X : Cx) (scope : Scope) (N : List Str) (k : Nat) (idx : List Nat) : Prop where
  kind : scope.kind = .function
  nocell : ∀ y ∈ scope.names, y.2 ≠ .cell
  names : ∀ y ∈ scope.names, y.2 = .local → scope.names.lookup y.1 = some .local
  free : ∀ y ∈ scope.names, y.2 = .free → X.env.kindOf y.1 = some .cell ∨ X.env.kindOf y.1 = some .free
  nd : N.Nodup
  len : N.length = k + idx.length
  cap : ∀ (i : Nat) (x : Str), (N.drop k)[i]? = some x → ∃ j : Nat, idx[i]? = some j ∧ X.N[j]? = some x ∧ scope.names.lookup x = some .free
def cσ (k : Nat) (idx : List Nat) (σ : St) : St := List.replicate k none ++ idx.map fun j => (σ[j]?).join
section
variable {X : Cx} {pins : List (Addr × Obj)} {σ : St} {H : Hp} {s : Shared} {scope : Scope} {N : List Str} {k : Nat} {idx : List Nat} {fp : List Addr}
theorem BlkScope.cells (S : BlkScope X scope N k idx) (I : Inv X pins σ H s) : ∀ y ∈ scope.names, y.2 = .free → ∃ c, X.env.cells.lookup y.1 = some c := fun y hy h => I.ok.has y.1 (S.free y hy h)
theorem blk_start {C D : Addr} {h₁ : Heap} {tk : Nat} {oD : Obj} {m : Str → Option Value} (S : BlkScope X scope N k idx) (I : Inv X pins σ H s) (hf : ∀ b ∈ fp, FpOk X pins H b) (ho : ∀ b ∈ fp, ∃ o, s.heap.get? b = some o)
    (hC : s.heap.objs.size ≤ C) (hD : s.heap.objs.size ≤ D) (hDC : D ≠ C) (hn : h₁.Ns C m) (old : ∀ b o, s.heap.get? b = some o → h₁.get? b = some o) (eD : h₁.get? D = some oD) (dD : ∀ v, oD.data ≠ .cell v) :
    Inv (cxC X scope N fp C s H) [(D, oD)] (cσ k idx σ) H { s with heap := h₁, toks := tk } := by
  have hcl := S.cells I
  have nst : ∀ b, s.heap.objs.size ≤ b → b ∉ frs X.stack := fun b hb z => by
    obtain ⟨_, o, e, _⟩ := I.stack.mem z
    exact absurd (Nat.lt_of_lt_of_le (Heap.lt_size e) hb) (Nat.lt_irrefl _)
  refine ⟨⟨I.ok.mod, S.kind, I.ok.glob, I.ok.blt, hC, fun x y c h1 h2 => I.ok.inj x y c (clos_of hcl h1) (clos_of hcl h2), fun x hx => ?_, fun x c z _ => (by cases z), I.ok.hd, I.ok.frames, .inl rfl, fun b hb => ⟨?_, fun x c e => (hf b hb).2.2.2.2.1 x c (clos_of hcl e)⟩, I.bs,
    Nat.le_trans I.ok.bsz I.sz, fun b o e hb => ?_, fun b hb z => ?_, I.stack, I.stkFree⟩, rfl, I.bare, Un.kept old, ⟨m, hn, fun i x v h1 h2 h3 => ?_⟩, fun x c e => ?_, I.hok.fresh hC, fun x c e => I.freeC x c (clos_of hcl e), fun p hp => ?_, I.hok.kept old, ?_⟩
  · obtain ⟨c, e⟩ := hcl _ (relabel_has S.nocell hx) rfl
    exact ⟨c, clos_lookup hcl (relabel_has S.nocell hx) e⟩
  · obtain ⟨o, e⟩ := ho b hb
    exact Nat.ne_of_lt (Nat.lt_of_lt_of_le (Heap.lt_size e) hC)
  · rcases (hf b hb).2.2.2.1 with z | z
    · exact I.ok.noex b o e z
    · exact absurd (Nat.lt_of_lt_of_le (Heap.lt_size (I.ok.bs b o e).1) z) (Nat.lt_irrefl _)
  · rcases List.mem_cons.mp (I.stkSub b z) with q | q
    · exact (hf b hb).2.1 q
    · exact (hf b hb).2.2.1 q
  · have hi : k ≤ i := by
      by_cases hi : i < k
      · unfold cσ at h2
        rw [List.getElem?_append_left (by simpa using hi), List.getElem?_replicate, if_pos hi] at h2
        cases h2
      · omega
    obtain ⟨j, rfl⟩ : ∃ j, i = k + j := ⟨i - k, by omega⟩
    have h1' : N[k + j]? = some x := h1
    obtain ⟨l, e1, e2, e3⟩ := S.cap j x (by rw [List.getElem?_drop]; exact h1')
    have h2' : σ[l]? = some (some v) := by
      unfold cσ at h2
      rw [List.getElem?_append_right (by simp), List.getElem?_map] at h2
      simp only [List.length_replicate, Nat.add_sub_cancel_left, e1, Option.map_some, Option.some.injEq] at h2
      cases q : σ[l]? with
      | none => rw [q] at h2; cases h2
      | some z => rw [q] at h2; exact congrArg some h2
    obtain ⟨m0, hn0, hl⟩ := I.loc
    have hfree : (x, NameKind.free) ∈ scope.names := PySem.mem_of_lookup e3
    have hk := S.free _ hfree rfl
    obtain ⟨u, r, l⟩ := hl l x v e2 h2' (by rcases hk with z | z; exact .inr (.inl z); exact .inr (.inr z))
    refine ⟨u, r, .inr ⟨lookup_relabel_free e3, ?_⟩⟩
    rcases l with ⟨z, _⟩ | ⟨_, c, e, o, q, d⟩
    · rcases hk with y | y
      · rw [y] at z; cases z
      · rw [y] at z; cases z
    · exact ⟨c, clos_lookup hcl hfree e, o, old c o q, d⟩
  · obtain ⟨v, o, q, d⟩ := I.cell x c (clos_of hcl e)
    exact ⟨v, o, old c o q, d⟩
  · have hp' : p ∈ ([] : List (Addr × Obj)) ++ [(D, oD)] := hp
    have e : p = (D, oD) := by simpa using hp'
    subst e
    exact ⟨eD, I.hok.fresh hD, hDC, nst D hD, dD⟩
  · unfold cσ
    show _ = N.length
    rw [S.len]
    simp
theorem blk_end {C D : Addr} {s' : Shared} {σ' : St} {H' : Hp} {ys : List V} {its : List Value} {n : Nat} {pins' : List (Addr × Obj)} (I : Inv X pins σ H s) (hf : ∀ b ∈ fp, FpOk X pins H b) (J : Inv (cxC X scope N fp C s H) pins' σ' H' s')
    (hC : s.heap.objs.size ≤ C) (hD : s.heap.objs.size ≤ D) (hDC : D ≠ C) (hDn : H' D = none) (eD : s'.heap.get? D = some { cls := .type "list", data := .seq its.toArray n }) (r : Vals ys its) (hz : ys.length ≤ sizeLine) :
    Inv X pins σ (upd H' D (.lst ys)) s' ∧ FpOk X pins (upd H' D (.lst ys)) C := by
  have hk : HOk X.prog X.w (upd H' D (.lst ys)) s'.heap := HOk.track J.hok hDn ⟨hz, its, n, r, eD⟩
  have u : Un (frs X.stack) fp H (upd H' D (.lst ys)) s.heap s'.heap := Un.track J.base hD hDn
  refine ⟨I.call' J.os u hk J.bare fun b hb => ⟨(hf b hb).2.2.2.1, (hf b hb).2.1, (hf b hb).2.2.2.2.1, (hf b hb).2.2.2.2.2⟩, I.fpOk hC ?_⟩
  rw [upd_ne hDC.symm]
  exact J.free
end
def tCompW (J : It) (σ₀ : St) (g : TG) (tt : TT) (te : TE) (R : List V → Hp → Prop) (H1 : Hp) : Prop :=
  ∃ W : Nat → Nat → List V → Hp → Prop, (∃ m, W 0 m [] H1) ∧ ∀ i m ys H, W i m ys H → ys.length ≤ sizeLine ∧
    ((J.stop i H ∧ R ys H) ∨ (J.go i H ∧ ∃ N : List V → Hp → Prop, (∀ ys' H', N ys' H' → ∃ m', m' < m ∧ W (i + 1) m' ys' H') ∧
      ∀ x H', J.yld i H x H' → g x σ₀ H' fun σ2 H2 => tt σ2 H2 fun b H3 => if b = true then te σ2 H3 fun y H4 => N (ys ++ [y]) H4 else N ys H3))
def tComp (wi : TI) (k : Nat) (idx : List Nat) (g : TG) (tt : TT) (te : TE) : TE := fun σ H Q => wi σ H fun J H1 => tCompW J (cσ k idx σ) g tt te (fun ys H' => ∀ p, H' p = none → Q (.ref p) (upd H' p (.lst ys))) H1
def PTs (X : Cx) (ifs : List Expr) (t : TT) : Prop :=
  ∀ (pins : List (Addr × Obj)) (s : Shared) (σ : St) (H : Hp) (Q : Bool → Hp → Prop), Inv X pins σ H s → t σ H Q →
    wpAny (model X.prog X.w) X.A (forIn ifs true fun c r => if r = true then do let ok ← isTrue c X.env (eval c X.env); pure (ForInStep.yield ok) else pure (ForInStep.yield r)) (TP X pins σ Q) X.xe s
def tYes : TT := fun _ H Q => Q true H
theorem pts_nil {X : Cx} : PTs X [] tYes := fun _ _ _ H _ I h => wpAny_tests_nil ⟨H, I, h⟩
theorem pts_one {X : Cx} {c : Expr} {t : TT} (h : PT X c t) : PTs X [c] t := fun pins s σ H Q I q => wpAny_tests_one (h pins s σ H Q I q)
def Agr (k : Nat) (σ' σ : St) : Prop := σ'.length = σ.length ∧ ∀ i, k ≤ i → σ'[i]? = σ[i]?
theorem Agr.set {k i : Nat} {σ σb : St} {v : Option V} (h : Agr k σ σb) (hi : i < k) : Agr k (σ.set i v) σb := ⟨by rw [List.length_set]; exact h.1, fun j hj => by rw [List.getElem?_set_ne (by omega)]; exact h.2 j hj⟩
def Own (k : Nat) (g : TG) : Prop := ∀ x σ H (Q : St → Hp → Prop) (σb : St), Agr k σ σb → g x σ H Q → g x σ H fun σ' H' => Agr k σ' σb ∧ Q σ' H'
def Owns (k : Nat) (g : TGs) : Prop := ∀ xs σ H (Q : St → Hp → Prop) (σb : St), Agr k σ σb → g xs σ H Q → g xs σ H fun σ' H' => Agr k σ' σb ∧ Q σ' H'
theorem own_name {k i : Nat} (h : i < k) : Own k (gName i) := fun _ _ _ _ _ a q => ⟨a.set h, q⟩
theorem owns_nil {k : Nat} : Owns k gNil := fun _ _ _ _ _ a ⟨e, q⟩ => ⟨e, a, q⟩
theorem owns_cons {k i : Nat} {u : TGs} (h : i < k) (hu : Owns k u) : Owns k (gCons (gName i) u) := fun _ _ _ Q σb a ⟨v, r, e, q⟩ => ⟨v, r, e, hu r _ _ Q σb (a.set h) q⟩
theorem own_tup {K : PySem.W.Frag} {n k : Nat} {u : TGs} (hu : Owns k u) : Own k (gTup K n u) := fun _ _ _ Q σb a ⟨l, xs, e, h1, h2, q⟩ => ⟨l, xs, e, h1, h2, hu xs _ _ Q σb a q⟩
theorem lst_push (its : List Value) (u : Value) (n : Nat) : ({ cls := .type "list", data := .seq (its.toArray.push u) n } : Obj) = { cls := .type "list", data := .seq (its ++ [u]).toArray n } := by
  rw [List.push_toArray]
section
variable {X : Cx} {pins : List (Addr × Obj)} {σ : St} {H : Hp} {s : Shared} {scope : Scope} {N : List Str} {k : Nat} {idx : List Nat} {fp : List Addr}
theorem comp_block {elt target iter : Expr} {ifs : List Expr} {pos : Pos} {it : Addr} {tn : Nat → Heap → Prop} {J : It} {g : TG} {tt : TT} {te : TE} {R : List V → Hp → Prop} {E : Value → Shared → Prop} {RR : Value → Addr → Result → Shared → Prop}
    (S : BlkScope X scope N k idx) (hc : X.calm = true) (I : Inv X pins σ H s) (T : Turn X.prog X.w X.K target J fp it tn) (st : tn 0 s.heap) (hf : ∀ b ∈ fp, FpOk X pins H b)
    (hg : ∀ C, PG (cxC X scope N fp C s H) target g) (ho : Own k g) (ht : ∀ C, PTs (cxC X scope N fp C s H) ifs tt) (he : ∀ C, PE (cxC X scope N fp C s H) elt te)
    (hw : tCompW J (cσ k idx σ) g tt te R H)
    (hRR : ∀ D C s' m ys H', s'.heap.Ns C m → Inv X pins σ (upd H' D (.lst ys)) s' → FpOk X pins (upd H' D (.lst ys)) C → H' D = none → R ys H' → RR (.ref D) C (.ok .next) s') :
    wpAny (model X.prog X.w) X.A (newList []) (fun acc s₃ => wpAny (model X.prog X.w) X.A (newFunctionEnv scope X.env.globals (clos X.env scope.names []) [] X.env.qual none .none (some X.env)) (fun cenv s₄ =>
      codeAny (model X.prog X.w) X.A (.compStart (.ListComp elt [⟨target, iter, ifs, 0⟩] scope pos) 0 (.ref it) acc { cenv with scope := relabel scope X.env }) (RR acc cenv.locals) s₄) E s₃) E s := by
  refine wpAny_newObj_type (wpAny_newFunctionEnv S.nocell (by intro y hy; simp at hy) (fun h₁ hns₁ hsb₁ => ?_) S.kind)
  dsimp only at hns₁ hsb₁ ⊢
  generalize hH2 : s.heap.push { cls := .type "list", dict := none, data := .seq ([] : List Value).toArray } = H2 at hns₁ hsb₁ ⊢
  have hCs : H2.objs.size = s.heap.objs.size + 1 := by rw [← hH2, Heap.size_push]
  have hDC : s.heap.objs.size ≠ H2.objs.size := by rw [hCs]; exact Nat.ne_of_lt (Nat.lt_succ_self _)
  have hCle : s.heap.objs.size ≤ H2.objs.size := by rw [hCs]; exact Nat.le_succ _
  have below : ∀ b, b < s.heap.objs.size → b ≠ H2.objs.size := fun b hb => by rw [hCs]; exact Nat.ne_of_lt (Nat.lt_succ_of_lt hb)
  have old : ∀ b o, s.heap.get? b = some o → h₁.get? b = some o := fun b o e => hsb₁.extBut b o (below b (Heap.lt_size e)) (Heap.get?_push_of_some _ (hH2 ▸ Heap.get?_push_of_some _ e))
  have hacc : h₁.get? s.heap.objs.size = some { cls := .type "list", data := .seq ([] : List Value).toArray 0 } := hsb₁.extBut _ _ hDC (Heap.get?_push_of_some _ (hH2 ▸ Heap.get?_push_size _ rfl))
  have st₁ : tn 0 h₁ := T.keep _ _ _ st fun b _ o e => old b o e
  obtain ⟨W, ⟨m0, w0⟩, turn⟩ := hw
  have fp0 : ∀ b ∈ fp, b < s.heap.objs.size := fun b hb => by
    obtain ⟨o, e, _⟩ := T.obj _ _ st b hb
    exact Heap.lt_size e
  -- the iterator's records and the block's own objects
  have stat : ∀ {H' : Hp} {pl : List (Addr × Obj)}, (∀ b ∈ fp, H' b = none) → (∀ p ∈ pl, s.heap.objs.size ≤ p.1) → ∀ b ∈ fp, FpOk (cxC X scope N fp H2.objs.size s H) pl H' b := fun {H' pl} hn hp b hb => by
    refine ⟨hn b hb, below b (fp0 b hb), fun z => ?_, .inl hb, fun x c e => (hf b hb).2.2.2.2.1 x c (clos_of (S.cells I) e), fun p q z => ?_⟩
    · have z' : b ∈ frs X.stack := z
      rcases List.mem_cons.mp (I.stkSub b z') with q | q
      · exact (hf b hb).2.1 q
      · exact (hf b hb).2.2.1 q
    · have q' : p ∈ ([] : List (Addr × Obj)) ++ pl := q
      have h1 := hp p (by simpa using q')
      rw [z] at h1
      exact absurd (Nat.lt_of_lt_of_le (fp0 b hb) h1) (Nat.lt_irrefl _)
  have loop : ∀ s₃ : Shared, s₃ = { s with heap := h₁, toks := s.toks + ([] : List (Str × Value)).length } →
      codeAny (model X.prog X.w) X.A (.compLoop (.ListComp elt [⟨target, iter, ifs, 0⟩] scope pos) 0 (.ref it) (.ref s.heap.objs.size) (compEnvC scope (clos X.env scope.names []) H2.objs.size X.env))
        (RR (.ref s.heap.objs.size) H2.objs.size) s₃ := by
    rintro s₃ rfl
    refine compLoop_go (fun n s' => ∃ i ys its H' nn, Inv (cxC X scope N fp H2.objs.size s H) [(s.heap.objs.size, { cls := .type "list", data := .seq its.toArray nn })] (cσ k idx σ) H' s' ∧ tn i s'.heap ∧ (∀ b ∈ fp, H' b = none) ∧ Vals ys its ∧ W i n ys H') ?_ m0
      ⟨0, [], [], H, 0, blk_start S I hf (fun b hb => let ⟨o, e, _⟩ := T.obj _ _ st b hb; ⟨o, e⟩) hCle (Nat.le_refl _) hDC hns₁ old hacc (fun v z => by cases z), st₁, fun b hb => (hf b hb).1, .nil, w0⟩
    rintro n s' ⟨i, ys, its, H', nn, I', st', fr', rv, w'⟩
    obtain ⟨hz, alt⟩ := turn i n ys H' w'
    have pl : ∀ p ∈ [((s.heap.objs.size : Addr), ({ cls := .type "list", data := .seq its.toArray nn } : Obj))], s.heap.objs.size ≤ p.1 := fun p hp => by
      have e : p = ((s.heap.objs.size : Addr), ({ cls := .type "list", data := .seq its.toArray nn } : Obj)) := by simpa using hp
      rw [e]
      exact Nat.le_refl _
    rcases alt with ⟨stop, q⟩ | ⟨go, Nx, hN, step⟩
    · refine thn (T.done (cxC X scope N fp H2.objs.size s H) rfl rfl rfl hc i _ s' _ H' _ I' (stat fr' pl) st' stop) fun r s4 ⟨hr, I4⟩ => ?_
      subst hr
      obtain ⟨eD, nD, _⟩ := I4.pin _ (List.mem_append_right _ List.mem_cons_self)
      obtain ⟨a1, a2⟩ := blk_end I hf I4 hCle (Nat.le_refl _) hDC nD eD rv hz
      obtain ⟨m4, hn4, _⟩ := I4.loc
      exact hRR _ _ s4 m4 ys H' hn4 a1 a2 nD q
    · refine thn (T.item (cxC X scope N fp H2.objs.size s H) rfl rfl rfl hc i _ s' _ H' _ I' (stat fr' pl) st' go) fun r s4 ⟨u, hr, h4⟩ => ?_
      subst hr
      refine thn h4 fun _ s5 ⟨x, H5, I5, r5, y5, st5, fr5⟩ => ?_
      have I5' := I5.pinned (stat fr5 pl) (T.obj _ _ st5)
      have noE : ∀ {α : Type} {t : Sem α} {Q : α → Shared → Prop} {E' : Value → Shared → Prop} {sx : Shared}, wpAny (model X.prog X.w) X.A t Q (fun _ _ => False) sx → wpAny (model X.prog X.w) X.A t Q E' sx := fun h => wpAny_mono h (fun _ _ q => q) fun _ _ z => z.elim
      refine noE (thn (hg _ _ s5 _ H5 x u _ I5' r5 (ho x _ H5 _ _ ⟨rfl, fun _ _ => rfl⟩ (step x H5 y5))) fun _ s6 ⟨σ6, H6, I6, ag, q6⟩ => ?_)
      have back : ∀ {H7 : Hp} {s7 : Shared}, Inv (cxC X scope N fp H2.objs.size s H) ([((s.heap.objs.size : Addr), ({ cls := .type "list", data := .seq its.toArray nn } : Obj))] ++ pinsAt fp s5.heap) σ6 H7 s7 →
          Inv (cxC X scope N fp H2.objs.size s H) [((s.heap.objs.size : Addr), ({ cls := .type "list", data := .seq its.toArray nn } : Obj))] (cσ k idx σ) H7 s7 ∧ tn (i + 1) s7.heap ∧ ∀ b ∈ fp, H7 b = none := fun {H7 s7} I7 => by
        refine ⟨I7.unpinned.weak (by rw [ag.1]) fun j v e => ?_, T.keep _ _ _ st5 fun b hb o e => (I7.pin (b, o) (List.mem_append_right _ (List.mem_append_right _ (mem_pinsAt hb e)))).1, fun b hb => ?_⟩
        · have hj : k ≤ j := by
            by_cases hj : j < k
            · unfold cσ at e
              rw [List.getElem?_append_left (by simpa using hj), List.getElem?_replicate, if_pos hj] at e
              cases e
            · omega
          rw [ag.2 j hj]
          exact e
        · obtain ⟨o, e, d⟩ := T.obj _ _ st5 b hb
          exact (I7.pin (b, o) (List.mem_append_right _ (List.mem_append_right _ (mem_pinsAt hb e)))).2.1
      refine noE (thn (ht _ _ s6 σ6 H6 _ I6 q6) fun b s7 ⟨H7, I7, q7⟩ => ?_)
      cases b with
      | false =>
        rw [if_neg Bool.false_ne_true] at q7 ⊢
        obtain ⟨m', hm, w7⟩ := hN _ _ q7
        obtain ⟨b1, b2, b3⟩ := back I7
        exact ⟨m', hm, i + 1, ys, its, H7, nn, b1, b2, b3, rv, w7⟩
      | true =>
        rw [if_pos rfl] at q7 ⊢
        refine noE (thn (he _ _ s7 σ6 H7 _ I7 q7) fun y s8 ⟨z, H8, I8, r8, q8⟩ => ?_)
        obtain ⟨m', hm, w8⟩ := hN _ _ q8
        obtain ⟨b1, b2, b3⟩ := back I8
        obtain ⟨eD, nD, neD, nfD, _⟩ := b1.pin _ (List.mem_append_right _ List.mem_cons_self)
        have lenV := rv.length
        refine append_at (hsz := by rw [List.size_toArray, ← lenV]; exact hz) eD fun h9 hs9 hD9 => ?_
        have b1' : Inv (cxC X scope N fp H2.objs.size s H) [] (cσ k idx σ) H8 s8 := b1.pins_of fun p hp => by cases hp
        have I9 : Inv (cxC X scope N fp H2.objs.size s H) [] (cσ k idx σ) H8 { s8 with heap := h9 } := b1'.turned (t' := s8.toks) (fun b o hb e => (hs9.2 b hb).trans e) nD neD (.inr (Nat.le_refl _)) (fun x c e z => by
          obtain ⟨v, q⟩ := I.cell x c (clos_of (S.cells I) e)
          exact absurd (Nat.lt_of_lt_of_le q.lt (by rw [z]; exact Nat.le_refl _)) (Nat.lt_irrefl _)) (fun p hp => by
          have hp' : p ∈ ([] : List (Addr × Obj)) ++ [] := hp
          simp at hp')
        refine ⟨m', hm, i + 1, ys ++ [z], its ++ [y], H8, nn + 1, I9.pins_of fun p hp => ?_, T.keep _ _ _ b2 fun b hb o e => (hs9.2 b (Nat.ne_of_lt (fp0 b hb))).trans e, b3, rv.append (.cons r8 .nil), w8⟩
        have e : p = ((s.heap.objs.size : Addr), ({ cls := .type "list", data := .seq (its ++ [y]).toArray (nn + 1) } : Obj)) := by simpa using hp
        subst e
        exact ⟨by rw [← lst_push]; exact hD9, nD, neD, nfD, fun v z => by cases z⟩
  exact codeAny_compStart_list (loop _ rfl) (T.self _ 0 _ _ _ st₁ (loop _ rfl))
theorem pe_comp (k : Nat) (idx : List Nat) {N : List Str} {elt target iter : Expr} {ifs : List Expr} {pos : Pos} {wi : TI} {g : TG} {tt : TT} {te : TE} (S : BlkScope X scope N k idx) (hc : X.calm = true) (hi : PI X target iter wi)
    (hg : ∀ fp C s H, PG (cxC X scope N fp C s H) target g) (ho : Own k g) (ht : ∀ fp C s H, PTs (cxC X scope N fp C s H) ifs tt) (he : ∀ fp C s H, PE (cxC X scope N fp C s H) elt te)
    (hs : ∀ x, foldedSetIterable iter X.env x = pure x := by intro _; rfl) : PE X (.ListComp elt [⟨target, iter, ifs, 0⟩] scope pos) (tComp wi k idx g tt te) := by
  intro pins s σ H Q I h
  rw [eval_ListComp]
  refine wpAny_comprehension_free (use := none) rfl hs (closure_eq (S.cells I)) S.kind S.names (thn (hi pins s σ H _ I h) fun v s1 h1 => thn h1 fun itv s2 h2 => ?_)
  obtain ⟨it, fp, tn, J, H2, e, I2, T, st2, f2, w2⟩ := h2
  subst e
  refine comp_block (RR := fun acc C => compPost (model X.prog X.w) X.A X.xe none (EP X pins σ Q) acc C) S hc I2 T st2 f2 (fun C => hg fp C s2 H2) ho (fun C => ht fp C s2 H2) (fun C => he fp C s2 H2) w2 fun D C s' m ys H' hn I' fC hD q => ?_
  refine ⟨m, hn, fun h'' hs'' => ⟨.ref D, _, I'.turned (t' := s'.toks) (fun b o hb e => (hs''.2 b hb).trans e) fC.1 fC.2.1 fC.2.2.2.1 fC.2.2.2.2.1 fC.2.2.2.2.2, rfl, q D hD⟩⟩
theorem ps_setC (k : Nat) (idx : List Nat) {i : Nat} {x : Str} {N : List Str} {elt target iter : Expr} {ifs : List Expr} {pos pos' spos : Pos} {wi : TI} {g : TG} {tt : TT} {te : TE} (hN : X.N.Nodup) (hix : X.N[i]? = some x) (hx : Loc X.env.scope x)
    (S : BlkScope X scope N k idx) (hc : X.calm = true) (hi : PI X target iter wi)
    (hg : ∀ fp C s H, PG (cxC X scope N fp C s H) target g) (ho : Own k g) (ht : ∀ fp C s H, PTs (cxC X scope N fp C s H) ifs tt) (he : ∀ fp C s H, PE (cxC X scope N fp C s H) elt te)
    (hsw : swapsWith (.ListComp elt [⟨target, iter, ifs, 0⟩] scope pos) (some (.Name x pos')) spos.line X.env = pure true := by rfl)
    (hs : ∀ x, foldedSetIterable iter X.env x = pure x := by intro _; rfl) (hfn : X.fn x = true ∨ X.env.scope.names.lookup x = some .local := by first | exact .inl rfl | exact .inr rfl | assumption) :
    PS X (.Assign [.Name x pos'] (.ListComp elt [⟨target, iter, ifs, 0⟩] scope pos) spos) (tAsg (tComp wi k idx g tt te) (gName i)) := by
  intro pins s σ H D I h
  rw [exec_Assign_Name_used _ _ _ _ hsw]
  refine wpAny_bind (wpAny_standAt (wpAny_bind ?_))
  show wpAny _ X.A (do let _ ← comprehension (.ListComp elt [⟨target, iter, ifs, 0⟩] scope pos) scope X.env _ (newList []) false (eval iter X.env) (some (assign (.Name x pos') X.env))) _ _ s
  refine wpAny_bind (wpAny_mono (wpAny_comprehension_free (use := some (assign (.Name x pos') X.env)) (Q := fun _ s' => SP X pins D .next s') rfl hs (closure_eq (S.cells I)) S.kind S.names
    (thn (hi pins s σ H _ I h) fun v s1 h1 => thn h1 fun itv s2 h2 => ?_)) (fun _ s' hq => wpAny_pure (wpAny_pure hq)) fun _ _ e => e)
  obtain ⟨it, fp, tn, J, H2, e, I2, T, st2, f2, w2⟩ := h2
  subst e
  refine comp_block (RR := fun acc C => compPost (model X.prog X.w) X.A X.xe (some (assign (.Name x pos') X.env)) (fun _ s' => SP X pins D .next s') acc C) S hc I2 T st2 f2 (fun C => hg fp C s2 H2) ho (fun C => ht fp C s2 H2) (fun C => he fp C s2 H2) w2 fun D' C s' m ys H' hn I' fC hD q => ?_
  show wpAny _ X.A (assign (.Name x pos') X.env (.ref D')) _ _ s'
  refine wpAny_assign_Name (store_ok2 I' hN hix hx (show RelV (.ref D') (.ref D') from rfl) (fun s3 I3 ⟨a, sb, ha⟩ => ?_) hfn)
  have hCa : C ≠ a := by
    rcases ha with z | z
    · rw [z]; exact fC.2.1
    · exact (fC.2.2.2.2.1 x a z).symm
  refine ⟨m, hn.sameBut sb hCa, fun h'' hs'' => ⟨_, _, I3.turned (t' := s3.toks) (fun b o hb e => (hs''.2 b hb).trans e) fC.1 fC.2.1 fC.2.2.2.1 fC.2.2.2.2.1 fC.2.2.2.2.2, q D' hD⟩⟩
end
theorem comp_list {K : PySem.W.Frag} {a : Addr} {xs : List V} {σ₀ : St} {g : TG} {tt : TT} {te : TE} {R : List V → Hp → Prop} {H : Hp} (Pv : Nat → List V → Hp → Prop) (h0 : Pv 0 [] H) (hz : xs.length ≤ sizeLine)
    (hl : ∀ i ys H, i ≤ xs.length → Pv i ys H → SqL K H a xs ∧ ys.length ≤ i)
    (hs : ∀ i x ys H, xs[i]? = some x → Pv i ys H → g x σ₀ H fun σ2 H2 => tt σ2 H2 fun b H3 => if b = true then te σ2 H3 fun y H4 => Pv (i + 1) (ys ++ [y]) H4 else Pv (i + 1) ys H3)
    (hd : ∀ ys H, Pv xs.length ys H → R ys H) : tCompW (Itl K a) σ₀ g tt te R H := by
  refine ⟨fun i m ys H => m = xs.length - i ∧ i ≤ xs.length ∧ Pv i ys H, ⟨xs.length, by simp, Nat.zero_le _, h0⟩, ?_⟩
  rintro i m ys H ⟨rfl, hi, p⟩
  obtain ⟨q, ql⟩ := hl i ys H hi p
  refine ⟨by omega, ?_⟩
  by_cases hlt : i < xs.length
  · refine .inr ⟨⟨xs, xs[i], q, by simp [hlt]⟩, Pv (i + 1), fun ys' H' p' => ⟨xs.length - (i + 1), by omega, rfl, hlt, p'⟩, fun x H' y => ?_⟩
    obtain ⟨e, y⟩ := y
    subst e
    exact hs i x ys _ (y xs q) p
  · have e : i = xs.length := by omega
    subst e
    exact .inl ⟨⟨xs, q, Nat.le_refl _⟩, hd ys H p⟩
theorem comp_tup {K : PySem.W.Frag} {a : Addr} {xs : List V} {σ₀ : St} {g : TG} {tt : TT} {te : TE} {R : List V → Hp → Prop} {H : Hp} (Pv : Nat → List V → Hp → Prop) (h0 : Pv 0 [] H) (hz : xs.length ≤ sizeLine)
    (hl : ∀ i ys H, i ≤ xs.length → Pv i ys H → SqT K H a xs ∧ ys.length ≤ i)
    (hs : ∀ i x ys H, xs[i]? = some x → Pv i ys H → g x σ₀ H fun σ2 H2 => tt σ2 H2 fun b H3 => if b = true then te σ2 H3 fun y H4 => Pv (i + 1) (ys ++ [y]) H4 else Pv (i + 1) ys H3)
    (hd : ∀ ys H, Pv xs.length ys H → R ys H) : tCompW (Itt K a) σ₀ g tt te R H := by
  refine ⟨fun i m ys H => m = xs.length - i ∧ i ≤ xs.length ∧ Pv i ys H, ⟨xs.length, by simp, Nat.zero_le _, h0⟩, ?_⟩
  rintro i m ys H ⟨rfl, hi, p⟩
  obtain ⟨q, ql⟩ := hl i ys H hi p
  refine ⟨by omega, ?_⟩
  by_cases hlt : i < xs.length
  · refine .inr ⟨⟨xs, xs[i], q, by simp [hlt]⟩, Pv (i + 1), fun ys' H' p' => ⟨xs.length - (i + 1), by omega, rfl, hlt, p'⟩, fun x H' y => ?_⟩
    obtain ⟨e, y⟩ := y
    subst e
    exact hs i x ys _ (y xs q) p
  · have e : i = xs.length := by omega
    subst e
    exact .inl ⟨⟨xs, q, Nat.le_refl _⟩, hd ys H p⟩
theorem comp_range {lo : Int} {n : Nat} {σ₀ : St} {g : TG} {tt : TT} {te : TE} {R : List V → Hp → Prop} {H : Hp} (Pv : Nat → List V → Hp → Prop) (h0 : Pv 0 [] H) (hz : n ≤ sizeLine)
    (hl : ∀ i ys H, i ≤ n → Pv i ys H → ys.length ≤ i)
    (hs : ∀ i ys H, i < n → Pv i ys H → g (.int (lo + i)) σ₀ H fun σ2 H2 => tt σ2 H2 fun b H3 => if b = true then te σ2 H3 fun y H4 => Pv (i + 1) (ys ++ [y]) H4 else Pv (i + 1) ys H3)
    (hd : ∀ ys H, Pv n ys H → R ys H) : tCompW (Itr lo n) σ₀ g tt te R H := by
  refine ⟨fun i m ys H => m = n - i ∧ i ≤ n ∧ Pv i ys H, ⟨n, by simp, Nat.zero_le _, h0⟩, ?_⟩
  rintro i m ys H ⟨rfl, hi, p⟩
  have ql := hl i ys H hi p
  refine ⟨by omega, ?_⟩
  by_cases hlt : i < n
  · refine .inr ⟨hlt, Pv (i + 1), fun ys' H' p' => ⟨n - (i + 1), by omega, rfl, hlt, p'⟩, fun x H' y => ?_⟩
    obtain ⟨e, y⟩ := y
    subst e y
    exact hs i ys _ hlt p
  · have e : i = n := by omega
    subst e
    exact .inl ⟨Nat.le_refl _, hd ys H p⟩
end L2
namespace L2
open PySem PySem.Spec PyProof.Rows
theorem bt_int : bootBuiltins "int" = some (.type "int") := by decide +kernel
theorem bt_bool : bootBuiltins "bool" = some (.type "bool") := by decide +kernel
theorem bt_str : bootBuiltins "str" = some (.type "str") := by decide +kernel
theorem bt_list : bootBuiltins "list" = some (.type "list") := by decide +kernel
theorem bt_tuple : bootBuiltins "tuple" = some (.type "tuple") := by decide +kernel
theorem bt_len : bootBuiltins "len" = some (.builtin "len") := by decide +kernel
theorem bt_abs : bootBuiltins "abs" = some (.builtin "abs") := by decide +kernel
theorem bt_max : bootBuiltins "max" = some (.builtin "max") := by decide +kernel
theorem bt_min : bootBuiltins "min" = some (.builtin "min") := by decide +kernel
theorem bt_sum : bootBuiltins "sum" = some (.builtin "sum") := by decide +kernel
theorem bt_all : bootBuiltins "all" = some (.builtin "all") := by decide +kernel
theorem bt_sorted : bootBuiltins "sorted" = some (.builtin "sorted") := by decide +kernel
theorem bt_isinstance : bootBuiltins "isinstance" = some (.builtin "isinstance") := by decide +kernel
section
variable {X : Cx}
def rAddG : R2 := fun x y H Q => rI0 (fun i j => .int (i + j)) x y H Q ∨ rCat x y H Q
theorem op_addG : OpR X (binaryOp .Add) rAddG := op_add.or op_cat
def rMulG : R2 := fun x y H Q => rI CMul (fun i j => .int (i * j)) x y H Q ∨ rRep x y H Q
theorem op_mulG : OpR X (binaryOp .Mult) rMulG := op_mul.or op_rep
def rSlG (K : PySem.W.Frag) : V → Option Int → Option Int → Hp → VK → Prop := fun x lo hi H Q => rSlL K x lo hi H Q ∨ rSlT K x lo hi H Q
theorem sl_G : SlR X (rSlG X.K) := sl_list.or sl_tup
def EqN (K : PySem.W.Frag) (H : Hp) : Nat → V → V → Bool → Prop
  | 0, x, y, b => flatV x = true ∧ flatV y = true ∧ b = eqV x y
  | n + 1, x, y, b => (flatV x = true ∧ flatV y = true ∧ b = eqV x y) ∨
    ∃ (p q : Addr) (xs ys : List V) (e : Nat → Bool), x = .ref p ∧ y = .ref q ∧ ((SqL K H p xs ∧ SqL K H q ys) ∨ (SqT K H p xs ∧ SqT K H q ys)) ∧
      (∀ (j : Nat) u v, xs[j]? = some u → ys[j]? = some v → EqN K H n u v (e j)) ∧ b = (xs.length == ys.length && (List.range xs.length).all e)
theorem eqV_refl {x : V} (h : flatV x = true) : eqV x x = true := by
  cases x with
  | non => rfl
  | bl b => cases b <;> rfl
  | int i => exact beq_self_eq_true i
  | str z => exact beq_self_eq_true z
  | _ => exact absurd (show false = true from h) Bool.false_ne_true
theorem eqN_refl {pins : List (Addr × Obj)} {σ : St} {H : Hp} {s : Shared} (I : Inv X pins σ H s) : ∀ {n : Nat} {x : V} {b : Bool}, EqN X.K H n x x b → b = true
  | 0, x, b, ⟨h, _, e⟩ => by rw [e]; exact eqV_refl h
  | n + 1, x, b, h => by
    rcases h with ⟨h, _, e⟩ | ⟨p, q, xs, ys, e, e1, e2, hs, he, eb⟩
    · rw [e]; exact eqV_refl h
    · subst e1
      cases e2
      have exy : xs = ys := by
        rcases hs with ⟨h1, h2⟩ | ⟨h1, h2⟩
        · exact I.list_inj h1 h2
        · exact I.tuple_inj h1 h2
      subst exy
      rw [eb, beq_self_eq_true, Bool.true_and, List.all_eq_true]
      intro j hj
      have hj' : j < xs.length := List.mem_range.mp hj
      exact eqN_refl I (he j xs[j] xs[j] (List.getElem?_eq_getElem hj') (List.getElem?_eq_getElem hj'))
theorem eqN_at {pins : List (Addr × Obj)} {σ : St} {H : Hp} {s : Shared} (I : Inv X pins σ H s) : ∀ {n : Nat} {A : Around} {x y : V} {u v : Value} {b : Bool}, A.units + n < cLine → RelV x u → RelV y v → EqN X.K H n x y b → SeqAt.EqAt A s u v b
  | 0, A, x, y, u, v, b, _, rx, ry, ⟨h1, h2, e⟩ => by rw [e]; exact eqAt_V rx ry h1 h2
  | n + 1, A, x, y, u, v, b, hu, rx, ry, h => by
    rcases id h with ⟨h1, h2, e⟩ | ⟨p, q, xs, ys, e, e1, e2, hs, he, eb⟩
    · rw [e]; exact eqAt_V rx ry h1 h2
    · subst e1 e2
      cases rx
      cases ry
      by_cases hpq : p = q
      · subst hpq
        rw [eqN_refl I h]
        exact SeqAt.EqAt.same _
      · refine SeqAt.EqAt.of_refs hpq ?_
        have items : ∀ {us vs : List Value}, Vals xs us → Vals ys vs → ∀ j (h1 : j < us.toArray.size) (h2 : j < vs.toArray.size), SeqAt.EqAt A.in1 s us.toArray[j] vs.toArray[j] (e j) := fun {us vs} r1 r2 j h1 h2 => by
          have l1 := r1.length
          have l2 := r2.length
          rw [List.size_toArray] at h1 h2
          have g1 : xs[j]? = some xs[j] := List.getElem?_eq_getElem (by omega)
          have g2 : ys[j]? = some ys[j] := List.getElem?_eq_getElem (by omega)
          obtain ⟨u', eu, ru⟩ := r1.get g1
          obtain ⟨v', ev, rv⟩ := r2.get g2
          have eu' : us.toArray[j] = u' := by
            rw [List.getElem_toArray]
            exact Option.some.inj ((List.getElem?_eq_getElem h1).symm.trans eu)
          have ev' : vs.toArray[j] = v' := by
            rw [List.getElem_toArray]
            exact Option.some.inj ((List.getElem?_eq_getElem h2).symm.trans ev)
          rw [eu', ev']
          exact eqN_at I (n := n) (by show A.units + 1 + n < cLine; omega) ru rv (he j _ _ g1 g2)
        rcases hs with ⟨h1, h2⟩ | ⟨h1, h2⟩
        · obtain ⟨us, r1, p1, _⟩ := I.list h1
          obtain ⟨vs, r2, p2, _⟩ := I.list h2
          have l1 := r1.length
          have l2 := r2.length
          by_cases hl : xs.length = ys.length
          · rw [eb, hl, beq_self_eq_true, Bool.true_and, ← hl, show xs.length = us.toArray.size by rw [List.size_toArray]; exact l1]
            exact SeqAt.RcAt.lists p1.isList p2.isList (by rw [List.size_toArray, List.size_toArray]; omega) (by omega) (items r1 r2)
          · rw [eb, show (xs.length == ys.length) = false by simpa using hl, Bool.false_and]
            exact SeqAt.RcAt.lists_lengths p1.isList p2.isList (by rw [List.size_toArray, List.size_toArray]; simp; omega) (by omega)
        · obtain ⟨us, r1, p1, _⟩ := I.tuple h1
          obtain ⟨vs, r2, p2, _⟩ := I.tuple h2
          have l1 := r1.length
          have l2 := r2.length
          have q := SeqAt.RcAt.tuples (s := s) (A := A) (l := p) (b := q) (e := e) p1 p2 (by omega) (items r1 r2)
          rw [List.size_toArray, List.size_toArray, ← l1, ← l2] at q
          by_cases hl : xs.length = ys.length
          · rw [eb, hl, beq_self_eq_true, Bool.true_and]
            rw [hl, Nat.min_self, beq_self_eq_true, Bool.and_true] at q
            exact q
          · have hb : (xs.length == ys.length) = false := by simpa using hl
            rw [eb, hb, Bool.false_and]
            rw [hb, Bool.and_false] at q
            exact q
def rEqG (K : PySem.W.Frag) : R2 := fun x y H Q => ∃ b, EqN K H 8 x y b ∧ Q (.bl b) H
def rNeG (K : PySem.W.Frag) : R2 := fun x y H Q => ∃ b, EqN K H 8 x y b ∧ Q (.bl (!b)) H
theorem eqN_items {pins : List (Addr × Obj)} {σ : St} {H : Hp} {s : Shared} {n : Nat} {A : Around} {xs ys : List V} {us vs : List Value} {e : Nat → Bool} (I : Inv X pins σ H s) (hu : A.units + 1 + n < cLine)
    (he : ∀ (j : Nat) u v, xs[j]? = some u → ys[j]? = some v → EqN X.K H n u v (e j)) (r1 : Vals xs us) (r2 : Vals ys vs) : ∀ j (h1 : j < us.toArray.size) (h2 : j < vs.toArray.size), SeqAt.EqAt A.in1 s us.toArray[j] vs.toArray[j] (e j) := fun j h1 h2 => by
  have l1 := r1.length
  have l2 := r2.length
  rw [List.size_toArray] at h1 h2
  have g1 : xs[j]? = some xs[j] := List.getElem?_eq_getElem (by omega)
  have g2 : ys[j]? = some ys[j] := List.getElem?_eq_getElem (by omega)
  obtain ⟨u', eu, ru⟩ := r1.get g1
  obtain ⟨v', ev, rv⟩ := r2.get g2
  have eu' : us.toArray[j] = u' := by
    rw [List.getElem_toArray]
    exact Option.some.inj ((List.getElem?_eq_getElem h1).symm.trans eu)
  have ev' : vs.toArray[j] = v' := by
    rw [List.getElem_toArray]
    exact Option.some.inj ((List.getElem?_eq_getElem h2).symm.trans ev)
  rw [eu', ev']
  exact eqN_at I (n := n) (by show A.units + 1 + n < cLine; omega) ru rv (he j _ _ g1 g2)
theorem rcAt_V {A : Around} {s : Shared} {y x : V} {u v : Value} (ry : RelV y u) (rx : RelV x v) (fy : flatV y = true) (fx : flatV x = true) : SeqAt.RcAt A s u v (eqV y x) := by
  cases y with
  | non =>
    cases ry
    cases x with
    | non => cases rx; exact SeqAt.RcAt.none_none
    | bl b => cases rx; exact SeqAt.RcAt.none_bool b
    | int b => obtain ⟨t, rfl⟩ := rx; exact SeqAt.RcAt.none_int b t
    | str b => obtain ⟨t, rfl⟩ := rx; exact SeqAt.RcAt.none_str b t
    | _ => exact absurd (show false = true from fx) Bool.false_ne_true
  | bl a =>
    cases ry
    cases x with
    | non => cases rx; exact SeqAt.RcAt.bool_none a
    | bl b => cases rx; exact SeqAt.RcAt.bool_bool a b
    | int b => obtain ⟨t, rfl⟩ := rx; exact SeqAt.RcAt.bool_int a b t
    | str b => obtain ⟨t, rfl⟩ := rx; exact SeqAt.RcAt.bool_str a b t
    | _ => exact absurd (show false = true from fx) Bool.false_ne_true
  | int a =>
    obtain ⟨t', rfl⟩ := ry
    cases x with
    | non => cases rx; exact SeqAt.RcAt.int_none a t'
    | bl b => cases rx; exact SeqAt.RcAt.int_bool a t' b
    | int b => obtain ⟨t, rfl⟩ := rx; exact SeqAt.RcAt.int_int a t' b t
    | str b => obtain ⟨t, rfl⟩ := rx; exact SeqAt.RcAt.int_str a t' b t
    | _ => exact absurd (show false = true from fx) Bool.false_ne_true
  | str a =>
    obtain ⟨t', rfl⟩ := ry
    cases x with
    | non => cases rx; exact SeqAt.RcAt.str_none a t'
    | bl b => cases rx; exact SeqAt.RcAt.str_bool a t' b
    | int b => obtain ⟨t, rfl⟩ := rx; exact SeqAt.RcAt.str_int a t' b t
    | str b => obtain ⟨t, rfl⟩ := rx; exact SeqAt.RcAt.str_str a t' b t
    | _ => exact absurd (show false = true from fx) Bool.false_ne_true
  | _ => exact absurd (show false = true from fy) Bool.false_ne_true
theorem rcNeAt_V {A : Around} {s : Shared} {y x : V} {u v : Value} (ry : RelV y u) (rx : RelV x v) (fy : flatV y = true) (fx : flatV x = true) : SeqAt.RcNeAt A s u v (!eqV y x) := by
  cases y with
  | non =>
    cases ry
    cases x with
    | non => cases rx; exact SeqAt.RcNeAt.none_none
    | bl b => cases rx; exact SeqAt.RcNeAt.none_bool b
    | int b => obtain ⟨t, rfl⟩ := rx; exact SeqAt.RcNeAt.none_int b t
    | str b => obtain ⟨t, rfl⟩ := rx; exact SeqAt.RcNeAt.none_str b t
    | _ => exact absurd (show false = true from fx) Bool.false_ne_true
  | bl a =>
    cases ry
    cases x with
    | non => cases rx; exact SeqAt.RcNeAt.bool_none a
    | bl b => cases rx; exact SeqAt.RcNeAt.bool_bool a b
    | int b => obtain ⟨t, rfl⟩ := rx; exact SeqAt.RcNeAt.bool_int a b t
    | str b => obtain ⟨t, rfl⟩ := rx; exact SeqAt.RcNeAt.bool_str a b t
    | _ => exact absurd (show false = true from fx) Bool.false_ne_true
  | int a =>
    obtain ⟨t', rfl⟩ := ry
    cases x with
    | non => cases rx; exact SeqAt.RcNeAt.int_none a t'
    | bl b => cases rx; exact SeqAt.RcNeAt.int_bool a t' b
    | int b => obtain ⟨t, rfl⟩ := rx; exact SeqAt.RcNeAt.int_int a t' b t
    | str b => obtain ⟨t, rfl⟩ := rx; exact SeqAt.RcNeAt.int_str a t' b t
    | _ => exact absurd (show false = true from fx) Bool.false_ne_true
  | str a =>
    obtain ⟨t', rfl⟩ := ry
    cases x with
    | non => cases rx; exact SeqAt.RcNeAt.str_none a t'
    | bl b => cases rx; exact SeqAt.RcNeAt.str_bool a t' b
    | int b => obtain ⟨t, rfl⟩ := rx; exact SeqAt.RcNeAt.str_int a t' b t
    | str b => obtain ⟨t, rfl⟩ := rx; exact SeqAt.RcNeAt.str_str a t' b t
    | _ => exact absurd (show false = true from fx) Bool.false_ne_true
  | _ => exact absurd (show false = true from fy) Bool.false_ne_true
theorem op_eqG (hu : X.A.units + 9 < cLine) : OpR X (compareOp .Eq) (rEqG X.K) := by
  intro pins s σ H x y v u Q I rx ry h
  obtain ⟨b, h, q⟩ := h
  have fin : EP X pins σ Q (.bool b) s := ⟨.bl b, H, I, rfl, q⟩
  rcases h with ⟨h1, h2, e⟩ | ⟨p, l, xs, ys, e, e1, e2, hs, he, eb⟩
  · exact rcAt_V rx ry h1 h2 X.prog X.w X.xe _ (by rw [← e]; exact fin)
  · subst e1 e2
    cases rx
    cases ry
    rcases hs with ⟨h1, h2⟩ | ⟨h1, h2⟩
    · obtain ⟨us, r1, p1, _⟩ := I.list h1
      obtain ⟨vs, r2, p2, _⟩ := I.list h2
      have l1 := r1.length
      have l2 := r2.length
      by_cases hl : xs.length = ys.length
      · refine SeqAt.RcAt.lists p1.isList p2.isList (by rw [List.size_toArray, List.size_toArray]; omega) (by omega) (eqN_items I (n := 7) (A := X.A) (by omega) he r1 r2) X.prog X.w X.xe _ ?_
        rw [List.size_toArray, ← l1]
        rw [eb, hl, beq_self_eq_true, Bool.true_and, ← hl] at fin
        exact fin
      · refine SeqAt.RcAt.lists_lengths p1.isList p2.isList (by rw [List.size_toArray, List.size_toArray]; simp; omega) (by omega) X.prog X.w X.xe _ ?_
        rw [eb, show (xs.length == ys.length) = false by simpa using hl, Bool.false_and] at fin
        exact fin
    · obtain ⟨us, r1, p1, _⟩ := I.tuple h1
      obtain ⟨vs, r2, p2, _⟩ := I.tuple h2
      have l1 := r1.length
      have l2 := r2.length
      refine SeqAt.RcAt.tuples p1 p2 (by omega) (eqN_items I (n := 7) (A := X.A) (by omega) he r1 r2) X.prog X.w X.xe _ ?_
      rw [List.size_toArray, List.size_toArray, ← l1, ← l2]
      rw [eb] at fin
      by_cases hl : xs.length = ys.length
      · rw [hl, beq_self_eq_true, Bool.true_and] at fin
        rw [hl, Nat.min_self, beq_self_eq_true, Bool.and_true]
        exact fin
      · have hb : (xs.length == ys.length) = false := by simpa using hl
        rw [hb, Bool.false_and] at fin
        rw [hb, Bool.and_false]
        exact fin
theorem op_neG (hu : X.A.units + 9 < cLine) : OpR X (compareOp .NotEq) (rNeG X.K) := by
  intro pins s σ H x y v u Q I rx ry h
  obtain ⟨b, h, q⟩ := h
  have fin : EP X pins σ Q (.bool (!b)) s := ⟨.bl (!b), H, I, rfl, q⟩
  rcases h with ⟨h1, h2, e⟩ | ⟨p, l, xs, ys, e, e1, e2, hs, he, eb⟩
  · exact rcNeAt_V rx ry h1 h2 X.prog X.w X.xe _ (by rw [← e]; exact fin)
  · subst e1 e2
    cases rx
    cases ry
    rcases hs with ⟨h1, h2⟩ | ⟨h1, h2⟩
    · obtain ⟨us, r1, p1, _⟩ := I.list h1
      obtain ⟨vs, r2, p2, _⟩ := I.list h2
      have l1 := r1.length
      have l2 := r2.length
      by_cases hl : xs.length = ys.length
      · refine SeqAt.RcNeAt.lists p1.isList p2.isList (by rw [List.size_toArray, List.size_toArray]; omega) (by omega) (eqN_items I (n := 7) (A := X.A) (by omega) he r1 r2) X.prog X.w X.xe _ ?_
        rw [List.size_toArray, ← l1]
        rw [eb, hl, beq_self_eq_true, Bool.true_and, ← hl] at fin
        exact fin
      · refine SeqAt.RcNeAt.lists_lengths p1.isList p2.isList (by rw [List.size_toArray, List.size_toArray]; simp; omega) (by omega) X.prog X.w X.xe _ ?_
        rw [eb, show (xs.length == ys.length) = false by simpa using hl, Bool.false_and] at fin
        exact fin
    · obtain ⟨us, r1, p1, _⟩ := I.tuple h1
      obtain ⟨vs, r2, p2, _⟩ := I.tuple h2
      have l1 := r1.length
      have l2 := r2.length
      refine SeqAt.RcNeAt.tuples p1 p2 (by omega) (eqN_items I (n := 7) (A := X.A) (by omega) he r1 r2) X.prog X.w X.xe _ ?_
      rw [List.size_toArray, List.size_toArray, ← l1, ← l2]
      rw [eb] at fin
      by_cases hl : xs.length = ys.length
      · rw [hl, beq_self_eq_true, Bool.true_and] at fin
        rw [hl, Nat.min_self, beq_self_eq_true, Bool.and_true]
        exact fin
      · have hb : (xs.length == ys.length) = false := by simpa using hl
        rw [hb, Bool.false_and] at fin
        rw [hb, Bool.and_false]
        exact fin
def IsI (K : PySem.W.Frag) (H : Hp) (x : V) (c : V) (b : Bool) : Prop := ∃ t, TyOf K H x t ∧ ((∃ T, c = .ty T ∧ PySem.W.kitOne K t (.type T) = some b) ∨ (∃ C, c = .ref C ∧ PySem.W.kitOne K t (.ref C) = some b))
theorem call_isi : CallR X (.builtin "isinstance") (fun xs H Q => ∃ x c b, xs = [x, c] ∧ IsI X.K H x c b ∧ Q (.bl b) H) := by
  intro pins s σ H xs us Q I r h
  obtain ⟨x, c, b, rfl, ⟨t, ty, hc⟩, q⟩ := h
  obtain ⟨u, w', rfl, rx, ry⟩ := vals2 r
  rcases hc with ⟨T, rfl, e⟩ | ⟨C, rfl, e⟩
  · cases ry
    exact isinst_ok I rx ty e fun tk => ⟨.bl b, H, I.tok _, rfl, q⟩
  · cases ry
    exact isinst_ok I rx ty e fun tk => ⟨.bl b, H, I.tok _, rfl, q⟩
end
end L2
namespace L2
open PySem PySem.Spec PyProof.Rows
section
variable {X : Cx}
def gIx (K : PySem.W.Frag) : V → V → Hp → VK → Prop := fun x y H Q => ∃ p xs i v, x = .ref p ∧ y = .int i ∧ SqL K H p xs ∧ 0 ≤ i ∧ xs[i.toNat]? = some v ∧ Q v H
theorem get_ix : PGet X (gIx X.K) := by
  intro pins s σ H x y v u Q I rx ry h
  obtain ⟨p, xs, i, z, rfl, rfl, hq, h0, he, q⟩ := h
  cases rx
  obtain ⟨t, rfl⟩ := ry
  obtain ⟨its, r, pl, hz⟩ := I.list hq
  obtain ⟨w, ew, rw'⟩ := r.get he
  have hl := r.length
  have hn := line63
  have hi : i.toNat < xs.length := (List.getElem?_eq_some_iff.mp he).1
  exact wpAny_getItem_list pl.isList h0 (by omega) (by simpa using ew) ⟨z, H, I, rw', q⟩
theorem hu9 {k : Nat} {A : Around} (hr : Room k A) : A.units + 9 < cLine := by have := hr.un; omega
end
section
variable {σ : St} {H : Hp} {nx bk ct : St → Hp → Prop} {rt : VK} {Q : VK} {QT : Bool → Hp → Prop} {QA : List V → Hp → Prop} {QG : St → Hp → Prop}
theorem rd_start {t : TS} {D : Ends} {σ σ' : St} (e : σ' = σ) (h : t D σ H) : t D σ' H := e ▸ h
theorem rd_seq {t u : TS} (h : t ⟨u ⟨nx, rt, bk, ct⟩, rt, bk, ct⟩ σ H) : tSeq t u ⟨nx, rt, bk, ct⟩ σ H := h
theorem rd_next (h : nx σ H) : tNext ⟨nx, rt, bk, ct⟩ σ H := h
theorem rd_asg {te : TE} {g : TG} (h : te σ H fun x H1 => g x σ H1 nx) : tAsg te g ⟨nx, rt, bk, ct⟩ σ H := h
theorem rd_drop {te : TE} (h : te σ H fun _ H1 => nx σ H1) : tDrop te ⟨nx, rt, bk, ct⟩ σ H := h
theorem rd_ret {te : TE} (h : te σ H rt) : tRet te ⟨nx, rt, bk, ct⟩ σ H := h
theorem rd_retN (h : rt .non H) : tRetN ⟨nx, rt, bk, ct⟩ σ H := h
theorem rd_break (h : bk σ H) : tBreak ⟨nx, rt, bk, ct⟩ σ H := h
theorem rd_cont (h : ct σ H) : tCont ⟨nx, rt, bk, ct⟩ σ H := h
theorem rd_ifS {c : TT} {t u : TS} (h : c σ H fun b H1 => if b = true then t ⟨nx, rt, bk, ct⟩ σ H1 else u ⟨nx, rt, bk, ct⟩ σ H1) : tIfS c t u ⟨nx, rt, bk, ct⟩ σ H := h
theorem rd_par {i j : Nat} {ta : TA} (h : ta σ H fun vs H1 => ∃ v w, vs = [v, w] ∧ nx ((σ.set i (some v)).set j (some w)) H1) : tPar i j ta ⟨nx, rt, bk, ct⟩ σ H := h
theorem rd_aug {i : Nat} {te : TE} {ti : TIp} {x : V} (e : σ[i]? = some (some x)) (h : te σ H fun y H1 => ti x y H1 fun z H2 => nx (σ.set i (some z)) H2) : tAug i te ti ⟨nx, rt, bk, ct⟩ σ H := ⟨x, e, h⟩
theorem rd_augS {to ti te : TE} {tget : V → V → Hp → VK → Prop} {tip : TIp} {tset : TSet} (h : to σ H fun o H1 => ti σ H1 fun i H2 => tget o i H2 fun x H3 => te σ H3 fun y H4 => tip x y H4 fun z H5 => tset o i z H5 fun H6 => nx σ H6) : tAugS to ti te tget tip tset ⟨nx, rt, bk, ct⟩ σ H := h
theorem rd_for {wi : TI} {g : TG} {tb : TS} (h : wi σ H fun J H1 => ∃ W : Nat → Nat → St → Hp → Prop, (∃ m, W 0 m σ H1) ∧ ∀ i m σ H, W i m σ H →
  (J.stop i H ∧ nx σ H) ∨ (J.go i H ∧ ∃ N : St → Hp → Prop, (∀ σ' H', N σ' H' → ∃ m', m' < m ∧ W (i + 1) m' σ' H') ∧ ∀ x H', J.yld i H x H' → g x σ H' fun σ2 H2 => tb ⟨N, rt, nx, N⟩ σ2 H2)) : tFor wi g tb ⟨nx, rt, bk, ct⟩ σ H := h
theorem rd_gname {i : Nat} {v : V} {σ' : St} (e : σ.set i (some v) = σ') (h : QG σ' H) : gName i v σ H QG := by unfold gName; rw [e]; exact h
theorem rd_gtup {K : PySem.W.Frag} {n : Nat} {t : TGs} {a : Addr} {xs : List V} (h1 : SqT K H a xs) (h2 : xs.length = n) (h : t xs σ H QG) : gTup K n t (.ref a) σ H QG := ⟨a, xs, rfl, h1, h2, h⟩
theorem rd_gnil (h : QG σ H) : gNil [] σ H QG := ⟨rfl, h⟩
theorem rd_gcons {t : TG} {u : TGs} {v : V} {r : List V} (h : t v σ H fun σ' H' => u r σ' H' QG) : gCons t u (v :: r) σ H QG := ⟨v, r, rfl, h⟩
theorem rd_gsub {to ti : TE} {t : TSet} {v : V} (h : to σ H fun o H1 => ti σ H1 fun i H2 => t o i v H2 fun H3 => QG σ H3) : gSub to ti t v σ H QG := h
theorem rd_setL {p : Addr} {xs : List V} {k : Int} {v : V} {j : Nat} {QH : Hp → Prop} (h1 : H p = some (.lst xs)) (h2 : ixN xs.length k = some j) (h : QH (upd H p (.lst (xs.set j v)))) : rSetL (.ref p) (.int k) v H QH := ⟨p, xs, k, j, rfl, rfl, h1, h2, h⟩
theorem rd_gIx {K : PySem.W.Frag} {p : Addr} {xs : List V} {i : Int} {v : V} (h1 : SqL K H p xs) (h0 : 0 ≤ i) (h2 : xs[i.toNat]? = some v) (h : Q v H) : gIx K (.ref p) (.int i) H Q := ⟨p, xs, i, v, rfl, rfl, h1, h0, h2, h⟩
theorem rd_ipI {f : Int → Int → Int} {i j : Int} (h : Q (.int (f i j)) H) : ipI f (.int i) (.int j) H Q := ⟨i, j, rfl, rfl, h⟩
-- expressions
theorem rd_var {i : Nat} {v : V} (e : σ[i]? = some (some v)) (h : Q v H) : tVar i σ H Q := ⟨v, e, h⟩
theorem rd_c {v : V} (h : Q v H) : tC v σ H Q := h
theorem rd_op {r : R2} {ta tb : TE} (h : ta σ H fun x H1 => tb σ H1 fun y H2 => r x y H2 Q) : tOp r ta tb σ H Q := h
theorem rd_un {r : V → Hp → VK → Prop} {ta : TE} (h : ta σ H fun x H1 => r x H1 Q) : tUn r ta σ H Q := h
theorem rd_rI0 {g : Int → Int → V} {i j : Int} (h : Q (g i j) H) : rI0 g (.int i) (.int j) H Q := ⟨i, j, rfl, rfl, h⟩
theorem rd_rI {C : Int → Int → Prop} {g : Int → Int → V} {i j : Int} (c : C i j) (h : Q (g i j) H) : rI C g (.int i) (.int j) H Q := ⟨i, j, rfl, rfl, c, h⟩
theorem rd_rU {g : Int → V} {i : Int} (h : Q (g i) H) : rU g (.int i) H Q := ⟨i, rfl, h⟩
theorem rd_addI {i j : Int} (h : Q (.int (i + j)) H) : rAddG (.int i) (.int j) H Q := .inl ⟨i, j, rfl, rfl, h⟩
theorem rd_addL {l b : Addr} {xs zs : List V} (h1 : H l = some (.lst xs)) (h2 : H b = some (.lst zs)) (hz : xs.length + zs.length ≤ sizeLine) (h : ∀ p, H p = none → Q (.ref p) (upd H p (.lst (xs ++ zs)))) : rAddG (.ref l) (.ref b) H Q := .inr ⟨l, b, xs, zs, rfl, rfl, h1, h2, hz, h⟩
theorem rd_mulI {i j : Int} (c : CMul i j) (h : Q (.int (i * j)) H) : rMulG (.int i) (.int j) H Q := .inl ⟨i, j, rfl, rfl, c, h⟩
theorem rd_eqF {K : PySem.W.Frag} {x y : V} (h1 : flatV x = true) (h2 : flatV y = true) (h : Q (.bl (eqV x y)) H) : rEqG K x y H Q := ⟨_, .inl ⟨h1, h2, rfl⟩, h⟩
theorem rd_neF {K : PySem.W.Frag} {x y : V} (h1 : flatV x = true) (h2 : flatV y = true) (h : Q (.bl (!eqV x y)) H) : rNeG K x y H Q := ⟨_, .inl ⟨h1, h2, rfl⟩, h⟩
theorem rd_ixL {K : PySem.W.Frag} {p : Addr} {xs : List V} {i : Int} {v : V} (h1 : SqL K H p xs) (h2 : atI xs i = some v) (h : Q v H) : rIx K (.ref p) (.int i) H Q := .inl ⟨p, xs, i, v, rfl, rfl, h1, h2, h⟩
theorem rd_ixT {K : PySem.W.Frag} {p : Addr} {xs : List V} {i : Int} {v : V} (h1 : SqT K H p xs) (h2 : atI xs i = some v) (h : Q v H) : rIx K (.ref p) (.int i) H Q := .inr (.inl ⟨p, xs, i, v, rfl, rfl, h1, h2, h⟩)
theorem rd_sl {r : V → Option Int → Option Int → Hp → VK → Prop} {te : TE} {tl th : TO} (h : te σ H fun x H1 => tl σ H1 fun l H2 => th σ H2 fun u H3 => r x l u H3 Q) : tSl r te tl th σ H Q := h
theorem rd_nopart {QO : Option Int → Hp → Prop} (h : QO none H) : tNoPart σ H QO := h
theorem rd_part {t : TE} {QO : Option Int → Hp → Prop} (h : t σ H fun x H1 => ∃ i, x = .int i ∧ QO (some i) H1) : tPart t σ H QO := h
theorem rd_slL {K : PySem.W.Frag} {a : Addr} {xs : List V} {lo hi : Option Int} (h1 : SqL K H a xs) (h : ∀ p, H p = none → Q (.ref p) (upd H p (.lst (cutV xs lo hi)))) : rSlG K (.ref a) lo hi H Q := .inl ⟨a, xs, rfl, h1, h⟩
theorem rd_andV {ta tb : TE} (h : ta σ H fun x H1 => ∃ c, x = .bl c ∧ if c = true then tb σ H1 Q else Q (.bl false) H1) : tAndV ta tb σ H Q := h
theorem rd_orV {ta tb : TE} (h : ta σ H fun x H1 => ∃ c, x = .bl c ∧ if c = true then Q (.bl true) H1 else tb σ H1 Q) : tOrV ta tb σ H Q := h
theorem rd_notV {ta : TE} (h : ta σ H fun x H1 => ∃ c, x = .bl c ∧ Q (.bl (!c)) H1) : tNotV ta σ H Q := h
theorem rd_ifE {t : TT} {ta tb : TE} (h : t σ H fun c H1 => if c = true then ta σ H1 Q else tb σ H1 Q) : tIf t ta tb σ H Q := h
theorem rd_chain {r r' : R2} {ta tb tc : TE} (h : ta σ H fun x H1 => tb σ H1 fun y H2 => r x y H2 fun z H3 => ∃ k, z = .bl k ∧ (if k = true then tc σ H3 fun w' H4 => r' y w' H4 Q else Q (.bl false) H3)) : tChain r r' ta tb tc σ H Q := h
-- tests
theorem rd_test {t : TE} (h : t σ H fun x H' => ∃ k, x = .bl k ∧ QT k H') : tTest t σ H QT := h
theorem rd_tB {t : TE} (h : t σ H fun x H' => ∃ k, x = .bl k ∧ QT k H') : tB t σ H QT := h
theorem rd_and {t u : TT} (h : t σ H fun c H1 => if c = true then u σ H1 QT else QT false H1) : tAnd t u σ H QT := h
theorem rd_or {t u : TT} (h : t σ H fun c H1 => if c = true then QT true H1 else u σ H1 QT) : tOr t u σ H QT := h
theorem rd_not {t : TT} (h : t σ H fun c H1 => QT (!c) H1) : tNot t σ H QT := h
theorem rd_yes (h : QT true H) : tYes σ H QT := h
theorem rd_bl {b : Bool} {P : Bool → Prop} (h : P b) : ∃ k, V.bl b = V.bl k ∧ P k := ⟨b, rfl, h⟩
theorem rd_int1 {i : Int} {P : Int → Prop} (h : P i) : ∃ k, V.int i = V.int k ∧ P k := ⟨i, rfl, h⟩
theorem rd_l1 {i : Int} {P : Int → Prop} (h : P i) : ∃ k, [V.int i] = [V.int k] ∧ P k := ⟨i, rfl, h⟩
theorem rd_l2 {i j : Int} {P : Int → Int → Prop} (h : P i j) : ∃ k l, [V.int i, V.int j] = [V.int k, V.int l] ∧ P k l := ⟨i, j, rfl, h⟩
theorem rd_bl2 {b : Bool} {P : Bool → Prop} {R : Prop} (h : P b) : R ∨ ∃ k, [V.bl b] = [V.bl k] ∧ P k := .inr ⟨b, rfl, h⟩
theorem rd_nil (h : QA [] H) : tNil σ H QA := h
theorem rd_cons {ta : TE} {tr : TA} (h : ta σ H fun x H1 => tr σ H1 fun xs H2 => QA (x :: xs) H2) : tCons ta tr σ H QA := h
theorem rd_tup {t : TA} (h : t σ H fun xs H1 => xs.length ≤ sizeLine ∧ ∀ p, H1 p = none → Q (.ref p) (upd H1 p (.tup xs))) : tTup t σ H Q := h
theorem rd_lst {t : TA} (h : t σ H fun xs H1 => xs.length ≤ sizeLine ∧ ∀ p, H1 p = none → Q (.ref p) (upd H1 p (.lst xs))) : tLst t σ H Q := h
theorem rd_call {sp : Sp} {E : XK} {t : TA} (h : t σ H fun vs H1 => sp vs H1 Q E) : tCall sp [] E t σ H Q := by
  unfold tCall
  simpa only [List.append_nil] using h
theorem rd_cb {r : List V → Hp → VK → Prop} {t : TA} (h : t σ H fun vs H1 => r vs H1 Q) : tCB r t σ H Q := h
theorem rd_comp {wi : TI} {k : Nat} {idx : List Nat} {g : TG} {tt : TT} {te : TE} (h : wi σ H fun J H1 => tCompW J (cσ k idx σ) g tt te (fun ys H' => ∀ p, H' p = none → Q (.ref p) (upd H' p (.lst ys))) H1) : tComp wi k idx g tt te σ H Q := h
theorem rd_iRng1 {ta : TA} {R : It → Hp → Prop} (h : ta σ H fun vs H1 => ∃ j : Int, vs = [.int j] ∧ -(2 ^ 62) ≤ j ∧ j < 2 ^ 62 ∧ R (Itr 0 j.toNat) H1) : iRng1 ta σ H R := h
theorem rd_iRng2 {ta : TA} {R : It → Hp → Prop} (h : ta σ H fun vs H1 => ∃ i j : Int, vs = [.int i, .int j] ∧ (-(2 ^ 62) ≤ i ∧ i < 2 ^ 62 ∧ -(2 ^ 62) ≤ j ∧ j < 2 ^ 62) ∧ R (Itr i (j - i).toNat) H1) : iRng2 ta σ H R := h
theorem rd_fld {K : PySem.W.Frag} {ta : TE} {f : Str} (h : ta σ H fun x H1 => ∃ a C dx fs v, x = .ref a ∧ H1 a = some (.ins C dx fs) ∧ Cls K C ∧ NoAttr K C f ∧ fs.lookup f = some v ∧ Q v H1) : tFld K ta f σ H Q := h
theorem rd_size {n : Nat} {P : Prop} (h1 : n ≤ sizeLine) (h : P) : n ≤ sizeLine ∧ P := ⟨h1, h⟩
theorem sz_le {n : Nat} (h : n ≤ 16777216) : n ≤ sizeLine := by rw [sizeLine_eq]; exact h
end
section
variable {A B : Prop} {c : Prop} [Decidable c]
theorem rd_dec (h1 : c → A) (h2 : ¬ c → B) : if decide c = true then A else B := by
  by_cases h : c
  · rw [if_pos (decide_eq_true h)]; exact h1 h
  · rw [if_neg (by simpa using h)]; exact h2 h
theorem rd_decN (h1 : ¬ c → A) (h2 : c → B) : if (!decide c) = true then A else B := by
  by_cases h : c
  · rw [if_neg (by simpa using h)]; exact h2 h
  · rw [if_pos (by simpa using h)]; exact h1 h
theorem rd_bool {b : Bool} (h1 : b = true → A) (h2 : b = false → B) : if b = true then A else B := by
  cases b
  · exact iteF (h2 rfl)
  · exact iteT (h1 rfl)
end
def blkOk (sc : Scope) (NX : List Str) (scope : Scope) (N : List Str) (k : Nat) (idx : List Nat) : Bool :=
  scope.names.all (fun y => !(y.2 == .cell)) && scope.names.all (fun y => !(y.2 == .local) || scope.names.lookup y.1 == some .local) &&
  scope.names.all (fun y => !(y.2 == .free) || (sc.names.lookup y.1 == some .cell || sc.names.lookup y.1 == some .free)) &&
  decide N.Nodup && decide (N.length = k + idx.length) && (List.range idx.length).all fun i =>
    match (N.drop k)[i]?, idx[i]? with
    | some x, some j => decide (NX[j]? = some x) && scope.names.lookup x == some .free
    | _, _ => false
theorem blk_sc {X : Cx} {scope : Scope} {N : List Str} {k : Nat} {idx : List Nat} {sc : Scope} {NX : List Str} (hsc : X.env.scope = sc) (hN : X.N = NX) (hk : scope.kind = .function) (h : blkOk sc NX scope N k idx = true) : BlkScope X scope N k idx := by
  unfold blkOk at h
  simp only [Bool.and_eq_true, decide_eq_true_eq] at h
  obtain ⟨⟨⟨⟨⟨h1, h2⟩, h3⟩, h4⟩, h5⟩, h6⟩ := h
  rw [List.all_eq_true] at h1 h2 h3 h6
  refine ⟨hk, fun y hy e => ?_, fun y hy e => ?_, fun y hy e => ?_, h4, h5, fun i x e => ?_⟩
  · have := h1 y hy
    rw [e] at this
    simp at this
  · have := h2 y hy
    rw [e] at this
    simpa using this
  · have := h3 y hy
    rw [e] at this
    show X.env.scope.names.lookup y.1 = _ ∨ X.env.scope.names.lookup y.1 = _
    rw [hsc]
    simpa using this
  · have hi : i < (N.drop k).length := (List.getElem?_eq_some_iff.mp e).1
    have hi2 : i < idx.length := by rw [List.length_drop] at hi; omega
    have q := h6 i (List.mem_range.mpr hi2)
    rw [e, List.getElem?_eq_getElem hi2] at q
    simp only [Bool.and_eq_true, decide_eq_true_eq] at q
    exact ⟨idx[i], List.getElem?_eq_getElem hi2, by rw [hN]; exact q.1, by simpa using q.2⟩
theorem ne_none {H : Hp} {a b : Addr} {o : HO} (h' : H b = none) (h : H a = some o) : a ≠ b := ne_of_none h h'
theorem Same.at {H H' : Hp} {b : Addr} {o : HO} (e : Same H H') (h : H b = some o) : H' b = some o := e b o h
def Keep (p : Addr) (H H' : Hp) : Prop := ∀ b o, H b = some o → b ≠ p → H' b = some o
theorem Keep.at {p : Addr} {H H' : Hp} {b : Addr} {o : HO} (e : Keep p H H') (h : H b = some o) (n : b ≠ p) : H' b = some o := e b o h n
theorem Same.new {H : Hp} {p : Addr} {o : HO} (h : H p = none) : Same H (upd H p o) := fun b u e => by rw [upd_ne (ne_of_none e h)]; exact e
theorem Keep.upd {H : Hp} {p : Addr} {o : HO} : Keep p H (upd H p o) := fun b u e n => by rw [upd_ne n]; exact e
theorem Keep.trans {p : Addr} {H H1 H2 : Hp} (a : Keep p H H1) (b : Keep p H1 H2) : Keep p H H2 := fun c o h n => b c o (a c o h n) n
theorem Same.keep {p : Addr} {H H' : Hp} (a : Same H H') : Keep p H H' := fun c o h _ => a c o h
end L2
namespace L2
open PySem PySem.Spec PyProof.Rows
section
variable {σ : St} {H : Hp} {nx bk ct : St → Hp → Prop} {rt : VK}
theorem rd_seqJ {t u : TS} (J : St → Hp → Prop) (h1 : ∀ N : St → Hp → Prop, (∀ σ' H', J σ' H' → N σ' H') → t ⟨N, rt, bk, ct⟩ σ H) (h2 : ∀ σ' H', J σ' H' → u ⟨nx, rt, bk, ct⟩ σ' H') : tSeq t u ⟨nx, rt, bk, ct⟩ σ H := h1 _ h2
end
theorem comp_pure {K : PySem.W.Frag} {a : Addr} {xs : List V} {σ₀ : St} {g : TG} {tt : TT} {te : TE} {R : List V → Hp → Prop} {H : Hp} (f : V → V) (hS : SqL K H a xs) (hz : xs.length ≤ sizeLine)
    (hs : ∀ x (N : V → Hp → Prop) (N' : Hp → Prop), x ∈ xs → N (f x) H → g x σ₀ H fun σ2 H2 => tt σ2 H2 fun b H3 => if b = true then te σ2 H3 fun y H4 => N y H4 else N' H3)
    (hd : R (xs.map f) H) : tCompW (Itl K a) σ₀ g tt te R H := by
  refine comp_list (fun i ys H' => H' = H ∧ ys = (xs.take i).map f) ⟨rfl, by simp⟩ hz (fun i ys H' hi ⟨e1, e2⟩ => ?_) (fun i x ys H' hx ⟨e1, e2⟩ => ?_) (fun ys H' ⟨e1, e2⟩ => ?_)
  · subst e1 e2
    exact ⟨hS, by simp; omega⟩
  · subst e1 e2
    refine hs x (fun y H4 => H4 = H' ∧ (xs.take i).map f ++ [y] = (xs.take (i + 1)).map f) (fun H3 => H3 = H' ∧ (xs.take i).map f = (xs.take (i + 1)).map f) (List.mem_of_getElem? hx) ⟨rfl, ?_⟩
    rw [List.take_add_one, hx, List.map_append]
    rfl
  · subst e1 e2
    rw [List.take_length]
    exact hd
theorem comp_pureR {lo : Int} {n : Nat} {σ₀ : St} {g : TG} {tt : TT} {te : TE} {R : List V → Hp → Prop} {H : Hp} (f : Nat → V) (hz : n ≤ sizeLine)
    (hs : ∀ i (N : V → Hp → Prop) (N' : Hp → Prop), i < n → N (f i) H → g (.int (lo + i)) σ₀ H fun σ2 H2 => tt σ2 H2 fun b H3 => if b = true then te σ2 H3 fun y H4 => N y H4 else N' H3)
    (hd : R ((List.range n).map f) H) : tCompW (Itr lo n) σ₀ g tt te R H := by
  refine comp_range (fun i ys H' => H' = H ∧ ys = (List.range i).map f) ⟨rfl, by simp⟩ hz (fun i ys H' hi ⟨e1, e2⟩ => ?_) (fun i ys H' hi ⟨e1, e2⟩ => ?_) (fun ys H' ⟨e1, e2⟩ => ?_)
  · subst e1 e2
    simp
  · subst e1 e2
    refine hs i (fun y H4 => H4 = H' ∧ (List.range i).map f ++ [y] = (List.range (i + 1)).map f) (fun H3 => H3 = H' ∧ (List.range i).map f = (List.range (i + 1)).map f) hi ⟨rfl, ?_⟩
    rw [List.range_succ, List.map_append]
    rfl
  · subst e1 e2
    exact hd
theorem pe_gint {X : Cx} {x : Str} {n : Int} {pos : Pos} (hg : Gl X x) (hm : ∃ t, X.mg x = some (.int n t)) (hd : (x == ("__debug__" : Str)) = false := by decide) : PE X (.Name x pos) (tC (.int n)) := by
  obtain ⟨t, hm⟩ := hm
  exact pe_glob (v := .int n) hg hm ⟨t, rfl⟩ hd
section
variable {X : Cx} {K : PySem.W.Frag} {H : Hp} {Q : VK}
def rLen (K : PySem.W.Frag) : List V → Hp → VK → Prop := fun xs H Q => ∃ x n, xs = [x] ∧ LenV K x H n ∧ Q (.int n) H
theorem call_lenG : CallR X (.builtin "len") (rLen X.K) := call_len
theorem rd_lenL {p : Addr} {xs : List V} (h : SqL K H p xs) (q : Q (.int xs.length) H) : rLen K [.ref p] H Q := ⟨_, _, rfl, .inl ⟨_, h, rfl⟩, q⟩
theorem rd_lenT {p : Addr} {xs : List V} (h : SqT K H p xs) (q : Q (.int xs.length) H) : rLen K [.ref p] H Q := ⟨_, _, rfl, .inr ⟨_, h, rfl⟩, q⟩
def rAbs : List V → Hp → VK → Prop := fun xs H Q => ∃ i, xs = [.int i] ∧ Q (.int (if i < 0 then -i else i)) H
theorem call_absG : CallR X (.builtin "abs") rAbs := call_abs
theorem rd_abs {i : Int} (h : Q (.int (if i < 0 then -i else i)) H) : rAbs [.int i] H Q := ⟨i, rfl, h⟩
def rMax : List V → Hp → VK → Prop := fun xs H Q => ∃ i j, xs = [.int i, .int j] ∧ Q (.int (if j > i then j else i)) H
theorem call_maxG (hc : X.calm = true) : CallR X (.builtin "max") rMax := call_max2 hc
theorem rd_max {i j : Int} (h : Q (.int (max i j)) H) : rMax [.int i, .int j] H Q := ⟨i, j, rfl, by
  rw [show (if j > i then j else i) = max i j by split <;> omega]; exact h⟩
def rMin : List V → Hp → VK → Prop := fun xs H Q => ∃ i j, xs = [.int i, .int j] ∧ Q (.int (if j < i then j else i)) H
theorem call_minG (hc : X.calm = true) : CallR X (.builtin "min") rMin := call_min2 hc
theorem rd_min {i j : Int} (h : Q (.int (min i j)) H) : rMin [.int i, .int j] H Q := ⟨i, j, rfl, by
  rw [show (if j < i then j else i) = min i j by split <;> omega]; exact h⟩
def rInt1 : List V → Hp → VK → Prop := fun xs H Q => (∃ i, xs = [.int i] ∧ Q (.int i) H) ∨ ∃ k, xs = [.bl k] ∧ Q (.int (if k then 1 else 0)) H
theorem rd_intI {i : Int} (h : Q (.int i) H) : rInt1 [.int i] H Q := .inl ⟨i, rfl, h⟩
theorem rd_intB {b : Bool} (h : Q (.int (if b then 1 else 0)) H) : rInt1 [.bl b] H Q := .inr ⟨b, rfl, h⟩
def rIsi (K : PySem.W.Frag) : List V → Hp → VK → Prop := fun xs H Q => ∃ x c b, xs = [x, c] ∧ IsI K H x c b ∧ Q (.bl b) H
theorem call_isiG : CallR X (.builtin "isinstance") (rIsi X.K) := call_isi
theorem rd_isi {x c : V} {b : Bool} (h1 : IsI K H x c b) (h : Q (.bl b) H) : rIsi K [x, c] H Q := ⟨x, c, b, rfl, h1, h⟩
def rListOf (K : PySem.W.Frag) : List V → Hp → VK → Prop := fun xs H Q => ∃ p ys, xs = [.ref p] ∧ (SqL K H p ys ∨ SqT K H p ys) ∧ ∀ l, H l = none → Q (.ref l) (upd H l (.lst ys))
theorem call_listG : CallR X (.type "list") (rListOf X.K) := call_list_of
theorem rd_listL {p : Addr} {ys : List V} (h1 : SqL K H p ys) (h : ∀ l, H l = none → Q (.ref l) (upd H l (.lst ys))) : rListOf K [.ref p] H Q := ⟨p, ys, rfl, .inl h1, h⟩
end
theorem eqN_nil {K : PySem.W.Frag} {H : Hp} {p q : Addr} {xs : List V} (h1 : SqL K H p xs) (h2 : SqL K H q []) : EqN K H 8 (.ref p) (.ref q) xs.isEmpty :=
  .inr ⟨p, q, xs, [], fun _ => true, rfl, rfl, .inl ⟨h1, h2⟩, fun j u v _ e => by simp at e, by cases xs <;> simp⟩
theorem cut_head {xs : List V} {n : Nat} (h : xs.length ≤ n) : cutV xs none (some (n : Int)) = xs := by
  unfold cutV
  rw [HT.sIx_none, HT.sIx_nat, Nat.min_eq_right h, List.drop_zero, Nat.sub_zero, List.take_length]
end L2
namespace L2
open PySem PySem.Spec PyProof.Rows
section
variable {σ : St} {H : Hp} {nx : St → Hp → Prop} {rt : VK} {g : TG} {tb : TS} {Q : VK}
theorem rf_range {lo : Int} {n : Nat} (Pv : Nat → St → Hp → Prop) (h0 : Pv 0 σ H)
    (hs : ∀ i σ H, i < n → Pv i σ H → g (.int (lo + i)) σ H fun σ2 H2 => tb ⟨Pv (i + 1), rt, nx, Pv (i + 1)⟩ σ2 H2) (hd : ∀ σ H, Pv n σ H → nx σ H) :
    ∃ W : Nat → Nat → St → Hp → Prop, (∃ m, W 0 m σ H) ∧ ∀ i m σ H, W i m σ H →
      ((Itr lo n).stop i H ∧ nx σ H) ∨ ((Itr lo n).go i H ∧ ∃ N : St → Hp → Prop, (∀ σ' H', N σ' H' → ∃ m', m' < m ∧ W (i + 1) m' σ' H') ∧ ∀ x H', (Itr lo n).yld i H x H' → g x σ H' fun σ2 H2 => tb ⟨N, rt, nx, N⟩ σ2 H2) :=
  for_range (D := ⟨nx, rt, fun _ _ => False, fun _ _ => False⟩) Pv h0 hs hd
theorem rf_list {K : PySem.W.Frag} {a : Addr} {xs : List V} (Pv : Nat → St → Hp → Prop) (h0 : Pv 0 σ H) (hl : ∀ i σ H, i ≤ xs.length → Pv i σ H → SqL K H a xs)
    (hs : ∀ i x σ H, xs[i]? = some x → Pv i σ H → g x σ H fun σ2 H2 => tb ⟨Pv (i + 1), rt, nx, Pv (i + 1)⟩ σ2 H2) (hd : ∀ σ H, Pv xs.length σ H → nx σ H) :
    ∃ W : Nat → Nat → St → Hp → Prop, (∃ m, W 0 m σ H) ∧ ∀ i m σ H, W i m σ H →
      ((Itl K a).stop i H ∧ nx σ H) ∨ ((Itl K a).go i H ∧ ∃ N : St → Hp → Prop, (∀ σ' H', N σ' H' → ∃ m', m' < m ∧ W (i + 1) m' σ' H') ∧ ∀ x H', (Itl K a).yld i H x H' → g x σ H' fun σ2 H2 => tb ⟨N, rt, nx, N⟩ σ2 H2) :=
  for_list (D := ⟨nx, rt, fun _ _ => False, fun _ _ => False⟩) Pv h0 hl hs hd
theorem rf_tup {K : PySem.W.Frag} {a : Addr} {xs : List V} (Pv : Nat → St → Hp → Prop) (h0 : Pv 0 σ H) (hl : ∀ i σ H, i ≤ xs.length → Pv i σ H → SqT K H a xs)
    (hs : ∀ i x σ H, xs[i]? = some x → Pv i σ H → g x σ H fun σ2 H2 => tb ⟨Pv (i + 1), rt, nx, Pv (i + 1)⟩ σ2 H2) (hd : ∀ σ H, Pv xs.length σ H → nx σ H) :
    ∃ W : Nat → Nat → St → Hp → Prop, (∃ m, W 0 m σ H) ∧ ∀ i m σ H, W i m σ H →
      ((Itt K a).stop i H ∧ nx σ H) ∨ ((Itt K a).go i H ∧ ∃ N : St → Hp → Prop, (∀ σ' H', N σ' H' → ∃ m', m' < m ∧ W (i + 1) m' σ' H') ∧ ∀ x H', (Itt K a).yld i H x H' → g x σ H' fun σ2 H2 => tb ⟨N, rt, nx, N⟩ σ2 H2) :=
  for_tup (D := ⟨nx, rt, fun _ _ => False, fun _ _ => False⟩) Pv h0 hl hs hd
theorem rd_eqI {K : PySem.W.Frag} {i j : Int} (h : Q (.bl (decide (i = j))) H) : rEqG K (.int i) (.int j) H Q := ⟨_, .inl ⟨rfl, rfl, rfl⟩, h⟩
theorem rd_neI {K : PySem.W.Frag} {i j : Int} (h : Q (.bl (!decide (i = j))) H) : rNeG K (.int i) (.int j) H Q := ⟨_, .inl ⟨rfl, rfl, rfl⟩, h⟩
end
end L2
namespace L2
open PySem PySem.Spec PyProof.Rows
def noStar : Expr → Bool
  | .Starred _ _ => false
  | _ => true
theorem star_cons {e : Expr} {es : List Expr} {env : Env} (h : noStar e = true) : starEach (e :: es) env = (false, eval e env) :: starEach es env := by
  cases e <;> first | rfl | exact absurd h Bool.false_ne_true
theorem back_any {env : Env} {pos : Pos} : ∀ {es : List Expr}, es.all noStar = true → (backTo pos (starEach es env)).any (·.1) = false
  | [], _ => rfl
  | e :: es, h => by
    rw [List.all_cons, Bool.and_eq_true] at h
    rw [star_cons h.1]
    have ih := back_any (env := env) (pos := pos) h.2
    unfold backTo at ih ⊢
    rw [List.map_cons, List.any_cons]
    rw [ih]
    rfl
section
variable {X : Cx} {CX : CXT} {k : Nat} {f C : Addr} {fd : FuncData} {ps : List Str} {sp : Sp} {dvs : List V} {ds : List Value} {E : XK} {x m : Str} {p pos apos : Pos} {e o : Expr} {es : List Expr} {ta te : TE} {t : TA}
theorem pa_c (ha : PE X e te) (hr : PA X es t) (hs : noStar e = true := by rfl) : PA X (e :: es) (tCons te t) := pa_cons ha hr (star_cons hs)
theorem all_tl {e : Expr} {es : List Expr} (h : (e :: es).all noStar = true) : noStar e = true ∧ es.all noStar = true := by
  rw [List.all_cons, Bool.and_eq_true] at h
  exact h
theorem pe_callN (F : FnOk X.prog X.w X.K X.mg X.base CX k f fd ps sp) (hr : Room k X.A) (hg : Gl X x) (hm : X.mg x = some (.ref f)) (hk : PySem.W.keepIn X.K (.ref f) = true) (hb : Binds X.K fd ps ds) (hd : Vals dvs ds) (hx : Passes CX X E)
    (ha : PA X (e :: es) t) (hn : (e :: es).all noStar = true := by rfl) (hdb : (x == ("__debug__" : Str)) = false := by decide) : PE X (.Call (.Name x p) (e :: es) [] pos) (tCall sp dvs E t) :=
  pe_call F hr hg hm hk hb hd hx ha hdb (star_cons (all_tl hn).1) (back_any (all_tl hn).2)
theorem pe_makeN (M : Mk X.K C f) (F : FnOk X.prog X.w X.K X.mg X.base CX k f fd ps sp) (hr : Room (k + 1) X.A) (hg : Gl X x) (hm : X.mg x = some (.ref C)) (hb : Binds X.K fd ps ds) (hd : Vals dvs ds) (hx : Passes CX X E)
    (ha : PA X (e :: es) t) (hn : (e :: es).all noStar = true := by rfl) (hdb : (x == ("__debug__" : Str)) = false := by decide) : PE X (.Call (.Name x p) (e :: es) [] pos) (tMake C sp dvs E t) :=
  pe_make M F hr hg hm hb hd hx ha hdb (star_cons (all_tl hn).1) (back_any (all_tl hn).2)
variable {id T : String} {r : List V → Hp → VK → Prop}
theorem pe_callBN (hc : CallR X (.builtin id) r) (hg : Gl X x) (hm : X.mg x = none) (hv : bootBuiltins x = some (.builtin id)) (ha : PA X (e :: es) t) (hn : (e :: es).all noStar = true := by rfl) (hne : x ≠ "__name__" := by decide) (hdb : (x == ("__debug__" : Str)) = false := by decide) :
    PE X (.Call (.Name x p) (e :: es) [] pos) (tCB r t) := pe_callB hc hg hm hv ha hne hdb (star_cons (all_tl hn).1) (back_any (all_tl hn).2)
theorem pe_callTyN (hc : CallR X (.type T) r) (hg : Gl X x) (hm : X.mg x = none) (hv : bootBuiltins x = some (.type T)) (ha : PA X (e :: es) t) (hn : (e :: es).all noStar = true := by rfl) (hne : x ≠ "__name__" := by decide) (hdb : (x == ("__debug__" : Str)) = false := by decide) :
    PE X (.Call (.Name x p) (e :: es) [] pos) (tCB r t) := pe_callTy hc hg hm hv ha hne hdb (star_cons (all_tl hn).1) (back_any (all_tl hn).2)
variable {tg a b : Expr}
theorem pi_range1N (hg : Gl X "range") (hm : X.mg "range" = none) (ha : PA X [a] t) (hn : noStar a = true := by rfl) : PI X tg (.Call (.Name "range" p) [a] [] pos) (iRng1 t) := pi_range1 hg hm ha (star_cons hn)
theorem pi_range2N (hg : Gl X "range") (hm : X.mg "range" = none) (ha : PA X [a, b] t) (hn : noStar a = true := by rfl) (hn2 : noStar b = true := by rfl) : PI X tg (.Call (.Name "range" p) [a, b] [] pos) (iRng2 t) :=
  pi_range2 hg hm ha (by rw [star_cons hn, star_cons hn2]; rfl) (star_cons hn2)
end
end L2
namespace L2
open PySem PySem.Spec PyProof.Rows
section
variable {X : Cx} {pos : Pos} {x1 : Nat} {e1 e2 e3 e4 e5 e6 e7 e8 : Expr} {t1 t2 t3 t4 t5 t6 t7 t8 : TE}
theorem lst1 (h1 : PE X e1 t1) (n1 : noStar e1 = true := by rfl) : PE X (.List [e1] pos) (tLst (tCons t1 tNil)) := pe_lst (pa_c h1 pa_nil n1)
theorem lst2 (h1 : PE X e1 t1) (h2 : PE X e2 t2) (n1 : noStar e1 = true := by rfl) (n2 : noStar e2 = true := by rfl) : PE X (.List [e1, e2] pos) (tLst (tCons t1 (tCons t2 tNil))) := pe_lst (pa_c h1 (pa_c h2 pa_nil n2) n1)
theorem tup2 {k1} (h1 : PE X e1 t1) (h2 : PE X e2 t2) (n1 : noStar e1 = true := by rfl) (n2 : noStar e2 = true := by rfl) : PE X (.Tuple [e1, e2] k1 pos) (tTup (tCons t1 (tCons t2 tNil))) := pe_tup (pa_c h1 (pa_c h2 pa_nil n2) n1)
theorem lst3 (h1 : PE X e1 t1) (h2 : PE X e2 t2) (h3 : PE X e3 t3) (n1 : noStar e1 = true := by rfl) (n2 : noStar e2 = true := by rfl) (n3 : noStar e3 = true := by rfl) : PE X (.List [e1, e2, e3] pos) (tLst (tCons t1 (tCons t2 (tCons t3 tNil)))) := pe_lst (pa_c h1 (pa_c h2 (pa_c h3 pa_nil n3) n2) n1)
theorem tup3 {k1} (h1 : PE X e1 t1) (h2 : PE X e2 t2) (h3 : PE X e3 t3) (n1 : noStar e1 = true := by rfl) (n2 : noStar e2 = true := by rfl) (n3 : noStar e3 = true := by rfl) : PE X (.Tuple [e1, e2, e3] k1 pos) (tTup (tCons t1 (tCons t2 (tCons t3 tNil)))) := pe_tup (pa_c h1 (pa_c h2 (pa_c h3 pa_nil n3) n2) n1)
theorem lst4 (h1 : PE X e1 t1) (h2 : PE X e2 t2) (h3 : PE X e3 t3) (h4 : PE X e4 t4) (n1 : noStar e1 = true := by rfl) (n2 : noStar e2 = true := by rfl) (n3 : noStar e3 = true := by rfl) (n4 : noStar e4 = true := by rfl) : PE X (.List [e1, e2, e3, e4] pos) (tLst (tCons t1 (tCons t2 (tCons t3 (tCons t4 tNil))))) := pe_lst (pa_c h1 (pa_c h2 (pa_c h3 (pa_c h4 pa_nil n4) n3) n2) n1)
theorem lst5 (h1 : PE X e1 t1) (h2 : PE X e2 t2) (h3 : PE X e3 t3) (h4 : PE X e4 t4) (h5 : PE X e5 t5) (n1 : noStar e1 = true := by rfl) (n2 : noStar e2 = true := by rfl) (n3 : noStar e3 = true := by rfl) (n4 : noStar e4 = true := by rfl) (n5 : noStar e5 = true := by rfl) : PE X (.List [e1, e2, e3, e4, e5] pos) (tLst (tCons t1 (tCons t2 (tCons t3 (tCons t4 (tCons t5 tNil)))))) := pe_lst (pa_c h1 (pa_c h2 (pa_c h3 (pa_c h4 (pa_c h5 pa_nil n5) n4) n3) n2) n1)
theorem lst7 (h1 : PE X e1 t1) (h2 : PE X e2 t2) (h3 : PE X e3 t3) (h4 : PE X e4 t4) (h5 : PE X e5 t5) (h6 : PE X e6 t6) (h7 : PE X e7 t7) (n1 : noStar e1 = true := by rfl) (n2 : noStar e2 = true := by rfl) (n3 : noStar e3 = true := by rfl) (n4 : noStar e4 = true := by rfl) (n5 : noStar e5 = true := by rfl) (n6 : noStar e6 = true := by rfl) (n7 : noStar e7 = true := by rfl) : PE X (.List [e1, e2, e3, e4, e5, e6, e7] pos) (tLst (tCons t1 (tCons t2 (tCons t3 (tCons t4 (tCons t5 (tCons t6 (tCons t7 tNil)))))))) := pe_lst (pa_c h1 (pa_c h2 (pa_c h3 (pa_c h4 (pa_c h5 (pa_c h6 (pa_c h7 pa_nil n7) n6) n5) n4) n3) n2) n1)
end
end L2
namespace L2
open PySem PySem.Spec PyProof.Rows
section
variable {X : Cx} {pins : List (Addr × Obj)} {σ : St} {H : Hp} {s : Shared} {h' : Heap}
theorem Inv.turnedNew {t' : Nat} {ch : List Addr} {T : Addr} {o : HO} (I : Inv X pins σ H s) (k : ∀ b u, b ∉ ch → s.heap.get? b = some u → h'.get? b = some u)
    (hch : ∀ b ∈ ch, FpOk X pins H b) (hT : s.heap.objs.size ≤ T) (new : ObjOk X.prog X.w (upd H T o) h' T o) : Inv X pins σ (upd H T o) { s with heap := h', toks := t' } := by
  have hn : H T = none := I.hok.fresh hT
  have nit : ∀ b u, H b = some u → b ∉ ch := fun b u e z => by rw [(hch b z).1] at e; cases e
  have neT : ∀ b u, H b = some u → b ≠ T := fun b u e => ne_of_none e hn
  refine I.step (g' := s.gens) (d' := s.drawn) (ch := ch) (fun b hb => ?_) (fun b u _ _ hc e _ => k b u hc e) (fun b u _ _ hc e _ => ⟨u.slots, k b u hc e⟩) (fun b u hc e n => ?_)
    (fun b u hc e => ⟨u, k b u hc e⟩) (fun b xs e => ?_) (fun b u v e => ?_) (fun b ps e => ⟨#[], ?_⟩) (fun m hm => ?_) (fun b u e => ?_) I.bare
  · obtain ⟨f0, f1, f2, f3, f4, f5⟩ := hch b hb
    exact ⟨f3, f1, f4, f5⟩
  · rw [upd_ne (Nat.ne_of_lt (Nat.lt_of_lt_of_le (Heap.lt_size e) hT))]; exact n
  · rw [upd_ne (neT _ _ e)]; exact e
  · rw [upd_ne (neT _ _ e)]; exact e
  · rw [upd_ne (neT _ _ e), e]; simp
  · obtain ⟨u, es, ep, ho, r⟩ := hm
    exact ⟨u, es, ep, k _ u (fun z => (hch _ z).2.1 rfl) ho, r⟩
  · by_cases hb : b = T
    · subst hb; rw [upd_same] at e; cases e; exact new
    · rw [upd_ne hb] at e
      refine (I.hok b u e).stay (fun c v hc q => k c v ?_ q) (fun c q => by rw [upd_ne (ne_of_none q hn)]; exact q) fun c xs _ q => by rw [upd_ne (ne_of_none q hn)]; exact q
      rcases hc with z | z
      · rw [z]; exact nit b u e
      · exact nit c _ z
end
def Ite (K : PySem.W.Frag) (a : Addr) : It :=
  ⟨fun i H => ∃ xs x, SqL K H a xs ∧ xs[i]? = some x, fun i H x H' => ∃ T v, H T = none ∧ x = .ref T ∧ H' = upd H T (.tup [.int i, v]) ∧ ∀ xs, SqL K H a xs → xs[i]? = some v, fun i H => ∃ xs, SqL K H a xs ∧ xs.length ≤ i⟩
theorem turn_enum {P : Program} {w : World} {K : PySem.W.Frag} {elts : List Expr} {x1 : Nat} {tp : Pos} (a e it : Addr) (hei : e ≠ it) :
    Turn P w K (.Tuple elts x1 tp) (Ite K a) [e, it] e (fun i h => (∃ old, IsEnum h e it ((i : Nat) : Int) old) ∧ h.IsListIter it a i) where
  mem := by simp
  obj := fun i h st b hb => by
    obtain ⟨⟨old, he⟩, st⟩ := st
    rcases List.mem_cons.mp hb with z | hb
    · subst z
      exact ⟨_, he, fun v z => by cases z⟩
    · have z : b = it := by simpa using hb
      subst z
      obtain ⟨o, e, c, d⟩ := st
      exact ⟨o, e, fun v z => by rw [d] at z; cases z⟩
  keep := fun i h h' st k => by
    obtain ⟨⟨old, he⟩, st⟩ := st
    exact ⟨⟨old, k e (by simp) _ he⟩, st.at fun o q => k it (by simp) o q⟩
  item := by
    intro X hP hw hK hc i pins s σ H E I hf st hg
    subst hP hw hK
    obtain ⟨⟨old, he⟩, st⟩ := st
    obtain ⟨xs, x, hq, hx⟩ := hg
    obtain ⟨its, rv, p, hz⟩ := I.list hq
    obtain ⟨u, hu, ru⟩ := rv.get hx
    have helt : e < s.heap.objs.size := Heap.lt_size he
    have hilt : it < s.heap.objs.size := by obtain ⟨_, z, _⟩ := id st; exact Heap.lt_size z
    refine wpAny_pyNext_enum_item he st p.isList (x := u) (by simpa using hu) hei fun h1 ho hit1 hT hsz hk => ?_
    refine ⟨_, rfl, wpAny_letOwnedTupleGo_enum ho fun h2 he2 hs2 => ?_⟩
    replace hs2 : Heap.SameBut e h1 h2 := hs2
    have hT2 : h2.IsTuple s.heap.objs.size #[.int i s.toks, u] := ⟨_, (hs2.2 _ (Nat.ne_of_gt helt)).trans hT, rfl, _, rfl⟩
    have kk : ∀ b o, b ∉ [e, it] → s.heap.get? b = some o → h2.get? b = some o := fun b o hb q => by
      have n1 : b ≠ e := fun z => hb (by simp [z])
      have n2 : b ≠ it := fun z => hb (by simp [z])
      exact (hs2.2 b n1).trans (hk b o n1 n2 q)
    have I2 : Inv X pins σ (upd H s.heap.objs.size (.tup [.int i, x])) { s with heap := h2, toks := s.toks + 1 } :=
      I.turnedNew kk hf (Nat.le_refl _) (show ObjOk X.prog X.w _ h2 _ (.tup [.int i, x]) from ⟨sz_le (by simp), [.int i s.toks, u], .cons ⟨_, rfl⟩ (.cons ru .nil), hT2⟩)
    have hfr : H s.heap.objs.size = none := I.hok.fresh (Nat.le_refl _)
    refine ⟨.ref s.heap.objs.size, _, I2, rfl, ⟨_, x, hfr, rfl, rfl, fun ys hy => by rw [I.list_inj hy hq]; exact hx⟩, ⟨⟨u, ?_⟩, ?_⟩, fun b hb => ?_⟩
    · have e1 : ((i + 1 : Nat) : Int) = (i : Int) + 1 := by push_cast; rfl
      rw [e1]
      exact he2
    · exact hit1.at fun o q => (hs2.2 it hei.symm).trans q
    · have hlt : b < s.heap.objs.size := by
        rcases List.mem_cons.mp hb with z | hb
        · rw [z]; exact helt
        · rw [show b = it by simpa using hb]; exact hilt
      rw [upd_ne (Nat.ne_of_lt hlt)]
      exact (hf b hb).1
  done := by
    intro X hP hw hK hc i pins s σ H E I hf st hg
    subst hP hw hK
    obtain ⟨⟨old, he⟩, st⟩ := st
    obtain ⟨xs, hq, hx⟩ := hg
    obtain ⟨its, rv, p, hz⟩ := I.list hq
    obtain ⟨f0, f1, f2, f3, f4, f5⟩ := hf it (by simp)
    have hl := rv.length
    exact wpAny_pyNext_enum_end (I.ok.hd hc) he st p.isList (by simp; omega) fun h' eb => ⟨rfl, I.turned (t' := s.toks) (fun b o hb e => eb b o hb e) f0 f1 f3 f4 f5⟩
  self := fun _ _ _ _ _ st h => by
    obtain ⟨⟨old, he⟩, st⟩ := st
    exact wpAny_pyIter_enum he h
section
variable {X : Cx} {elts : List Expr} {x1 : Nat} {tp : Pos}
def iEnum (K : PySem.W.Frag) (ta : TA) : TI := fun σ H R => ta σ H fun vs H1 => ∃ a, vs = [.ref a] ∧ (∃ xs, SqL K H1 a xs) ∧ R (Ite K a) H1
theorem pi_enum {a : Expr} {ta : TA} {p pos : Pos} (hg : Gl X "enumerate") (hm : X.mg "enumerate" = none) (ha : PA X [a] ta) (hn : noStar a = true := by rfl) : PI X (.Tuple elts x1 tp) (.Call (.Name "enumerate" p) [a] [] pos) (iEnum X.K ta) := by
  intro pins s σ H R I h
  refine Call_ (ld_blt I hg hm boot_enumerate (PyProof.Rows.callWith_type1 (thn (ha pos pins s σ H _ I h) fun us s1 ⟨vs, H1, I1, r1, q1⟩ => ?_) (star_cons hn) rfl))
  obtain ⟨l, e, ⟨xs, hq⟩, q⟩ := q1
  subst e
  obtain ⟨u, rfl, ru⟩ := vals1 r1
  cases ru
  obtain ⟨its, rv, pl, hz⟩ := I1.list hq
  refine call_enumerate_list pl.isList fun h' he hit hsz hk => ?_
  refine wpAny_pyIter_enum he ?_
  refine ⟨s1.heap.objs.size + 1, [s1.heap.objs.size + 1, s1.heap.objs.size], _, _, H1, rfl, I1.kept (t' := s1.toks) hk, turn_enum l _ _ (Nat.succ_ne_self _), ⟨⟨_, he⟩, hit⟩, fun b hb => ?_, q⟩
  have hle : s1.heap.objs.size ≤ b := by
    rcases List.mem_cons.mp hb with z | hb
    · rw [z]; exact Nat.le_succ _
    · rw [show b = s1.heap.objs.size by simpa using hb]; exact Nat.le_refl _
  exact I1.fpOk hle (I1.hok.fresh hle)
end
section
variable {σ : St} {H : Hp} {nx : St → Hp → Prop} {rt : VK} {g : TG} {tb : TS} {Q : VK} {K : PySem.W.Frag}
def EnQ (K : PySem.W.Frag) (R : It → Hp → Prop) : List V → Hp → Prop := fun vs H1 => ∃ a, vs = [.ref a] ∧ (∃ xs, SqL K H1 a xs) ∧ R (Ite K a) H1
def LiQ (K : PySem.W.Frag) (R : It → Hp → Prop) : V → Hp → Prop := fun x H1 => ∃ a, x = .ref a ∧ (∃ xs, SqL K H1 a xs) ∧ R (Itl K a) H1
def TiQ (K : PySem.W.Frag) (R : It → Hp → Prop) : V → Hp → Prop := fun x H1 => ∃ a, x = .ref a ∧ (∃ xs, SqT K H1 a xs) ∧ R (Itt K a) H1
theorem rd_iEnum {ta : TA} {R : It → Hp → Prop} (h : ta σ H (EnQ K R)) : iEnum K ta σ H R := h
theorem rd_iListQ {tl : TE} {R : It → Hp → Prop} (h : tl σ H (LiQ K R)) : iList K tl σ H R := h
theorem rd_iTupQ {tl : TE} {R : It → Hp → Prop} (h : tl σ H (TiQ K R)) : iTup K tl σ H R := h
theorem rd_en {a : Addr} {xs : List V} {R : It → Hp → Prop} (h1 : SqL K H a xs) (h : R (Ite K a) H) : EnQ K R [.ref a] H := ⟨a, rfl, ⟨xs, h1⟩, h⟩
theorem rd_li {a : Addr} {xs : List V} {R : It → Hp → Prop} (h1 : SqL K H a xs) (h : R (Itl K a) H) : LiQ K R (.ref a) H := ⟨a, rfl, ⟨xs, h1⟩, h⟩
theorem rd_ti {a : Addr} {xs : List V} {R : It → Hp → Prop} (h1 : SqT K H a xs) (h : R (Itt K a) H) : TiQ K R (.ref a) H := ⟨a, rfl, ⟨xs, h1⟩, h⟩
theorem rf_enum {a : Addr} {xs : List V} (Pv : Nat → St → Hp → Prop) (h0 : Pv 0 σ H) (hl : ∀ i σ H, i ≤ xs.length → Pv i σ H → SqL K H a xs)
    (hs : ∀ i x σ H T, xs[i]? = some x → Pv i σ H → H T = none → g (.ref T) σ (upd H T (.tup [.int i, x])) fun σ2 H2 => tb ⟨Pv (i + 1), rt, nx, Pv (i + 1)⟩ σ2 H2) (hd : ∀ σ H, Pv xs.length σ H → nx σ H) :
    ∃ W : Nat → Nat → St → Hp → Prop, (∃ m, W 0 m σ H) ∧ ∀ i m σ H, W i m σ H →
      ((Ite K a).stop i H ∧ nx σ H) ∨ ((Ite K a).go i H ∧ ∃ N : St → Hp → Prop, (∀ σ' H', N σ' H' → ∃ m', m' < m ∧ W (i + 1) m' σ' H') ∧ ∀ x H', (Ite K a).yld i H x H' → g x σ H' fun σ2 H2 => tb ⟨N, rt, nx, N⟩ σ2 H2) := by
  refine ⟨fun i m σ H => m = xs.length - i ∧ i ≤ xs.length ∧ Pv i σ H, ⟨xs.length, by simp, Nat.zero_le _, h0⟩, ?_⟩
  rintro i m σ H ⟨rfl, hi, p⟩
  have q := hl i σ H hi p
  by_cases hlt : i < xs.length
  · refine .inr ⟨⟨xs, xs[i], q, by simp [hlt]⟩, Pv (i + 1), fun σ' H' p' => ⟨xs.length - (i + 1), by omega, rfl, hlt, p'⟩, fun x H' y => ?_⟩
    obtain ⟨T, v, hT, e1, e2, y⟩ := y
    subst e1 e2
    exact hs i v σ H T (y xs q) p hT
  · have e : i = xs.length := by omega
    subst e
    exact .inl ⟨⟨xs, q, Nat.le_refl _⟩, hd σ H p⟩
end
section
variable {X : Cx}
theorem vals_bools : ∀ {bs : List Bool} {us : List Value}, Vals (bs.map V.bl) us → us = bs.map Value.bool
  | [], _, .nil => rfl
  | b :: bs, _, .cons r t => by cases r; rw [vals_bools t]; rfl
def rAll (K : PySem.W.Frag) : List V → Hp → VK → Prop := fun xs H Q => ∃ (p : Addr) (bs : List Bool), xs = [.ref p] ∧ SqL K H p (bs.map V.bl) ∧ Q (.bl (bs.all id)) H
theorem call_allG (hc : X.calm = true) : CallR X (.builtin "all") (rAll X.K) := by
  intro pins s σ H xs us Q I r h
  obtain ⟨p, bs, rfl, hq, q⟩ := h
  obtain ⟨u, rfl, rx⟩ := vals1 r
  cases rx
  obtain ⟨its, r', pl, hz⟩ := I.list hq
  have e := vals_bools r'
  subst e
  have hl := pl.isList
  have hlt : p < s.heap.objs.size := by obtain ⟨_, e, _⟩ := id hl; exact Heap.lt_size e
  refine call_all_walk (wpAny_pyIter_list hl ?_)
  refine ⟨s.heap.objs.size, [s.heap.objs.size, p], [s.heap.objs.size], (bs.map Value.bool).toArray.size, _, _, fun i => (bs[i]?).getD true, rfl, Walks.list (A := X.A.in1) (I.ok.hd hc) _ p (Nat.ne_of_lt hlt) (bs.map Value.bool).toArray,
    ⟨⟨_, Heap.get?_push_size _ rfl, rfl, rfl⟩, hl.push _⟩, fun i v s' Q' E' hP hQ => ?_, fun h' tk hk => ?_⟩
  · have hP' : (bs.map Value.bool)[i]? = some v := by simpa using hP
    rw [List.getElem?_map] at hP'
    cases hb : bs[i]? with
    | none => rw [hb] at hP'; cases hP'
    | some b =>
      rw [hb] at hP'
      cases hP'
      simp only [hb, Option.getD_some] at hQ
      exact wpAny_truthy_bool hQ
  · have e : ((List.range (bs.map Value.bool).toArray.size).all fun i => (bs[i]?).getD true) = bs.all id := by
      rw [List.size_toArray, List.length_map]; exact LSm.range_all bs
    rw [e]
    exact ⟨.bl _, H, I.kept (t' := tk) (LSm.kept_iter hk), rfl, q⟩
end
section
variable {X : Cx} {e st : Expr} {te : TE} {ts : TO} {pos p2 : Pos}
end
section
variable {X : Cx} {o e : Expr} {to : TE} {t : TA} {apos cpos : Pos}
theorem pe_app (ho : PE X o to) (ha : PA X [e] t) (hn : noStar e = true := by rfl) (hbase : attributeBase o "append" X.env (eval o X.env) = eval o X.env := by rfl) (hline : (apos.endLine == cpos.line) = true := by rfl) :
    PE X (.Call (.Attribute o "append" apos) [e] [] cpos) (tBM X.K "list" rAppend to t) :=
  pe_bm PySem.F.plainAttrs_list PySem.F.slot_list_append PySem.F.type_list_append mt_append ho ha hbase (by rw [star_cons hn]; rfl) hline (star_cons hn) (by rfl)
end
section
variable {K : PySem.W.Frag} {σ : St} {H : Hp} {Q : VK}
theorem rd_bm {T : String} {r : V → List V → Hp → VK → Prop} {to : TE} {t : TA} (h : to σ H fun x H1 => tyV K T x H1 ∧ t σ H1 fun xs H2 => r x xs H2 Q) : tBM K T r to t σ H Q := h
theorem rd_tyL {p : Addr} {xs : List V} {P : Prop} (h : SqL K H p xs) (q : P) : tyV K "list" (.ref p) H ∧ P := ⟨.inl ⟨rfl, xs, h⟩, q⟩
theorem rd_app {l : Addr} {xs : List V} {y : V} (h : H l = some (.lst xs)) (hz : xs.length < sizeLine) (q : Q .non (upd H l (.lst (xs ++ [y])))) : rAppend (.ref l) [y] H Q := ⟨l, xs, y, rfl, rfl, h, hz, q⟩
end
end L2
namespace L2
open PySem PySem.Spec PyProof.Rows
section
variable {K : PySem.W.Frag} {σ : St} {H : Hp} {Q : VK} {nx bk ct : St → Hp → Prop} {rt : VK}
theorem iteNT {A B : Prop} (h : B) : if (!true) = true then A else B := iteF h
theorem iteNF {A B : Prop} (h : A) : if (!false) = true then A else B := iteT h
theorem iteGF {A B : Prop} {b : Bool} (e : b = false) (h : B) : if b = true then A else B := by rw [e]; exact iteF h
theorem iteGT {A B : Prop} {b : Bool} (e : b = true) (h : A) : if b = true then A else B := by rw [e]; exact iteT h
theorem rd_make {C : Addr} {sp : Sp} {E : XK} {t : TA} (h : t σ H fun vs H1 => ∀ x dx, H1 x = none → H1 dx = none → dx ≠ x → sp (.ref x :: vs) (upd (upd H1 dx (.own x)) x (.ins C dx [])) (fun v H2 => v = .non ∧ Q (.ref x) H2) E) : tMake C sp [] E t σ H Q := by
  unfold tMake
  simpa only [List.append_nil] using h
theorem rd_meth {C : Addr} {m : Str} {sp : Sp} {E : XK} {ta : TE} {t : TA} (h : ta σ H fun x H1 => ∃ a dx fs, x = .ref a ∧ H1 a = some (.ins C dx fs) ∧ fs.lookup m = none ∧ t σ H1 fun vs H2 => sp (x :: vs) H2 Q E) : tMeth C m sp [] E ta t σ H Q := by
  unfold tMeth
  simpa only [List.append_nil] using h
theorem rd_sfld {ta tv : TE} {f : Str} (h : tv σ H fun y H1 => ta σ H1 fun x H2 => ∃ a C dx fs, x = .ref a ∧ H2 a = some (.ins C dx fs) ∧ Cls K C ∧ NoAttr K C f ∧ fs.length < 1000 ∧ nx σ (upd H2 a (.ins C dx (putF f y fs)))) : sFld K ta tv f ⟨nx, rt, bk, ct⟩ σ H := h
theorem rd_put {a C dx : Addr} {fs fs' : List (Str × V)} {f : Str} {y : V} {P : Hp → Prop} (h1 : H a = some (.ins C dx fs)) (c : Cls K C) (n : NoAttr K C f) (hl : fs.length < 1000) (e : putF f y fs = fs') (h : P (upd H a (.ins C dx fs'))) :
    ∃ a' C dx fs, V.ref a = V.ref a' ∧ H a' = some (.ins C dx fs) ∧ Cls K C ∧ NoAttr K C f ∧ fs.length < 1000 ∧ P (upd H a' (.ins C dx (putF f y fs))) := ⟨a, C, dx, fs, rfl, h1, c, n, hl, by rw [e]; exact h⟩
theorem rd_get {a C dx : Addr} {fs : List (Str × V)} {f : Str} {v : V} {P : V → Prop} (h1 : H a = some (.ins C dx fs)) (c : Cls K C) (n : NoAttr K C f) (l : fs.lookup f = some v) (h : P v) :
    ∃ a' C dx fs v, V.ref a = V.ref a' ∧ H a' = some (.ins C dx fs) ∧ Cls K C ∧ NoAttr K C f ∧ fs.lookup f = some v ∧ P v := ⟨a, C, dx, fs, v, rfl, h1, c, n, l, h⟩
theorem bools_of : ∀ {xs : List V}, (∀ x ∈ xs, x = .bl true) → xs = (List.replicate xs.length true).map V.bl
  | [], _ => rfl
  | x :: xs, h => by
    rw [List.length_cons, List.replicate_succ, List.map_cons, ← bools_of (fun y hy => h y (List.mem_cons_of_mem _ hy)), h x (List.mem_cons_self ..)]
theorem rd_allT {p : Addr} {xs : List V} (h1 : SqL K H p xs) (h2 : ∀ x ∈ xs, x = .bl true) (h : Q (.bl true) H) : rAll K [.ref p] H Q := by
  refine ⟨p, List.replicate xs.length true, rfl, ?_, ?_⟩
  · rw [← bools_of h2]; exact h1
  · rw [show (List.replicate xs.length true).all id = true by simp]; exact h
end
end L2
namespace L2
open PySem PySem.Spec PyProof.Rows
section
variable {X : Cx} {pins : List (Addr × Obj)} {σ : St} {H : Hp} {s : Shared} {A : Around} {E : Value → Shared → Prop} {Q : Value → Shared → Prop} {b : Bool}
theorem isinstT_ok {tp : Addr} {dd : Option Addr} {its : List Value} {nn : Nat} {sl : Array (Option Value)} {x : V} {u t : Value} (I : Inv X pins σ H s) (rx : RelV x u) (ty : TyOf X.K H x t) (htp : s.heap.get? tp = some ⟨.type "tuple", dd, .seq its.toArray nn, sl⟩) (e : PySem.W.kitAny X.K t its = some b) (h : ∀ tk, Q (.bool b) { s with toks := tk }) :
    wpAny (model X.prog X.w) A (call (.builtin "isinstance") [u, .ref tp]) Q E s := by
  cases ty with
  | non => cases (show u = Value.none from rx); exact PySem.W.kia_tup PySem.W.kitx_none I.kIn True.intro htp e (fun z => nomatch z) h
  | bl y => cases (show u = Value.bool y from rx); exact PySem.W.kia_tup PySem.W.kitx_bool I.kIn True.intro htp e (fun z => nomatch z) h
  | int i => obtain ⟨t, q⟩ := (show ∃ t, u = Value.int i t from rx); cases q; exact PySem.W.kia_tup PySem.W.kitx_int I.kIn True.intro htp e (fun z => nomatch z) h
  | str y => obtain ⟨t, q⟩ := (show ∃ t, u = Value.str y t from rx); cases q; exact PySem.W.kia_tup PySem.W.kitx_str I.kIn True.intro htp e (fun z => nomatch z) h
  | flt y => obtain ⟨t, q⟩ := (show ∃ t, u = Value.float y t from rx); cases q; exact PySem.W.kia_tup PySem.W.kitx_float I.kIn True.intro htp e (fun z => nomatch z) h
  | @lst a xs ea =>
    cases (show u = Value.ref a from rx)
    obtain ⟨_, _, n, _, h1⟩ := (show ObjOk X.prog X.w H s.heap a (.lst xs) from I.hok a _ ea)
    exact PySem.W.kia_tup PySem.W.kitx_list I.kIn ⟨_, h1, rfl⟩ htp e (fun z => nomatch z) h
  | @frz a ob xs ea =>
    cases (show u = Value.ref a from rx)
    obtain ⟨_, _, _, n, _, h1⟩ := (show ObjOk X.prog X.w H s.heap a (.frz ob (.lst xs)) from I.hok a _ ea)
    exact PySem.W.kia_tup PySem.W.kitx_list I.kIn ⟨_, h1, rfl⟩ htp e (fun z => nomatch z) h
  | @tup a xs ea =>
    cases (show u = Value.ref a from rx)
    obtain ⟨_, _, _, p⟩ := (show ObjOk X.prog X.w H s.heap a (.tup xs) from I.hok a _ ea)
    obtain ⟨o, h1, h2, _⟩ := p
    exact PySem.W.kia_tup PySem.W.kitx_tuple I.kIn ⟨o, h1, h2⟩ htp e (fun z => nomatch z) h
  | @dK a kvs ea =>
    cases (show u = Value.ref a from rx)
    obtain ⟨_, _, vs, _, p⟩ := (show ObjOk X.prog X.w H s.heap a (.dK kvs) from I.hok a _ ea)
    obtain ⟨o, es, ep, h1, h2, _⟩ := p
    exact PySem.W.kia_tup PySem.W.kitx_dict I.kIn ⟨o, h1, h2.1⟩ htp e (fun z => nomatch z) h
  | @dT a kvs ea =>
    cases (show u = Value.ref a from rx)
    obtain ⟨_, _, xs, _, o, es, ep, h1, h2, _⟩ := (show ObjOk X.prog X.w H s.heap a (.dT kvs) from I.hok a _ ea)
    exact PySem.W.kia_tup PySem.W.kitx_dict I.kIn ⟨o, h1, h2.1⟩ htp e (fun z => nomatch z) h
  | @ins a C dx fs ea cl ha hn htk hm =>
    cases (show u = Value.ref a from rx)
    obtain ⟨mA, O, _⟩ := ins_get I.hok ea
    obtain ⟨od, J, _⟩ := O.look
    exact PySem.W.kia_tup (PySem.W.kitx_own (cl.get _) cl.hd ha hn htk hm) I.kIn J htp e (fun z => nomatch z) h
end
section
variable {X : Cx} {K : PySem.W.Frag} {H : Hp} {Q : VK}
theorem vals_types : ∀ {Ts : List String} {us : List Value}, Vals (Ts.map V.ty) us → us = Ts.map Value.type
  | [], _, .nil => rfl
  | T :: Ts, _, .cons r t => by cases r; rw [vals_types t]; rfl
def rIsiT (K : PySem.W.Frag) : List V → Hp → VK → Prop := fun xs H Q => ∃ (x : V) (p : Addr) (Ts : List String) (t : Value) (b : Bool), xs = [x, .ref p] ∧ H p = some (.tup (Ts.map V.ty)) ∧ TyOf K H x t ∧ PySem.W.kitAny K t (Ts.map Value.type) = some b ∧ Q (.bl b) H
theorem call_isiT : CallR X (.builtin "isinstance") (rIsiT X.K) := by
  intro pins s σ H xs us Q I r h
  obtain ⟨x, p, Ts, t, b, rfl, hp, ty, e, q⟩ := h
  obtain ⟨u, w', rfl, rx, ry⟩ := vals2 r
  cases ry
  obtain ⟨hz, its, rv, ⟨o, ho, hc, n, hd⟩⟩ := (show ObjOk X.prog X.w H s.heap p (.tup (Ts.map V.ty)) from I.hok p _ hp)
  have ei := vals_types rv
  subst ei
  obtain ⟨oc, od, odt, osl⟩ := o
  replace hc : oc = .type "tuple" := hc
  replace hd : odt = .seq (Ts.map Value.type).toArray n := hd
  subst hc hd
  exact isinstT_ok I rx ty ho e fun tk => ⟨.bl b, H, I.tok _, rfl, q⟩
theorem rd_isiT {x : V} {p : Addr} {Ts : List String} {t : Value} {b : Bool} (hp : H p = some (.tup (Ts.map V.ty))) (ty : TyOf K H x t) (e : PySem.W.kitAny K t (Ts.map Value.type) = some b) (h : Q (.bl b) H) : rIsiT K [x, .ref p] H Q := ⟨x, p, Ts, t, b, rfl, hp, ty, e, h⟩
def isB : V → V → Option Bool
  | .non, .non => some true
  | .bl a, .bl b => some (a == b)
  | .bl _, .non => some false
  | .int _, .non => some false
  | .str _, .non => some false
  | .ref _, .non => some false
  | _, _ => none
def rIs : R2 := fun x y H Q => ∃ b, isB x y = some b ∧ Q (.bl b) H
def rIsNot : R2 := fun x y H Q => ∃ b, isB x y = some b ∧ Q (.bl (!b)) H
theorem op_isG : OpR X (compareOp .Is) rIs := by
  intro pins s σ H x y v u Q I rx ry h
  obtain ⟨b, e, q⟩ := h
  have fin : EP X pins σ Q (.bool b) s := ⟨.bl b, H, I, rfl, q⟩
  cases x with
  | non => cases y with
    | non => cases e; cases rx; cases ry; exact is_none_gen fin
    | _ => cases e
  | bl a => cases y with
    | bl c => cases e; cases rx; cases ry; exact is_bool fin
    | non => cases e; cases rx; cases ry; exact is_none_gen fin
    | _ => cases e
  | int i => cases y with
    | non => cases e; obtain ⟨t, rfl⟩ := rx; cases ry; exact is_none_gen fin
    | _ => cases e
  | str i => cases y with
    | non => cases e; obtain ⟨t, rfl⟩ := rx; cases ry; exact is_none_gen fin
    | _ => cases e
  | ref i => cases y with
    | non => cases e; cases rx; cases ry; exact is_none_gen fin
    | _ => cases e
  | _ => cases y <;> cases e
theorem op_isNotG : OpR X (compareOp .IsNot) rIsNot := by
  intro pins s σ H x y v u Q I rx ry h
  obtain ⟨b, e, q⟩ := h
  have fin : EP X pins σ Q (.bool (!b)) s := ⟨.bl (!b), H, I, rfl, q⟩
  cases x with
  | non => cases y with
    | non => cases e; cases rx; cases ry; exact isnot_none_gen fin
    | _ => cases e
  | bl a => cases y with
    | bl c => cases e; cases rx; cases ry; exact isnot_bool fin
    | non => cases e; cases rx; cases ry; exact isnot_none_gen fin
    | _ => cases e
  | int i => cases y with
    | non => cases e; obtain ⟨t, rfl⟩ := rx; cases ry; exact isnot_none_gen fin
    | _ => cases e
  | str i => cases y with
    | non => cases e; obtain ⟨t, rfl⟩ := rx; cases ry; exact isnot_none_gen fin
    | _ => cases e
  | ref i => cases y with
    | non => cases e; cases rx; cases ry; exact isnot_none_gen fin
    | _ => cases e
  | _ => cases y <;> cases e
theorem rd_is {x y : V} {b : Bool} (e : isB x y = some b) (h : Q (.bl b) H) : rIs x y H Q := ⟨b, e, h⟩
theorem rd_isNot {x y : V} {b : Bool} (e : isB x y = some b) (h : Q (.bl (!b)) H) : rIsNot x y H Q := ⟨b, e, h⟩
end
end L2
namespace L2
open PySem PySem.Spec PyProof.Rows
section
variable {X : Cx}
def rSum (K : PySem.W.Frag) : List V → Hp → VK → Prop := fun xs H Q => ∃ (p : Addr) (ns : List Int), xs = [.ref p] ∧ SqL K H p (ns.map V.int) ∧ Q (.int (List.sum ns)) H
theorem call_sumG (hc : X.calm = true) : CallR X (.builtin "sum") (rSum X.K) := by
  intro pins s σ H xs us Q I r h
  obtain ⟨p, ns, rfl, hq, q⟩ := h
  obtain ⟨u, rfl, rx⟩ := vals1 r
  cases rx
  obtain ⟨its, r', pl, hz⟩ := I.list hq
  have hi := intsAre_of r'
  obtain ⟨xs, hx⟩ := hi.allInts.items
  have hl' : s.heap.IsList p (intItems xs) := hx ▸ pl.isList
  refine sum_intListG (I.ok.hd hc) hl' fun h' tk t' hk => ?_
  have e1 : ns = xs.toList.map (·.1) := by
    rw [← nums_intItems, ← hx]
    exact (show numsOf its.toArray.toList = ns from hi.numsOf).symm
  have e2 : preSum (numAt xs) xs.size = ns.sum := by
    rw [preSum_eq, List.take_of_length_le (by simp), e1]
  rw [e2]
  exact ⟨.int _, H, I.kept (t' := tk) hk, ⟨t', rfl⟩, q⟩
theorem rd_sum {K : PySem.W.Frag} {H : Hp} {Q : VK} {p : Addr} {ns : List Int} (h1 : SqL K H p (ns.map V.int)) (h : Q (.int (List.sum ns)) H) : rSum K [.ref p] H Q := ⟨p, ns, rfl, h1, h⟩
end
end L2
namespace L2
open PySem PySem.Spec PyProof.Rows
section
variable {prog : Program} {w : World} {A : Around} {E : Value → Shared → Prop}
end
section
variable {X : Cx} {pos : Pos}
end
end L2
namespace L2
open PySem PySem.Spec PyProof.Rows
section
variable {X : Cx}
def rRng : List V → Hp → VK → Prop := fun xs H Q => ∃ i j : Int, xs = [.int i, .int j] ∧ ∀ p, H p = none → Q (.ref p) (upd H p (.rng i j))
theorem rd_rng {H : Hp} {Q : VK} {i j : Int} (h : ∀ p, H p = none → Q (.ref p) (upd H p (.rng i j))) : rRng [.int i, .int j] H Q := ⟨i, j, rfl, h⟩
end
section
variable {X : Cx} {pins : List (Addr × Obj)} {σ : St} {H : Hp} {s : Shared} {h' : Heap}
end
structure Z5 (z TI TO i1 i2 : Addr) : Prop where
  TIz : TI ≠ z
  TOz : TO ≠ z
  i1z : i1 ≠ z
  i2z : i2 ≠ z
  TITO : TI ≠ TO
  TIi1 : TI ≠ i1
  TIi2 : TI ≠ i2
  TOi1 : TO ≠ i1
  TOi2 : TO ≠ i2
  i12 : i1 ≠ i2
theorem Z5.apart {z TI TO i1 i2 l1 l2 : Addr} (d : Z5 z TI TO i1 i2) {h : Heap} {f0 a b : Value} {k1 k2 : Nat} {m1 m2 : Addr} {xs ys : Array Value} (hz : IsZip h z TI TO f0) (hTO : IsPair h TO a b) (h1 : h.IsListIter i1 m1 k1) (h2 : h.IsListIter i2 m2 k2)
    (hl1 : h.IsList l1 xs) (hl2 : h.IsList l2 ys) : ZipApart z TI TO i1 i2 l1 l2 := by
  have key : ∀ {l : Addr} {vs : Array Value}, h.IsList l vs → l ≠ z ∧ l ≠ TO ∧ l ≠ i1 ∧ l ≠ i2 := fun {l vs} hl => by
    obtain ⟨o, ho, hc, n, hd⟩ := hl
    refine ⟨fun e => ?_, fun e => ?_, fun e => ?_, fun e => ?_⟩
    · rw [e, hz] at ho; cases ho; cases hd
    · rw [e, hTO] at ho
      cases ho
      exact absurd (show Value.type "tuple" = Value.type "list" from hc) (by decide)
    · obtain ⟨o1, e1, c1, d1⟩ := h1
      rw [e, e1] at ho; cases ho; rw [d1] at hd; cases hd
    · obtain ⟨o1, e1, c1, d1⟩ := h2
      rw [e, e1] at ho; cases ho; rw [d1] at hd; cases hd
  obtain ⟨a1, a2, a3, a4⟩ := key hl1
  obtain ⟨b1, b2, b3, b4⟩ := key hl2
  exact ⟨d.TIz, d.TOz, d.i1z, d.i2z, d.TITO, d.TIi1, d.TIi2, d.TOi1, d.TOi2, d.i12, a1, a2, a3, a4, b1, b2, b3, b4⟩
section
variable {X : Cx} {elts : List Expr} {x1 : Nat} {tp : Pos}
end
section
variable {σ : St} {H : Hp} {nx : St → Hp → Prop} {rt : VK} {g : TG} {tb : TS} {Q : VK} {K : PySem.W.Frag}
end
end L2
namespace L2
open PySem PySem.Spec PyProof.Rows
section
variable {X : Cx} {e : Expr} {te : TE}
def tPartN (t : TE) : TO := fun σ H Q => t σ H fun x H1 => (x = .non ∧ Q none H1) ∨ ∃ i, x = .int i ∧ Q (some i) H1
theorem rd_partN {σ : St} {H : Hp} {QO : Option Int → Hp → Prop} (h : te σ H fun x H1 => (x = .non ∧ QO none H1) ∨ ∃ i, x = .int i ∧ QO (some i) H1) : tPartN te σ H QO := h
theorem rd_pnN {H : Hp} {QO : Option Int → Hp → Prop} (h : QO none H) : (V.non = .non ∧ QO none H) ∨ ∃ i, V.non = .int i ∧ QO (some i) H := .inl ⟨rfl, h⟩
theorem rd_pnI {H : Hp} {QO : Option Int → Hp → Prop} {i : Int} (h : QO (some i) H) : (V.int i = .non ∧ QO none H) ∨ ∃ j, V.int i = .int j ∧ QO (some j) H := .inr ⟨i, rfl, h⟩
end
end L2
namespace L2.Z
open PySem PySem.Spec PyProof.Rows L2
structure QE (X : Cx) (e : Expr) (t : TE) : Prop where
  h : PE X e t
structure QT (X : Cx) (e : Expr) (t : TT) : Prop where
  h : PT X e t
structure QW (X : Cx) (e : Expr) (t : TT) : Prop where
  h : PW X e t
structure QA (X : Cx) (es : List Expr) (t : TA) : Prop where
  h : PA X es t
structure QS (X : Cx) (st : Stmt) (t : TS) : Prop where
  h : PS X st t
structure QSs (X : Cx) (st : List Stmt) (t : TS) : Prop where
  h : PSs X st t
structure QG (X : Cx) (tg : Expr) (g : TG) : Prop where
  h : PG X tg g
structure QGs (X : Cx) (tg : List Expr) (g : TGs) : Prop where
  h : PGs X tg g
structure QI (X : Cx) (tg it : Expr) (w : TI) : Prop where
  h : PI X tg it w
structure QTs (X : Cx) (ifs : List Expr) (t : TT) : Prop where
  h : PTs X ifs t
structure QO (X : Cx) (o : Option Expr) (t : TO) : Prop where
  h : PO X o t
section
variable {X : Cx} {CX : CXT} {k : Nat} {f C : Addr} {fd : FuncData} {ps : List Str} {sp : Sp} {dvs : List V} {ds : List Value} {E : XK} {x m : Str} {p pos apos p2 spos : Pos} {a b c e o : Expr} {es rest : List Expr} {ta tb tc te to ti : TE} {t : TA} {tA tB tt : TT} {id T : String} {r r' : R2} {rc : List V → Hp → VK → Prop} {st : Stmt} {sts sts2 : List Stmt} {ts us : TS} {g : TG} {gs : TGs} {wi : TI} {tg iter : Expr}
theorem QW.pt {e : Expr} {t : TT} (q : QW X e t) : QT X e t := ⟨q.h.pt⟩
theorem pw_pt {e : Expr} {t : TT} (q : QW X e t) : QT X e t := ⟨q.h.pt⟩
theorem pv (i : Nat) (hN : X.N[i]? = some x := by rfl) (hv : Vis X.env.scope x := by first | exact Or.inl rfl | exact Or.inr (Or.inl rfl) | exact Or.inr (Or.inr rfl)) (hd : (x == ("__debug__" : Str)) = false := by decide)
    (hcd : (x == ("__classdict__" : Str)) = false := by decide) : QE X (.Name x pos) (tVar i) := ⟨pe_var hN hv hd hcd⟩
theorem pe_int {i j} : QE X (.Constant (.int i) j pos) (tC (.int i)) := ⟨L2.pe_int⟩
theorem pe_bl {b j} : QE X (.Constant (.bool b) j pos) (tC (.bl b)) := ⟨L2.pe_bl⟩
theorem pe_non {j} : QE X (.Constant .none j pos) (tC .non) := ⟨L2.pe_non⟩
theorem pe_glob {v : V} {u : Value} (hg : Gl X x) (hm : X.mg x = some u) (r : RelV v u) (hd : (x == ("__debug__" : Str)) = false := by decide) : QE X (.Name x pos) (tC v) := ⟨L2.pe_glob hg hm r hd⟩
theorem pe_gint {n : Int} (hg : Gl X x) (hm : ∃ t, X.mg x = some (.int n t)) (hd : (x == ("__debug__" : Str)) = false := by decide) : QE X (.Name x pos) (tC (.int n)) := ⟨L2.pe_gint hg hm hd⟩
theorem pe_bltn {v : V} {u : Value} (hg : Gl X x) (hm : X.mg x = none) (hv : bootBuiltins x = some u) (r : RelV v u) (hn : x ≠ "__name__" := by decide) (hd : (x == ("__debug__" : Str)) = false := by decide) : QE X (.Name x pos) (tC v) := ⟨L2.pe_bltn hg hm hv r hn hd⟩
theorem pe_op {op : Operator} (ho : OpR X (binaryOp op) r) (ha : QE X a ta) (hb : QE X b tb) : QE X (.BinOp a op b pos) (tOp r ta tb) := ⟨L2.pe_op ho ha.h hb.h⟩
theorem pe_un {op : UnaryOp} {ru : V → Hp → VK → Prop} (ho : UnR X (unaryOp op) ru) (ha : QE X a ta) : QE X (.UnaryOp op a pos) (tUn ru ta) := ⟨L2.pe_un ho ha.h⟩
theorem pe_not (ha : QE X a ta) : QE X (.UnaryOp .Not a pos) (tNotV ta) := ⟨L2.pe_not ha.h⟩
theorem pe_one {op} (h : QE X a ta) : QE X (.BoolOp op [a] pos) ta := ⟨L2.pe_one h.h⟩
theorem pe_and (ha : QE X a ta) (hb : QE X (.BoolOp .And (b :: rest) pos) tb) : QE X (.BoolOp .And (a :: b :: rest) pos) (tAndV ta tb) := ⟨L2.pe_and ha.h hb.h⟩
theorem pe_or (ha : QE X a ta) (hb : QE X (.BoolOp .Or (b :: rest) pos) tb) : QE X (.BoolOp .Or (a :: b :: rest) pos) (tOrV ta tb) := ⟨L2.pe_or ha.h hb.h⟩
theorem pe_cmpR {op : CmpOp} (ho : OpR X (compareOp op) r) (ha : QE X a ta) (hb : QE X b tb) (hm : behindInMarks op b = false) : QE X (.Compare a [op] [b] pos) (tOp r ta tb) := ⟨L2.pe_cmpR ho ha.h hb.h hm⟩
theorem pt_cmpR {op : CmpOp} (ho : OpR X (compareOp op) r) (ha : QE X a ta) (hb : QE X b tb) (hm : behindInMarks op b = false) : QT X (.Compare a [op] [b] pos) (tTest (tOp r ta tb)) := ⟨L2.pt_cmpR ho ha.h hb.h hm⟩
theorem pe_chain {op op' : CmpOp} (ho : OpR X (compareOp op) r) (ho' : OpR X (compareOp op') r') (ha : QE X a ta) (hb : QE X b tb) (hc : QE X c tc) (hm : lastMarks [op, op'] [b, c] = false := by with_unfolding_all rfl) : QE X (.Compare a [op, op'] [b, c] pos) (tChain r r' ta tb tc) := ⟨L2.pe_chain ho ho' ha.h hb.h hc.h hm⟩
theorem pt_chain {op op' : CmpOp} (ho : OpR X (compareOp op) r) (ho' : OpR X (compareOp op') r') (ha : QE X a ta) (hb : QE X b tb) (hc : QE X c tc) (hm : lastMarks [op, op'] [b, c] = false := by with_unfolding_all rfl) : QT X (.Compare a [op, op'] [b, c] pos) (tTest (tChain r r' ta tb tc)) := ⟨L2.pt_chain ho ho' ha.h hb.h hc.h hm⟩
theorem pt_val (h : QE X e te) (he : ∀ whole, isTrue e X.env whole = (do let v ← whole; standAt e.pos; holding [v] (truthy v)) := by intro _; rfl) : QT X e (L2.tB te) := ⟨L2.pt_val h.h he⟩
theorem pt_not (ha : QT X a tA) : QT X (.UnaryOp .Not a pos) (tNot tA) := ⟨L2.pt_not ha.h⟩
theorem pw_and1 (ha : QT X a tA) : QW X (.BoolOp .And [a] pos) tA := ⟨L2.pw_and1 ha.h⟩
theorem pw_or1 (ha : QT X a tA) : QW X (.BoolOp .Or [a] pos) tA := ⟨L2.pw_or1 ha.h⟩
theorem pw_and (ha : QT X a tA) (hb : QW X (.BoolOp .And (b :: rest) pos) tB) : QW X (.BoolOp .And (a :: b :: rest) pos) (tAnd tA tB) := ⟨L2.pw_and ha.h hb.h⟩
theorem pw_or (ha : QT X a tA) (hb : QW X (.BoolOp .Or (b :: rest) pos) tB) : QW X (.BoolOp .Or (a :: b :: rest) pos) (tOr tA tB) := ⟨L2.pw_or ha.h hb.h⟩
theorem pa_nil : QA X [] tNil := ⟨L2.pa_nil⟩
theorem pa_c (ha : QE X e te) (hr : QA X es t) (hs : noStar e = true := by rfl) : QA X (e :: es) (tCons te t) := ⟨L2.pa_c ha.h hr.h hs⟩
theorem pe_callN (F : FnOk X.prog X.w X.K X.mg X.base CX k f fd ps sp) (hr : Room k X.A) (hg : Gl X x) (hm : X.mg x = some (.ref f)) (hk : PySem.W.keepIn X.K (.ref f) = true) (hb : Binds X.K fd ps ds) (hd : Vals dvs ds) (hx : Passes CX X E)
    (ha : QA X (e :: es) t) (hn : (e :: es).all noStar = true := by rfl) (hdb : (x == ("__debug__" : Str)) = false := by decide) : QE X (.Call (.Name x p) (e :: es) [] pos) (tCall sp dvs E t) := ⟨L2.pe_callN F hr hg hm hk hb hd hx ha.h hn hdb⟩
theorem pe_makeN (M : Mk X.K C f) (F : FnOk X.prog X.w X.K X.mg X.base CX k f fd ps sp) (hr : Room (k + 1) X.A) (hg : Gl X x) (hm : X.mg x = some (.ref C)) (hb : Binds X.K fd ps ds) (hd : Vals dvs ds) (hx : Passes CX X E)
    (ha : QA X (e :: es) t) (hn : (e :: es).all noStar = true := by rfl) (hdb : (x == ("__debug__" : Str)) = false := by decide) : QE X (.Call (.Name x p) (e :: es) [] pos) (tMake C sp dvs E t) := ⟨L2.pe_makeN M F hr hg hm hb hd hx ha.h hn hdb⟩
theorem pe_callBN (hc : CallR X (.builtin id) rc) (hg : Gl X x) (hm : X.mg x = none) (hv : bootBuiltins x = some (.builtin id)) (ha : QA X (e :: es) t) (hn : (e :: es).all noStar = true := by rfl) (hne : x ≠ "__name__" := by decide) (hdb : (x == ("__debug__" : Str)) = false := by decide) :
    QE X (.Call (.Name x p) (e :: es) [] pos) (tCB rc t) := ⟨L2.pe_callBN hc hg hm hv ha.h hn hne hdb⟩
theorem pe_callTyN (hc : CallR X (.type T) rc) (hg : Gl X x) (hm : X.mg x = none) (hv : bootBuiltins x = some (.type T)) (ha : QA X (e :: es) t) (hn : (e :: es).all noStar = true := by rfl) (hne : x ≠ "__name__" := by decide) (hdb : (x == ("__debug__" : Str)) = false := by decide) :
    QE X (.Call (.Name x p) (e :: es) [] pos) (tCB rc t) := ⟨L2.pe_callTyN hc hg hm hv ha.h hn hne hdb⟩
theorem pe_fld {n : Str} (he : QE X e ta) (hb : attributeBase e n X.env (eval e X.env) = eval e X.env) : QE X (.Attribute e n pos) (tFld X.K ta n) := ⟨L2.pe_fld he.h hb⟩
theorem pe_ix (hr : IxR X r) (ha : QE X a ta) (hb : QE X b tb) (hs : PlainIx b) : QE X (.Subscript a b pos) (tOp r ta tb) := ⟨L2.pe_ix hr ha.h hb.h hs⟩
theorem po_none : QO X none tNoPart := ⟨L2.po_none⟩
theorem po_some (h : QE X e te) : QO X (some e) (tPart te) := ⟨L2.po_some h.h⟩
theorem pe_slice {rs : V → Option Int → Option Int → Hp → VK → Prop} {lo hi : Option Expr} {tl th : TO} (hr : SlR X rs) (he : QE X e te) (hl : QO X lo tl) (hu : QO X hi th) : QE X (.Subscript e (.Slice lo hi none p2) pos) (tSl rs te tl th) := ⟨L2.pe_slice hr he.h hl.h hu.h⟩
theorem pe_lst (h : QA X es t) : QE X (.List es pos) (tLst t) := ⟨L2.pe_lst h.h⟩
theorem pe_tup {k1} (h : QA X es t) : QE X (.Tuple es k1 pos) (tTup t) := ⟨L2.pe_tup h.h⟩
theorem pe_dnewK : QE X (.Dict [] [] pos) tDNewK := ⟨L2.pe_dnewK⟩
theorem pi_range1N (hg : Gl X "range") (hm : X.mg "range" = none) (ha : QA X [a] t) (hn : noStar a = true := by rfl) : QI X tg (.Call (.Name "range" p) [a] [] pos) (iRng1 t) := ⟨L2.pi_range1N hg hm ha.h hn⟩
theorem pi_range2N (hg : Gl X "range") (hm : X.mg "range" = none) (ha : QA X [a, b] t) (hn : noStar a = true := by rfl) (hn2 : noStar b = true := by rfl) : QI X tg (.Call (.Name "range" p) [a, b] [] pos) (iRng2 t) := ⟨L2.pi_range2N hg hm ha.h hn hn2⟩
theorem pi_list (hl : QE X e te) : QI X tg e (iList X.K te) := ⟨L2.pi_list hl.h⟩
theorem pi_tup (hl : QE X e te) : QI X tg e (iTup X.K te) := ⟨L2.pi_tup hl.h⟩
theorem pg_name {i : Nat} (hN : X.N.Nodup) (hi : X.N[i]? = some x) (hx : Loc X.env.scope x) (hf : X.fn x = true ∨ X.env.scope.names.lookup x = some .local := by first | exact .inl rfl | exact .inr rfl | assumption) : QG X (.Name x pos) (gName i) := ⟨L2.pg_name hN hi hx hf⟩
theorem pgs_nil : QGs X [] gNil := ⟨L2.pgs_nil⟩
theorem pgs_cons {e : Expr} {es : List Expr} {t : TG} {u : TGs} (h1 : QG X e t) (h2 : QGs X es u) (hs : (assignEach (e :: es) X.env).map (·.2) = assign e X.env :: (assignEach es X.env).map (·.2) := by rfl) : QGs X (e :: es) (gCons t u) := ⟨L2.pgs_cons h1.h h2.h hs⟩
theorem pg_tup {k1 n : Nat} (hc : X.calm = true) (h : QGs X es gs) (hn : (assignEach es X.env).length = n := by rfl) (hst : (assignEach es X.env).findIdx? (·.1) = none := by rfl) : QG X (.Tuple es k1 pos) (gTup X.K n gs) := ⟨L2.pg_tup hc h.h hn hst⟩
theorem pg_sub {i : Expr} {tset : TSet} (ho : QE X o to) (hi : QE X i ti) (hs : PSet X tset)
    (ha : ∀ v, assign (.Subscript o i pos) X.env v = (do
      let ov ← holding [v] (eval o X.env)
      let iv ← holding [v, ov] (eval i X.env)
      standAt pos
      holding [v, ov, iv] (setItem ov iv v)
      release [v, ov, iv] []) := by intro _; rfl) : QG X (.Subscript o i pos) (gSub to ti tset) := ⟨L2.pg_sub ho.h hi.h hs ha⟩
theorem pts_nil : QTs X [] tYes := ⟨L2.pts_nil⟩
theorem pts_one (h : QT X c tt) : QTs X [c] tt := ⟨L2.pts_one h.h⟩
theorem root {D : Ends} {σ : St} {H : Hp} (q : QSs X sts ts) (h : ts D σ H) : ∃ t, PSs X sts t ∧ t D σ H := ⟨ts, q.h, h⟩
theorem imp {ts' : TS} (q : QSs X sts ts) (h : ∀ D σ H, ts' D σ H → ts D σ H) : QSs X sts ts' := ⟨fun pins s σ H D I z => q.h pins s σ H D I (h D σ H z)⟩
theorem pss_nil : QSs X [] tNext := ⟨L2.pss_nil⟩
theorem pss_cons (h1 : QS X st ts) (h2 : QSs X sts us) : QSs X (st :: sts) (tSeq ts us) := ⟨L2.pss_cons h1.h h2.h⟩
theorem pss_one (h1 : QS X st ts) : QSs X [st] ts := ⟨L2.pss_one h1.h⟩
theorem ps_never : QS X st tNever := ⟨L2.ps_never⟩
theorem ps_expr (he : QE X e te) (hs : swapsWith e none pos.line X.env = pure false := by rfl) : QS X (.Expr e pos) (tDrop te) := ⟨L2.ps_expr he.h hs⟩
theorem ps_ret (he : QE X e te) : QS X (.Return (some e) pos) (tRet te) := ⟨L2.ps_ret he.h⟩
theorem ps_if (hc : QT X c tt) (ha : QSs X sts ts) (hb : QSs X sts2 us) : QS X (.If c sts sts2 pos) (tIfS tt ts us) := ⟨L2.ps_if hc.h ha.h hb.h⟩
theorem ps_set {i : Nat} {pos' : Pos} (hN : X.N.Nodup) (hi : X.N[i]? = some x) (hx : Loc X.env.scope x) (he : QE X e te) (hs : swapsWith e (some (.Name x pos')) pos.line X.env = pure false := by rfl) (hf : X.fn x = true ∨ X.env.scope.names.lookup x = some .local := by first | exact .inl rfl | exact .inr rfl | assumption) :
    QS X (.Assign [.Name x pos'] e pos) (tAsg te (gName i)) := ⟨L2.ps_set hN hi hx he.h hs hf⟩
theorem ps_asg (he : QE X e te) (hg : QG X tg g) (hs : swapsWithSole [tg] e pos.line X.env = pure false := by rfl) (hw : swappedStores [tg] e X.env = pure none := by rfl)
    (h1 : (assignEach [tg] X.env).map (·.2) = [assign tg X.env] := by rfl) : QS X (.Assign [tg] e pos) (tAsg te g) := ⟨L2.ps_asg he.h hg.h hs hw h1⟩
theorem ps_aug {i : Nat} {op : Operator} {tip : TIp} {pos' : Pos} (hN : X.N.Nodup) (hi : X.N[i]? = some x) (hx : Loc X.env.scope x) (he : QE X e te) (ho : PIp X op tip) (hf : X.fn x = true ∨ X.env.scope.names.lookup x = some .local := by first | exact .inl rfl | exact .inr rfl | assumption) :
    QS X (.AugAssign (.Name x pos') op e pos) (tAug i te tip) := ⟨L2.ps_aug hN hi hx he.h ho hf⟩
theorem ps_augS {i : Expr} {tget : V → V → Hp → VK → Prop} {tip : TIp} {tset : TSet} {op : Operator} {tpos : Pos} (ho : QE X o to) (hi : QE X i ti) (hg : PGet X tget) (he : QE X e te) (hp : PIp X op tip) (hs : PSet X tset)
    (ha : ∀ ov iv new, augStore i ov iv new = (do holding [new, ov, iv] (setItem ov iv new); release [new, ov, iv] []; pure .next) := by intros; rfl) : QS X (.AugAssign (.Subscript o i tpos) op e pos) (tAugS to ti te tget tip tset) := ⟨L2.ps_augS ho.h hi.h hg he.h hp hs ha⟩
theorem ps_fld {n : Str} {pos' : Pos} (ha : QE X o ta) (hv : QE X e te) (hs : swapsWith e (some (.Attribute o n pos')) pos.line X.env = pure false) : QS X (.Assign [.Attribute o n pos'] e pos) (sFld X.K ta te n) := ⟨L2.ps_fld ha.h hv.h hs⟩
theorem ps_for (hp : PassesOwn (model X.prog X.w) X.A X.env X.xe) (hc : X.calm = true) (hi : QI X tg iter wi) (hg : QG X tg g) (hb : QSs X sts ts)
    (hs : ∀ x, foldedSetIterable iter X.env x = pure x := by intro _; rfl) : QS X (.For tg iter sts [] pos) (tFor wi g ts) := ⟨L2.ps_for hp hc hi.h hg.h hb.h hs⟩
variable {scope : Scope} {elt target : Expr} {ifs : List Expr} {N : List Str}
theorem pe_comp {k : Nat} {idx : List Nat} {N : List Str} (S : BlkScope X scope N k idx) (hc : X.calm = true) (hi : QI X target iter wi)
    (hg : ∀ fp C s H, QG (cxC X scope N fp C s H) target g) (ho : Own k g) (ht : ∀ fp C s H, QTs (cxC X scope N fp C s H) ifs tt) (he : ∀ fp C s H, QE (cxC X scope N fp C s H) elt te)
    (hs : ∀ x, foldedSetIterable iter X.env x = pure x := by intro _; rfl) : QE X (.ListComp elt [⟨target, iter, ifs, 0⟩] scope pos) (tComp wi k idx g tt te) :=
  ⟨L2.pe_comp k idx S hc hi.h (fun fp C s H => (hg fp C s H).h) ho (fun fp C s H => (ht fp C s H).h) (fun fp C s H => (he fp C s H).h) hs⟩
theorem ps_setC {k : Nat} {idx : List Nat} {i : Nat} {N : List Str} {pos' : Pos} (hN : X.N.Nodup) (hix : X.N[i]? = some x) (hx : Loc X.env.scope x)
    (S : BlkScope X scope N k idx) (hc : X.calm = true) (hi : QI X target iter wi)
    (hg : ∀ fp C s H, QG (cxC X scope N fp C s H) target g) (ho : Own k g) (ht : ∀ fp C s H, QTs (cxC X scope N fp C s H) ifs tt) (he : ∀ fp C s H, QE (cxC X scope N fp C s H) elt te)
    (hsw : swapsWith (.ListComp elt [⟨target, iter, ifs, 0⟩] scope pos) (some (.Name x pos')) spos.line X.env = pure true := by rfl)
    (hs : ∀ x, foldedSetIterable iter X.env x = pure x := by intro _; rfl) (hfn : X.fn x = true ∨ X.env.scope.names.lookup x = some .local := by first | exact .inl rfl | exact .inr rfl | assumption) :
    QS X (.Assign [.Name x pos'] (.ListComp elt [⟨target, iter, ifs, 0⟩] scope pos) spos) (tAsg (tComp wi k idx g tt te) (gName i)) :=
  ⟨L2.ps_setC k idx hN hix hx S hc hi.h (fun fp C s H => (hg fp C s H).h) ho (fun fp C s H => (ht fp C s H).h) (fun fp C s H => (he fp C s H).h) hsw hs hfn⟩
variable {x1 : Nat} {e1 e2 e3 e4 e5 e6 e7 e8 : Expr} {t1 t2 t3 t4 t5 t6 t7 t8 : TE}
theorem lst1 (h1 : QE X e1 t1) (n1 : noStar e1 = true := by rfl) : QE X (.List [e1] pos) (tLst (tCons t1 tNil)) := ⟨L2.lst1 h1.h n1⟩
theorem lst2 (h1 : QE X e1 t1) (h2 : QE X e2 t2) (n1 : noStar e1 = true := by rfl) (n2 : noStar e2 = true := by rfl) : QE X (.List [e1, e2] pos) (tLst (tCons t1 (tCons t2 tNil))) := ⟨L2.lst2 h1.h h2.h n1 n2⟩
theorem tup2 {k1} (h1 : QE X e1 t1) (h2 : QE X e2 t2) (n1 : noStar e1 = true := by rfl) (n2 : noStar e2 = true := by rfl) : QE X (.Tuple [e1, e2] k1 pos) (tTup (tCons t1 (tCons t2 tNil))) := ⟨L2.tup2 h1.h h2.h n1 n2⟩
theorem lst3 (h1 : QE X e1 t1) (h2 : QE X e2 t2) (h3 : QE X e3 t3) (n1 : noStar e1 = true := by rfl) (n2 : noStar e2 = true := by rfl) (n3 : noStar e3 = true := by rfl) : QE X (.List [e1, e2, e3] pos) (tLst (tCons t1 (tCons t2 (tCons t3 tNil)))) := ⟨L2.lst3 h1.h h2.h h3.h n1 n2 n3⟩
theorem tup3 {k1} (h1 : QE X e1 t1) (h2 : QE X e2 t2) (h3 : QE X e3 t3) (n1 : noStar e1 = true := by rfl) (n2 : noStar e2 = true := by rfl) (n3 : noStar e3 = true := by rfl) : QE X (.Tuple [e1, e2, e3] k1 pos) (tTup (tCons t1 (tCons t2 (tCons t3 tNil)))) := ⟨L2.tup3 h1.h h2.h h3.h n1 n2 n3⟩
theorem lst4 (h1 : QE X e1 t1) (h2 : QE X e2 t2) (h3 : QE X e3 t3) (h4 : QE X e4 t4) (n1 : noStar e1 = true := by rfl) (n2 : noStar e2 = true := by rfl) (n3 : noStar e3 = true := by rfl) (n4 : noStar e4 = true := by rfl) : QE X (.List [e1, e2, e3, e4] pos) (tLst (tCons t1 (tCons t2 (tCons t3 (tCons t4 tNil))))) := ⟨L2.lst4 h1.h h2.h h3.h h4.h n1 n2 n3 n4⟩
theorem lst5 (h1 : QE X e1 t1) (h2 : QE X e2 t2) (h3 : QE X e3 t3) (h4 : QE X e4 t4) (h5 : QE X e5 t5) (n1 : noStar e1 = true := by rfl) (n2 : noStar e2 = true := by rfl) (n3 : noStar e3 = true := by rfl) (n4 : noStar e4 = true := by rfl) (n5 : noStar e5 = true := by rfl) : QE X (.List [e1, e2, e3, e4, e5] pos) (tLst (tCons t1 (tCons t2 (tCons t3 (tCons t4 (tCons t5 tNil)))))) := ⟨L2.lst5 h1.h h2.h h3.h h4.h h5.h n1 n2 n3 n4 n5⟩
theorem lst7 (h1 : QE X e1 t1) (h2 : QE X e2 t2) (h3 : QE X e3 t3) (h4 : QE X e4 t4) (h5 : QE X e5 t5) (h6 : QE X e6 t6) (h7 : QE X e7 t7) (n1 : noStar e1 = true := by rfl) (n2 : noStar e2 = true := by rfl) (n3 : noStar e3 = true := by rfl) (n4 : noStar e4 = true := by rfl) (n5 : noStar e5 = true := by rfl) (n6 : noStar e6 = true := by rfl) (n7 : noStar e7 = true := by rfl) : QE X (.List [e1, e2, e3, e4, e5, e6, e7] pos) (tLst (tCons t1 (tCons t2 (tCons t3 (tCons t4 (tCons t5 (tCons t6 (tCons t7 tNil)))))))) := ⟨L2.lst7 h1.h h2.h h3.h h4.h h5.h h6.h h7.h n1 n2 n3 n4 n5 n6 n7⟩
end
end L2.Z
namespace L2.Z
open PySem PySem.Spec PyProof.Rows L2
section
variable {X : Cx} {CX : CXT} {k : Nat} {f C : Addr} {fd : FuncData} {ps : List Str} {sp : Sp} {dvs : List V} {ds : List Value} {E : XK} {x m : Str} {p pos apos p2 spos cpos tp : Pos} {a b c e o st : Expr} {es rest elts : List Expr} {ta tb tc te to ti : TE} {t : TA} {x1 : Nat} {ts : TO}
theorem pi_enum (hg : Gl X "enumerate") (hm : X.mg "enumerate" = none) (ha : QA X [a] t) (hn : noStar a = true := by rfl) : QI X (.Tuple elts x1 tp) (.Call (.Name "enumerate" p) [a] [] pos) (iEnum X.K t) := ⟨L2.pi_enum hg hm ha.h hn⟩
theorem pe_app (ho : QE X o to) (ha : QA X [e] t) (hn : noStar e = true := by rfl) (hbase : attributeBase o "append" X.env (eval o X.env) = eval o X.env := by rfl) (hline : (apos.endLine == cpos.line) = true := by rfl) :
    QE X (.Call (.Attribute o "append" apos) [e] [] cpos) (tBM X.K "list" rAppend to t) := ⟨L2.pe_app ho.h ha.h hn hbase hline⟩
theorem pe_meth {pl : Sem Bool} (he : QE X o ta) (c : Cls X.K C) (hm : Meth X.K C m f) (F : FnOk X.prog X.w X.K X.mg X.base CX k f fd ps sp) (hr : Room k X.A) (hb : Binds X.K fd ps ds) (hd : Vals dvs ds) (hx : Passes CX X E) (ha : QA X (e :: es) t)
    (hn : (e :: es).all noStar = true := by rfl)
    (ht : eval (.Call (.Attribute o m apos) (e :: es) [] pos) X.env = (do
      let ov ← eval o X.env
      standAt apos.atName
      let (f, first) ← holding [ov] (getMethod ov m pl)
      callWith pos f first (backTo pos (starEach (e :: es) X.env)) (backToKw pos (keywordEach [] X.env))) := by rfl) :
    QE X (.Call (.Attribute o m apos) (e :: es) [] pos) (tMeth C m sp dvs E ta t) := ⟨L2.pe_meth he.h c hm F hr hb hd hx ha.h (star_cons (all_tl hn).1) (back_any (all_tl hn).2) ht⟩
end
end L2.Z
namespace L2.Z
open PySem PySem.Spec PyProof.Rows L2
section
variable {X : Cx} {K' : PySem.W.Frag} {x m n : Str} {p pos apos p2 spos cpos tp pos' : Pos} {a b c e o st iter tg : Expr} {es rest elts : List Expr} {ta tb tc te to ti : TE} {t : TA} {x1 : Nat} {ts : TO}
theorem pe_ixK (ha : QE X a ta) (hb : QE X b tb) (hs : PlainIx b) (hK : X.K = K' := by rfl) : QE X (.Subscript a b pos) (tOp (rIx K') ta tb) := by subst hK; exact ⟨L2.pe_ix ix_seq ha.h hb.h hs⟩
theorem pi_listK (hl : QE X e te) (hK : X.K = K' := by rfl) : QI X tg e (iList K' te) := by subst hK; exact ⟨L2.pi_list hl.h⟩
theorem pi_tupK (hl : QE X e te) (hK : X.K = K' := by rfl) : QI X tg e (iTup K' te) := by subst hK; exact ⟨L2.pi_tup hl.h⟩
theorem pi_enumK (hg : Gl X "enumerate") (hm : X.mg "enumerate" = none) (ha : QA X [a] t) (hn : noStar a = true := by rfl) (hK : X.K = K' := by rfl) : QI X (.Tuple elts x1 tp) (.Call (.Name "enumerate" p) [a] [] pos) (iEnum K' t) := by subst hK; exact ⟨L2.pi_enum hg hm ha.h hn⟩
theorem pg_tupK {k1 n : Nat} {gs : TGs} (hc : X.calm = true) (h : QGs X es gs) (hn : (assignEach es X.env).length = n := by rfl) (hst : (assignEach es X.env).findIdx? (·.1) = none := by rfl) (hK : X.K = K' := by rfl) : QG X (.Tuple es k1 pos) (gTup K' n gs) := by subst hK; exact ⟨L2.pg_tup hc h.h hn hst⟩
theorem pe_fldK (he : QE X e ta) (hb : attributeBase e n X.env (eval e X.env) = eval e X.env) (hK : X.K = K' := by rfl) : QE X (.Attribute e n pos) (tFld K' ta n) := by subst hK; exact ⟨L2.pe_fld he.h hb⟩
theorem ps_fldK (ha : QE X o ta) (hv : QE X e te) (hs : swapsWith e (some (.Attribute o n pos')) pos.line X.env = pure false) (hK : X.K = K' := by rfl) : QS X (.Assign [.Attribute o n pos'] e pos) (sFld K' ta te n) := by subst hK; exact ⟨L2.ps_fld ha.h hv.h hs⟩
theorem pe_appK (ho : QE X o to) (ha : QA X [e] t) (hn : noStar e = true := by rfl) (hbase : attributeBase o "append" X.env (eval o X.env) = eval o X.env := by rfl) (hline : (apos.endLine == cpos.line) = true := by rfl) (hK : X.K = K' := by rfl) :
    QE X (.Call (.Attribute o "append" apos) [e] [] cpos) (tBM K' "list" rAppend to t) := by subst hK; exact ⟨L2.pe_app ho.h ha.h hn hbase hline⟩
end
end L2.Z
namespace L2.Z
open PySem PySem.Spec PyProof.Rows L2
section
variable {X : Cx} {K' : PySem.W.Frag} {p pos tp : Pos} {a b : Expr} {elts : List Expr} {t : TA} {x1 : Nat}
end
end L2.Z
namespace L2
open PySem
section
variable {prog : Program} {w : World} {A : Around} {E : Value → Shared → Prop} {s : Shared}
end
def SIt (h : Heap) (k : Bool) (it src : Addr) (i : Nat) : Prop := if k = true then h.IsListIter it src i else h.IsTupleIter it src i
def SSrc (h : Heap) (k : Bool) (src : Addr) (items : Array Value) : Prop := if k = true then h.IsList src items else h.IsTuple src items
theorem SIt.at {h h' : Heap} {k : Bool} {it src : Addr} {i : Nat} (x : SIt h k it src i) (e : ∀ o, h.get? it = some o → h'.get? it = some o) : SIt h' k it src i := by
  cases k with
  | true => obtain ⟨o, ho, r⟩ := (show h.IsListIter it src i from x); exact (show h'.IsListIter it src i from ⟨o, e o ho, r⟩)
  | false => obtain ⟨o, ho, r⟩ := (show h.IsTupleIter it src i from x); exact (show h'.IsTupleIter it src i from ⟨o, e o ho, r⟩)
theorem SSrc.at {h h' : Heap} {k : Bool} {src : Addr} {items : Array Value} (x : SSrc h k src items) (e : ∀ o, h.get? src = some o → h'.get? src = some o) : SSrc h' k src items := by
  cases k with
  | true => obtain ⟨o, ho, r⟩ := (show h.IsList src items from x); exact (show h'.IsList src items from ⟨o, e o ho, r⟩)
  | false => obtain ⟨o, ho, r⟩ := (show h.IsTuple src items from x); exact (show h'.IsTuple src items from ⟨o, e o ho, r⟩)
theorem SIt.obj {h : Heap} {k : Bool} {it src : Addr} {i : Nat} (x : SIt h k it src i) : ∃ o vs, h.get? it = some o ∧ o.data = .fields vs := by
  cases k with
  | true => obtain ⟨o, ho, _, r⟩ := (show h.IsListIter it src i from x); exact ⟨o, _, ho, r⟩
  | false => obtain ⟨o, ho, _, r⟩ := (show h.IsTupleIter it src i from x); exact ⟨o, _, ho, r⟩
section
variable {prog : Program} {w : World} {A : Around} {E : Value → Shared → Prop} {s : Shared}
end
abbrev ZS := Bool × Addr × Addr
abbrev IsTupN (h : Heap) (T : Addr) (vs : Array Value) : Prop := h.get? T = some { cls := .type "tuple", data := .seq vs }
section
variable {prog : Program} {w : World} {A : Around} {E : Value → Shared → Prop} {s : Shared}
end
def ZSt (z TI TO : Addr) (L : List ZS) (i : Nat) (h : Heap) : Prop :=
  IsZip h z TI TO .none ∧ IsTupN h TI (L.map fun t => Value.ref t.2.1).toArray ∧ (∃ arr, IsTupN h TO arr ∧ arr.size = L.length) ∧ ∀ t ∈ L, SIt h t.1 t.2.1 t.2.2 i
abbrev itObj (k : Bool) (src : Addr) : Obj := { cls := .type (if k = true then "list_iterator" else "tuple_iterator"), data := .fields #[.ref src, .int 0 0] }
theorem SIt.new {h : Heap} {k : Bool} {it src : Addr} (e : h.get? it = some (itObj k src)) : SIt h k it src 0 := by
  cases k with
  | true => exact (show h.IsListIter it src 0 from ⟨_, e, rfl, rfl⟩)
  | false => exact (show h.IsTupleIter it src 0 from ⟨_, e, rfl, rfl⟩)
section
variable {prog : Program} {w : World} {A : Around} {E : Value → Shared → Prop} {s : Shared}
end
section
variable {prog : Program} {w : World} {A : Around} {E : Value → Shared → Prop} {s : Shared}
end
end L2
namespace L2
open PySem PySem.Spec PyProof.Rows
def Src (H : Hp) (k : Bool) (a : Addr) (xs : List V) : Prop := H a = some (if k = true then .lst xs else .tup xs)
theorem Src.inj {H : Hp} {k : Bool} {a : Addr} {xs ys : List V} (h : Src H k a xs) (h' : Src H k a ys) : xs = ys := by
  unfold Src at h h'
  rw [h] at h'
  cases k with
  | true => injection h' with e; injection e
  | false => injection h' with e; injection e
theorem Src.lst {H : Hp} {a : Addr} {xs : List V} (h : H a = some (.lst xs)) : Src H true a xs := h
theorem Src.tup {H : Hp} {a : Addr} {xs : List V} (h : H a = some (.tup xs)) : Src H false a xs := h
theorem Inv.src {X : Cx} {pins : List (Addr × Obj)} {σ : St} {H : Hp} {s : Shared} {k : Bool} {a : Addr} {xs : List V} (I : Inv X pins σ H s) (h : Src H k a xs) : ∃ its : List Value, Vals xs its ∧ SSrc s.heap k a its.toArray ∧ xs.length ≤ sizeLine := by
  cases k with
  | true =>
    obtain ⟨its, r, p, z⟩ := I.list (SqL.of h)
    exact ⟨its, r, p.isList, z⟩
  | false =>
    obtain ⟨its, r, p, z⟩ := I.tuple (SqT.of h)
    exact ⟨its, r, p, z⟩
abbrev zFp (z TI TO : Addr) (L : List ZS) : List Addr := z :: TI :: TO :: L.map (·.2.1)
theorem ZSt.obj {z TI TO : Addr} {L : List ZS} {i : Nat} {h : Heap} (st : ZSt z TI TO L i h) : ∀ b ∈ zFp z TI TO L, ∃ o, h.get? b = some o ∧ ∀ v, o.data ≠ .cell v := fun b hb => by
  obtain ⟨hz, hTI, ⟨arr, hTO, _⟩, hit⟩ := st
  simp only [zFp, List.mem_cons] at hb
  rcases hb with rfl | rfl | rfl | hb
  · exact ⟨_, hz, fun v z => by cases z⟩
  · exact ⟨_, hTI, fun v z => by cases z⟩
  · exact ⟨_, hTO, fun v z => by cases z⟩
  · obtain ⟨t, ht, rfl⟩ := List.mem_map.mp hb
    obtain ⟨o, vs, e, d⟩ := (hit t ht).obj
    exact ⟨o, e, fun v z => by rw [d] at z; cases z⟩
section
variable {X : Cx} {elts : List Expr} {x1 : Nat} {tp : Pos} {k1 k2 k3 : Bool}
end
section
variable {σ : St} {H : Hp} {nx : St → Hp → Prop} {rt : VK} {g : TG} {tb : TS} {Q : VK} {k1 k2 k3 : Bool} {a b c : Addr} {xs ys zs : List V} {n : Nat}
end
section
variable {σ₀ : St} {g : TG} {tt : TT} {te : TE} {R : List V → Hp → Prop} {H : Hp} {k1 k2 k3 : Bool} {a b c : Addr} {xs ys zs : List V} {n : Nat}
end
section
variable {X : Cx}
end
end L2
namespace L2.Z
open PySem PySem.Spec PyProof.Rows L2
section
variable {X : Cx} {p pos tp : Pos} {a b c : Expr} {elts : List Expr} {t : TA} {x1 : Nat} {k1 k2 k3 : Bool}
end
end L2.Z
namespace L2
open PySem PySem.Spec PyProof.Rows
theorem nw {H : Hp} {p : Addr} (o : HO) (n : H p = none) : ∃ H2, upd H p o = H2 ∧ Same H H2 ∧ H2 p = some o := ⟨_, rfl, Same.new n, upd_same⟩
theorem wr (H : Hp) (p : Addr) (o : HO) : ∃ H2, upd H p o = H2 ∧ Keep p H H2 ∧ H2 p = some o := ⟨_, rfl, Keep.upd, upd_same⟩
end L2
namespace L2
open PySem PySem.Spec PyProof.Rows
end L2
namespace L2
open PySem PySem.Spec PyProof.Rows
def Nx (N : St → Hp → Prop) (σ : St) (H : Hp) : Prop := N σ H
structure Tail (N b : St → Hp → Prop) : Prop where
  h : ∀ σ H, b σ H → N σ H
theorem rd_seqH {nx bk ct : St → Hp → Prop} {rt : VK} {σ : St} {H : Hp} {t u : TS} (h : ∀ N, Tail N (u ⟨nx, rt, bk, ct⟩) → t ⟨Nx N, rt, bk, ct⟩ σ H) : tSeq t u ⟨nx, rt, bk, ct⟩ σ H := h _ ⟨fun _ _ h => h⟩
theorem rd_nx {N b : St → Hp → Prop} {σ : St} {H : Hp} (t : Tail N b) (h : b σ H) : Nx N σ H := t.h _ _ h
end L2
namespace L2
open PySem PySem.Spec PyProof.Rows
section
variable {prog : Program} {w : World} {A : Around} {E : Value → Shared → Prop} {s : Shared} {K : PySem.W.Frag} {x C : Addr} {ox : Obj} {od : Option Obj}
end
section
variable {X : Cx}
end
end L2
namespace L2
open PySem PySem.Spec PyProof.Rows
section
variable {X : Cx} {pins : List (Addr × Obj)} {σ : St} {H : Hp} {s : Shared}
end
theorem ObjOk.obj {P : Program} {w : World} {H : Hp} {h : Heap} {a : Addr} {o : HO} (x : ObjOk P w H h a o) : ∃ u, h.get? a = some u := by
  cases o with
  | lst xs => obtain ⟨_, _, _, _, e⟩ := x; exact ⟨_, e⟩
  | tup xs => obtain ⟨_, _, _, u, e, _⟩ := x; exact ⟨u, e⟩
  | dK kvs => obtain ⟨_, _, _, _, u, _, _, e, _⟩ := x; exact ⟨u, e⟩
  | dT kvs => obtain ⟨_, _, _, _, u, _, _, e, _⟩ := x; exact ⟨u, e⟩
  | set S n => obtain ⟨u, _, _, _, e, _⟩ := x; exact ⟨u, e⟩
  | ins C dx fs => obtain ⟨_, _, _, e, _⟩ := x; exact ⟨_, e⟩
  | own y => exact x
  | xd fs => obtain ⟨_, ⟨u, _, _, e, _⟩, _⟩ := x; exact ⟨u, e⟩
  | rng lo hi => obtain ⟨_, _, _, e⟩ := x; exact ⟨_, e⟩
  | frz ob u => exact ⟨_, x.1⟩
  | tbl ps => exact ⟨_, x⟩
  | met f y => exact ⟨_, x⟩
  | ext φ => exact x.2.1
  | cod q => obtain ⟨o, _, _, e, _⟩ := x; exact ⟨o, e⟩
  | ctb pos q => obtain ⟨_, e, _⟩ := x; exact ⟨_, e⟩
theorem Inv.laidN {X : Cx} {pins : List (Addr × Obj)} {σ : St} {H : Hp} {s : Shared} {h' : Heap} {a : Addr} {o : HO} {t' : Nat} (I : Inv X pins σ H s) (k : ∀ b u, s.heap.get? b = some u → h'.get? b = some u) (hne : ∀ b u, s.heap.get? b = some u → b ≠ a)
    (new : ObjOk X.prog X.w (upd H a o) h' a o) : H a = none ∧ Inv X pins σ (upd H a o) { s with heap := h', toks := t' } := by
  have hn : H a = none := by
    cases e : H a with
    | none => rfl
    | some u =>
      obtain ⟨ob, z⟩ := (I.hok a u e).obj
      exact absurd rfl (hne a ob z)
  refine ⟨hn, I.un ⟨fun b u q _ _ _ => k b u q, fun b u q _ _ _ => ⟨u.slots, k b u q⟩, fun b u q n _ => ?_, fun b u q _ => ⟨u, k b u q⟩, fun b xs q => ?_, fun b u xs q => ?_, fun b ps q => ⟨#[], ?_⟩⟩ fun b u e => ?_⟩
  · rw [upd_ne (hne b u q)]; exact n
  · rw [upd_ne (ne_of_none q hn)]; exact q
  · rw [upd_ne (ne_of_none q hn)]; exact q
  · rw [upd_ne (ne_of_none q hn), q]; simp
  · by_cases hb : b = a
    · subst hb; rw [upd_same] at e; cases e; exact new
    · rw [upd_ne hb] at e
      exact (I.hok b u e).stay (fun c v _ q => k c v q) (fun c q => by rw [upd_ne (ne_of_none q hn)]; exact q) fun c xs _ q => by rw [upd_ne (ne_of_none q hn)]; exact q
section
variable {X : Cx} {tg : Expr}
end
section
variable {σ : St} {H : Hp} {nx : St → Hp → Prop} {rt : VK} {g : TG} {tb : TS}
end
section
variable {X : Cx}
end
section
variable {X : Cx} {o e : Expr} {to : TE} {apos cpos : Pos}
end
section
variable {K : PySem.W.Frag} {σ : St} {H : Hp} {Q : VK}
end
end L2
namespace L2.Z
open PySem PySem.Spec PyProof.Rows
section
variable {X : Cx} {K' : PySem.W.Frag} {tg o i value l : Expr} {to td ty tv tl : TE} {pos pos' apos cpos : Pos}
theorem ps_dput (hu : X.A.units + 9 < cLine) (ho : QE X o td) (hi : QE X i ty) (hv : QE X value tv) (hs : swapsWith value (some (.Subscript o i pos')) pos.line X.env = pure false := by rfl) :
    QS X (.Assign [.Subscript o i pos'] value pos) (sDPut td ty tv) := ⟨L2.ps_dput (by omega) ho.h hi.h hv.h hs⟩
end
end L2.Z
namespace L2
open PySem PySem.Spec PyProof.Rows
section
variable {σ : St} {H : Hp} {Q : VK} {nx bk ct : St → Hp → Prop} {rt : VK}
theorem rd_dput {td ty tv : TE} (h : tv σ H fun v H1 => td σ H1 fun x H2 => ty σ H2 fun y H3 => ∃ a H4, x = .ref a ∧ DPut H3 a y v H4 ∧ nx σ H4) : sDPut td ty tv ⟨nx, rt, bk, ct⟩ σ H := h
end
end L2
namespace L2
open PySem PySem.Spec PyProof.Rows
section
variable {prog : Program} {w : World} {A : Around} {E : Value → Shared → Prop} {s : Shared} {K : PySem.W.Frag} {x C : Addr} {ox : Obj} {od : Option Obj} {name : Str} {v : Value} {expr : Bool}
end
section
variable {prog : Program} {w : World} {A : Around} {E : Value → Shared → Prop} {s : Shared} {K : PySem.W.Frag} {x C : Addr} {o : Obj} {name : Str} {v : Value}
open PySem.Builtin PySem.Builtin.ObjectAttr in
end
section
variable {prog : Program} {w : World} {A : Around} {E : Value → Shared → Prop} {s : Shared} {K : PySem.W.Frag}
variable {nm q : Str} {C N fI : Addr} {bs bm bmB : List Value} {hdct : Bool} {sn : List Str} {sub : List Value} {ab : Bool} {col : Option Bool} {dd : Option Addr} {k0 k1 k2 k3 k5 : Option Value} {B newId initId : String}
end
structure Lft (fs : List Addr) (e : Addr) (oe : Obj) (h h' : Heap) : Prop where
  keep : ∀ b o, b ∉ fs → b ≠ e → h.get? b = some o → h'.get? b = some o
  slot : ∀ b o, b ∈ fs → h.get? b = some o → ∃ sl, h'.get? b = some { o with slots := sl }
  err : ∃ vs T oT ts, h'.get? e = some { oe with data := .fields vs } ∧ vs[1]? = some (.ref T) ∧ T ≠ e ∧ h.objs.size ≤ T ∧ h'.get? T = some oT ∧ oT.data = .fields ts ∧ ts[3]? = some .none
section
variable {M : Model} {A : Around} {E : Value → Shared → Prop} {s : Shared} {base : Heap} {env : Env} {outer : List Env} {L e : Addr} {oe : Obj} {vs : Array Value} {Q : Unit → Shared → Prop}
end
def ErrO (C : Addr) (od : Option Addr) (e : Addr) : HO := .ext fun h => ∃ o vs, h.get? e = some o ∧ o.cls = .ref C ∧ o.dict = od ∧ o.data = .fields vs
theorem errO_ok {P : Program} {w : World} {H : Hp} {h : Heap} {C e : Addr} {od : Option Addr} {o : Obj} {vs : Array Value} (h1 : h.get? e = some o) (h2 : o.cls = .ref C) (h3 : o.dict = od) (h4 : o.data = .fields vs) : ObjOk P w H h e (ErrO C od e) :=
  ⟨⟨o, vs, h1, h2, h3, h4⟩, ⟨o, h1⟩, fun _ _ z k => let ⟨o, vs, a, b, c, d⟩ := z; ⟨o, vs, k o a, b, c, d⟩⟩
theorem errO_at {P : Program} {w : World} {H : Hp} {h : Heap} {C e : Addr} {od : Option Addr} (x : ObjOk P w H h e (ErrO C od e)) : ∃ o vs, h.get? e = some o ∧ o.cls = .ref C ∧ o.dict = od ∧ o.data = .fields vs := x.1
section
variable {X : Cx} {pins : List (Addr × Obj)} {σ : St} {H : Hp} {s : Shared} {h' : Heap} {C e : Addr} {od : Option Addr} {oe : Obj}
theorem Inv.left (I : Inv X pins σ H s) (he : H e = some (ErrO C od e)) (ho : s.heap.get? e = some oe) (lf : Lft (frs X.stack) e oe s.heap h') : Inv X pins σ H { s with heap := h' } := by
  obtain ⟨o, vs, q1, q2, q3, q4⟩ := errO_at (I.hok e _ he)
  rw [ho] at q1
  cases q1
  have stk := I.stkFree
  obtain ⟨vs2, T, oT, ts, r1, _⟩ := lf.err
  have tr : ∀ b u, H b = some u → b ∉ frs X.stack := fun b u z hb => by rw [stk b hb] at z; cases z
  refine I.call (g' := s.gens) (d' := s.drawn) (t' := s.toks) (ch := []) ⟨fun b o z n hb _ => lf.keep b o hb (fun q => by rw [q, he] at n; cases n) z, fun b o z n hb _ => lf.slot b o hb z, fun b o z n _ => n, fun b o z _ => ?_, fun _ _ z => z, fun _ _ _ z => z, fun b ps z => ⟨#[], by rw [z]; simp⟩⟩ (fun a u z => ?_) I.bare (fun b z => nomatch z)
  · by_cases hb : b ∈ frs X.stack
    · obtain ⟨sl, q⟩ := lf.slot b o hb z; exact ⟨_, q⟩
    · by_cases hbe : b = e
      · subst hbe; exact ⟨_, r1⟩
      · exact ⟨o, lf.keep b o hb hbe z⟩
  · by_cases hae : a = e
    · subst hae
      rw [he] at z
      cases z
      exact errO_ok r1 q2 q3 rfl
    · refine (I.hok a u z).stay (fun b v hb q => ?_) (fun _ q => q) fun _ _ _ q => q
      rcases hb with rfl | hb
      · exact lf.keep _ v (tr _ _ z) hae q
      · exact lf.keep _ v (tr _ _ hb) (fun y => by rw [y, he] at hb; cases hb) q
end
end L2
namespace L2
open PySem PySem.Spec PyProof.Rows
section
variable {X : Cx} {pins : List (Addr × Obj)} {σ : St} {H : Hp} {s : Shared}
end
end L2
namespace L2
open PySem PySem.Spec PyProof.Rows
section
variable {X : Cx} {k : Nat} {f C : Addr} {fd : FuncData} {ps : List Str} {sp : Sp} {x : Str} {p pos : Pos} {e : Expr} {es : List Expr} {t : TA} {te : TE}
end
end L2
namespace L2
open PySem PySem.Spec PyProof.Rows
section
variable {X : Cx} {o e value : Expr} {f : Str} {pos pos' : Pos} {ta tv : TE}
end
end L2
namespace L2
open PySem PySem.Spec PyProof.Rows
section
variable {prog : Program} {w : World} {A : Around} {E : Value → Shared → Prop} {s : Shared} {K : PySem.W.Frag} {x D : Addr} {ox : Obj} {odo : Option Obj}
end
def DictOk (H : Hp) (od : Option Addr) : Prop := ∀ dx, od = some dx → ∃ fs, H dx = some (.xd fs)
theorem DictOk.none {H : Hp} : DictOk H none := fun _ z => nomatch z
theorem DictOk.some {H : Hp} {dx : Addr} {fs : List (Str × V)} (h : H dx = some (.xd fs)) : DictOk H (some dx) := fun _ z => by cases z; exact ⟨fs, h⟩
theorem DictOk.there {P : Program} {w : World} {H : Hp} {h : Heap} {od : Option Addr} (hok : HOk P w H h) (d : DictOk H od) : ∀ dx, od = Option.some dx → ∃ o, h.get? dx = Option.some o := fun dx z => by
  obtain ⟨fs, e⟩ := d dx z
  exact (hok dx _ e).obj
section
variable {X : Cx} {K : PySem.W.Frag} {H : Hp} {Q : VK}
end
end L2
namespace L2
open PySem PySem.Spec PyProof.Rows
abbrev TW := St → Hp → Addr → Prop
structure TrFree (X : Cx) (pins : List (Addr × Obj)) (T : Addr) : Prop where
  up : X.s₀.heap.objs.size ≤ T
  loc : T ≠ X.env.locals
  cell : ∀ x c, X.env.cells.lookup x = some c → c ≠ T
  pin : ∀ p ∈ X.pn ++ pins, p.1 ≠ T
structure Held (X : Cx) (pins : List (Addr × Obj)) (H : Hp) (h : Heap) (e : Addr) : Prop where
  ex : ∃ (C : Addr) (od : Option Addr) (oe : Obj) (vs : Array Value) (T : Addr) (oT : Obj) (ts : Array Value), H e = some (ErrO C od e) ∧ h.get? e = some oe ∧ oe.data = .fields vs ∧ vs[1]? = some (.ref T) ∧ T ≠ e ∧ TrFree X pins T ∧ H T = none ∧ h.get? T = some oT ∧ oT.data = .fields ts ∧ ts[3]? = some .none
def Caught (X : Cx) (pins : List (Addr × Obj)) (W : TW) (ev : Value) (s' : Shared) : Prop := ∃ (e : Addr) (σ : St) (H' : Hp), ev = .ref e ∧ Inv X pins σ H' s' ∧ Held X pins H' s'.heap e ∧ W σ H' e
def Cx.tr (X : Cx) (pins : List (Addr × Obj)) (W : TW) : Cx := { X with pn := X.pn ++ pins, xe := Caught X pins W }
def Cx.hnd (X : Cx) (e : Addr) : Cx := { X with A := X.A.mark (some (.ref e)), calm := false, xe := fun _ _ => False }
section
variable {X : Cx} {pins pins' : List (Addr × Obj)} {σ : St} {H : Hp} {s : Shared} {W : TW} {e : Addr}
theorem Cx.Ok.tr (ok : X.Ok) : (X.tr pins W).Ok := ⟨ok.mod, ok.kind, ok.glob, ok.blt, ok.above, ok.inj, ok.has, ok.cab, ok.hd, ok.frames, ok.stk, ok.exf, ok.bs, ok.bsz, ok.noex, ok.exfs, ok.funs, ok.frf⟩
theorem Cx.Ok.hnd (ok : X.Ok) : (X.hnd e).Ok := ⟨ok.mod, ok.kind, ok.glob, ok.blt, ok.above, ok.inj, ok.has, ok.cab, (fun z => Bool.noConfusion z), ok.frames, ok.stk, ok.exf, ok.bs, ok.bsz, ok.noex, ok.exfs, ok.funs, ok.frf⟩
theorem Inv.tr (I : Inv X pins σ H s) : Inv (X.tr pins W) [] σ H s := ⟨I.ok.tr, I.os, I.bare, I.base, I.loc, I.cell, I.free, I.freeC, fun p hp => I.pin p (by rw [List.append_nil] at hp; exact hp), I.hok, I.len⟩
theorem Inv.hnd (I : Inv X pins σ H s) : Inv (X.hnd e) pins σ H s := ⟨I.ok.hnd, I.os, I.bare, I.base, I.loc, I.cell, I.free, I.freeC, I.pin, I.hok, I.len⟩
theorem Inv.trace {T : Addr} {h' : Heap} (I : Inv X pins σ H s) (F : TrFree X pins T) (hT : H T = none) (k : ∀ b, b ≠ T → h'.get? b = s.heap.get? b) : Inv X pins σ H { s with heap := h' } :=
  I.turned (t' := s.toks) (it := T) (fun b o hb z => (k b hb).trans z) hT F.loc (.inr F.up) F.cell F.pin
end
abbrev TH := Ends → St → Hp → Addr → Prop
section
variable {X : Cx} {x n : Str} {C0 : Addr} {i : Nat} {b₀ : Stmt} {suite body : List Stmt} {np pos : Pos} {rest : List ExceptHandler} {h₀ : ExceptHandler} {hs : List ExceptHandler} {ts : TS} {th : TH} {tb : TW → TS}
end
end L2
namespace L2
open PySem PySem.Spec PyProof.Rows
section
variable {X : Cx} {pn : List (Addr × Obj)} {W : TW} {k : Nat} {f C : Addr} {fd : FuncData} {ps : List Str} {sp : Sp} {x : Str} {p pos : Pos} {e : Expr} {es : List Expr} {t : TA}
end
structure RoomH (k : Nat) (A : Around) : Prop where
  dp : A.depth + 3 * k + 5 < recursionLimit
  un : A.units + 16 * k + 200 < cLine
theorem Room.h {k : Nat} {A : Around} (r : Room k A) : RoomH k A := ⟨r.dp, r.un⟩
theorem RoomH.mono {j k : Nat} {A : Around} (r : RoomH k A) (h : j ≤ k) : RoomH j A := ⟨by have := r.dp; omega, by have := r.un; omega⟩
theorem RoomH.mark {k : Nat} {A : Around} (r : RoomH k A) (o : Option Value) : RoomH k (A.mark o) := ⟨r.dp, r.un⟩
theorem RoomH.calm {k : Nat} {A : Around} (r : RoomH k A) : Room k { A with handled := none } := ⟨rfl, r.dp, r.un⟩
section
variable {X : Cx} {k : Nat} {f : Addr} {fd : FuncData} {ps : List Str} {sp : Sp} {x : Str} {p pos : Pos} {e : Expr} {es : List Expr} {t : TA}
end
end L2
namespace L2
open PySem PySem.Spec PyProof.Rows
section
variable {K : PySem.W.Frag} {σ : St} {H : Hp} {Q : VK} {nx bk ct : St → Hp → Prop} {rt : VK}
end
end L2
namespace L2.Z
open PySem PySem.Spec PyProof.Rows L2
section
variable {X : Cx} {K' : PySem.W.Frag} {pn : List (Addr × Obj)} {W : TW} {k : Nat} {f C C0 : Addr} {fd : FuncData} {ps : List Str} {sp : Sp} {x n : Str} {p pos pos' np : Pos} {e o : Expr} {es : List Expr} {t : TA} {te ta : TE} {E : XK} {i : Nat} {b₀ : Stmt} {suite body : List Stmt} {rest hs : List ExceptHandler} {h₀ : ExceptHandler} {ts : TS} {th : TH} {tb : TW → TS}
end
end L2.Z
namespace L2
open PySem PySem.Spec PyProof.Rows
section
variable {X : Cx}
end
end L2
namespace L2
open PySem PySem.Spec PyProof.Rows
end L2
namespace L2
open PySem PySem.Spec PyProof.Rows
section
variable {X : Cx} {o e : Expr} {to : TE} {t : TA} {apos cpos : Pos}
theorem ints_of : ∀ {ns : List Int} {us : List Value}, Vals (ns.map V.int) us → IntsAre us ns
  | [], _, .nil => .nil
  | n :: ns, _, .cons r t => by
    obtain ⟨k, rfl⟩ := (show ∃ k, _ = Value.int n k from r)
    exact .cons n k (ints_of t)
def rCount (K : PySem.W.Frag) : V → List V → Hp → VK → Prop := fun x vs H Q => ∃ (l : Addr) (ns : List Int) (k : Int), x = .ref l ∧ vs = [.int k] ∧ SqL K H l (ns.map V.int) ∧ Q (.int (ns.count k : Nat)) H
theorem mt_count : MtR X "list.count" (rCount X.K) := by
  intro pins s σ H x vs v us Q I rx rv h
  obtain ⟨l, ns, k, rfl, rfl, hS, q⟩ := h
  cases rx
  obtain ⟨u, rfl, ru⟩ := rv.one
  obtain ⟨tk, rfl⟩ := (show ∃ tk, u = Value.int k tk from ru)
  obtain ⟨its, r, pl, hz⟩ := I.list hS
  exact count_list_ints pl.isList (ints_of r) ⟨.int (ns.count k : Nat), H, I.tok _, ⟨_, rfl⟩, q⟩
theorem pe_count (ho : PE X o to) (ha : PA X [e] t) (hn : noStar e = true := by rfl) (hbase : attributeBase o "count" X.env (eval o X.env) = eval o X.env := by rfl) (hline : (apos.endLine == cpos.line) = true := by rfl) :
    PE X (.Call (.Attribute o "count" apos) [e] [] cpos) (tBM X.K "list" (rCount X.K) to t) :=
  pe_bm PySem.F.plainAttrs_list PySem.F.slot_list_count PySem.F.type_list_count mt_count ho ha hbase (by rw [star_cons hn]; rfl) hline (star_cons hn) (by rfl)
theorem rd_count {K : PySem.W.Frag} {H : Hp} {Q : VK} {l : Addr} {ns : List Int} {k : Int} (h : SqL K H l (ns.map V.int)) (q : Q (.int (ns.count k : Nat)) H) : rCount K (.ref l) [.int k] H Q := ⟨l, ns, k, rfl, rfl, h, q⟩
end
end L2
namespace L2.Z
open PySem PySem.Spec PyProof.Rows L2
theorem pe_countK {X : Cx} {K' : PySem.W.Frag} {o e : Expr} {to : TE} {t : TA} {apos cpos : Pos} (ho : QE X o to) (ha : QA X [e] t) (hn : noStar e = true := by rfl) (hbase : attributeBase o "count" X.env (eval o X.env) = eval o X.env := by rfl) (hline : (apos.endLine == cpos.line) = true := by rfl) (hK : X.K = K' := by rfl) :
    QE X (.Call (.Attribute o "count" apos) [e] [] cpos) (tBM K' "list" (rCount K') to t) := by subst hK; exact ⟨L2.pe_count ho.h ha.h hn hbase hline⟩
end L2.Z
namespace L2
open PySem PySem.W PyProof.Rows
section
variable {O : KeyOrd} {key : Nat → O.α} {N : Nat} {cmp : Nat → Nat → (Bool → Shared → Prop) → Shared → Prop} {s : Shared}
def kq (key : Nat → O.α) (p : Array Nat) (i : Nat) : O.α := key (p.getD i 0)
def Up (key : Nat → O.α) (p : Array Nat) (k : Nat) : Prop := ∀ i j, i ≤ j → j < k → O.kle (kq key p i) (kq key p j)
def Dn (key : Nat → O.α) (p : Array Nat) (k : Nat) : Prop := ∀ i j, i ≤ j → j < k → O.kle (kq key p j) (kq key p i)
def Row (N : Nat) (p : Array Nat) : Prop := p.Perm (List.toArray (List.range N))
theorem kq_at {p q : Array Nat} {i j : Nat} (h : p[i]? = q[j]?) : kq key p i = kq key q j := by
  unfold kq
  rw [Array.getD_eq_getD_getElem?, Array.getD_eq_getD_getElem?, h]
theorem kq_bub {p : Array Nat} {a d : Nat} (ha : a < p.size) (hd : d ≤ a) (k : Nat) : kq key (bubble p a d) k = if k = a - d then kq key p a else if a - d < k ∧ k ≤ a then kq key p (k - 1) else kq key p k := by
  have e := getElem?_bubble ha d hd k
  split
  · rename_i h; rw [if_pos h] at e; exact kq_at e
  · rename_i h
    rw [if_neg h] at e
    split
    · rename_i g; rw [if_pos g] at e; exact kq_at e
    · rename_i g; rw [if_neg g] at e; exact kq_at e
theorem kq_rev {p : Array Nat} {i j : Nat} (hj : j ≤ p.size) (k : Nat) : kq key (kas_rev p i j) k = if i ≤ k ∧ k < j then kq key p (i + j - 1 - k) else kq key p k := by
  have e := getElem?_mirror_all (i := i) hj k
  split
  · rename_i h; rw [if_pos h] at e; exact kq_at e
  · rename_i h; rw [if_neg h] at e; exact kq_at e
theorem Row.size {p : Array Nat} (h : Row N p) : p.size = N := by
  have := h.size_eq
  rw [this]
  simp
theorem Row.lt {p : Array Nat} (h : Row N p) (hN : 0 < N) (i : Nat) : p.getD i 0 < N := by
  by_cases hi : i < p.size
  · have e : p.getD i 0 = p[i] := by simp [Array.getD, hi]
    have m : p[i] ∈ p.toList := by simp
    have m2 := (Array.perm_iff_toList_perm.mp h).mem_iff.mp m
    rw [e]
    simpa using m2
  · have e : p.getD i 0 = 0 := by simp [Array.getD, hi]
    rw [e]; exact hN
theorem Row.rev {p : Array Nat} (h : Row N p) (i j : Nat) : Row N (kas_rev p i j) := (mirror_perm p i j _).trans h
theorem Row.bub {p : Array Nat} (h : Row N p) (i j : Nat) : Row N (bubble p i j) := (bubble_perm p i j).trans h
theorem Up.more {p : Array Nat} {m : Nat} (h : Up key p m) (e : O.kle (kq key p (m - 1)) (kq key p m)) : Up key p (m + 1) := fun i j hij hj => by
  by_cases hm : j < m
  · exact h i j hij hm
  · have ej : j = m := by omega
    subst ej
    by_cases hi : i = j
    · subst hi; exact KeyOrd.kle_refl _
    · exact KeyOrd.kle_trans (h i (j - 1) (by omega) (by omega)) e
theorem Dn.more {p : Array Nat} {m : Nat} (h : Dn key p m) (e : O.kle (kq key p m) (kq key p (m - 1))) : Dn key p (m + 1) := fun i j hij hj => by
  by_cases hm : j < m
  · exact h i j hij hm
  · have ej : j = m := by omega
    subst ej
    by_cases hi : i = j
    · subst hi; exact KeyOrd.kle_refl _
    · exact KeyOrd.kle_trans e (h i (j - 1) (by omega) (by omega))
def Ans (key : Nat → O.α) (N : Nat) (cmp : Nat → Nat → (Bool → Shared → Prop) → Shared → Prop) (s : Shared) : Prop := ∀ i j (C : Bool → Shared → Prop), i < N → j < N → C (O.blt (key i) (key j)) s → cmp i j C s
theorem Ans.ask {α : Type} (hc : Ans key N cmp s) (hN : 0 < N) {p : Array Nat} (hp : Row N p) {i j : Nat} {k : Bool → KasT α} {Q : α → Shared → Prop} (h1 : O.klt (kq key p i) (kq key p j) → (k true).kasWp cmp Q s) (h2 : O.kle (kq key p j) (kq key p i) → (k false).kasWp cmp Q s) :
    (KasT.ask (p.getD i 0) (p.getD j 0) k).kasWp cmp Q s := by
  refine hc _ _ _ (hp.lt hN i) (hp.lt hN j) ?_
  cases e : O.blt (key (p.getD i 0)) (key (p.getD j 0)) with
  | true => exact h1 e
  | false => exact h2 e
theorem asc_ok (hc : Ans key N cmp s) (hN : 0 < N) {p : Array Nat} (hp : Row N p) {Q : Nat → Shared → Prop} : ∀ {f m : Nat}, f = N - m → 1 ≤ m → m ≤ N → Up key p m →
    (∀ r, m ≤ r → r ≤ N → Up key p r → (r < N → O.klt (kq key p r) (kq key p (r - 1))) → Q r s) → (kas_asc p f m).kasWp cmp Q s
  | 0, m, hf, h1, hm, hu, h => h m (Nat.le_refl _) hm hu (fun z => by omega)
  | f + 1, m, hf, h1, hm, hu, h => by
    refine hc.ask hN hp (fun z => ?_) (fun z => ?_)
    · rw [if_pos rfl]
      exact h m (Nat.le_refl _) hm hu fun _ => z
    · rw [if_neg (by decide)]
      exact asc_ok hc hN hp (by omega) (by omega) (by omega) (hu.more z) fun r a b c d => h r (by omega) b c d
def Blk (key : Nat → O.α) (p : Array Nat) (n q : Nat) : Prop := ∀ i, n - (q + 1) ≤ i → i < n → kq key p i = kq key p (n - 1)
theorem Blk.same {p : Array Nat} {n q : Nat} (h : Blk key p n q) (hz : n ≤ p.size) (k : Nat) : kq key (kas_rev p (n - (q + 1)) n) k = kq key p k := by
  rw [kq_rev hz]
  split
  · rename_i g
    rw [h k g.1 g.2]
    exact h _ (by omega) (by omega)
  · rfl
theorem desc_ok (hc : Ans key N cmp s) (hN : 0 < N) {Q : Array Nat × Nat × Nat → Shared → Prop} : ∀ {f n q : Nat} {p : Array Nat}, Row N p → f = N - n → 1 ≤ n → n ≤ N → q + 1 ≤ n → Dn key p n → Blk key p n q →
    (∀ p' n' q', Row N p' → 1 ≤ n' → n' ≤ N → q' + 1 ≤ n' → Dn key p' n' → Blk key p' n' q' → Q (p', n', q') s) → (kas_desc f p n q).kasWp cmp Q s
  | 0, n, q, p, hp, hf, h1, hn, hq, hd, hb, h => h p n q hp h1 hn hq hd hb
  | f + 1, n, q, p, hp, hf, h1, hn, hq, hd, hb, h => by
    have hz : n ≤ p.size := by rw [hp.size]; exact hn
    refine hc.ask hN hp (fun z => ?_) (fun z => ?_)
    · rw [if_pos rfl]
      have hd' : Dn key p (n + 1) := hd.more (KeyOrd.kle_of_klt z)
      split
      · have e := hb.same hz
        refine desc_ok hc hN (hp.rev _ _) (by omega) (by omega) (by omega) (by omega) (fun i j a b => ?_) (fun i a b => ?_) h
        · rw [e, e]; exact hd' i j a b
        · have : i = n := by omega
          subst this; rfl
      · refine desc_ok hc hN hp (by omega) (by omega) (by omega) (by omega) hd' (fun i a b => ?_) h
        have : i = n := by omega
        subst this; rfl
    · rw [if_neg (by decide)]
      refine hc.ask hN hp (fun y => ?_) (fun y => ?_)
      · rw [if_pos rfl]
        exact h p n q hp h1 hn hq hd hb
      · rw [if_neg (by decide)]
        have e : kq key p (n - 1) = kq key p n := KeyOrd.kle_antisymm z y
        refine desc_ok hc hN hp (by omega) (by omega) (by omega) (by omega) (hd.more y) (fun i a b => ?_) h
        show kq key p i = kq key p n
        by_cases hi : i < n
        · rw [hb i (by omega) hi, e]
        · have : i = n := by omega
          subst this; rfl
theorem tail_ok (hc : Ans key N cmp s) (hN : 0 < N) {n : Nat} {p : Array Nat} {Q : Nat × Array Nat → Shared → Prop} (hp : Row N p) (h1 : 1 ≤ n) (hn : n ≤ N) (hd : Dn key p n) (h : ∀ m p', Row N p' → 1 ≤ m → m ≤ N → Up key p' m → Q (m, p') s) : (kas_tail3 n N p).kasWp cmp Q s := by
  have hz : n ≤ p.size := by rw [hp.size]; exact hn
  unfold kas_tail3
  rw [KasT.kasWp_bind]
  refine asc_ok hc hN (hp.rev 0 n) rfl h1 hn (fun i j a b => ?_) fun r a b c _ => h r _ (hp.rev 0 n) (by omega) b c
  rw [kq_rev hz, kq_rev hz, if_pos ⟨Nat.zero_le _, by omega⟩, if_pos ⟨Nat.zero_le _, b⟩]
  exact hd _ _ (by omega) (by omega)
theorem descPart_ok (hc : Ans key N cmp s) (hN : 0 < N) {n : Nat} {p : Array Nat} {Q : Nat × Array Nat → Shared → Prop} (hp : Row N p) (h1 : 1 ≤ n) (hn : n < N) (hd : Dn key p n) (hl : O.klt (kq key p n) (kq key p (n - 1))) (h : ∀ m p', Row N p' → 1 ≤ m → m ≤ N → Up key p' m → Q (m, p') s) :
    (kas_descPart n N p).kasWp cmp Q s := by
  unfold kas_descPart
  rw [KasT.kasWp_bind]
  refine desc_ok hc hN hp rfl (by omega) (by omega) (by omega) (hd.more (KeyOrd.kle_of_klt hl)) (fun i a b => by have : i = n := by omega
                                                                                                                 subst this; rfl) fun p' n' q' r1 r2 r3 r4 r5 r6 => ?_
  have hz : n' ≤ p'.size := by rw [r1.size]; exact r3
  split
  · refine tail_ok hc hN (r1.rev _ _) r2 r3 (fun i j a b => ?_) h
    have e := r6.same hz
    show O.kle (kq key (kas_rev p' (n' - (q' + 1)) n') j) (kq key (kas_rev p' (n' - (q' + 1)) n') i)
    rw [e, e]
    exact r5 i j a b
  · exact tail_ok hc hN r1 r2 r3 r5 h
theorem count_ok (hc : Ans key N cmp s) (hN : 0 < N) {p : Array Nat} {Q : Nat × Array Nat → Shared → Prop} (hp : Row N p) (h : ∀ m p', Row N p' → 1 ≤ m → m ≤ N → Up key p' m → Q (m, p') s) : (kas_count N p).kasWp cmp Q s := by
  unfold kas_count
  rw [KasT.kasWp_bind]
  refine asc_ok hc hN hp rfl (Nat.le_refl _) hN (fun i j a b => by have : i = j := by omega
                                                                   subst this; exact KeyOrd.kle_refl _) fun n a b c d => ?_
  have hz : n ≤ p.size := by rw [hp.size]; exact b
  split
  · exact h n p hp a b c
  · rename_i ne
    have nN : n < N := by
      have : n ≠ N := fun z => ne (by simp [z])
      omega
    split
    · refine hc.ask hN hp (fun z => ?_) (fun z => ?_)
      · rw [if_pos rfl]
        exact h n p hp a b c
      · rw [if_neg (by decide)]
        have all : ∀ i, i < n → kq key p i = kq key p 0 := fun i hi => KeyOrd.kle_antisymm (KeyOrd.kle_trans (c i (n - 1) (by omega) (by omega)) z) (c 0 i (by omega) hi)
        have e : ∀ k, kq key (kas_rev p 0 n) k = kq key p k := fun k => by
          rw [kq_rev hz]
          split
          · rw [all _ (by omega), all k (by omega)]
          · rfl
        refine descPart_ok hc hN (hp.rev 0 n) a nN (fun i j x y => ?_) ?_ h
        · rw [e, e, all i (by omega), all j y]
          exact KeyOrd.kle_refl _
        · rw [e, e]
          exact d nN
    · have n1 : n = 1 := by omega
      subst n1
      exact descPart_ok hc hN hp (Nat.le_refl _) nN (fun i j x y => by have : i = j := by omega
                                                                       subst this; exact KeyOrd.kle_refl _) (d nN) h
theorem place_ok (hc : Ans key N cmp s) (hN : 0 < N) {p : Array Nat} (hp : Row N p) {k : Nat} (hu : Up key p k) {Q : Nat → Shared → Prop} : ∀ {f l r : Nat}, l ≤ r → r ≤ k → r - l ≤ f →
    (∀ i, i < l → O.kle (kq key p i) (kq key p k)) → (∀ i, r ≤ i → i < k → O.klt (kq key p k) (kq key p i)) →
    (∀ m, m ≤ k → (∀ i, i < m → O.kle (kq key p i) (kq key p k)) → (∀ i, m ≤ i → i < k → O.klt (kq key p k) (kq key p i)) → Q m s) → (kas_place p k f l r).kasWp cmp Q s
  | 0, l, r, hlr, hrk, hf, ha, hb, h => h l (by omega) ha fun i x y => hb i (by omega) y
  | f + 1, l, r, hlr, hrk, hf, ha, hb, h => by
    unfold kas_place
    by_cases g : l ≥ r
    · rw [if_pos g]
      exact h l (by omega) ha fun i x y => hb i (by omega) y
    · rw [if_neg g]
      refine hc.ask hN hp (fun z => ?_) (fun z => ?_)
      · rw [if_pos rfl]
        refine place_ok hc hN hp hu (by omega) (by omega) (by omega) ha (fun i x y => ?_) h
        exact KeyOrd.klt_of_klt_of_kle z (hu _ i x y)
      · rw [if_neg (by decide)]
        refine place_ok hc hN hp hu (by omega) (by omega) (by omega) (fun i x => ?_) hb h
        exact KeyOrd.kle_trans (hu i _ (by omega) (by omega)) z
theorem bin_ok (hc : Ans key N cmp s) (hN : 0 < N) {Q : Array Nat → Shared → Prop} : ∀ {f k : Nat} {p : Array Nat}, Row N p → f = N - k → k ≤ N → Up key p k → (∀ p', Row N p' → Up key p' N → Q p' s) → (kas_bin f p k).kasWp cmp Q s
  | 0, k, p, hp, hf, hk, hu, h => h p hp (by have : k = N := by omega
                                             subst this; exact hu)
  | f + 1, k, p, hp, hf, hk, hu, h => by
    unfold kas_bin
    rw [KasT.kasWp_bind]
    refine place_ok hc hN hp hu (Nat.zero_le _) (Nat.le_refl _) (by omega) (fun i x => by omega) (fun i x y => by omega) fun m hm ha hb => ?_
    have kz : k < p.size := by rw [hp.size]; omega
    refine bin_ok hc hN (hp.bub k (k - m)) (by omega) (by omega) (fun i j hij hj => ?_) h
    have em : k - (k - m) = m := by omega
    rw [kq_bub kz (by omega), kq_bub kz (by omega), em]
    by_cases i1 : i = m
    · rw [if_pos i1]
      by_cases j1 : j = m
      · rw [if_pos j1]; exact KeyOrd.kle_refl _
      · rw [if_neg j1, if_pos (by omega)]
        exact KeyOrd.kle_of_klt (hb _ (by omega) (by omega))
    · rw [if_neg i1]
      by_cases i2 : m < i ∧ i ≤ k
      · rw [if_pos i2, if_neg (by omega), if_pos (by omega)]
        exact hu _ _ (by omega) (by omega)
      · rw [if_neg i2]
        by_cases j1 : j = m
        · rw [if_pos j1]
          exact ha i (by omega)
        · rw [if_neg j1]
          by_cases j2 : m < j ∧ j ≤ k
          · rw [if_pos j2]
            exact hu _ _ (by omega) (by omega)
          · rw [if_neg j2]
            exact hu _ _ (by omega) (by omega)
theorem sort_ok (hc : Ans key N cmp s) (hN : 0 < N) {Q : Array Nat → Shared → Prop} (h : ∀ p, Row N p → Up key p N → Q p s) : (kas_sort N).kasWp cmp Q s := by
  unfold kas_sort
  rw [KasT.kasWp_bind]
  refine count_ok hc hN (Array.Perm.refl _) fun m p hp h1 hm hu => ?_
  split
  · rename_i z
    have e : max m 1 = m := by omega
    show (kas_bin (N - max m 1) p (max m 1)).kasWp cmp Q s
    rw [e]
    exact bin_ok hc hN hp rfl hm hu h
  · rename_i z
    have z' : ¬ m < N := z
    have e : m = N := by omega
    subst e
    exact h p hp hu
end
end L2
namespace L2
open PySem PySem.W PyProof.Rows
def lexB : List Int → List Int → Bool
  | [], [] => false
  | [], _ :: _ => true
  | _ :: _, [] => false
  | a :: as, b :: bs => if a = b then lexB as bs else decide (a < b)
theorem lexB_cons (a b : Int) (as bs : List Int) : lexB (a :: as) (b :: bs) = if a = b then lexB as bs else decide (a < b) := rfl
theorem lexB_irrefl : ∀ as : List Int, lexB as as = false
  | [] => rfl
  | a :: as => by rw [lexB_cons, if_pos rfl]; exact lexB_irrefl as
theorem lexB_trans : ∀ as bs cs : List Int, lexB as bs = true → lexB bs cs = true → lexB as cs = true
  | [], [], _, h, _ => by cases h
  | [], _ :: _, [], _, h => by cases h
  | [], _ :: _, _ :: _, _, _ => rfl
  | _ :: _, [], _, h, _ => by cases h
  | _ :: _, _ :: _, [], _, h => by cases h
  | a :: as, b :: bs, c :: cs, h1, h2 => by
    rw [lexB_cons] at h1 h2 ⊢
    by_cases e1 : a = b
    · subst e1
      rw [if_pos rfl] at h1
      by_cases e2 : a = c
      · rw [if_pos e2] at h2 ⊢; exact lexB_trans as bs cs h1 h2
      · rw [if_neg e2] at h2 ⊢; exact h2
    · rw [if_neg e1] at h1
      have l1 := of_decide_eq_true h1
      by_cases e2 : b = c
      · subst e2
        rw [if_neg e1]; exact h1
      · rw [if_neg e2] at h2
        have l2 := of_decide_eq_true h2
        rw [if_neg (by omega)]
        exact decide_eq_true (by omega)
theorem lexB_neg : ∀ as bs cs : List Int, lexB as cs = true → lexB as bs = true ∨ lexB bs cs = true
  | [], [], _, h => .inr h
  | [], _ :: _, _, _ => .inl rfl
  | _ :: _, _, [], h => by cases h
  | _ :: _, [], _ :: _, _ => .inr rfl
  | a :: as, b :: bs, c :: cs, h => by
    rw [lexB_cons] at h
    rw [lexB_cons, lexB_cons]
    by_cases e1 : a = b
    · subst e1
      rw [if_pos rfl]
      by_cases e2 : a = c
      · rw [if_pos e2] at h ⊢; exact lexB_neg as bs cs h
      · rw [if_neg e2] at h ⊢; exact .inr h
    · rw [if_neg e1]
      by_cases e2 : b = c
      · subst e2
        rw [if_neg e1] at h
        exact .inl h
      · rw [if_neg e2]
        by_cases l : a < b
        · exact .inl (decide_eq_true l)
        · refine .inr (decide_eq_true ?_)
          by_cases e3 : a = c
          · omega
          · rw [if_neg e3] at h
            have := of_decide_eq_true h
            omega
theorem lexB_total : ∀ as bs : List Int, lexB as bs = false → lexB bs as = false → as = bs
  | [], [], _, _ => rfl
  | [], _ :: _, h, _ => by cases h
  | _ :: _, [], _, h => by cases h
  | a :: as, b :: bs, h1, h2 => by
    rw [lexB_cons] at h1 h2
    by_cases e : a = b
    · subst e
      rw [if_pos rfl] at h1 h2
      rw [lexB_total as bs h1 h2]
    · rw [if_neg e] at h1
      rw [if_neg (Ne.symm e)] at h2
      have := of_decide_eq_false h1
      have := of_decide_eq_false h2
      omega
def lexO : KeyOrd := ⟨List Int, lexB, lexB_irrefl, lexB_trans, lexB_neg, lexB_total⟩
theorem ints_of_vals : ∀ {ns : List Int} {its : List Value}, Vals (ns.map V.int) its → IntsAre its ns
  | [], _, r => by cases r; exact .nil
  | n :: ns, _, r => by
    cases r with
    | cons h t =>
      obtain ⟨u, rfl⟩ := h
      exact .cons n u (ints_of_vals t)
inductive Tups (h : Heap) : List Value → List (List Int) → Prop
  | nil : Tups h [] []
  | cons {x : Addr} {o : Obj} {xs : Array Value} {k : Nat} {t : List Int} {vs : List Value} {ts : List (List Int)} (e : h.get? x = some o) (c : o.cls = .type "tuple") (d : o.data = .seq xs k) (i : IntsAre xs.toList t) (ne : t ≠ []) (r : Tups h vs ts) : Tups h (.ref x :: vs) (t :: ts)
theorem Tups.length {h : Heap} {vs : List Value} {ts : List (List Int)} (r : Tups h vs ts) : vs.length = ts.length := by
  induction r with
  | nil => rfl
  | cons _ _ _ _ _ _ ih => rw [List.length_cons, List.length_cons, ih]
theorem Tups.at_ {h : Heap} {vs : List Value} {ts : List (List Int)} (r : Tups h vs ts) : ∀ {j : Nat}, j < vs.length → ∃ x o xs k, vs.getD j Value.none = .ref x ∧ h.get? x = some o ∧ o.data = .seq xs k ∧ IntsAre xs.toList (ts.getD j []) := by
  induction r with
  | nil => intro j hj; simp at hj
  | cons e c d i ne r ih =>
    intro j hj
    cases j with
    | zero => exact ⟨_, _, _, _, rfl, e, d, i⟩
    | succ j => exact ih (by simpa using hj)
theorem Tups.keeps {h h' : Heap} {vs : List Value} {ts : List (List Int)} (r : Tups h vs ts) (k : ∀ (b : Addr) (o : Obj), o.cls = .type "tuple" → h.get? b = some o → h'.get? b = some o) : Tups h' vs ts := by
  induction r with
  | nil => exact .nil
  | cons e c d i ne _ ih => exact .cons (k _ _ c e) c d i ne ih
theorem Tups.firsts {h : Heap} {vs : List Value} {ts : List (List Int)} (r : Tups h vs ts) : ∃ fs : List Value, KatTups h vs fs ∧ fs.length = vs.length ∧ ∀ v ∈ fs, ∃ n u, v = Value.int n u := by
  induction r with
  | nil => exact ⟨[], .nil, rfl, fun v z => by cases z⟩
  | @cons x o xs k t vs ts e c d i ne _ ih =>
    obtain ⟨fs, a1, a2, a3⟩ := ih
    obtain ⟨n, u, hx⟩ : ∃ n u, xs[0]? = some (Value.int n u) := by
      rw [← Array.getElem?_toList]
      generalize xs.toList = l at i
      cases i with
      | nil => exact absurd rfl ne
      | cons n u _ => exact ⟨n, u, rfl⟩
    refine ⟨.int n u :: fs, .cons e c d hx a1, by rw [List.length_cons, List.length_cons, a2], fun v z => ?_⟩
    rcases List.mem_cons.mp z with z | z
    · exact ⟨n, u, z⟩
    · exact a3 v z
section
variable {prog : Program} {w : World} {A : Around} {E : Value → Shared → Prop} {s : Shared}
theorem lex_walk {Q : Bool → Shared → Prop} : ∀ {xs ys : List Value} {as bs : List Int} {i : Nat} {fin : Bool}, IntsAre xs as → IntsAre ys bs → fin = decide (as.length < bs.length) → Q (lexB as bs) s → KatLex prog w A true fin Q (xs.zip ys) i s
  | _, _, _, _, i, fin, .nil, .nil, hf, h => kat_nil (by rw [hf]; exact h)
  | _, _, _, _, i, fin, .nil, .cons _ _ _, hf, h => kat_nil (by rw [hf]; exact h)
  | _, _, _, _, i, fin, .cons _ _ _, .nil, hf, h => kat_nil (by rw [hf]; exact h)
  | _, _, _, _, i, fin, .cons a t r, .cons b u q, hf, h => by
    refine kat_cons (wpAny_eqBool_int ?_)
    rw [lexB_cons] at h
    by_cases e : a = b
    · rw [if_pos e] at h
      rw [show (a == b) = true by simp [e]]
      refine kat_yes (lex_walk r q ?_ h)
      rw [hf, List.length_cons, List.length_cons]
      congr 1
      apply propext
      constructor <;> intro z <;> omega
    · rw [if_neg e] at h
      rw [show (a == b) = false by simp [e]]
      refine kat_no ?_
      cases i with
      | zero => exact oneLt_int h
      | succ i =>
        rw [show (true && (i + 1 == 0)) = false by simp]
        exact kat_one _ _ (PyProof.Rows.lt_int h)
theorem tups_ans {vs : List Value} {ts : List (List Int)} (r : Tups s.heap vs ts) : Ans (O := lexO) (fun i => ts.getD i []) vs.length (kas_ask prog w A (tuples' true) vs) s := fun i j C hi hj h => by
  obtain ⟨x, ox, xs, n, e1, g1, d1, i1⟩ := r.at_ hi
  obtain ⟨y, oy, ys, k, e2, g2, d2, i2⟩ := r.at_ hj
  unfold kas_ask
  rw [e1, e2]
  refine kat_lt g1 d1 g2 d2 (lex_walk i1 i2 ?_ h)
  rw [← i1.length, ← i2.length, Array.length_toList, Array.length_toList]
def outOf (vs : List Value) (p : Array Nat) : Array Value := List.toArray (p.toList.map fun i => vs.getD i Value.none)
theorem sort_tups {a : Addr} {vs : List Value} {ts : List (List Int)} {n : Nat} {P : PySem.Fin → Shared → Prop} (ho : s.heap.get? a = some (seqObj "list" vs.toArray n)) (hT : Tups s.heap vs ts) (h64 : vs.length < 64)
    (h : ∀ p, Row vs.length p → Up (O := lexO) (fun i => ts.getD i []) p vs.length → P (.done (.ret .none)) { s with heap := sortedHeap s.heap a vs (outOf vs p) }) :
    wpAny (model prog w) A (Builtin.«list.sort» ⟨[.ref a], []⟩) P E s := by
  rw [list_sort_plain]
  have la := Heap.lt_size ho
  refine wpAny_bind (listItems_at ho rfl (wpAny_bind (listUpdate_at ho rfl ?_)))
  obtain ⟨e1, g1⟩ : ∃ e, (s.heap.update a (Obj.mapSeq fun _ => #[])).get? a = some (seqObj "list" #[] e) := ⟨_, get?_update_seq ho fun _ => #[]⟩
  refine wpAny_bind (seqEpoch_at g1 rfl (wpAny_bind (wpAny_newTuple (wpAny_bind (wpAny_newList (wpAny_holding ?_))))))
  generalize hh6 : ((s.heap.update a (Obj.mapSeq fun _ => #[])).push (seqObj "tuple" vs.toArray 0)).push (seqObj "list" #[] 0) = h6
  have keep6 : ∀ b o, b ≠ a → s.heap.get? b = some o → h6.get? b = some o := fun b o nb e => by
    have lb := Heap.lt_size e
    rw [← hh6, Heap.get?_push_ne _ _ _ (Nat.ne_of_lt (by rw [size_push', Heap.size_update]; exact Nat.lt_succ_of_lt lb)), Heap.get?_push_ne _ _ _ (Nat.ne_of_lt (by rw [Heap.size_update]; exact lb)), Heap.get?_update_ne _ _ _ _ nb]
    exact e
  have g6 : h6.get? a = some (seqObj "list" #[] e1) := by
    rw [← hh6, Heap.get?_push_ne _ _ _ (Nat.ne_of_lt (by rw [size_push', Heap.size_update]; exact Nat.lt_succ_of_lt la)), Heap.get?_push_ne _ _ _ (Nat.ne_of_lt (by rw [Heap.size_update]; exact la))]
    exact g1
  have fin : ∀ p, Row vs.length p → Up (O := lexO) (fun i => ts.getD i []) p vs.length → P (.done (.ret .none)) { s with heap := h6.update a (Obj.mapSeq fun _ => outOf vs p) } := fun p r u => by
    rw [← hh6]
    exact h p r u
  have T6 : Tups h6 vs ts := hT.keeps fun b o c e => keep6 b o (fun z => by rw [z, ho] at e; cases e; exact absurd c (show ¬ Value.type "list" = Value.type "tuple" by decide)) e
  show wpAny (model prog w) A _ P E { s with heap := h6 }
  have hvz : vs.toArray.size = vs.length := List.size_toArray
  dsimp only
  by_cases small : vs.toArray.size < 2
  · rw [if_pos small, if_pos small]
    refine wpAny_bind (wpAny_pure ?_)
    rw [StateT.run_pure]
    refine wpAny_bind (wpAny_pure ?_)
    have ev : ((vs.toArray.zip vs.toArray).map fun x => x.2) = outOf vs (List.toArray (List.range vs.length)) := by
      unfold outOf
      match vs, hvz, small with
      | [], _, _ => simp
      | [v], _, _ => simp
      | _ :: _ :: _, _, z => simp at z; omega
    refine wpAny_bind (seqEpoch_at g6 rfl (wpAny_bind (listUpdate_at g6 rfl ?_ (hsz2 := ?_))))
    · simp only [bne_self_eq_false, Bool.false_eq_true, if_false]
      refine wpAny_pure ?_
      show P (.done (.ret .none)) { s with heap := h6.update a (Obj.mapSeq fun _ => (vs.toArray.zip vs.toArray).map fun x => x.2) }
      rw [ev]
      exact fin _ (Array.Perm.refl _) fun i j x y => by
        have z : i = j := by omega
        subst z
        exact KeyOrd.kle_refl _
    · show ((vs.toArray.zip vs.toArray).map fun x => x.2).size ≤ _
      rw [ev, outOf, List.size_toArray, List.length_map, sizeLine_eq]
      simp
      omega
  · rw [if_neg small, if_neg small]
    obtain ⟨fs, f1, f2, f3⟩ := T6.firsts
    refine wpAny_bind (kat_kind (s := { s with heap := h6 }) (T := .type "int") f1 (by omega) (fun v hv => ?_) rfl ?_)
    · obtain ⟨m, u, rfl⟩ := f3 v hv
      exact Looks.now
    rw [show (Value.type "int" != Value.type "tuple") = true by decide]
    refine wpAny_bind (wpAny_mono (kat_run (ks := vs) (vs := vs) (prog := prog) (w := w) (A := A) (E := E) (s := { s with heap := h6 }) (Q := fun st' s' => s' = { s with heap := h6 } ∧ ∃ p, p.size = vs.length ∧ arrOf st' = p.map (kas_item (vs.toArray.zip vs.toArray)) ∧ failedOf st' = none ∧ Row vs.length p ∧ Up (O := lexO) (fun i => ts.getD i []) p vs.length)
      (G := fun p s' => s' = { s with heap := h6 } ∧ Row vs.length p ∧ Up (O := lexO) (fun i => ts.getD i []) p vs.length) rfl (by omega) h64 (fun p st' s' hz har hf hG => ⟨hG.1, p, hz, har, hf, hG.2.1, hG.2.2⟩) (sort_ok (tups_ans (s := { s with heap := h6 }) T6) (by omega) fun p r u => ⟨rfl, r, u⟩)) ?_ fun _ _ e => e)
    rintro ⟨_, st'⟩ s' ⟨rfl, p, hz, har, hf, hr, hu⟩
    dsimp only at har hf ⊢
    have eo := kat_snds (ks := vs) (vs := vs) rfl har
    refine wpAny_bind (seqEpoch_at g6 rfl (wpAny_bind (listUpdate_at g6 rfl ?_ (hsz2 := ?_))))
    · rw [hf]
      simp only [bne_self_eq_false, Bool.false_eq_true, if_false]
      refine wpAny_pure ?_
      show P (.done (.ret .none)) { s with heap := h6.update a (Obj.mapSeq fun _ => (arrOf st').map (·.2)) }
      rw [eo]
      exact fin p hr hu
    · show ((arrOf st').map (·.2)).size ≤ _
      rw [eo, List.size_toArray, List.length_map, Array.length_toList, hz, sizeLine_eq]
      omega
end
end L2
namespace L2
open PySem PySem.Spec PySem.W PyProof.Rows
theorem range_getD {α : Type} (d : α) (l : List α) : (List.range l.length).map (fun i => l.getD i d) = l := by
  apply List.ext_getElem
  · simp
  · intro i h1 h2
    simp [List.getD_eq_getElem?_getD, List.getElem?_eq_getElem h2]
theorem vals_refs9 : ∀ (qs : List Addr), Vals (qs.map V.ref) (qs.map Value.ref)
  | [] => .nil
  | q :: qs => .cons rfl (vals_refs9 qs)
structure TupsAt (H : Hp) (qs : List Addr) (ts : List (List Int)) : Prop where
  len : qs.length = ts.length
  at_ : ∀ (j : Nat) q t, qs[j]? = some q → ts[j]? = some t → H q = some (.tup (t.map V.int)) ∧ t ≠ []
theorem TupsAt.tail {H : Hp} {q : Addr} {t : List Int} {qs : List Addr} {ts : List (List Int)} (h : TupsAt H (q :: qs) (t :: ts)) : TupsAt H qs ts := ⟨by have := h.len; simpa using this, fun j a b x y => h.at_ (j + 1) a b x y⟩
theorem TupsAt.tups {X : Cx} {pins : List (Addr × Obj)} {σ : St} {H : Hp} {s : Shared} (I : Inv X pins σ H s) : ∀ {qs : List Addr} {ts : List (List Int)}, TupsAt H qs ts → Tups s.heap (qs.map Value.ref) ts
  | [], [], _ => .nil
  | [], _ :: _, h => by have := h.len; simp at this
  | _ :: _, [], h => by have := h.len; simp at this
  | q :: qs, t :: ts, h => by
    obtain ⟨e, ne⟩ := h.at_ 0 q t rfl rfl
    obtain ⟨_, its, r, o, g1, g2, n, g3⟩ := (show ObjOk X.prog X.w H s.heap q (.tup (t.map V.int)) from I.hok q _ e)
    exact .cons g1 g2 g3 (by simpa using ints_of_vals r) ne (TupsAt.tups I h.tail)
section
variable {X : Cx}
end
end L2
namespace L2
open PySem PySem.Spec PyProof.Rows
section
variable {prog : Program} {w : World} {A : Around} {E : Value → Shared → Prop} {s : Shared} {es : Array DictEntry} {d it vw : Addr} {i ep : Nat}
def Raw (h : Heap) (d : Addr) (es : Array DictEntry) (ep : Nat) : Prop := ∃ o, h.get? d = some o ∧ o.cls = .type "dict" ∧ o.data = .dict es ep
theorem Raw.ty (m : Raw s.heap d es ep) : s.TypeIs (.ref d) "dict" := let ⟨o, a, b, _⟩ := m; ⟨o, a, b⟩
theorem Raw.keep {h h' : Heap} (m : Raw h d es ep) (k : ∀ o, h.get? d = some o → h'.get? d = some o) : Raw h' d es ep := let ⟨o, a, r⟩ := m; ⟨o, k o a, r⟩
theorem raw_items (d : Addr) (lo : (d == sysModules) = false) : MeetsIn prog w (Builtin.«dict.items» ⟨[.ref d], []⟩) (fun _ R s => s.TypeIs (.ref d) "dict" ∧
    R (.ok (.ret (.ref s.heap.objs.size))) { s with heap := s.heap.push { cls := .type "dict_items", data := .fields #[.ref d] } }) :=
  .of_wp fun A R s ⟨ty, h⟩ => by
    unfold Builtin.«dict.items»; with_reducible refine wpAny_bind ?_; unfold Builtin.Dict.noArgs
    refine wpAny_bind (wpAny_notOrdered_dict ty (show wpAny _ _ (pure d) _ _ s from wpAny_pure ?_))
    show wpAny _ _ (Builtin.Dict.showsAll d >>= _) _ _ s; unfold Builtin.Dict.showsAll
    rw [if_neg (fun z => Bool.false_ne_true (lo.symm.trans z))]; refine wpAny_bind (wpAny_pure ?_)
    exact wpAny_bind (wpAny_newObj_type (wpAny_pure (show _ from ⟨_, rfl, h⟩)))
theorem raw_iterItems {Q : Value → Shared → Prop} (hv : s.heap.IsItemsView vw d) (hm : Raw s.heap d es ep)
    (hQ : Q (.ref s.heap.objs.size) { s with heap := s.heap.push { cls := .type "dict_itemiterator", data := .fields #[.none, .bool false, .ref d, .int 0 0, .int es.size 0, .int ep 0, .none, .none] } }) :
    wpAny (model prog w) A (pyIter (.ref vw)) Q E s := by
  obtain ⟨ov, a1, a2, a3⟩ := id hv; obtain ⟨o, b1, b2, b3⟩ := id hm
  refine wpAny_pyIter_slot hv.typeIs F.slot_dict_items_iter (wpAny_call_entry F.slot_dict_items_iter hv.typeIs F.entry_dict_items_iter (show _ from ?_) (F.args_dict_items_iter_1 _))
  unfold Builtin.«dict_items.__iter__»; refine wpAny_bind (wpAny_pure ?_); with_reducible refine wpAny_bind ?_
  unfold Builtin.Dict_items.dictOf; refine wpAny_bind (wpAny_field a1 a3 (x := .ref d) rfl (wpAny_pure ?_)); with_reducible refine wpAny_bind ?_
  unfold Builtin.Dict_items.newIterator; refine wpAny_bind (wpAny_dictEntries b1 b3 (wpAny_bind (wpAny_dictEpoch b1 b3 ?_)))
  have own : Builtin.Dict_items.ownsTuple "dict_itemiterator" = true := rfl
  simp only [own, if_true]
  refine wpAny_newObj_type (wpAny_pure ⟨_, rfl, "dict_itemiterator", _, ⟨_, Heap.get?_push_size _ rfl, rfl⟩, F.slot_dict_itemiterator_next.lookup, (show _ from ?_)⟩)
    (by simp only [sizeOk, Builtin.Dict_items.ownedTupleFields, List.size_toArray, List.length_append, List.length_cons, List.length_nil, sizeLine_eq]; decide)
  simpa [Builtin.Dict_items.ownedTupleFields, rawInt] using hQ
theorem raw_iterKeys {Q : Value → Shared → Prop} (lo : (d == sysModules) = false) (hm : Raw s.heap d es ep)
    (hQ : Q (.ref s.heap.objs.size) { s with heap := s.heap.push { cls := .type "dict_keyiterator", data := .fields #[.ref d, .int 0 0, .int es.size 0, .int ep 0] } }) :
    wpAny (model prog w) A (pyIter (.ref d)) Q E s := by
  obtain ⟨o, b1, b2, b3⟩ := id hm
  refine wpAny_pyIter_slot hm.ty F.slot_dict_iter (wpAny_call_entry F.slot_dict_iter hm.ty F.entry_dict_iter (show _ from ?_) (F.args_dict_iter_1 _))
  unfold Builtin.«dict.__iter__»; with_reducible refine wpAny_bind ?_; unfold Builtin.Dict.dictSlotNone
  refine wpAny_bind (wpAny_notOrdered_dict hm.ty (show wpAny _ _ (pure (Value.ref d)) _ _ s from wpAny_pure ?_))
  show wpAny _ _ (Builtin.Dict.showsAll d >>= _) _ _ s; unfold Builtin.Dict.showsAll
  rw [if_neg (fun z => Bool.false_ne_true (lo.symm.trans z))]; refine wpAny_bind (wpAny_pure ?_)
  refine wpAny_bind (wpAny_dictEntries b1 b3 (wpAny_bind (wpAny_dictEpoch b1 b3 ?_)))
  refine wpAny_bind (wpAny_newObj_type (wpAny_pure ⟨_, rfl, "dict_keyiterator", _, ⟨_, Heap.get?_push_size _ rfl, rfl⟩, F.slot_dict_keyiterator_next.lookup, (show _ from ?_)⟩))
  simpa [rawInt] using hQ
def It4 (T : String) (h : Heap) (it d : Addr) (i n ep : Nat) : Prop := ∃ o, h.get? it = some o ∧ o.cls = .type T ∧ o.data = .fields #[.ref d, .int i 0, .int n 0, .int ep 0]
theorem It4.ty {T : String} {n : Nat} (x : It4 T s.heap it d i n ep) : s.TypeIs (.ref it) T := let ⟨o, a, b, _⟩ := x; ⟨o, a, b⟩
theorem It4.keep {T : String} {n : Nat} {h h' : Heap} (m : It4 T h it d i n ep) (k : ∀ o, h.get? it = some o → h'.get? it = some o) : It4 T h' it d i n ep := let ⟨o, a, r⟩ := m; ⟨o, k o a, r⟩
theorem It4.turn {T : String} {n : Nat} {h : Heap} {o : Obj} (a : h.get? it = some o) (b : o.cls = .type T) (c : o.data = .fields #[.ref d, .int i 0, .int n 0, .int ep 0]) :
    It4 T (h.update it (Obj.mapFields (·.setIfInBounds 1 (rawInt ((i : Int) + 1))))) it d (i + 1) n ep :=
  ⟨_, Heap.get?_update_self _ a (Obj.isFreed_of_fields (Obj.data_mapFields c _)), (Obj.cls_mapFields ..).trans b, by rw [Obj.data_mapFields c]; simp [rawInt]⟩
theorem raw_nextKey {Q : Option Value → Shared → Prop} {e : DictEntry} (hit : It4 "dict_keyiterator" s.heap it d i es.size ep) (hm : Raw s.heap d es ep) (hx : es[i]? = some e)
    (hQ : ∀ h', It4 "dict_keyiterator" h' it d (i + 1) es.size ep → Heap.SameBut it s.heap h' → Q (some e.key) { s with heap := h' }) : wpAny (model prog w) A (pyNext (.ref it)) Q E s := by
  obtain ⟨o, a1, a2, a3⟩ := id hit; obtain ⟨od, b1, b2, b3⟩ := id hm; have ty := hit.ty
  unfold pyNext; refine wpAny_bind (wpAny_attempt (wpAny_callSpecial?_slot (name := Str.ofString "__next__") ty F.slot_dict_keyiterator_next
    (wpAny_call_entry F.slot_dict_keyiterator_next ty F.entry_dict_keyiterator_next (show _ from ?_) (F.args_dict_keyiterator_next_1 _))))
  refine wpAny_bind (wpAny_pure ?_); refine wpAny_bind (show _ from ?_); refine wpAny_bind (show _ from ?_)
  first | refine wpAny_bind (wpAny_typeNameOfWhole_keyiter ty (show _ from wpAny_pure ?_)) | refine wpAny_bind (wpAny_typeNameOf_keyiter ty (show _ from wpAny_pure ?_))
  refine wpAny_bind (wpAny_fieldsOf a1 a3 (show _ from ?_)); have own : Builtin.Dict_items.ownsTuple "dict_keyiterator" = false := rfl
  simp only [own, if_false, Bool.false_eq_true]; show wpAny _ _ (if (Value.ref d == Value.none) = true then _ else _) _ _ s
  rw [if_neg (show ¬ ((Value.ref d == Value.none) = true) from fun z => nomatch z)]; refine wpAny_bind (wpAny_pure ?_)
  refine wpAny_bind (wpAny_dictEntries b1 b3 (show _ from ?_)); rw [if_neg (show _ from by simp)]; refine wpAny_bind (wpAny_pure ?_)
  refine wpAny_bind (wpAny_dictEpoch b1 b3 (show _ from ?_)); rw [if_neg (show _ from by simp)]; refine wpAny_pure (show _ from ?_)
  have il : i < es.size := (Array.getElem?_eq_some_iff.mp hx).1
  have ee : es[i] = e := (Array.getElem?_eq_some_iff.mp hx).2
  simp only [show ¬ ((i : Int) < 0) by omega, if_false, Int.toNat_natCast, hx]
  refine wpAny_bind (show _ from ?_)
  first | refine wpAny_bind (wpAny_typeNameOfWhole_keyiter ty (show _ from wpAny_pure ?_)) | refine wpAny_bind (wpAny_typeNameOf_keyiter ty (show _ from wpAny_pure ?_))
  refine wpAny_bind (wpAny_isOneOf_keyiter ty (show _ from ?_)); show wpAny _ _ (setField (.ref it) 1 (rawInt ((i : Int) + 1)) >>= _) _ _ s
  refine wpAny_bind (wpAny_setField a1 a3 (show _ by simp) (show _ from ?_)); have t2 := It4.turn a1 a2 a3
  refine wpAny_bind (wpAny_holding (show _ from ?_))
  refine wpAny_bind (wpAny_isOneOf_keyiter (s := { s with heap := s.heap.update it (Obj.mapFields (·.setIfInBounds 1 (rawInt ((i : Int) + 1)))) }) t2.ty (show _ from ?_))
  exact wpAny_pure (wpAny_pure ⟨_, rfl, wpAny_pure (hQ _ t2 (Heap.SameBut.update ..))⟩)
theorem raw_endKey {Q : Option Value → Shared → Prop} (hh : A.handled = none) (hit : It4 "dict_keyiterator" s.heap it d i es.size ep) (hm : Raw s.heap d es ep) (hx : es.size ≤ i)
    (hQ : ∀ h', Heap.ExtBut it s.heap h' → Q none { s with heap := h' }) : wpAny (model prog w) A (pyNext (.ref it)) Q E s := by
  obtain ⟨o, a1, a2, a3⟩ := id hit; obtain ⟨od, b1, b2, b3⟩ := id hm; have ty := hit.ty
  unfold pyNext; refine wpAny_bind (wpAny_attempt (wpAny_callSpecial?_slot (name := Str.ofString "__next__") ty F.slot_dict_keyiterator_next
    (wpAny_call_entry F.slot_dict_keyiterator_next ty F.entry_dict_keyiterator_next (show _ from ?_) (F.args_dict_keyiterator_next_1 _))))
  refine wpAny_bind (wpAny_pure ?_); refine wpAny_bind (show _ from ?_); refine wpAny_bind (show _ from ?_)
  first | refine wpAny_bind (wpAny_typeNameOfWhole_keyiter ty (show _ from wpAny_pure ?_)) | refine wpAny_bind (wpAny_typeNameOf_keyiter ty (show _ from wpAny_pure ?_))
  refine wpAny_bind (wpAny_fieldsOf a1 a3 (show _ from ?_)); have own : Builtin.Dict_items.ownsTuple "dict_keyiterator" = false := rfl
  simp only [own, if_false, Bool.false_eq_true]; show wpAny _ _ (if (Value.ref d == Value.none) = true then _ else _) _ _ s
  rw [if_neg (show ¬ ((Value.ref d == Value.none) = true) from fun z => nomatch z)]; refine wpAny_bind (wpAny_pure ?_)
  refine wpAny_bind (wpAny_dictEntries b1 b3 (show _ from ?_)); rw [if_neg (show _ from by simp)]; refine wpAny_bind (wpAny_pure ?_)
  refine wpAny_bind (wpAny_dictEpoch b1 b3 (show _ from ?_)); rw [if_neg (show _ from by simp)]; refine wpAny_pure (show _ from ?_)
  simp only [show ¬ ((i : Int) < 0) by omega, if_false, Int.toNat_natCast, Array.getElem?_eq_none hx]
  refine wpAny_bind (show _ from ?_)
  first | refine wpAny_bind (wpAny_typeNameOfWhole_keyiter ty (show _ from wpAny_pure ?_)) | refine wpAny_bind (wpAny_typeNameOf_keyiter ty (show _ from wpAny_pure ?_))
  show wpAny _ _ (setField (.ref it) 0 Value.none >>= _) _ _ s
  refine wpAny_bind (wpAny_setField a1 a3 (show _ by simp) (show _ from ?_)); show wpAny _ _ (newExc (.type "StopIteration") [] >>= _) _ _ _
  refine wpAny_bind (show _ from ?_); simp only [newExc, newTuple]; refine wpAny_bind (wpAny_newObj_type (show _ from ?_) (by size_fits))
  refine wpAny_bind (m := firstArgMember _ _) (wpAny_of_eq (a := Value.none) (show _ by first | rfl | (simp only [firstArgMember]; rfl)) (show _ from ?_))
  refine wpAny_newObj_type (show _ from ?_) (by size_fits); simp only [raiseNew]
  refine wpAny_bind (wpAny_handled (show _ from ?_)); rw [show A.in1.handled = none from hh]; refine wpAny_bind (wpAny_pure (wpAny_throw ?_))
  refine wpAny_bind (wpAny_isInstance (T := "StopIteration") (b := true) ⟨_, Heap.get?_push_size _ rfl, rfl⟩ isSubtype_stop (show _ from ?_))
  exact wpAny_pure (hQ _ (show _ from ((Heap.SameBut.update ..).extBut.push _).push _))
theorem raw_nextItem {ok ov : Value} {Q : Option Value → Shared → Prop} {e : DictEntry} (hit : IsItemIter s.heap it d i es.size ep ok ov) (hm : Raw s.heap d es ep) (hx : es[i]? = some e)
    (hQ : ∀ h', IsItemIterOut h' it d (i + 1) es.size ep e.key e.val s.heap.objs.size → h'.get? s.heap.objs.size = some { cls := .type "tuple", data := .seq #[e.key, e.val] } →
      h'.objs.size = s.heap.objs.size + 1 → (∀ b o, b ≠ it → s.heap.get? b = some o → h'.get? b = some o) → Q (some (.ref s.heap.objs.size)) { s with heap := h' }) :
    wpAny (model prog w) A (pyNext (.ref it)) Q E s := by
  obtain ⟨hp, g, dr, tk, os⟩ := s; obtain ⟨od, b1, b2, b3⟩ := id hm
  have ty : Shared.TypeIs ⟨hp, g, dr, tk, os⟩ (.ref it) "dict_itemiterator" := ⟨_, hit, rfl⟩
  unfold pyNext; refine wpAny_bind (wpAny_attempt (wpAny_callSpecial?_slot (name := Str.ofString "__next__") ty F.slot_dict_itemiterator_next
    (wpAny_call_entry F.slot_dict_itemiterator_next ty F.entry_dict_itemiterator_next (show _ from ?_) (F.args_dict_itemiterator_next_1 _))))
  refine wpAny_bind (wpAny_pure ?_); refine wpAny_bind (show _ from ?_); refine wpAny_bind (show _ from ?_)
  first | refine wpAny_bind (wpAny_typeNameOfWhole_itemiter ty (show _ from wpAny_pure ?_)) | refine wpAny_bind (wpAny_typeNameOf_itemiter ty (show _ from wpAny_pure ?_))
  refine wpAny_bind (wpAny_fieldsOf hit rfl (show _ from ?_)); have own : Builtin.Dict_items.ownsTuple "dict_itemiterator" = true := rfl
  simp only [own, if_true]; show wpAny _ _ (if (Value.ref d == Value.none) = true then _ else _) _ _ _
  rw [if_neg (show ¬ ((Value.ref d == Value.none) = true) from fun z => nomatch z)]; refine wpAny_bind (wpAny_pure ?_)
  refine wpAny_bind (wpAny_dictEntries b1 b3 (show _ from ?_)); rw [if_neg (show _ from by simp)]; refine wpAny_bind (wpAny_pure ?_)
  refine wpAny_bind (wpAny_dictEpoch b1 b3 (show _ from ?_)); rw [if_neg (show _ from by simp)]; refine wpAny_pure (show _ from ?_)
  simp only [show ¬ ((i : Int) < 0) by omega, if_false, Int.toNat_natCast, hx]
  refine wpAny_bind (show _ from ?_)
  first | refine wpAny_bind (wpAny_typeNameOfWhole_itemiter ty (show _ from wpAny_pure ?_)) | refine wpAny_bind (wpAny_typeNameOf_itemiter ty (show _ from wpAny_pure ?_))
  refine wpAny_bind (wpAny_isOneOf_itemiter ty (show _ from ?_)); show wpAny _ _ (setField (.ref it) 3 (rawInt ((i : Int) + 1)) >>= _) _ _ _
  refine wpAny_bind (wpAny_setField_rec hit (show _ by simp) fun j1 c1 d1 => (show _ from ?_))
  replace d1 : Heap.SameBut it hp j1 := d1
  replace c1 : IsItemIter j1 it d (i + 1) es.size ep ok ov := by
    unfold IsItemIter; rw [show ((i + 1 : Nat) : Int) = (i : Int) + 1 by omega]; simpa [rawInt] using c1
  have ty1 : Shared.TypeIs ⟨j1, g, dr, tk, os⟩ (.ref it) "dict_itemiterator" := ⟨_, c1, rfl⟩
  refine wpAny_bind (wpAny_holding (show _ from ?_)); refine wpAny_bind (wpAny_isOneOf_itemiter ty1 (wpAny_bind (wpAny_isOneOf_itemiter ty1 (show _ from ?_))))
  show wpAny _ _ (Builtin.Dict_items.pairFromOwner (.ref it) 6 e.key e.val) _ _ ⟨j1, g, dr, tk, os⟩; unfold Builtin.Dict_items.pairFromOwner
  refine wpAny_bind (wpAny_newTuple (show _ from ?_))
  have c2 : IsItemIter (j1.push { cls := .type "tuple", data := .seq #[e.key, e.val] }) it d (i + 1) es.size ep ok ov := Heap.get?_push_of_some _ c1
  generalize hj2 : j1.push { cls := .type "tuple", data := .seq #[e.key, e.val] } = j2 at c2
  have z1 : j1.objs.size = hp.objs.size := d1.1
  have il : it < hp.objs.size := Heap.lt_size hit
  have t2 : j2.get? hp.objs.size = some { cls := .type "tuple", data := .seq #[e.key, e.val] } := by rw [← hj2, ← z1]; exact Heap.get?_push_size _ rfl
  have z2 : j2.objs.size = hp.objs.size + 1 := by rw [← hj2, Heap.size_push, z1]
  have k2 : ∀ b o, b ≠ it → hp.get? b = some o → j2.get? b = some o := fun b o hb q => by rw [← hj2]; exact Heap.get?_push_of_some _ (d1.extBut b o hb q)
  show wpAny _ _ (Builtin.Dict_items.ownedTupleIsFree (.ref it) >>= _) _ _ ⟨j2, g, dr, tk, os⟩; rw [z1]; clear hj2 c1 d1 ty1 z1 j1
  refine wpAny_bind (show _ from ?_); unfold Builtin.Dict_items.ownedTupleIsFree; refine wpAny_bind (wpAny_field c2 rfl (x := .none) rfl (show _ from wpAny_pure ?_))
  simp only [if_true]; refine wpAny_bind (wpAny_field c2 rfl (x := ok) rfl (wpAny_bind (wpAny_field c2 rfl (x := ov) rfl (show _ from ?_))))
  refine wpAny_bind (wpAny_setField_rec c2 (show _ by simp) fun j3 c3 d3 => (show _ from ?_))
  replace d3 : Heap.SameBut it j2 j3 := d3; replace c3 : IsItemIter j3 it d (i + 1) es.size ep e.key ov := c3
  refine wpAny_bind (wpAny_setField_rec c3 (show _ by simp) fun j4 c4 d4 => (show _ from ?_))
  replace d4 : Heap.SameBut it j3 j4 := d4; replace c4 : IsItemIter j4 it d (i + 1) es.size ep e.key e.val := c4
  refine wpAny_bind (wpAny_setField_rec c4 (show _ by simp) fun j5 c5 d5 => (show _ from ?_))
  replace d5 : Heap.SameBut it j4 j5 := d5; replace c5 : IsItemIterOut j5 it d (i + 1) es.size ep e.key e.val hp.objs.size := c5
  refine wpAny_bind (wpAny_setField_rec c5 (show _ by simp) fun j6 c6 d6 => (show _ from ?_))
  replace d6 : Heap.SameBut it j5 j6 := d6; replace c6 : IsItemIterOut j6 it d (i + 1) es.size ep e.key e.val hp.objs.size := c6
  have up : ∀ b o, b ≠ it → j2.get? b = some o → j6.get? b = some o := fun b o hb q => d6.extBut b o hb (d5.extBut b o hb (d4.extBut b o hb (d3.extBut b o hb q)))
  refine wpAny_bind (wpAny_letGo (wpAny_pure (wpAny_pure ⟨_, rfl, wpAny_pure (hQ j6 c6 (up _ _ (Nat.ne_of_gt il) t2) ?_ fun b o hb q => up b o hb (k2 b o hb q))⟩)))
  show j6.objs.size = _; rw [d6.1, d5.1, d4.1, d3.1, z2]
theorem raw_endItem {ok ov : Value} {Q : Option Value → Shared → Prop} (hh : A.handled = none) (hit : IsItemIter s.heap it d i es.size ep ok ov) (hm : Raw s.heap d es ep) (hx : es.size ≤ i)
    (hQ : ∀ h', Heap.ExtBut it s.heap h' → Q none { s with heap := h' }) : wpAny (model prog w) A (pyNext (.ref it)) Q E s := by
  obtain ⟨od, b1, b2, b3⟩ := id hm; have ty : s.TypeIs (.ref it) "dict_itemiterator" := ⟨_, hit, rfl⟩
  unfold pyNext; refine wpAny_bind (wpAny_attempt (wpAny_callSpecial?_slot (name := Str.ofString "__next__") ty F.slot_dict_itemiterator_next
    (wpAny_call_entry F.slot_dict_itemiterator_next ty F.entry_dict_itemiterator_next (show _ from ?_) (F.args_dict_itemiterator_next_1 _))))
  refine wpAny_bind (wpAny_pure ?_); refine wpAny_bind (show _ from ?_); refine wpAny_bind (show _ from ?_)
  first | refine wpAny_bind (wpAny_typeNameOfWhole_itemiter ty (show _ from wpAny_pure ?_)) | refine wpAny_bind (wpAny_typeNameOf_itemiter ty (show _ from wpAny_pure ?_))
  refine wpAny_bind (wpAny_fieldsOf hit rfl (show _ from ?_)); have own : Builtin.Dict_items.ownsTuple "dict_itemiterator" = true := rfl
  simp only [own, if_true]; show wpAny _ _ (if (Value.ref d == Value.none) = true then _ else _) _ _ _
  rw [if_neg (show ¬ ((Value.ref d == Value.none) = true) from fun z => nomatch z)]; refine wpAny_bind (wpAny_pure ?_)
  refine wpAny_bind (wpAny_dictEntries b1 b3 (show _ from ?_)); rw [if_neg (show _ from by simp)]; refine wpAny_bind (wpAny_pure ?_)
  refine wpAny_bind (wpAny_dictEpoch b1 b3 (show _ from ?_)); rw [if_neg (show _ from by simp)]; refine wpAny_pure (show _ from ?_)
  simp only [show ¬ ((i : Int) < 0) by omega, if_false, Int.toNat_natCast, Array.getElem?_eq_none hx]
  refine wpAny_bind (show _ from ?_)
  first | refine wpAny_bind (wpAny_typeNameOfWhole_itemiter ty (show _ from wpAny_pure ?_)) | refine wpAny_bind (wpAny_typeNameOf_itemiter ty (show _ from wpAny_pure ?_))
  show wpAny _ _ (setField (.ref it) 2 Value.none >>= _) _ _ s
  refine wpAny_bind (wpAny_setField hit rfl (show _ by simp) (show _ from ?_)); show wpAny _ _ (newExc (.type "StopIteration") [] >>= _) _ _ _
  refine wpAny_bind (show _ from ?_); simp only [newExc, newTuple]; refine wpAny_bind (wpAny_newObj_type (show _ from ?_) (by size_fits))
  refine wpAny_bind (m := firstArgMember _ _) (wpAny_of_eq (a := Value.none) (show _ by first | rfl | (simp only [firstArgMember]; rfl)) (show _ from ?_))
  refine wpAny_newObj_type (show _ from ?_) (by size_fits); simp only [raiseNew]
  refine wpAny_bind (wpAny_handled (show _ from ?_)); rw [show A.in1.handled = none from hh]; refine wpAny_bind (wpAny_pure (wpAny_throw ?_))
  refine wpAny_bind (wpAny_isInstance (T := "StopIteration") (b := true) ⟨_, Heap.get?_push_size _ rfl, rfl⟩ isSubtype_stop (show _ from ?_))
  exact wpAny_pure (hQ _ (show _ from ((Heap.SameBut.update ..).extBut.push _).push _))
end
end L2
namespace L2
open PySem PySem.Spec PyProof.Rows
section
variable {X : Cx} {pins : List (Addr × Obj)} {σ : St} {H : Hp} {s : Shared}
theorem Inv.freezeT {d : Addr} {kvs : List (List Key × V)} {o : Obj} (I : Inv X pins σ H s) (e : H d = some (.dT kvs)) (ho : s.heap.get? d = some o) : Inv X pins σ (upd H d (.frz o (.dT kvs))) s := by
  have nd : ∀ b u, H b = some u → u ≠ .dT kvs → b ≠ d := fun b u q n z => by rw [z, e] at q; exact n (Option.some.inj q).symm
  refine I.step (h' := s.heap) (g' := s.gens) (d' := s.drawn) (t' := s.toks) (ch := []) (fun _ z => nomatch z) (fun b u _ _ _ q _ => q) (fun b u _ _ _ q _ => ⟨u.slots, q⟩) (fun b u _ _ n => ?_)
    (fun b u _ q => ⟨u, q⟩) (fun b xs q => ?_) (fun b u v q => ?_) (fun b ps q => ⟨#[], ?_⟩) (fun m hm => hm) (fun b u q => ?_) I.bare
  · rw [upd_ne (fun z => by rw [z, e] at n; cases n)]; exact n
  · rw [upd_ne (nd _ _ q (fun z => by cases z))]; exact q
  · rw [upd_ne (nd _ _ q (fun z => by cases z))]; exact q
  · rw [upd_ne (nd _ _ q (fun z => by cases z)), q]; simp
  · have st : ∀ c v, H c = some v → ObjOk X.prog X.w H s.heap c v → ObjOk X.prog X.w (upd H d (.frz o (.dT kvs))) s.heap c v := fun c v _ z =>
      z.stay (fun _ _ _ z => z) (fun c z => by rw [upd_ne (nd _ _ z (fun y => by cases y))]; exact z) fun c xs t z => by rw [upd_ne (nd _ _ z (fun y => by subst y; exact t))]; exact z
    by_cases hb : b = d
    · subst hb; rw [upd_same] at q; cases q; exact ⟨ho, st b _ e (I.hok b _ e)⟩
    · rw [upd_ne hb] at q
      exact st b u q (I.hok b u q)
end
theorem kt_get {H : Hp} : ∀ {kvs : List (List Key × V)} {xs : List (List Key × Addr × Value)}, KT H kvs xs → ∀ {i : Nat} {p : List Key × V}, kvs[i]? = some p → ∃ q, xs[i]? = some q ∧ H q.2.1 = some (.tup (p.1.map kV)) ∧ RelV p.2 q.2.2
  | [], _, r, i, p, h => by simp at h
  | a :: as, _, r, i, p, h => by
    cases r with
    | cons x t =>
      cases i with
      | zero => cases h; exact ⟨_, rfl, x.2⟩
      | succ i => exact kt_get t (i := i) h
theorem dt_raw {P : Program} {w : World} {H : Hp} {h : Heap} {d : Addr} {kvs : List (List Key × V)} (x : ObjOk P w H h d (.dT kvs)) : (d == sysModules) = false ∧ ∃ (o : Obj) (es : Array DictEntry) (ep : Nat) (xs : List (List Key × Addr × Value)),
    h.get? d = some o ∧ o.ExactDict ∧ o.data = .dict es ep ∧ KT H kvs xs ∧ es.toList = xs.map (entryOfKey (tupleKind (mixKind P w))) ∧ es.size = kvs.length := by
  obtain ⟨z, y, xs, r, o, es, ep, h1, h2, h3, h4, h5⟩ := x
  refine ⟨y, o, es, ep, xs, h1, h2, h3, r, h4, ?_⟩
  rw [size_of_entries h4]
  exact (Paired.length r).symm
def Iti (d : Addr) (o : Obj) (kvs : List (List Key × V)) : It :=
  ⟨fun i H => H d = some (.frz o (.dT kvs)) ∧ i < kvs.length, fun i H x H' => ∃ T b kv, H T = none ∧ x = .ref T ∧ kvs[i]? = some kv ∧ H b = some (.tup (kv.1.map kV)) ∧ H' = upd H T (.tup [.ref b, kv.2]), fun i H => H d = some (.frz o (.dT kvs)) ∧ kvs.length ≤ i⟩
theorem entry_item_iter : entryFor table "dict_itemiterator.__iter__" = some Builtin.«dict_keyiterator.__iter__» := PySem.entryFor_alias (id' := "dict_keyiterator.__iter__") (by kernel_rfl) rfl (by decide +kernel) (show _ by kernel_rfl)
theorem turn_items {P : Program} {w : World} {K : PySem.W.Frag} {elts : List Expr} {x1 : Nat} {tp : Pos} (d it : Addr) (o : Obj) (kvs : List (List Key × V)) (es : Array DictEntry) (ep : Nat) (hc0 : o.cls = .type "dict") (hd0 : o.data = .dict es ep) (hn : es.size = kvs.length) :
    Turn P w K (.Tuple elts x1 tp) (Iti d o kvs) [it] it (fun i h => ∃ ok ov, IsItemIter h it d i es.size ep ok ov) where
  mem := by simp
  obj := fun i h st b hb => by
    obtain ⟨ok, ov, he⟩ := st
    have z : b = it := by simpa using hb
    subst z
    exact ⟨_, he, fun v z => by cases z⟩
  keep := fun i h h' st k => by
    obtain ⟨ok, ov, he⟩ := st
    exact ⟨ok, ov, k it (by simp) _ he⟩
  item := by
    intro X hP hw hK hc i pins s σ H E I hf st hg
    subst hP hw hK
    obtain ⟨ok, ov, he⟩ := st
    obtain ⟨hd, hi⟩ := hg
    have hO : ObjOk X.prog X.w H s.heap d (.frz o (.dT kvs)) := I.hok d _ hd
    obtain ⟨ho, hO⟩ := hO
    obtain ⟨lo, o', es', ep', xs, g1, g2, g3, rel, g4, g5⟩ := dt_raw hO
    have eo : o' = o := Option.some.inj (g1.symm.trans ho)
    subst eo
    have ee : es' = es ∧ ep' = ep := by rw [hd0] at g3; injection g3 with a b; exact ⟨a.symm, b.symm⟩
    obtain ⟨e1, e2⟩ := ee
    subst e1 e2
    have raw : Raw s.heap d es' ep' := ⟨o', ho, hc0, hd0⟩
    have hx : kvs[i]? = some kvs[i] := List.getElem?_eq_getElem hi
    obtain ⟨q, hq, hb, rv⟩ := kt_get rel hx
    have hex : es'[i]? = some (entryOfKey (tupleKind (mixKind X.prog X.w)) q) := by rw [entry_at g4, hq]; rfl
    have hilt : it < s.heap.objs.size := Heap.lt_size he
    refine raw_nextItem he raw hex fun h1 h2' hT hsz hk => ?_
    refine ⟨_, rfl, wpAny_letOwnedTupleGo_items h2' fun h2 he2 hs2 => ?_⟩
    replace hs2 : Heap.SameBut it h1 h2 := hs2
    have hT2 : h2.IsTuple s.heap.objs.size #[.ref q.2.1, q.2.2] := ⟨_, (hs2.2 _ (Nat.ne_of_gt hilt)).trans hT, rfl, _, rfl⟩
    have kk : ∀ b o, b ∉ [it] → s.heap.get? b = some o → h2.get? b = some o := fun b o hb q => by
      have n1 : b ≠ it := fun z => hb (by simp [z])
      exact (hs2.2 b n1).trans (hk b o n1 q)
    have I2 : Inv X pins σ (upd H s.heap.objs.size (.tup [.ref q.2.1, kvs[i].2])) { s with heap := h2, toks := s.toks } :=
      I.turnedNew kk hf (Nat.le_refl _) (show ObjOk X.prog X.w _ h2 _ (.tup [.ref q.2.1, kvs[i].2]) from ⟨sz_le (by simp), [.ref q.2.1, q.2.2], .cons rfl (.cons rv .nil), hT2⟩)
    have hfr : H s.heap.objs.size = none := I.hok.fresh (Nat.le_refl _)
    refine ⟨.ref s.heap.objs.size, _, I2, rfl, ⟨_, q.2.1, kvs[i], hfr, rfl, hx, hb, rfl⟩, ⟨_, _, he2⟩, fun b hb => ?_⟩
    have z : b = it := by simpa using hb
    subst z
    rw [upd_ne (Nat.ne_of_lt hilt)]
    exact (hf b (by simp)).1
  done := by
    intro X hP hw hK hc i pins s σ H E I hf st hg
    subst hP hw hK
    obtain ⟨ok, ov, he⟩ := st
    obtain ⟨hd, hi⟩ := hg
    have hO : ObjOk X.prog X.w H s.heap d (.frz o (.dT kvs)) := I.hok d _ hd
    obtain ⟨f0, f1, f2, f3, f4, f5⟩ := hf it (by simp)
    exact raw_endItem (I.ok.hd hc) he ⟨o, hO.1, hc0, hd0⟩ (by omega) fun h' eb => ⟨rfl, I.turned (t' := s.toks) (fun b o hb e => eb b o hb e) f0 f1 f3 f4 f5⟩
  self := fun _ _ _ _ _ st h => by
    obtain ⟨ok, ov, he⟩ := st
    refine wpAny_pyIter_slot ⟨_, he, rfl⟩ F.slot_dict_itemiterator_iter (wpAny_call_entry F.slot_dict_itemiterator_iter ⟨_, he, rfl⟩ entry_item_iter ?_ (F.args_dict_itemiterator_iter_1 _))
    exact wpAny_pure ⟨_, rfl, "dict_itemiterator", _, ⟨_, he, rfl⟩, F.slot_dict_itemiterator_next.lookup, h⟩
section
variable {X : Cx} {elts : List Expr} {x1 : Nat} {tp : Pos}
def ImQ (R : It → Hp → Prop) : V → Hp → Prop := fun x H1 => ∃ d kvs, x = .ref d ∧ H1 d = some (.dT kvs) ∧ ∀ o, R (Iti d o kvs) (upd H1 d (.frz o (.dT kvs)))
def iItems (td : TE) : TI := fun σ H R => td σ H (ImQ R)
theorem pi_items {o : Expr} {td : TE} {apos cpos : Pos} (ho : PE X o td) (hbase : attributeBase o "items" X.env (eval o X.env) = eval o X.env := by rfl) (hline : (apos.endLine == cpos.line) = true := by rfl) :
    PI X (.Tuple elts x1 tp) (.Call (.Attribute o "items" apos) [] [] cpos) (iItems td) := by
  intro pins s σ H R I h
  refine wpAny_Call_method (T := "dict") (id := "dict.items") hbase rfl hline PySem.F.plainAttrs_dict PySem.F.slot_dict_items PySem.F.type_dict_items (thn (ho pins s σ H _ I h) fun v s1 ⟨x, H1, I1, r1, q1⟩ => ?_)
  obtain ⟨d, kvs, e, hd, q⟩ := q1
  subst e
  cases r1
  obtain ⟨lo, ob, es, ep, xs, g1, g2, g3, rel, g4, g5⟩ := dt_raw (show ObjOk X.prog X.w H1 s1.heap d (.dT kvs) from I1.hok d _ hd)
  have raw : Raw s1.heap d es ep := ⟨ob, g1, g2.1, g3⟩
  refine ⟨raw.ty, fun b z => by cases z; exact ⟨ob, g1, g2.2.1⟩, ?_⟩
  refine method_meetsIn PySem.F.slot_dict_items PySem.F.entry_dict_items rfl (PySem.evalArgs_none ⟨rfl, raw.ty, PySem.F.args_dict_items_1 _, _, raw_items d lo, raw.ty, ?_⟩)
  have I2 := I1.freezeT hd g1
  show wpAny _ _ (pyIter (.ref s1.heap.objs.size)) _ _ _
  refine raw_iterItems (s := { s1 with heap := s1.heap.push { cls := .type "dict_items", data := .fields #[.ref d] } }) ⟨_, Heap.get?_push_size _ rfl, rfl, rfl⟩ (raw.keep fun o e => Heap.get?_push_of_some _ e) ?_
  have hk : ∀ b u, s1.heap.get? b = some u → ((s1.heap.push { cls := .type "dict_items", data := .fields #[.ref d] }).push { cls := .type "dict_itemiterator", data := .fields #[.none, .bool false, .ref d, .int 0 0, .int es.size 0, .int ep 0, .none, .none] }).get? b = some u :=
    fun b u e => Heap.get?_push_of_some _ (Heap.get?_push_of_some _ e)
  refine ⟨_, [(s1.heap.push { cls := .type "dict_items", data := .fields #[.ref d] }).objs.size], _, _, _, rfl, I2.kept (t' := s1.toks) hk, turn_items d _ ob kvs es ep g2.1 g3 g5, ⟨_, _, Heap.get?_push_size _ rfl⟩, fun b hb => ?_, q ob⟩
  have e : b = (s1.heap.push { cls := .type "dict_items", data := .fields #[.ref d] }).objs.size := by simpa using hb
  have hle : s1.heap.objs.size ≤ b := by rw [e, Heap.size_push]; exact Nat.le_succ _
  exact I2.fpOk hle (I2.hok.fresh hle)
end
section
variable {σ : St} {H : Hp} {nx : St → Hp → Prop} {rt : VK} {g : TG} {tb : TS}
theorem rd_iItems {td : TE} {R : It → Hp → Prop} (h : td σ H (ImQ R)) : iItems td σ H R := h
theorem rd_im {d : Addr} {kvs : List (List Key × V)} {R : It → Hp → Prop} (h1 : H d = some (.dT kvs)) (h : ∀ o, R (Iti d o kvs) (upd H d (.frz o (.dT kvs)))) : ImQ R (.ref d) H := ⟨d, kvs, rfl, h1, h⟩
theorem rf_items {d : Addr} {o : Obj} {kvs : List (List Key × V)} (Pv : Nat → St → Hp → Prop) (h0 : Pv 0 σ H) (hl : ∀ i σ H, i ≤ kvs.length → Pv i σ H → H d = some (.frz o (.dT kvs)))
    (hs : ∀ i kv σ H T b, kvs[i]? = some kv → Pv i σ H → H T = none → H b = some (.tup (kv.1.map kV)) → g (.ref T) σ (upd H T (.tup [.ref b, kv.2])) fun σ2 H2 => tb ⟨Pv (i + 1), rt, nx, Pv (i + 1)⟩ σ2 H2) (hd : ∀ σ H, Pv kvs.length σ H → nx σ H) :
    ∃ W : Nat → Nat → St → Hp → Prop, (∃ m, W 0 m σ H) ∧ ∀ i m σ H, W i m σ H →
      ((Iti d o kvs).stop i H ∧ nx σ H) ∨ ((Iti d o kvs).go i H ∧ ∃ N : St → Hp → Prop, (∀ σ' H', N σ' H' → ∃ m', m' < m ∧ W (i + 1) m' σ' H') ∧ ∀ x H', (Iti d o kvs).yld i H x H' → g x σ H' fun σ2 H2 => tb ⟨N, rt, nx, N⟩ σ2 H2) := by
  refine ⟨fun i m σ H => m = kvs.length - i ∧ i ≤ kvs.length ∧ Pv i σ H, ⟨kvs.length, by simp, Nat.zero_le _, h0⟩, ?_⟩
  rintro i m σ H ⟨rfl, hi, p⟩
  have q := hl i σ H hi p
  by_cases hlt : i < kvs.length
  · refine .inr ⟨⟨q, hlt⟩, Pv (i + 1), fun σ' H' p' => ⟨kvs.length - (i + 1), by omega, rfl, hlt, p'⟩, fun x H' y => ?_⟩
    obtain ⟨T, b, kv, hT, e1, hk, hb, e2⟩ := y
    subst e1 e2
    exact hs i kv σ H T b hk p hT hb
  · have e : i = kvs.length := by omega
    subst e
    exact .inl ⟨⟨q, Nat.le_refl _⟩, hd σ H p⟩
end
section
variable {X : Cx} {o : Expr} {td : TE} {apos cpos : Pos}
end
section
variable {X : Cx} {ek ev : Expr} {tk tv : TE} {pos : Pos}
theorem d_dictSet {pins : List (Addr × Obj)} {σ : St} {H : Hp} {s : Shared} {a b : Addr} {v : V} {r : Value} {A : Around} {E : Value → Shared → Prop} {kvs : List (List Key × V)} {k : List Key} {Q : Unit → Shared → Prop} (hu : A.units < cLine) (I : Inv X pins σ H s) (e : H a = some (.dT kvs)) (eb : H b = some (.tup (k.map kV))) (l : kvs.length < sizeLine) (rv : RelV v r) (h : ∀ s', Inv X pins σ (upd H a (.dT (putK kvs k v))) s' → Q () s') :
    wpAny (model X.prog X.w) A (dictSet a (.ref b) r) Q E s := by
  obtain ⟨z, hd, xs, rel, dd⟩ := dt_of I.hok e
  have hz : xs.length ≤ sizeLine := by rw [← Paired.length rel]; exact z
  have hl : (putK kvs k v).length ≤ sizeLine := by have := length_putK kvs k v; omega
  refine wpAny_dictSet_heap (hsz := hz) hu (key_of I.hok eb) dd fun h' dd' hs => h _ ?_
  obtain ⟨q, es, ep, hq, h2, h3, h4, _, h5⟩ := dd'
  refine d_write I (by rw [e]; exact True.intro) hs ⟨q, hq⟩ ⟨hl, hd, _, (rel.put k eb rv).keeps fun c ys ec => ?_, q, es, ep, hq, h2, h3, h4, h5⟩
  rw [upd_ne (ne_of ec e (fun z => nomatch z))]
  exact ec
def tDict1 (tk tv : TE) : TE := fun σ H Q => ∀ d, H d = none → tk σ (upd H d (.dT [])) fun y H1 => tv σ H1 fun v H2 => ∃ b k, y = .ref b ∧ H2 b = some (.tup (k.map kV)) ∧ H2 d = some (.dT []) ∧ Q (.ref d) (upd H2 d (.dT [(k, v)]))
theorem pe_dict1 (hu : X.A.units < cLine) (hk : PE X ek tk) (hv : PE X ev tv) : PE X (.Dict [some ek] [ev] pos) (tDict1 tk tv) := by
  intro pins s σ H Q I h
  have hn : H s.heap.objs.size = none := I.hok.fresh (Nat.le_refl _)
  have I0 : Inv X pins σ (upd H s.heap.objs.size (.dT [])) { s with heap := s.heap.push { cls := .type "dict", data := .dict #[] } } := I.laid (a := s.heap.objs.size) (o := .dT []) (t' := s.toks) (fun _ _ q => Heap.get?_push_of_some _ q) (Nat.le_refl _) (dt_empty s.heap I.big)
  refine wpAny_Dict_any rfl rfl (by simp) (by simp) ?_
  refine pairTrees_cons_walk (thn (hk pins _ σ _ _ I0 (h _ hn)) fun u s1 ⟨y, H1, I1, r1, q1⟩ => thn (hv pins s1 σ H1 _ I1 q1) fun v s2 ⟨x, H2, I2, r2, q2⟩ => pairTrees_nil_walk ?_)
  obtain ⟨b, k, e, eb, ed, q⟩ := q2
  subst e
  cases r1
  unfold storeAll
  simp only [List.forIn_cons, List.forIn_nil]
  refine wpAny_bind (wpAny_bind (d_dictSet hu I2 ed eb (by rw [sizeLine_eq]; decide) r2 fun s3 I3 => ?_))
  exact wpAny_pure (wpAny_pure ⟨.ref _, _, I3, rfl, q⟩)
end
end L2
namespace L2
section
variable {σ : St} {H : Hp} {Q : VK}
theorem rd_dict1 {tk tv : TE} (h : ∀ d, H d = none → tk σ (upd H d (.dT [])) fun y H1 => tv σ H1 fun v H2 => ∃ b k, y = .ref b ∧ H2 b = some (.tup (k.map kV)) ∧ H2 d = some (.dT []) ∧ Q (.ref d) (upd H2 d (.dT [(k, v)]))) : tDict1 tk tv σ H Q := h
theorem rd_dget2 {td ty tx : TE} (h : td σ H fun x H1 => ∃ a, x = .ref a ∧ IsD H1 a ∧ ty σ H1 fun y H2 => tx σ H2 fun z H3 => ∃ o, DGet H3 a y o ∧ Q (o.getD z) H3) : tDGet2 td ty tx σ H Q := h
end
end L2
namespace L2.Z
open PySem PySem.Spec PyProof.Rows L2
section
variable {X : Cx} {o e f ek ev : Expr} {td ty tx tk tv : TE} {pos apos cpos tp : Pos} {elts : List Expr} {x1 : Nat}
theorem pi_items (ho : QE X o td) (hbase : attributeBase o "items" X.env (eval o X.env) = eval o X.env := by rfl) (hline : (apos.endLine == cpos.line) = true := by rfl) :
    QI X (.Tuple elts x1 tp) (.Call (.Attribute o "items" apos) [] [] cpos) (iItems td) := ⟨L2.pi_items ho.h hbase hline⟩
theorem pe_dict1 (hu : X.A.units + 9 < cLine) (hk : QE X ek tk) (hv : QE X ev tv) : QE X (.Dict [some ek] [ev] pos) (tDict1 tk tv) := ⟨L2.pe_dict1 (by omega) hk.h hv.h⟩
theorem pe_dnewT : QE X (.Dict [] [] pos) tDNewT := ⟨L2.pe_dnewT⟩
theorem pe_dget2 (hu : X.A.units + 9 < cLine) (ho : QE X o td) (he : QE X e ty) (hf : QE X f tx) (base : attributeBase o "get" X.env (eval o X.env) = eval o X.env := by rfl)
    (few : ((backTo cpos (starEach [e, f] X.env)).all (fun x => !x.1) && (backToKw cpos (keywordEach [] X.env)).all (fun x => x.1.isSome)
      && decide (([e, f] : List Expr).length + ([] : List Keyword).length + (if ([] : List Keyword).isEmpty then 0 else 1) < 30)) = true := by rfl)
    (line : (apos.endLine == cpos.line) = true := by rfl) (trees : backTo cpos (starEach [e, f] X.env) = [(false, eval e X.env), (false, eval f X.env)] := by rfl) :
    QE X (.Call (.Attribute o "get" apos) [e, f] [] cpos) (tDGet2 td ty tx) := ⟨L2.pe_dget2 (by omega) ho.h he.h hf.h ⟨base, few, line, trees⟩⟩
end
end L2.Z
namespace L2
open PySem PySem.Spec PyProof.Rows
section
variable {X : Cx} {tg : Expr}
end
section
variable {σ : St} {H : Hp} {Q : VK} {nx : St → Hp → Prop} {rt : VK} {g : TG} {tb : TS}
theorem rd_dgetT {td ty : TE} (h : td σ H fun x H1 => ty σ H1 fun y H2 => ∃ a v, x = .ref a ∧ DGet H2 a y (some v) ∧ Q v H2) : tDGet td ty σ H Q := h
theorem DGet.f {H : Hp} {a b : Addr} {o : Obj} {kvs : List (List Key × V)} {k : List Key} (e : H a = some (.frz o (.dT kvs))) (eb : H b = some (.tup (k.map kV))) : DGet H a (.ref b) (valV kvs k) := .inr ⟨kvs, k, b, .inr ⟨o, e⟩, rfl, eb, rfl⟩
end
end L2
namespace L2.Z
open PySem PySem.Spec PyProof.Rows L2
section
variable {X : Cx} {o i l tg : Expr} {td ty tl : TE} {pos : Pos}
theorem pe_dgetT (hu : X.A.units + 9 < cLine) (ho : QE X o td) (hi : QE X i ty) (hs : NoSl i := by intro _ _; rfl) : QE X (.Subscript o i pos) (tDGet td ty) := ⟨L2.pe_dget (by omega) ho.h hi.h hs⟩
end
end L2.Z
namespace L2
open PySem PySem.Spec PyProof.Rows
section
open PySem.SeqAt
open PySem.AutoSeq1 (wpAny_loadPart')
open PySem.MeetsSeq PySem.MeetsSeq2 PySem.MeetsSeq3
end
section
variable {X : Cx}
end
end L2
namespace L2
open PySem PySem.Spec PyProof.Rows
structure Clo (P : Program) (w : World) (K : PySem.W.Frag) (mg : Str → Option Value) (base : Heap) (k : Nat) (f : Addr) (sp : Sp) : Prop where
  ex : ∃ (o : Obj) (fd : FuncData) (ps : List Str), base.get? f = some o ∧ o.data = .func fd ∧ FnOk P w K mg base CX0 k f fd ps sp ∧ ∀ (s : Shared) (us : List Value), us.length = ps.length → BindsTo s fd ⟨us, []⟩ (ps.zip us)
abbrev lamFn (q : Str) (params : Arguments) (body : Expr) (scope : Scope) (cl : List (Str × Addr)) (pm cd ct : Value) : FuncData :=
  { name := "<lambda>", qualname := q, params, body := .expr body, scope, globals := mainGlobals, closure := cl, defaults := .none, kwdefaults := .none, doc := .none, pyModule := pm, annotations := none, code := cd, closureTuple := ct, builtins := builtinsNs }
abbrev lamEnv (q : Str) (scope : Scope) (L f : Addr) (cd : Value) (cl : List (Str × Addr)) : Env :=
  { scope := scope, locals := L, globals := mainGlobals, cells := cl, qual := q ++ ".<locals>.", func := some f, code := cd, frame := some L, builtins := builtinsNs }
def cxL (P : Program) (w : World) (K : PySem.W.Frag) (mg : Str → Option Value) (base : Heap) (N : List Str) (q : Str) (scope : Scope) (f : Addr) (cd : Value) (cl : List (Str × Addr)) (A : Around) (outer : List Env) (s : Shared) (H : Hp) : Cx where
  prog := P
  w := w
  K := K
  mg := mg
  base := base
  A := A.deeper (lamEnv q scope s.heap.objs.size f cd cl)
  N := N
  s₀ := s
  H₀ := H
  env := lamEnv q scope s.heap.objs.size f cd cl
  outer := outer
  stack := lamEnv q scope s.heap.objs.size f cd cl :: outer
  ex := []
  calm := true
  fn := fun _ => false
  pn := []
  xe := fun _ _ => False
structure Caps (base : Heap) (scope : Scope) (N ps : List Str) (cl : List (Str × Addr)) (cap : St) : Prop where
  kind : scope.kind = .function
  co : scope.isCoroutine = false
  gen : scope.isGenerator = false
  nocell : ∀ y ∈ scope.names, y.2 ≠ .cell
  pre : N.take ps.length = ps
  nd : N.Nodup
  len : N.length = ps.length + cap.length
  par : ∀ x ∈ ps, scope.names.lookup x = some .local
  inj : ∀ x y c, cl.lookup x = some c → cl.lookup y = some c → x = y
  has : ∀ x, scope.names.lookup x = some .free → ∃ c, cl.lookup x = some c
  all : ∀ x c, cl.lookup x = some c → ∃ o v, base.get? c = some o ∧ o.data = .cell v
  cap : ∀ (i : Nat) x v, (N.drop ps.length)[i]? = some x → cap[i]? = some (some v) → scope.names.lookup x = some .free ∧ ∃ u c o, RelV v u ∧ cl.lookup x = some c ∧ base.get? c = some o ∧ o.data = .cell (some u)
theorem look_nd {x : Str} {v : Value} : ∀ {l : List (Str × Value)}, (l.map (·.1)).Nodup → (x, v) ∈ l → l.lookup x = some v
  | [], _, h => by cases h
  | (y, u) :: r, nd, h => by
    rw [List.lookup_cons]
    rcases List.mem_cons.mp h with e | h'
    · cases e
      rw [beq_self_eq_true]
    · have ne : x ≠ y := fun z => by
        subst z
        exact (List.nodup_cons.mp nd).1 (List.mem_map.mpr ⟨(x, v), h', rfl⟩)
      rw [beq_eq_false_iff_ne.mpr ne]
      exact look_nd (List.nodup_cons.mp nd).2 h'
theorem rev_get {v : Value} {x : Str} : ∀ {P : List Str} {us : List Value} {i : Nat}, P.Nodup → P[i]? = some x → us[i]? = some v → P.length = us.length → (P.zip us).reverse.lookup x = some v := by
  intro P us i nd h1 h2 hl
  have hm : (x, v) ∈ (P.zip us).reverse := by
    rw [List.mem_reverse]
    refine List.mem_of_getElem? (i := i) ?_
    rw [List.getElem?_zip_eq_some]
    exact ⟨h1, h2⟩
  refine look_nd ?_ hm
  rw [List.map_reverse, List.map_fst_zip (Nat.le_of_eq hl)]
  exact List.pairwise_reverse.mpr (nd.imp fun h => Ne.symm h)
def lamSp (c : Addr) (q : Str) (n : Nat) (tl : TE) (cap : St) : Sp := fun ws H Q _ => H c = some (.cod q) ∧ ws.length = n ∧ tl (ws.map some ++ cap) H Q
theorem inv_startL {P : Program} {w : World} {K : PySem.W.Frag} {mg : Str → Option Value} {base : Heap} {N ps : List Str} {q : Str} {scope : Scope} {f : Addr} {cd : Value} {cl : List (Str × Addr)} {cap : St} {A : Around} {outer : List Env} {s : Shared} {H : Hp} {us : List Value} {vs : List V} {h' : Heap} {tk : Nat}
    (S : Caps base scope N ps cl cap) (hd : A.handled = none) (e0 : Env0 P w K mg base A outer s H) (hl : vs.length = ps.length) (r : Vals vs us)
    (hns : h'.Ns s.heap.objs.size fun x => (ps.zip us).reverse.lookup x) (hk : ∀ b o, s.heap.get? b = some o → h'.get? b = some o) :
    Inv (cxL P w K mg base N q scope f cd cl A outer s H) [] (vs.map some ++ cap) H { s with heap := h', toks := tk } := by
  have noA : ∀ b : Addr, b ∉ (cxL P w K mg base N q scope f cd cl A outer s H).ex := fun b z => absurd (show b ∈ ([] : List Addr) from z) (by simp)
  refine ⟨⟨e0.mod, S.kind, rfl, rfl, Nat.le_refl _, S.inj, fun y hy => ?_, fun y c z _ => (by cases z), fun _ => hd, Around.frames_deeper e0.frames, .inr ⟨rfl, rfl⟩, fun b z => absurd z (noA b), e0.bs, e0.bsz, fun b _ _ => noA b, fun b z => absurd z (noA b), e0.funs, e0.frf⟩,
    rfl, e0.bare, Un.kept hk, ⟨_, hns, fun i y v h1 h2 h3 => ?_⟩, fun y c h => ?_, e0.hok.fresh (Nat.le_refl _), fun y c h => ?_, fun p hp => absurd (show p ∈ ([] : List (Addr × Obj)) from hp) (by simp), e0.hok.kept hk, ?_⟩
  · have hy : scope.names.lookup y = some .cell ∨ scope.names.lookup y = some .free := hy
    rcases hy with hy | hy
    · exact absurd rfl (S.nocell _ (PySem.mem_of_lookup hy))
    · exact S.has y hy
  · have h1' : N[i]? = some y := h1
    by_cases hi : i < ps.length
    · rw [List.getElem?_append_left (by rw [List.length_map]; omega), List.getElem?_map] at h2
      obtain ⟨v', hv', e⟩ := Option.map_eq_some_iff.mp h2
      cases e
      obtain ⟨u, hu, rv⟩ := r.get hv'
      have hp : ps[i]? = some y := by rw [← S.pre, List.getElem?_take_of_lt hi]; exact h1'
      have ndP : ps.Nodup := by rw [← S.pre]; exact S.nd.sublist (List.take_sublist _ _)
      refine ⟨u, rv, .inl ⟨S.par y (List.mem_of_getElem? hp), ?_⟩⟩
      exact rev_get ndP hp hu (by rw [← hl]; exact r.length)
    · obtain ⟨j, rfl⟩ : ∃ j, i = ps.length + j := ⟨i - ps.length, by omega⟩
      rw [List.getElem?_append_right (by rw [List.length_map]; omega), List.length_map, hl, Nat.add_sub_cancel_left] at h2
      obtain ⟨hf, u, c, o, rv, ec, eo, ed⟩ := S.cap j y v (by rw [List.getElem?_drop]; exact h1') h2
      exact ⟨u, rv, .inr ⟨.inr hf, c, ec, o, hk _ _ (e0.bs c o eo).1, ed⟩⟩
  · obtain ⟨o, v, eo, ed⟩ := S.all y c h
    exact ⟨v, o, hk _ _ (e0.bs c o eo).1, ed⟩
  · obtain ⟨o, v, eo, ed⟩ := S.all y c h
    exact (e0.bs c o eo).2
  · show _ = N.length
    rw [List.length_append, List.length_map, hl, S.len]
theorem lam_ok {P : Program} {w : World} {K : PySem.W.Frag} {mg : Str → Option Value} {base : Heap} {k : Nat} {f c : Addr} {q : Str} {params : Arguments} {body : Expr} {scope : Scope} {cl : List (Str × Addr)} {pm ct : Value} {N ps : List Str} {cap : St} {tl : TE} {o : Obj}
    (hf : base.get? f = some o) (ho : o.data = .func (lamFn q params body scope cl pm (.ref c) ct)) (S : Caps base scope N ps cl cap)
    (hbody : ∀ (A : Around) (outer : List Env) (s : Shared) (H : Hp), Room k (A.deeper (lamEnv q scope s.heap.objs.size f (.ref c) cl)) → PE (cxL P w K mg base N q scope f (.ref c) cl A outer s H) body tl) :
    FnOk P w K mg base CX0 (k + 1) f (lamFn q params body scope cl pm (.ref c) ct) ps (lamSp c q ps.length tl cap) := by
  refine ⟨fun vs H Q E h => h.2.1, fun A outer s H args us vs Q E hr e0 hb r hsp => ?_⟩
  obtain ⟨hcod, hl, hq⟩ := hsp
  have lim : s.heap.NoLimit := e0.mod.nolimit.keeps fun b o e => (e0.bs b o e).1
  have hcd : s.heap.CodeRec (.ref c) q := by
    obtain ⟨oc, vc, t, z1, z2, z3⟩ := e0.hok c _ hcod
    exact ⟨c, oc, vc, t, rfl, z1, z2, z3⟩
  refine PySem.W.kla_callFunE hr.depth (e0.bs f _ hf).1 ho S.co S.gen rfl hcd (hb _ _ _ _ ?_)
  refine wpAny_newFunctionEnv S.nocell (fun y hy => ?_) (fun h₁ hns hsb => ⟨lim.fresh _ hsb, ?_⟩) S.kind
  · obtain ⟨n, v⟩ := y
    exact S.par n (List.of_mem_zip hy).1
  show codeAny _ _ (.expr body (lamEnv q scope s.heap.objs.size f (.ref c) cl)) _ _
  have hk₁ : ∀ b o, s.heap.get? b = some o → h₁.get? b = some o := fun b o e => hsb.extBut b o (Nat.ne_of_lt (Heap.lt_size e)) (Heap.get?_push_of_some _ e)
  refine PySem.W.kla_codeExpr ?_
  have I := inv_startL (tk := s.toks + (ps.zip us).length) (q := q) (f := f) (cd := .ref c) S hr.hd e0 hl r hns hk₁
  refine wpAny_mono (hbody A outer s H (hr.deeper _) [] _ _ H _ I hq) (fun u s' hs => ?_) fun e s' hs => hs.elim
  obtain ⟨v, H', J, rv, z⟩ := hs
  exact ⟨v, H', J.os, J.bare, J.base, J.hok, rv, z⟩
def extB (base h : Heap) (Z : List Addr) : Heap := PySem.W.hideAll h ((List.range h.objs.size).filter fun a => !((base.get? a).isSome || Z.contains a))
theorem extB_get {base h : Heap} {Z : List Addr} {b : Addr} {o : Obj} (e : h.get? b = some o) (z : (∃ u, base.get? b = some u) ∨ b ∈ Z) : (extB base h Z).get? b = some o := by
  refine PySem.W.hideAll_get _ e fun hm => ?_
  have q := (List.mem_filter.mp hm).2
  rcases z with ⟨u, z⟩ | z
  · rw [z] at q; simp at q
  · rw [show Z.contains b = true from List.elem_iff.mpr z] at q
    simp at q
theorem extB_of {base h : Heap} {Z : List Addr} {b : Addr} {o : Obj} (e : (extB base h Z).get? b = some o) : h.get? b = some o ∧ ((∃ u, base.get? b = some u) ∨ b ∈ Z) := by
  have e' : h.get? b = some o := PySem.W.of_hideAll _ e
  refine ⟨e', ?_⟩
  cases q1 : base.get? b with
  | some u => exact .inl ⟨u, rfl⟩
  | none =>
    cases q2 : Z.contains b with
    | true => exact .inr (List.elem_iff.mp q2)
    | false =>
      have hm : b ∈ (List.range h.objs.size).filter fun a => !((base.get? a).isSome || Z.contains a) := List.mem_filter.mpr ⟨List.mem_range.mpr (Heap.lt_size e'), by rw [q1, q2]; rfl⟩
      have z : (extB base h Z).get? b = none := PySem.W.hideAll_none _ hm
      rw [z] at e
      cases e
theorem Mod.keeps {K : PySem.W.Frag} {mg : Str → Option Value} {base base' : Heap} (M : Mod K mg base) (k : ∀ b o, base.get? b = some o → base'.get? b = some o) : Mod K mg base' :=
  ⟨M.kin.keeps k, M.glob.keeps k, (let ⟨mb, h1, h2⟩ := M.blt; ⟨mb, h1.keeps k, h2⟩), M.nolimit.keeps k, let ⟨bm, o, e1, e2, e3, r⟩ := M.bm; ⟨bm, o, e1, e2, k _ _ e3, r⟩⟩
theorem frames_ext {h base : Heap} {Z : List Addr} {l : List Env} (hl : h.FunFrames base l) (hz : ∀ b ∈ frs l, b ∉ Z) : h.FunFrames (extB base h Z) l := by
  induction l with
  | nil => trivial
  | cons env rest ih =>
    obtain ⟨hk, ⟨L, o, hf, hn, ho, hd⟩, hr⟩ := hl
    have hL : L ∈ frs (env :: rest) := by unfold frs; rw [List.filterMap_cons, hf]; exact List.mem_cons_self
    refine ⟨hk, ⟨L, o, hf, ?_, ho, hd⟩, ih hr fun b hb => hz b (by unfold frs; rw [List.filterMap_cons, hf]; exact List.mem_cons_of_mem _ hb)⟩
    cases q : (extB base h Z).get? L with
    | none => rfl
    | some u =>
      rcases (extB_of q).2 with ⟨v, z⟩ | z
      · rw [hn] at z; cases z
      · exact absurd z (hz L hL)
end L2
namespace L2
open PySem PySem.Spec PyProof.Rows
section
variable {X : Cx} {pins : List (Addr × Obj)} {σ : St} {H : Hp} {s : Shared} {c Pt : Addr} {q : Str} {params : Arguments} {body : Expr} {scope : Scope} {pos lpos : Pos} {cl : List (Str × Addr)}
theorem lam_eval {Q : Value → Shared → Prop} (I : Inv X pins σ H s) (hcode : X.env.code = .ref c) (hC : PySem.W.codeHdIn X.K c Pt = true) (hT : H Pt = some (.ctb pos q)) (hq : X.env.qual ++ "<lambda>" = q) (hdef : defaultsOf params X.env = ([], [])) (hcl : closureFor scope X.env = pure cl)
    (h : ∀ (f c' : Addr) (pm ct : Value) (o : Obj) (H' : Hp) (s' : Shared), Inv X pins σ H' s' → Same H H' → s'.heap.get? f = some o → o.data = .func (lamFn q params body scope cl pm (.ref c') ct) → H' f = none → H' c' = some (.cod q) → s.heap.objs.size ≤ f → Q (.ref f) s') :
    wpAny (model X.prog X.w) X.A (eval (.Lambda params body scope pos) X.env) Q X.xe s := by
  obtain ⟨ps, eP, ht, hc⟩ := I.hok Pt _ hT
  have hg : s.heap.Ns mainGlobals X.mg := I.mod.glob.keeps I.bk
  have hgP : mainGlobals ≠ Pt := fun z => by
    obtain ⟨o, es, ep, e, hd, _⟩ := hg
    rw [z, eP] at e
    cases e
    cases hd
  have hb : s.heap.BuiltinsAt X.mg Pt := by
    obtain ⟨bm, o, e1, e2, e3, e4, e5, e6⟩ := I.mod.bm
    have e3' := I.bk _ _ e3
    refine ⟨bm, o, e1, e2, fun z => ?_, fun z => ?_, e3', e4, e5, e6⟩
    · obtain ⟨o', es, ep, e, hd, _⟩ := hg
      rw [z, e] at e3'
      cases e3'
      rw [hd] at e6
      cases e6
    · rw [z, eP] at e3'
      cases e3'
      cases e4
  have hCd : PySem.W.CodeHd s.heap c Pt := PySem.W.codeHd_of_K I.kIn hC
  refine PySem.W.kla_eval hdef ?_
  rw [hq]
  rcases hc with hn | ⟨c', hs, hcd⟩
  · refine PySem.W.kla_makeFunction (mg := X.mg) (P := Pt) (c := c) (ps := ps) hcl I.ok.glob hg hcode hCd eP ht hn hgP hb fun c' ctv h' tk hx hge hlt hrec htb => ?_
    have hnc : H c' = none := I.hok.fresh hge
    have hx2 : ∀ b o, b ≠ Pt → s.heap.get? b = some o → (h'.push (PySem.W.kla_obj "<lambda>" q params body scope cl ((X.mg "__name__").getD .none) c' ctv)).get? b = some o := fun b o n e => Heap.get?_push_of_some _ (hx b o n e)
    have np : ∀ b, H b = none → b ≠ Pt := fun b n z => by rw [z, hT] at n; cases n
    have ncP : c' ≠ Pt := np c' hnc
    refine h h'.objs.size c' _ ctv _ (upd H c' (.cod q)) _ (I.step (h' := h'.push _) (g' := s.gens) (d' := s.drawn) (t' := tk) (ch := []) (fun _ z => nomatch z) (fun b o _ _ _ e n => hx2 b o (np b n) e) (fun b o _ _ _ e n => ⟨o.slots, hx2 b o (np b n) e⟩)
      (fun b o _ e n => by rw [upd_ne (Nat.ne_of_lt (Nat.lt_of_lt_of_le (Heap.lt_size e) hge))]; exact n) (fun b o _ e => ?_) (fun b xs e => by rw [upd_ne (ne_of_none e hnc)]; exact e) (fun b o u e => by rw [upd_ne (ne_of_none e hnc)]; exact e)
      (fun b ps e => ⟨#[], by rw [upd_ne (ne_of_none e hnc), e]; simp⟩) (fun m hm => hm.extBut (b := Pt) hx2 (np _ I.free)) (fun b u e => ?_) I.bare) (Same.new hnc) (Heap.get?_push_size _ rfl) rfl ?_ upd_same (Nat.le_trans hge (Nat.le_of_lt hlt))
    · by_cases hbP : b = Pt
      · subst hbP
        exact ⟨_, Heap.get?_push_of_some _ htb⟩
      · exact ⟨o, hx2 b o hbP e⟩
    · by_cases hbc : b = c'
      · subst hbc
        rw [upd_same] at e
        cases e
        obtain ⟨c2, oc, vs, t, z1, z2, z3, z4⟩ := hrec
        cases z1
        exact ⟨oc, vs, t, Heap.get?_push_of_some _ z2, z3, z4⟩
      · rw [upd_ne hbc] at e
        by_cases hbP : b = Pt
        · subst hbP
          rw [hT] at e
          cases e
          refine ⟨_, Heap.get?_push_of_some _ htb, ?_, .inr ⟨c', ?_, upd_same⟩⟩
          · rw [Array.toList_append]
            exact TriplesOk_snoc _ _ _ _ ht
          · rw [Array.toList_append]
            exact codeAmong_snoc _ ht hn
        · refine (I.hok b u e).stay (fun d v hd z => hx2 d v ?_ z) (fun d z => by rw [upd_ne (ne_of_none z hnc)]; exact z) fun d xs _ z => by rw [upd_ne (ne_of_none z hnc)]; exact z
          rcases hd with z | z
          · rw [z]; exact hbP
          · intro y
            rw [y, hT] at z
            cases z
    · rw [upd_ne (Nat.ne_of_gt hlt)]
      exact I.hok.fresh (Nat.le_trans hge (Nat.le_of_lt hlt))
  · refine PySem.W.kla_makeFunctionHit (mg := X.mg) (P := Pt) (c := c) (ps := ps) hcl I.ok.glob hg hcode hCd eP ht hs hb fun ctv h' tk hk hsz => ?_
    exact h h'.objs.size c' _ ctv _ H _ (I.kept fun b u e => Heap.get?_push_of_some _ (hk b u e)) (Same.refl _) (Heap.get?_push_size _ rfl) rfl (I.hok.fresh hsz) hcd hsz
def PAL (X : Cx) (es : List Expr) (params : Arguments) (body : Expr) (scope : Scope) (lpos : Pos) (Pt : Addr) (q : Str) (cl : List (Str × Addr)) (t : TA) : Prop :=
  ∀ (pos : Pos) (pins : List (Addr × Obj)) (s : Shared) (σ : St) (H : Hp) (Q : List V → Hp → Prop), Inv X pins σ H s → t σ H (fun vs H1 => H1 Pt = some (.ctb lpos q) ∧ Q vs H1) →
    wpAny (model X.prog X.w) X.A (spliced (backTo pos (starEach es X.env))) (fun us s' => ∃ (vs : List V) (us0 : List Value) (f c' : Addr) (pm ct : Value) (o : Obj) (H1 H2 : Hp), us = us0 ++ [.ref f] ∧ Vals vs us0 ∧ Inv X pins σ H2 s' ∧ Same H1 H2 ∧
      s'.heap.get? f = some o ∧ o.data = .func (lamFn q params body scope cl pm (.ref c') ct) ∧ H2 f = none ∧ H2 c' = some (.cod q) ∧ f ∉ frs X.stack ∧ Q vs H1) X.xe s
theorem pal_last (hcode : X.env.code = .ref c) (hC : PySem.W.codeHdIn X.K c Pt = true) (hq : X.env.qual ++ "<lambda>" = q) (hdef : defaultsOf params X.env = ([], [])) {N : List Str} {n : Nat} {idx : List Nat} (S : BlkScope X scope N n idx) :
    PAL X [.Lambda params body scope lpos] params body scope lpos Pt q (clos X.env scope.names []) tNil := by
  intro pos pins s σ H Q I h
  obtain ⟨hT, hQ⟩ := h
  show wpAny _ _ (spliced ((false, eval (.Lambda params body scope lpos) X.env) :: backTo pos (starEach [] X.env))) _ _ s
  refine Calls.spliced_cons (lam_eval I hcode hC hT hq hdef (closure_eq (S.cells I)) fun f c' pm ct o H' s' I' sm e1 e2 e3 e4 e5 => ?_)
  refine Calls.spliced_nil ⟨[], [], f, c', pm, ct, o, H, H', rfl, .nil, I', sm, e1, e2, e3, e4, fun z => ?_, hQ⟩
  obtain ⟨_, o', e, _⟩ := I.stack.mem z
  exact absurd (Nat.lt_of_lt_of_le (Heap.lt_size e) e5) (Nat.lt_irrefl _)
theorem pal_cons {e : Expr} {es : List Expr} {te : TE} {t : TA} (ha : PE X e te) (hr : PAL X es params body scope lpos Pt q cl t) (hs : starEach (e :: es) X.env = (false, eval e X.env) :: starEach es X.env := by rfl) :
    PAL X (e :: es) params body scope lpos Pt q cl (tCons te t) := by
  intro pos pins s σ H Q I h
  rw [hs]
  show wpAny _ _ (spliced ((false, eval e X.env) :: backTo pos (starEach es X.env))) _ _ s
  refine Calls.spliced_cons (thn (ha pins s σ H _ I h) fun u s1 ⟨x, H1, I1, r1, q1⟩ => ?_)
  refine thn (hr pos pins s1 σ H1 (fun vs H2 => Q (x :: vs) H2) I1 q1) fun us s2 ⟨vs, us0, f, c', pm, ct, o, H2, H3, e0, r, I3, sm, e1, e2, e3, e4, e5, hQ⟩ => ?_
  exact ⟨x :: vs, u :: us0, f, c', pm, ct, o, H2, H3, by rw [e0]; rfl, .cons r1 r, I3, sm, e1, e2, e3, e4, e5, hQ⟩
def tCallL (Pt : Addr) (lpos : Pos) (q : Str) (sp : (Addr → Sp → Prop) → Sp) (n : Nat) (tl : TE) (idx : List Nat) (t : TA) : TE := fun σ H Q => t σ H fun vs H1 => H1 Pt = some (.ctb lpos q) ∧
  ∀ (f c' : Addr) (H2 : Hp) (C : Addr → Sp → Prop), Same H1 H2 → H2 c' = some (.cod q) → C f (lamSp c' q n tl (idx.map fun j => (σ[j]?).join)) → sp C (vs ++ [.ref f]) H2 Q E0
theorem pe_callL {f : Addr} {fd : FuncData} {ps psL N : List Str} {idx : List Nat} {sp : (Addr → Sp → Prop) → Sp} {k kc : Nat} {x : Str} {p : Pos} {e : Expr} {es : List Expr} {t : TA} {tl : TE}
    (F : ∀ base' : Heap, FnOk X.prog X.w X.K X.mg base' CX0 k f fd ps (sp (Clo X.prog X.w X.K X.mg base' (kc + 1)))) (hr : Room k X.A) (hg : Gl X x) (hm : X.mg x = some (.ref f)) (hk : PySem.W.keepIn X.K (.ref f) = true) (hb : Binds X.K fd ps [])
    (hfn : ∀ y, X.fn y = true) (S : BlkScope X scope N psL.length idx) (hpre : N.take psL.length = psL) (hpar : psL.all (fun x => scope.names.lookup x == some .local) = true) (hco : scope.isCoroutine = false) (hgen : scope.isGenerator = false)
    (hbind : ∀ (cl : List (Str × Addr)) (pm cd ct : Value) (us : List Value), us.length = psL.length → bindArgs (lamFn q params body scope cl pm cd ct) ⟨us, []⟩ = pure (psL.zip us))
    (ha : PAL X (e :: es) params body scope lpos Pt q (clos X.env scope.names []) t)
    (hbody : ∀ (base' : Heap) (f' c' : Addr) (cl : List (Str × Addr)) (A : Around) (outer : List Env) (s : Shared) (H : Hp), Room kc (A.deeper (lamEnv q scope s.heap.objs.size f' (.ref c') cl)) → PE (cxL X.prog X.w X.K X.mg base' N q scope f' (.ref c') cl A outer s H) body tl)
    (hdb : (x == ("__debug__" : Str)) = false := by decide) (he : starEach (e :: es) X.env = (false, eval e X.env) :: starEach es X.env := by rfl) (hpl : (backTo pos (starEach es X.env)).any (·.1) = false := by rfl) :
    PE X (.Call (.Name x p) (e :: es) [] pos) (tCallL Pt lpos q sp psL.length tl idx t) := by
  intro pins s σ H Q I h
  refine wpAny_Call_Name_kw (ld_glob I hg hm ?_ hdb)
  refine PySem.W.callWith_K (h₀ := X.base) I.ok.mod.kin hk (thn (ha pos pins s σ H _ I h) fun us s1 ⟨vs, us0, fl, c', pm, ct, o, H1, H2, e0, r, I2, sm, e1, e2, e3, e4, e5, hQ⟩ => ⟨I2.kIn, ?_⟩) he hpl
  subst e0
  -- the larger base
  generalize hcl : clos X.env scope.names [] = cl at *
  have cels := S.cells I2
  have clo : ∀ {y : Str} {d : Addr}, cl.lookup y = some d → X.env.cells.lookup y = some d := fun {y d} z => clos_of cels (by rw [hcl]; exact z)
  have lkp : ∀ {y : Str} {d : Addr}, (y, NameKind.free) ∈ scope.names → X.env.cells.lookup y = some d → cl.lookup y = some d := fun {y d} h1 h2 => by rw [← hcl]; exact clos_lookup cels h1 h2
  have inZ : ∀ {y : Str} {d : Addr}, cl.lookup y = some d → d ∈ fl :: cl.map (·.2) := fun {y d} z => List.mem_cons_of_mem _ (List.mem_map.mpr ⟨(y, d), PySem.mem_of_lookup z, rfl⟩)
  have memZ : ∀ d, d ∈ cl.map (·.2) → ∃ y, X.env.cells.lookup y = some d := fun d z => by
    obtain ⟨⟨y, d'⟩, hm, e⟩ := List.mem_map.mp z
    have e' : d' = d := e
    subst e'
    rw [← hcl] at hm
    rcases clos_mem _ _ cels hm with q | q
    · cases q
    · exact ⟨y, q⟩
  have keepB : ∀ b u, X.base.get? b = some u → (extB X.base s1.heap (fl :: cl.map (·.2))).get? b = some u := fun b u z => extB_get (I2.bk b u z) (.inl ⟨u, z⟩)
  have notfs : ∀ b ∈ frs X.stack, b ∉ fl :: cl.map (·.2) := fun b hb z => by
    rcases List.mem_cons.mp z with rfl | z
    · exact e5 hb
    · obtain ⟨y, hy⟩ := memZ b z
      rcases List.mem_cons.mp (I2.stkSub b hb) with q | q
      · exact I2.cne y b hy q
      · obtain ⟨_, ob, eo, _⟩ := I2.ok.funs.mem q
        exact absurd (Nat.lt_of_lt_of_le (Heap.lt_size eo) (I2.ok.cab y b (hfn y) hy)) (Nat.lt_irrefl _)
  have env0 : Env0 X.prog X.w X.K X.mg (extB X.base s1.heap (fl :: cl.map (·.2))) X.A X.stack s1 H2 := by
    refine ⟨I2.ok.frames, I2.ok.mod.keeps keepB, fun b u z => ?_, Nat.le_of_eq (PySem.W.hideAll_size _ _), frames_ext I2.stack notfs, I2.stkFree, I2.hok, I2.bare⟩
    obtain ⟨z1, z2⟩ := extB_of z
    refine ⟨z1, ?_⟩
    rcases z2 with ⟨u', z2⟩ | z2
    · exact (I2.bs b u' z2).2
    · rcases List.mem_cons.mp z2 with rfl | z2
      · exact e3
      · obtain ⟨y, hy⟩ := memZ b z2
        exact I2.freeC y b hy
  have caps : Caps (extB X.base s1.heap (fl :: cl.map (·.2))) scope N psL cl (idx.map fun j => (σ[j]?).join) := by
    refine ⟨S.kind, hco, hgen, S.nocell, hpre, S.nd, by rw [List.length_map]; exact S.len, fun y hy => ?_, fun y z d h1 h2 => I2.ok.inj y z d (clo h1) (clo h2), fun y hy => ?_, fun y d hy => ?_, fun i y v h1 h2 => ?_⟩
    · have := List.all_eq_true.mp hpar y hy
      simpa using this
    · have hmem := PySem.mem_of_lookup hy
      obtain ⟨d, hd⟩ := cels _ hmem rfl
      exact ⟨d, lkp hmem hd⟩
    · obtain ⟨v, oc, eo, ed⟩ := I2.cell y d (clo hy)
      exact ⟨oc, v, extB_get eo (.inr (inZ hy)), ed⟩
    · obtain ⟨j, z1, z2, z3⟩ := S.cap i y h1
      refine ⟨z3, ?_⟩
      rw [List.getElem?_map, z1] at h2
      have h2j : (σ[j]?).join = some v := Option.some.inj h2
      have h2' : σ[j]? = some (some v) := by
        cases qj : σ[j]? with
        | none => rw [qj] at h2j; cases h2j
        | some w => rw [qj] at h2j; rw [show w = some v from h2j]
      have hfree := PySem.mem_of_lookup z3
      have hkind := S.free _ hfree rfl
      obtain ⟨m0, hn0, hl0⟩ := I2.loc
      obtain ⟨u, ru, l⟩ := hl0 j y v z2 h2' (by rcases hkind with z | z; exact .inr (.inl z); exact .inr (.inr z))
      rcases l with ⟨z, _⟩ | ⟨_, d, ed, oc, eo, dd⟩
      · rcases hkind with w | w
        · rw [w] at z; cases z
        · rw [w] at z; cases z
      · exact ⟨u, d, oc, ru, lkp hfree ed, extB_get eo (.inr (inZ (lkp hfree ed))), dd⟩
  have lamK := lam_ok (P := X.prog) (w := X.w) (K := X.K) (mg := X.mg) (N := N) (ps := psL) (extB_get e1 (.inr List.mem_cons_self)) e2 caps (hbody _ fl c' cl)
  have hC : Clo X.prog X.w X.K X.mg (extB X.base s1.heap (fl :: cl.map (·.2))) (kc + 1) fl (lamSp c' q psL.length tl (idx.map fun j => (σ[j]?).join)) :=
    ⟨o, _, psL, extB_get e1 (.inr List.mem_cons_self), e2, lamK, fun s us hl => .of_eq (hbind cl pm (.ref c') ct us hl)⟩
  have hsp := hQ fl c' H2 _ sm e4 hC
  have r2 : Vals (vs ++ [.ref fl]) (us0 ++ [.ref fl]) := r.append (.cons rfl .nil)
  have hl : (us0 ++ [Value.ref fl]).length = ps.length := by rw [← r2.length]; exact (F _).len _ _ _ _ hsp
  have hb' := hb s1 (us0 ++ [.ref fl]) I2.kIn (by rw [List.append_nil]; exact hl)
  rw [List.append_nil] at hb'
  refine wpAny_call (codeAny_mono ((F _).run X.A X.stack s1 H2 ⟨us0 ++ [.ref fl], []⟩ (us0 ++ [.ref fl]) (vs ++ [.ref fl]) Q E0 hr env0 hb' r2 hsp) fun r s' hq => ?_)
  cases r with
  | error e => exact False.elim hq
  | ok fl =>
    cases fl with
    | ret u => exact I2.after hq
    | next => exact False.elim hq
    | brk => exact False.elim hq
    | cont => exact False.elim hq
def tCallV (C : Addr → Sp → Prop) (i : Nat) (t : TA) : TE := fun σ H Q => ∃ f sp, σ[i]? = some (some (.ref f)) ∧ C f sp ∧ t σ H fun vs H1 => sp vs H1 Q E0
theorem pe_callV {i k : Nat} {x : Str} {p : Pos} {e : Expr} {es : List Expr} {t : TA} (hN : X.N[i]? = some x) (hv : Vis X.env.scope x) (hr : Room k X.A) (ha : PA X (e :: es) t) (hd : (x == ("__debug__" : Str)) = false := by decide) (hcd : (x == ("__classdict__" : Str)) = false := by decide)
    (he : starEach (e :: es) X.env = (false, eval e X.env) :: starEach es X.env := by rfl) (hpl : (backTo pos (starEach es X.env)).any (·.1) = false := by rfl) :
    PE X (.Call (.Name x p) (e :: es) [] pos) (tCallV (Clo X.prog X.w X.K X.mg X.base k) i t) := by
  intro pins s σ H Q I h
  obtain ⟨f, sp, ei, hC, ht⟩ := h
  obtain ⟨o, fd, ps, ef, ed, F, hb⟩ := hC.ex
  refine wpAny_Call_Name_kw (thn (pe_var hN hv hd hcd pins s σ H (fun v H' => v = .ref f ∧ H' = H) I ⟨_, ei, rfl, rfl⟩) fun u s0 ⟨v, H0, I0, rv, hvf, hH0⟩ => ?_)
  subst hvf hH0
  obtain rfl : u = Value.ref f := rv
  have hin : ∀ {pins' σ' H' s'}, Inv X pins' σ' H' s' → PySem.W.Frag.In [(f, o)] s'.heap := fun {pins' σ' H' s'} J a u z => by
    rw [List.lookup_cons] at z
    split at z
    · rename_i hb
      cases z
      rw [eq_of_beq hb]
      exact J.bk _ _ ef
    · cases z
  have hkp : PySem.W.keepIn [(f, o)] (.ref f) = true := by
    obtain ⟨oc, od, odt, osl⟩ := o
    have : odt = .func fd := ed
    subst this
    have z : List.lookup f [(f, ({ cls := oc, dict := od, data := .func fd, slots := osl } : Obj))] = some { cls := oc, dict := od, data := .func fd, slots := osl } := by rw [List.lookup_cons, beq_self_eq_true]
    unfold PySem.W.keepIn
    dsimp only
    rw [z]
  refine PySem.W.callWith_K (h₀ := s0.heap) (hin I0) hkp (thn (ha pos pins s0 σ H0 _ I0 ht) fun us s1 ⟨vs, H1, I1, r, q⟩ => ⟨hin I1, ?_⟩) he hpl
  have hl : us.length = ps.length := by rw [← r.length]; exact F.len _ _ _ _ q
  refine wpAny_call (codeAny_mono (F.run X.A X.stack s1 H1 ⟨us, []⟩ us vs Q E0 hr I1.env0 (hb s1 us hl) r q) fun r s' hq => ?_)
  cases r with
  | error e => exact False.elim hq
  | ok fl =>
    cases fl with
    | ret u => exact I1.after hq
    | next => exact False.elim hq
    | brk => exact False.elim hq
    | cont => exact False.elim hq
end
end L2
namespace L2
open PySem PySem.Spec PyProof.Rows
structure CodK (K : PySem.W.Frag) (fd : FuncData) (c Pt : Addr) : Prop where
  code : fd.code = .ref c
  hd : PySem.W.codeHdIn K c Pt = true
theorem Fun.okC {P : Program} {w : World} {K : PySem.W.Frag} {mg : Str → Option Value} {base : Heap} {x qual : Str} {st : Stmt} {f c Pt : Addr} {fd : FuncData} {N ps : List Str} {k : Nat} {sp : Sp} (F : Fun K x qual st f fd) (hc : CodK K fd c Pt) (S : FnScope N ps (defScope st)) (len : ∀ vs H Q E, sp vs H Q E → vs.length = ps.length)
    (hbody : ∀ (A : Around) (outer : List Env) (s : Shared) (H : Hp) (vs : List V) (Q : VK) (E : XK), Room k (A.deeper (envOfC qual (defScope st) s.heap.objs.size f (.ref c))) → sp vs H Q E →
      ∃ t, PSs (cxOf CX0 P w K mg base N qual (defScope st) f (.ref c) A outer s H E).nox (defBody st) t ∧ t { nx := fun _ H' => Q .non H', rt := Q } (start N vs) H) : FnOk P w K mg base CX0 (k + 1) f fd ps sp := by
  obtain ⟨oc, od, kV, doc, pm, an, cdv, ct, osl, rfl, lk, hcd⟩ := F.ex
  obtain rfl : cdv = .ref c := hc.code
  refine fn_of lk hcd S len fun A outer s H vs Q E hr hsp => ?_
  obtain ⟨t, h, q⟩ := hbody A outer s H vs Q E hr hsp
  exact ⟨t, h.nox, q⟩
theorem mem_lookA {β : Type} {b : Addr} {p : β} : ∀ {l : List (Addr × β)}, l.lookup b = some p → (b, p) ∈ l
  | [], h => by cases h
  | (d, x) :: r, h => by
    rw [List.lookup_cons] at h
    cases hb : b == d with
    | true => rw [hb] at h; cases h; rw [eq_of_beq hb]; exact .head _
    | false => rw [hb] at h; exact .tail _ (mem_lookA h)
theorem law_callT {P : Program} {w : World} {K : PySem.W.Frag} {mg mb : Str → Option Value} {k : Nat} {fa a : Addr} {fd : FuncData} {x : Str} {sp : Sp} {s₁ : Shared} {vs : List Value} {ns : List Int} {tabs : List (Addr × Pos × Str)}
    (KX : K.In s₁.heap) (hns : s₁.heap.Ns mainGlobals mg) (hb : s₁.heap.Ns builtinsNs mb) (hbb : ∀ x : Str, x ≠ "__name__" → mb x = bootBuiltins x) (hlim : s₁.heap.NoLimit) (hbm : ∃ bm o, mg "__builtins__" = some (.ref bm) ∧ bm ≠ builtinsNs ∧ s₁.heap.get? bm = some o ∧ o.cls = .type "module" ∧ o.dict = some builtinsNs ∧ o.data = .plain) (hg : s₁.gens = #[])
    (ha : s₁.heap.get? a = some { cls := .type "list", data := .seq vs.toArray }) (hi : IntsAre vs ns) (hl : ns.length ≤ sizeLine) (hr : Room k callerA)
    (hT : ∀ t ∈ tabs, s₁.heap.get? t.1 = some { cls := .none, data := .fields #[] } ∧ K.lookup t.1 = none ∧ ∃ c, PySem.W.codeHdIn K c t.1 = true) (hnd : (tabs.map (·.1)).Nodup)
    (F : ∀ base : Heap, K.In base → base.Ns mainGlobals mg → FnOk P w K mg base CX0 k fa fd [x] sp) (hbind : ∀ (s : Shared) (u : Value), BindsTo s fd ⟨[u], []⟩ [(x, u)])
    (hsp : ∀ H : Hp, (∀ t ∈ tabs, H t.1 = some (.ctb t.2.1 t.2.2)) → SqL K H a (ns.map V.int) → sp [.ref a] H (fun v H' => v = .bl true ∧ Same H H') fun _ _ _ => False) :
    codeAny (model P w) callerA (.call (.ref fa) ⟨[.ref a], []⟩) (fun r s' => r = .ok (.ret (.bool true)) ∧ OldK s₁.heap s'.heap ∧ s'.os = s₁.os ∧ AllBare s'.gens) s₁ := by
  have rv := vals_ints hi
  have lenV := hi.length
  have core : ∀ H : Hp, SqL K H a (ns.map V.int) → HOk P w H s₁.heap → (∀ t ∈ tabs, H t.1 = some (.ctb t.2.1 t.2.2)) → (∀ b u, H b = some u → (b = a ∧ K.lookup a = none ∧ ∃ o xs, u = .frz o (.lst xs)) ∨ ∃ t ∈ tabs, b = t.1 ∧ u = .ctb t.2.1 t.2.2) →
      codeAny (model P w) callerA (.call (.ref fa) ⟨[.ref a], []⟩) (fun r s' => r = .ok (.ret (.bool true)) ∧ OldK s₁.heap s'.heap ∧ s'.os = s₁.os ∧ AllBare s'.gens) s₁ := by
    intro H hS hok hTH hA
    have base_of : ∀ {b : Addr} {o : Obj}, s₁.heap.get? b = some o → H b = none → (hidT s₁.heap H).get? b = some o := fun e n => hidT_get e n
    have noA : ∀ {b : Addr} {o : Obj} {es : Array DictEntry} {ep : Nat}, s₁.heap.get? b = some o → o.data = .dict es ep → H b = none := fun {b o es ep} e d => by
      cases q : H b with
      | none => rfl
      | some u =>
        rcases hA b u q with ⟨e', _⟩ | ⟨t, ht, e', _⟩
        · subst e'
          rw [ha] at e; cases e
          have d' : Data.seq vs.toArray _ = Data.dict es ep := d
          cases d'
        · rw [e', (hT t ht).1] at e; cases e
          have d' : Data.fields _ = Data.dict es ep := d
          cases d'
    have nsK : ∀ {b : Addr} {m : Str → Option Value}, s₁.heap.Ns b m → (hidT s₁.heap H).Ns b m := fun {b m} ⟨o, es, ep, e, d, r⟩ => ⟨o, es, ep, base_of e (noA e d), d, r⟩
    have hKb : K.In (hidT s₁.heap H) := fun b o e => base_of (KX b o e) (by
      cases q : H b with
      | none => rfl
      | some u =>
        rcases hA b u q with ⟨e', hn, _⟩ | ⟨t, ht, e', _⟩
        · rw [e', hn] at e; cases e
        · rw [e', (hT t ht).2.1] at e; cases e)
    have hbm' : ∃ bm o, mg "__builtins__" = some (.ref bm) ∧ bm ≠ builtinsNs ∧ (hidT s₁.heap H).get? bm = some o ∧ o.cls = .type "module" ∧ o.dict = some builtinsNs ∧ o.data = .plain := by
      obtain ⟨bm, ob, b1, b2, b3, b4, b5, b6⟩ := hbm
      refine ⟨bm, ob, b1, b2, base_of b3 ?_, b4, b5, b6⟩
      cases q : H bm with
      | none => rfl
      | some u =>
        rcases hA bm u q with ⟨e', _⟩ | ⟨t, ht, e', _⟩
        · rw [e', ha] at b3
          cases b3
          exact absurd (show Value.type "list" = Value.type "module" from b4) (by decide)
        · rw [e', (hT t ht).1] at b3
          cases b3
          exact absurd (show Value.none = Value.type "module" from b4) (by decide)
    have hM : Mod K mg (hidT s₁.heap H) := ⟨hKb, nsK hns, ⟨mb, nsK hb, hbb⟩, (let ⟨mc, h1, h2⟩ := hlim; ⟨mc, nsK h1, h2⟩), hbm'⟩
    have e0 : Env0 P w K mg (hidT s₁.heap H) callerA [] s₁ H := ⟨rfl, hM, fun b o e => of_hidT e, Nat.le_of_eq (hidT_size _ _), trivial, fun b hb => absurd (show b ∈ ([] : List Addr) from hb) (by simp), hok, .of_eq hg⟩
    refine codeAny_mono ((F _ hKb (nsK hns)).run callerA [] s₁ H ⟨[.ref a], []⟩ [.ref a] [.ref a] _ _ hr e0 (hbind s₁ (.ref a)) (.cons rfl .nil) (hsp H hTH hS)) fun r s' h => ?_
    cases r with
    | error e => exact False.elim h
    | ok fl =>
      cases fl with
      | next => exact False.elim h
      | brk => exact False.elim h
      | cont => exact False.elim h
      | ret u =>
        obtain ⟨v, H', os, bare, un, hok', r', q, sm⟩ := h
        have q' : v = .bl true := q
        subst q'
        obtain rfl : u = Value.bool true := r'
        have key : ∀ b o, s₁.heap.get? b = some o → s'.heap.get? b = some o ∨ ∃ c ps, PySem.W.codeHdIn K c b = true ∧ o = { cls := .none, data := .fields #[] } ∧ s'.heap.get? b = some { cls := .none, data := .fields ps } := fun b o e => by
          cases q : H b with
          | none => exact .inl (un.keep b o e q (by intro z; exact absurd (show b ∈ ([] : List Addr) from z) (by simp)) (by simp))
          | some u =>
            rcases hA b u q with ⟨_, _, ob, xs, rfl⟩ | ⟨t, ht, e', rfl⟩
            · have z2 := un.frzs b ob _ q
              obtain ⟨e1, _⟩ := hok b _ q
              obtain ⟨e2, _⟩ := hok' b _ z2
              rw [e] at e1; cases e1
              exact .inl e2
            · obtain ⟨ps, z, _⟩ := hok' b _ (sm b _ q)
              obtain ⟨h1, _, c, hc⟩ := hT t ht
              rw [← e'] at h1 hc
              rw [e] at h1
              exact .inr ⟨c, ps, hc, Option.some.inj h1, z⟩
        refine ⟨rfl, ⟨fun b o e => ?_, fun b o e => ?_⟩, os, bare⟩
        · rcases key b o e with z | ⟨c, ps, hc, rfl, z⟩
          · exact .inl z
          · refine .inr (.inl ⟨?_, rfl, #[], ps, rfl, ?_⟩)
            · obtain ⟨oc, vs, _, _, _, _, _, _, _, f1, f2, f3, f4, _⟩ := PySem.W.codeHd_of_K KX hc
              exact ⟨c, oc, vs, f1, f2, f3, f4⟩
            · rw [z]; simp
        · rcases key b o e with z | ⟨c, ps, hc, rfl, z⟩
          · exact ⟨_, z⟩
          · exact ⟨_, z⟩
  have lkT : ∀ t ∈ tabs, tabs.lookup t.1 = some t.2 := by
    clear hT hsp core
    induction tabs with
    | nil => intro t h; cases h
    | cons q r ih =>
      intro t ht
      rw [List.lookup_cons]
      rcases List.mem_cons.mp ht with rfl | ht
      · rw [beq_self_eq_true]
      · have ne : t.1 ≠ q.1 := fun z => (List.nodup_cons.mp hnd).1 (List.mem_map.mpr ⟨t, ht, z⟩)
        rw [beq_eq_false_iff_ne.mpr ne]
        exact ih (List.nodup_cons.mp hnd).2 t ht
  have memT : ∀ {b : Addr} {p : Pos × Str}, tabs.lookup b = some p → (b, p) ∈ tabs := fun {b p} h => mem_lookA h
  have naT : ∀ t ∈ tabs, t.1 ≠ a := fun t ht z => by
    have := (hT t ht).1
    rw [z, ha] at this
    cases this
  have okT : ∀ (H : Hp) (t : Addr × Pos × Str), t ∈ tabs → ObjOk P w H s₁.heap t.1 (.ctb t.2.1 t.2.2) := fun H t ht => ⟨#[], (hT t ht).1, trivial, .inl rfl⟩
  cases hk : K.lookup a with
  | some o =>
    have e := KX a o hk
    rw [ha] at e
    cases e
    refine core (fun b => (tabs.lookup b).map fun p => .ctb p.1 p.2) (.inr ⟨_, vs.toArray, _, hk, rfl, rfl, rfl, by rw [List.size_toArray, lenV]; exact hl, by simpa using rv⟩) (fun b u z => ?_) (fun t ht => ?_) fun b u z => ?_
    · obtain ⟨p, hp, rfl⟩ := Option.map_eq_some_iff.mp z
      exact okT _ _ (memT hp)
    · show (tabs.lookup t.1).map _ = _
      rw [lkT t ht]; rfl
    · obtain ⟨p, hp, rfl⟩ := Option.map_eq_some_iff.mp z
      exact .inr ⟨_, memT hp, rfl, rfl⟩
  | none =>
    refine core (fun b => if b = a then some (.frz { cls := .type "list", data := .seq vs.toArray } (.lst (ns.map V.int))) else (tabs.lookup b).map fun p => .ctb p.1 p.2) (.inl (.inr ⟨{ cls := .type "list", data := .seq vs.toArray }, if_pos rfl⟩)) (fun b u z => ?_) (fun t ht => ?_) fun b u z => ?_
    · by_cases hb : b = a
      · have z' := (if_pos hb).symm.trans z
        cases z'
        subst hb
        exact ⟨ha, by rw [List.length_map]; exact hl, vs, _, rv, ha⟩
      · have z' := (if_neg hb).symm.trans z
        obtain ⟨p, hp, rfl⟩ := Option.map_eq_some_iff.mp z'
        exact okT _ _ (memT hp)
    · show (if t.1 = a then _ else (tabs.lookup t.1).map _) = _
      rw [if_neg (naT t ht), lkT t ht]; rfl
    · by_cases hb : b = a
      · have z' := (if_pos hb).symm.trans z
        cases z'
        exact .inl ⟨hb, hk, _, _, rfl⟩
      · have z' := (if_neg hb).symm.trans z
        obtain ⟨p, hp, rfl⟩ := Option.map_eq_some_iff.mp z'
        exact .inr ⟨_, memT hp, rfl, rfl⟩
theorem walk_ofT {l : PySem.W.OpenLaw} {n k : Nat} {q : Program} {loose : List Str} {XP : (Str → Option Value) → Heap → Prop} {YP : World → Heap → Prop} {d : DefRec} {K : Params → PySem.W.Frag} {sp : World → Sp} {x : Str} {tabs : List (Addr × Pos × Str)}
    (hn : l.most = some n) (hn2 : n ≤ sizeLine) (hdf : d.params.defaults = []) (hr : Room k callerA) (hnd : (tabs.map (·.1)).Nodup)
    (hY : ∀ (w : World) (h : Heap), YP w h → (K w.params).In h ∧ ∀ t ∈ tabs, h.get? t.1 = some { cls := .none, data := .fields #[] })
    (hK : ∀ (w : World), ∀ t ∈ tabs, (K w.params).lookup t.1 = none)
    (F : ∀ (w : World) (mg : Str → Option Value) (fa : Addr) (h : Heap), (K w.params).In h → h.Ns mainGlobals mg → mg d.name = some (.ref fa) → (∀ t ∈ tabs, ∃ c, PySem.W.codeHdIn (K w.params) c t.1 = true) ∧
      ∃ fd : FuncData, (∀ (s : Shared) (u : Value), BindsTo s fd ⟨[u], []⟩ [(x, u)]) ∧
        ∀ base : Heap, (K w.params).In base → base.Ns mainGlobals mg → FnOk l.prog w (K w.params) mg base CX0 k fa fd [x] (sp w))
    (hsp : ∀ (w : World) (H : Hp) (a : Addr) (ns : List Int), ns.length ≤ n → (∀ t ∈ tabs, H t.1 = some (.ctb t.2.1 t.2.2)) → SqL (K w.params) H a (ns.map V.int) → sp w [.ref a] H (fun v H' => v = .bl true ∧ Same H H') fun _ _ _ => False) :
    PySem.W.WalkO q loose XP YP l.row.toRowW d [] (fun f vs => PySem.call f vs) := by
  refine Att.attach_call hn hdf fun w s₀ s₁ mg mb fa o pm cd doc a vs ns G Y ho hd hcd hmg hobj hints hlen hg => ?_
  obtain ⟨KX, hT⟩ := hY w _ Y
  obtain ⟨hcd', fd, hb, hF⟩ := F w mg fa _ KX G.T.g hmg
  exact law_callT KX G.T.g G.T.b G.T.builtins G.T.nolimit G.T.bmain hg hobj hints (Nat.le_trans hlen hn2) hr (fun t ht => ⟨hT t ht, hK w t ht, hcd' t ht⟩) hnd hF hb (fun H hO hS => hsp w H a ns hlen hO hS)
section
variable {X : Cx} {σ : St} {H : Hp} {Q : VK}
theorem rd_callL {Pt : Addr} {lpos : Pos} {q : Str} {sp : (Addr → Sp → Prop) → Sp} {n : Nat} {tl : TE} {idx : List Nat} {t : TA} (h : t σ H fun vs H1 => H1 Pt = some (.ctb lpos q) ∧
    ∀ (f c' : Addr) (H2 : Hp) (C : Addr → Sp → Prop), Same H1 H2 → H2 c' = some (.cod q) → C f (lamSp c' q n tl (idx.map fun j => (σ[j]?).join)) → sp C (vs ++ [.ref f]) H2 Q E0) : tCallL Pt lpos q sp n tl idx t σ H Q := h
theorem rd_callV {C : Addr → Sp → Prop} {i : Nat} {t : TA} {f : Addr} {sp : Sp} (e : σ[i]? = some (some (.ref f))) (hC : C f sp) (h : t σ H fun vs H1 => sp vs H1 Q E0) : tCallV C i t σ H Q := ⟨f, sp, e, hC, h⟩
end
end L2
namespace L2.Z
open PySem PySem.Spec PyProof.Rows L2
section
variable {X : Cx} {c Pt : Addr} {q : Str} {params : Arguments} {body : Expr} {scope : Scope} {pos lpos : Pos} {cl : List (Str × Addr)}
structure QAL (X : Cx) (es : List Expr) (params : Arguments) (body : Expr) (scope : Scope) (lpos : Pos) (Pt : Addr) (q : Str) (cl : List (Str × Addr)) (t : TA) : Prop where
  h : PAL X es params body scope lpos Pt q cl t
theorem pe_palL (hcode : X.env.code = .ref c) (hC : PySem.W.codeHdIn X.K c Pt = true) (hq : X.env.qual ++ "<lambda>" = q) (hdef : defaultsOf params X.env = ([], [])) {N : List Str} {n : Nat} {idx : List Nat} (S : BlkScope X scope N n idx) :
    QAL X [.Lambda params body scope lpos] params body scope lpos Pt q (clos X.env scope.names []) tNil := ⟨pal_last hcode hC hq hdef S⟩
theorem pe_palC {e : Expr} {es : List Expr} {te : TE} {t : TA} (ha : QE X e te) (hr : QAL X es params body scope lpos Pt q cl t) (hn : noStar e = true := by rfl) : QAL X (e :: es) params body scope lpos Pt q cl (tCons te t) :=
  ⟨pal_cons ha.h hr.h (star_cons hn)⟩
theorem pe_callL {f : Addr} {fd : FuncData} {ps psL N : List Str} {idx : List Nat} {sp : (Addr → Sp → Prop) → Sp} {k kc : Nat} {x : Str} {p : Pos} {e : Expr} {es : List Expr} {t : TA} {tl : TE}
    (F : ∀ base' : Heap, FnOk X.prog X.w X.K X.mg base' CX0 k f fd ps (sp (Clo X.prog X.w X.K X.mg base' (kc + 1)))) (hr : Room k X.A) (hg : Gl X x) (hm : X.mg x = some (.ref f)) (hk : PySem.W.keepIn X.K (.ref f) = true) (hb : Binds X.K fd ps [])
    (hfn : ∀ y, X.fn y = true) (S : BlkScope X scope N psL.length idx) (hpre : N.take psL.length = psL) (hpar : psL.all (fun x => scope.names.lookup x == some .local) = true) (hco : scope.isCoroutine = false) (hgen : scope.isGenerator = false)
    (hbind : ∀ (cl : List (Str × Addr)) (pm cd ct : Value) (us : List Value), us.length = psL.length → bindArgs (lamFn q params body scope cl pm cd ct) ⟨us, []⟩ = pure (psL.zip us))
    (ha : QAL X (e :: es) params body scope lpos Pt q (clos X.env scope.names []) t)
    (hbody : ∀ (base' : Heap) (f' c' : Addr) (cl : List (Str × Addr)) (A : Around) (outer : List Env) (s : Shared) (H : Hp), Room kc (A.deeper (lamEnv q scope s.heap.objs.size f' (.ref c') cl)) → (A.deeper (lamEnv q scope s.heap.objs.size f' (.ref c') cl)).units + 9 < cLine → QE (cxL X.prog X.w X.K X.mg base' N q scope f' (.ref c') cl A outer s H) body tl)
    (hn : (e :: es).all noStar = true := by rfl) (hdb : (x == ("__debug__" : Str)) = false := by decide) :
    QE X (.Call (.Name x p) (e :: es) [] pos) (tCallL Pt lpos q sp psL.length tl idx t) :=
  ⟨L2.pe_callL F hr hg hm hk hb hfn S hpre hpar hco hgen hbind ha.h (fun base' f' c' cl A outer s H hr' => (hbody base' f' c' cl A outer s H hr' (hu9 hr')).h) hdb (star_cons (all_tl hn).1) (back_any (all_tl hn).2)⟩
theorem pe_callV {i k : Nat} {x : Str} {p : Pos} {e : Expr} {es : List Expr} {t : TA} (hr : Room k X.A) (ha : QA X (e :: es) t) (hN : X.N[i]? = some x := by rfl) (hv : Vis X.env.scope x := by first | exact Or.inl rfl | exact Or.inr (Or.inl rfl) | exact Or.inr (Or.inr rfl))
    (hn : (e :: es).all noStar = true := by rfl) (hd : (x == ("__debug__" : Str)) = false := by decide) (hcd : (x == ("__classdict__" : Str)) = false := by decide) :
    QE X (.Call (.Name x p) (e :: es) [] pos) (tCallV (Clo X.prog X.w X.K X.mg X.base k) i t) := ⟨L2.pe_callV hN hv hr ha.h hd hcd (star_cons (all_tl hn).1) (back_any (all_tl hn).2)⟩
end
end L2.Z
namespace PySem
set_option maxRecDepth 100000
namespace F
theorem lri_no_len : typeLookup (.type "list_reverseiterator") "__len__" = pure none := by rw [typeLookup_type, builtinLookup_eq_fast]; kernel_rfl
theorem lri_hint : typeLookup (.type "list_reverseiterator") "__length_hint__" = pure (some (.builtin "list_reverseiterator.__length_hint__")) := by rw [typeLookup_type, builtinLookup_eq_fast]; kernel_rfl
end F
section
variable {prog : Program} {w : World} {A : Around} {E : Value → Shared → Prop} {s : Shared}
theorem wpAny_hint_rev {it l : Addr} {i : Int} {Q : Bool → Shared → Prop} (hit : s.heap.IsRevIter it l i) (h : Q false s) : wpAny (model prog w) A (Builtin.List.listLengthHint (.ref it)) Q E s := by
  unfold Builtin.List.listLengthHint; refine wpAny_bind (wpAny_specialOf hit.typeIs F.lri_no_len ?_)
  show wpAny _ A (specialOf (Value.ref it) (Str.ofString "__length_hint__") >>= _) _ _ _
  refine wpAny_bind (wpAny_specialOf hit.typeIs F.lri_hint ?_)
  generalize hid : ("list_reverseiterator.__length_hint__" : String) = id0
  wp_delta
  rw [show splitId id0 = some ("list_reverseiterator", "__length_hint__") from by subst hid; decide +kernel]
  subst hid
  refine wpAny_bind (wpAny_isInstance (T := "list_reverseiterator") (b := true) hit.typeIs (by rw [isSubtype_type]; kernel_rfl) ?_)
  exact wpAny_ite_split (fun z => absurd z (by decide)) fun _ => wpAny_ite_split (fun _ => wpAny_ite_split (fun z => absurd z (by decide +kernel)) fun _ => wpAny_pure h) fun z => absurd (by decide +kernel) z
end
end PySem
namespace PySem
section
variable {prog : Program} {w : World} {A : Around} {E : Value → Shared → Prop} {s : Shared}
theorem wpAny_extend_rev {R : Result → Shared → Prop} {it l : Addr} {items : Array Value} (hh : A.handled = none) (hit : s.heap.IsRevIter it l ((items.size : Int) - 1)) (hl : s.heap.IsList l items) (hne : l ≠ it)
    (hlen : items.size ≤ sizeLine) (S : Addr) (res : Value) (c₀ : Nat) (hS : s.heap.get? S = some { cls := .type "list", data := .seq #[] c₀ }) (hSl : S ≠ l) (hSI : S ≠ it)
    (hR : ∀ h' tk acc' c', (∀ b o, b ≠ S → b ≠ it → s.heap.get? b = some o → h'.get? b = some o) → h'.get? S = some { cls := .type "list", dict := none, data := .seq acc' c', slots := #[] } →
      ItemsOf (fun i v => items[items.size - 1 - i]? = some v) acc' items.size → R (.ok (.ret res)) { s with heap := h', toks := tk }) :
    wpAny (model prog w) A.in1 (Builtin.List.listExtendWith (.ref S) (.ref it) res) (fun fin s' => match fin with | .done f => R (.ok f) s' | .again k => k.quiet = true ∧ codeAny (model prog w) A k R s') (fun e s' => R (.error e) s') s := by
  have hSf : S ∉ [it, l] := by simp [hSI, hSl]
  have W := (Walks.listRev (prog := prog) (w := w) (A := A.in1) hh it l hne items).toS
  unfold Builtin.List.listExtendWith; refine wpAny_bind (wpAny_typeOf (T := "list_reverseiterator") hit.typeIs ?_)
  have h1 : Builtin.List.listSameRef (.ref S) (.ref it) = false := by simp [Builtin.List.listSameRef, hSI]
  have h2 : (Value.type "list_reverseiterator" == Value.type "list") = false := by decide
  have h3 : (Value.type "list_reverseiterator" == Value.type "tuple") = false := by decide
  simp only [h1, h2, h3, Bool.false_eq_true, Bool.or_false, if_false]
  refine wpAny_bind (wpAny_pyIter_revIter hit (wpAny_bind (wpAny_holding (wpAny_hint_rev hit ?_))))
  refine wpAny_ite_split (fun z => by cases z) (fun _ => wpAny_pure ⟨plainId_quiet F.plain_extend_loop _, ?_⟩)
  refine codeAny_extend_loopS W hlen S hSf res items.size 0 _ #[] c₀ rfl (Nat.zero_le _) ⟨Nat.zero_le _, ?_, hl⟩ hS (ItemsOf.nil _) fun s' acc' c' hm hS' hacc => ?_
  · rw [show (items.size : Int) - 1 - ((0 : Nat) : Int) = (items.size : Int) - 1 by omega]
    exact hit
  · rw [Moved.eq_with hm]
    exact hR s'.heap s'.toks acc' c' (fun b o hb hi e => hm.heap b o (by simp [hb, hi]) e) hS' hacc
theorem call_list_rev {Q : Value → Shared → Prop} {it l : Addr} {items : Array Value} (hh : A.handled = none) (hit : s.heap.IsRevIter it l ((items.size : Int) - 1)) (hl : s.heap.IsList l items) (hne : l ≠ it) (hlen : items.size ≤ sizeLine)
    (hQ : ∀ h' tk acc' c', (∀ b o, b ≠ it → s.heap.get? b = some o → h'.get? b = some o) →
      h'.get? s.heap.objs.size = some { cls := .type "list", dict := none, data := .seq acc' c', slots := #[] } → ItemsOf (fun i v => items[items.size - 1 - i]? = some v) acc' items.size → Q (.ref s.heap.objs.size) { s with heap := h', toks := tk }) :
    wpAny (model prog w) A (call (.type "list") [.ref it]) Q E s := by
  have lit : it < s.heap.objs.size := let ⟨_, e, _⟩ := hit; Heap.lt_size e
  have ll : l < s.heap.objs.size := let ⟨_, e, _⟩ := hl; Heap.lt_size e
  have hS : (s.heap.push { cls := .type "list", data := .seq #[] }).get? s.heap.objs.size = some { cls := .type "list", data := .seq #[] } := by exact Heap.get?_push_size _ rfl
  have hS₂ := Heap.get?_update_self (Obj.mapSeq fun _ => (#[] : Array Value)) hS rfl
  have old : ∀ b o, s.heap.get? b = some o → ((s.heap.push { cls := .type "list", data := .seq #[] }).update s.heap.objs.size (Obj.mapSeq fun _ => (#[] : Array Value))).get? b = some o :=
    fun b o e => (Heap.get?_update_other _ _ (Nat.ne_of_gt (Heap.lt_size e))).trans (Heap.get?_push_of_some _ e)
  refine callType_codes (Q₁ := fun x t => x = .ref s.heap.objs.size ∧ t = { s with heap := s.heap.push { cls := .type "list", data := .seq #[] } }) F.called_list (F.typeCall_list_1 _) F.entry_list_init (code_list_new _ ⟨rfl, rfl⟩) ?_
  rintro x t ⟨rfl, rfl⟩
  refine ⟨⟨_, hS, rfl⟩, F.args_list_init_2 _ _, ?_⟩
  show wpAny _ _ (Builtin.List.listItems (.ref s.heap.objs.size) >>= fun old => Builtin.List.listUpdate (.ref s.heap.objs.size) (fun _ => #[]) >>= fun _ => letGo old.toList.reverse >>= fun _ => Builtin.List.listExtendWith (.ref s.heap.objs.size) (.ref it) .none) _ _ _
  refine wpAny_bind (wpAny_listItems hS rfl ?_)
  show wpAny _ _ (updateSeq s.heap.objs.size (fun _ => #[]) >>= fun _ => letGo (#[] : Array Value).toList.reverse >>= fun _ => Builtin.List.listExtendWith (.ref s.heap.objs.size) (.ref it) .none) _ _ _
  refine wpAny_bind (wpAny_updateSeq hS rfl (wpAny_bind (wpAny_letGo (wpAny_extend_rev (A := A.in1) hh (hit.at fun o e => old _ _ e) (hl.at fun o e => old _ _ e) hne hlen s.heap.objs.size .none _ hS₂ (Nat.ne_of_gt ll) (Nat.ne_of_gt lit) fun h' tk acc' c' hk hS' hacc => ?_))))
  exact ⟨rfl, hQ h' tk acc' c' (fun b o hb e => hk b o (Nat.ne_of_lt (Heap.lt_size e)) hb (old b o e)) hS' hacc⟩
end
end PySem
namespace L2
open PySem PySem.Spec PyProof.Rows
section
variable {X : Cx}
def tListRev (t : TA) : TE := fun σ H Q => t σ H fun vs H1 => ∃ l xs, vs = [.ref l] ∧ H1 l = some (.lst xs) ∧ ∀ q, H1 q = none → Q (.ref q) (upd H1 q (.lst xs.reverse))
theorem vals_rev {xs : List V} {us : List Value} (r : Vals xs us) : Vals xs.reverse us.reverse := by
  induction r with
  | nil => exact .nil
  | cons h t ih =>
    simp only [List.reverse_cons]
    exact ih.append (.cons h .nil)
theorem pe_listRev {e : Expr} {t : TA} {p1 p2 pos1 pos2 : Pos} (hc : X.calm = true) (hg1 : Gl X "list") (hm1 : X.mg "list" = none) (hg2 : Gl X "reversed") (hm2 : X.mg "reversed" = none) (he : PA X [e] t) (hn : noStar e = true := by rfl) :
    PE X (.Call (.Name "list" p1) [.Call (.Name "reversed" p2) [e] [] pos2] [] pos1) (tListRev t) := by
  intro pins s σ H Q I h
  refine Call_ (ld_blt I hg1 hm1 bt_list (PyProof.Rows.callWith_type1 (Calls.spliced_cons ?_) rfl rfl))
  refine Call_ (ld_blt I hg2 hm2 boot_reversed (PyProof.Rows.callWith_type1 (thn (he pos2 pins s σ H _ I h) fun us s1 ⟨vs, H1, I1, r1, l, xs, ex, hl, q⟩ => ?_) (star_cons hn) rfl))
  subst ex
  obtain ⟨u, rfl, ru⟩ := vals1 r1
  obtain rfl : u = Value.ref l := ru
  obtain ⟨hz, its, n, rv, eo⟩ := I1.hok l _ hl
  have hlist : s1.heap.IsList l its.toArray := ⟨_, eo, rfl, n, rfl⟩
  refine call_reversed_list hlist (Calls.spliced_nil ?_)
  have hll : l < s1.heap.objs.size := Heap.lt_size eo
  refine call_list_rev (it := s1.heap.objs.size) (l := l) (items := its.toArray) (I.ok.hd hc) ⟨_, Heap.get?_push_size _ rfl, rfl, rfl⟩ ⟨_, Heap.get?_push_of_some _ eo, rfl, n, rfl⟩ (Nat.ne_of_lt hll) (by rw [List.size_toArray, ← rv.length]; exact hz) fun h' tk acc' c' hk hS ha => ?_
  have eacc : acc'.toList = its.reverse := by
    obtain ⟨h1, h2⟩ := ha
    refine List.ext_getElem? fun i => ?_
    by_cases hi : i < acc'.size
    · have e1 : acc'[i]? = some acc'[i] := Array.getElem?_eq_getElem hi
      have e2 := h2 i _ e1
      rw [Array.getElem?_toList, e1, List.getElem?_reverse (by rw [h1, List.size_toArray] at hi; exact hi)]
      rw [← e2, List.size_toArray, List.getElem?_toArray]
    · rw [List.getElem?_eq_none (by rw [Array.length_toList]; omega), List.getElem?_eq_none (by rw [List.length_reverse]; rw [h1, List.size_toArray] at hi; omega)]
  have hv : Vals xs.reverse acc'.toList := by rw [eacc]; exact vals_rev rv
  have sz : s1.heap.objs.size ≤ (s1.heap.push (revObj l ((its.toArray.size : Int) - 1))).objs.size := by rw [Heap.size_push]; omega
  exact ⟨.ref _, _, I1.laid (t' := tk) (o := .lst xs.reverse) (fun b u e => hk b u (Nat.ne_of_lt (Heap.lt_size e)) (Heap.get?_push_of_some _ e)) sz ⟨by rw [List.length_reverse]; exact hz, acc'.toList, c', hv, hS⟩, rfl, q _ (I1.hok.fresh sz)⟩
end
end L2
namespace L2
open PySem PySem.Spec PyProof.Rows
section
variable {X : Cx}
def rMinL (K : PySem.W.Frag) : List V → Hp → VK → Prop := fun vs H Q => ∃ (p : Addr) (ns : List Int), vs = [.ref p] ∧ SqL K H p (ns.map V.int) ∧ ns ≠ [] ∧ ∀ m, m ∈ ns → (∀ x ∈ ns, m ≤ x) → Q (.int m) H
theorem call_minL (hc : X.calm = true) : CallR X (.builtin "min") (rMinL X.K) := by
  intro pins s σ H vs us Q I r h
  obtain ⟨p, ns, rfl, hq, hne, q⟩ := h
  obtain ⟨u, rfl, rx⟩ := vals1 r
  cases rx
  obtain ⟨its, r', pl, hz⟩ := I.list hq
  have hi := intsAre_of r'
  obtain ⟨xs, hx⟩ := hi.allInts.items
  have e1 : ns = xs.toList.map (·.1) := by rw [← nums_intItems, ← hx]; exact (show numsOf its.toArray.toList = ns from hi.numsOf).symm
  have hsz : 0 < xs.size := by
    have z := List.length_pos_iff.mpr hne
    rw [e1, List.length_map, Array.length_toList] at z
    exact z
  refine min_intList (I.ok.hd hc) (hx ▸ pl.isList : s.heap.IsList p (intItems xs)) hsz fun v h' tk hv hk => ?_
  obtain ⟨t, rfl⟩ := intItems_at hv
  obtain ⟨h1, h2⟩ := argBest_lt (numAt xs) (xs.size - 1)
  refine ⟨.int _, H, I.kept (t' := tk) hk, ⟨t, rfl⟩, q _ ?_ fun x hx' => ?_⟩
  · rw [e1, numAt_eq]; exact getD_mem (by rw [List.length_map, Array.length_toList]; omega)
  · rw [e1] at hx'
    obtain ⟨j, hj, rfl⟩ := mem_getD hx'
    rw [List.length_map, Array.length_toList] at hj
    rw [← numAt_eq]; exact h2 j (by omega)
theorem rd_minL {K : PySem.W.Frag} {H : Hp} {Q : VK} {p : Addr} {ns : List Int} (h1 : SqL K H p (ns.map V.int)) (hne : ns ≠ []) (h : ∀ m, m ∈ ns → (∀ x ∈ ns, m ≤ x) → Q (.int m) H) : rMinL K [.ref p] H Q := ⟨p, ns, rfl, h1, hne, h⟩
def tDNewG : TE := fun _ H Q => (∀ p, H p = none → Q (.ref p) (upd H p (.dK []))) ∨ ∀ p, H p = none → Q (.ref p) (upd H p (.dT []))
theorem pe_dnewG {pos : Pos} : PE X (.Dict [] [] pos) tDNewG := by
  intro pins s σ H Q I h
  rcases h with h | h
  · exact pe_dnewK pins s σ H Q I h
  · exact pe_dnewT pins s σ H Q I h
theorem rd_dnewK' {σ : St} {H : Hp} {Q : VK} (h : ∀ p, H p = none → Q (.ref p) (upd H p (.dK []))) : tDNewG σ H Q := .inl h
theorem rd_dnewT' {σ : St} {H : Hp} {Q : VK} (h : ∀ p, H p = none → Q (.ref p) (upd H p (.dT []))) : tDNewG σ H Q := .inr h
def Itw (hi : Int) (n : Nat) : It := ⟨fun i _ => i < n, fun i H x H' => H' = H ∧ x = .int (hi - i), fun i _ => n ≤ i⟩
theorem turn_down {P : Program} {w : World} {K : PySem.W.Frag} {tg : Expr} (it : Addr) (hi : Int) (n : Nat) : Turn P w K tg (Itw hi n) [it] it (fun i h => IsRangeIter h it (hi + (i : Nat) * -1) ((n : Int) - (i : Nat)) (-1)) where
  mem := by simp
  obj := fun i h st b hb => by
    have e : b = it := by simpa using hb
    rw [e]
    exact ⟨_, st, fun v z => by
      have z' : Data.fields _ = Data.cell v := z
      cases z'⟩
  keep := fun i h h' st k => k it (by simp) _ st
  item := by
    intro X hP hw hK hc i pins s σ H E I hf st hg
    subst hP hw hK
    obtain ⟨f0, f1, f2, f3, f4, f5⟩ := hf it (by simp)
    refine (Walks.range (prog := X.prog) (w := X.w) (I.ok.hd hc) it hi (-1) n).item i s _ _ hg st fun v h' tk hv st' kk => ?_
    obtain ⟨t, rfl⟩ := hv
    refine ⟨_, rfl, go_of (s := { s with heap := h', toks := tk }) (n := "range_iterator") st' rfl rfl (by decide) ⟨.int (hi - i), H, I.turned (fun b o hb e => kk b o (by simpa using hb) e) f0 f1 f3 f4 f5, ⟨t, ?_⟩, ⟨rfl, rfl⟩, st', fun b hb => (hf b hb).1⟩⟩
    congr 1
    omega
  done := by
    intro X hP hw hK hc i pins s σ H E I hf st hg
    subst hP hw hK
    obtain ⟨f0, f1, f2, f3, f4, f5⟩ := hf it (by simp)
    exact wpAny_pyNext_range_end (I.ok.hd hc) st (by have : n ≤ i := hg; omega) fun h' eb => ⟨rfl, I.turned (t' := s.toks) (fun b o hb e => eb b o hb e) f0 f1 f3 f4 f5⟩
  self := fun _ _ _ _ _ st h => wpAny_pyIter_rangeiter st h
theorem size_down (a b : Int) : Builtin.Range.rangeSize a b (-1) = (((a - b).toNat : Nat) : Int) := by
  unfold Builtin.Range.rangeSize
  rw [if_neg (by decide)]
  split
  · rw [show -(-1 : Int) = 1 from rfl, Int.ediv_one]; omega
  · omega
theorem small_down {a b : Int} (h1 : -(2 ^ 62) ≤ a) (h2 : a < 2 ^ 62) (h3 : -(2 ^ 62) ≤ b) (h4 : b < 2 ^ 62) : Builtin.Range.small a b (-1) = true := by
  unfold Builtin.Range.small
  simp only [size_down, Builtin.Range.rangeFitsLong, Bool.and_eq_true, Bool.or_eq_true, decide_eq_true_eq, beq_iff_eq]
  rw [if_neg (by decide)]
  simp only [Bool.and_eq_true, decide_eq_true_eq]
  omega
def iRngD (ta : TA) : TI := fun σ H R => ta σ H fun vs H1 => ∃ i j : Int, vs = [.int i, .int j, .int (-1)] ∧ (-(2 ^ 62) ≤ i ∧ i < 2 ^ 62 ∧ -(2 ^ 62) ≤ j ∧ j < 2 ^ 62) ∧ R (Itw i (i - j).toNat) H1
theorem pi_rangeD {a b c : Expr} {ta : TA} {p pos : Pos} {tg : Expr} (hg : Gl X "range") (hm : X.mg "range" = none) (ha : PA X [a, b, c] ta) (hn : [a, b, c].all noStar = true := by rfl) : PI X tg (.Call (.Name "range" p) [a, b, c] [] pos) (iRngD ta) := by
  intro pins s σ H R I h
  refine Call_ (ld_blt I hg hm boot_range (PyProof.Rows.callWith_type1 (thn (ha pos pins s σ H _ I h) fun us s1 ⟨vs, H1, I1, r1, i, j, e, ⟨q1, q2, q3, q4⟩, q⟩ => ?_) (star_cons (all_tl hn).1) (back_any (all_tl hn).2)))
  subst e
  obtain ⟨u1, us1, rfl, ⟨t1, rfl⟩, r2⟩ : ∃ u us', us = u :: us' ∧ RelV (.int i) u ∧ Vals [.int j, .int (-1)] us' := by cases r1 with | cons h t => exact ⟨_, _, rfl, h, t⟩
  obtain ⟨u2, u3, rfl, ⟨t2, rfl⟩, ⟨t3, rfl⟩⟩ := vals2 r2
  refine call_range_3 (by decide) ?_ (.inl (PyProof.noPylong_small (by decide)))
  refine wpAny_pyIter_range (IsRange.new ..) (small_down q1 q2 q3 q4) ?_
  have I2 : Inv X pins σ H1 { s1 with heap := s1.heap.push { cls := .type "range", data := .fields #[.int i t1, .int j t2, .int (-1) t3] } } := I1.kept (t' := s1.toks) fun b o e => Heap.get?_push_of_some _ e
  refine ⟨_, [_], _, _, H1, rfl, I2.kept (t' := s1.toks) fun b o e => Heap.get?_push_of_some _ e, turn_down _ i (i - j).toNat, ?_, fun b hb => ?_, q⟩
  · show IsRangeIter _ _ (i + ((0 : Nat) : Int) * -1) ((((i - j).toNat : Nat) : Int) - ((0 : Nat) : Int)) (-1)
    rw [show i + ((0 : Nat) : Int) * -1 = i by omega, show (((i - j).toNat : Nat) : Int) - ((0 : Nat) : Int) = Builtin.Range.rangeSize i j (-1) by rw [size_down]; omega]
    exact Heap.get?_push_size _ rfl
  · have e : b = (s1.heap.push { cls := .type "range", data := .fields #[.int i t1, .int j t2, .int (-1) t3] }).objs.size := by simpa using hb
    subst e
    exact I2.fpOk (Nat.le_refl _) (I2.hok.fresh (Nat.le_refl _))
theorem rd_iRngD {ta : TA} {σ : St} {H : Hp} {R : It → Hp → Prop} (h : ta σ H fun vs H1 => ∃ i j : Int, vs = [.int i, .int j, .int (-1)] ∧ (-(2 ^ 62) ≤ i ∧ i < 2 ^ 62 ∧ -(2 ^ 62) ≤ j ∧ j < 2 ^ 62) ∧ R (Itw i (i - j).toNat) H1) : iRngD ta σ H R := h
theorem rf_down {hi : Int} {n : Nat} {σ : St} {H : Hp} {nx : St → Hp → Prop} {rt : VK} {g : TG} {tb : TS} (Pv : Nat → St → Hp → Prop) (h0 : Pv 0 σ H)
    (hs : ∀ i σ H, i < n → Pv i σ H → g (.int (hi - i)) σ H fun σ2 H2 => tb ⟨Pv (i + 1), rt, nx, Pv (i + 1)⟩ σ2 H2) (hd : ∀ σ H, Pv n σ H → nx σ H) :
    ∃ W : Nat → Nat → St → Hp → Prop, (∃ m, W 0 m σ H) ∧ ∀ i m σ H, W i m σ H →
      ((Itw hi n).stop i H ∧ nx σ H) ∨ ((Itw hi n).go i H ∧ ∃ N : St → Hp → Prop, (∀ σ' H', N σ' H' → ∃ m', m' < m ∧ W (i + 1) m' σ' H') ∧ ∀ x H', (Itw hi n).yld i H x H' → g x σ H' fun σ2 H2 => tb ⟨N, rt, nx, N⟩ σ2 H2) := by
  refine ⟨fun i m σ H => m = n - i ∧ i ≤ n ∧ Pv i σ H, ⟨n, by omega, Nat.zero_le _, h0⟩, ?_⟩
  rintro i m σ H ⟨rfl, hi', p⟩
  by_cases h : i < n
  · refine .inr ⟨h, Pv (i + 1), fun σ' H' p' => ⟨n - (i + 1), by omega, rfl, h, p'⟩, ?_⟩
    rintro x H' ⟨rfl, rfl⟩
    exact hs i σ H' h p
  · have e : i = n := by omega
    subst e
    exact .inl ⟨Nat.le_refl _, hd σ H p⟩
end
end L2
namespace L2.Z
open PySem PySem.Spec PyProof.Rows L2
section
variable {X : Cx} {tg : Expr}
theorem pe_listRev {e : Expr} {t : TA} {p1 p2 pos1 pos2 : Pos} (hc : X.calm = true) (hg1 : Gl X "list") (hm1 : X.mg "list" = none) (hg2 : Gl X "reversed") (hm2 : X.mg "reversed" = none) (he : QA X [e] t) (hn : noStar e = true := by rfl) :
    QE X (.Call (.Name "list" p1) [.Call (.Name "reversed" p2) [e] [] pos2] [] pos1) (tListRev t) := ⟨L2.pe_listRev hc hg1 hm1 hg2 hm2 he.h hn⟩
theorem pe_dnewG {pos : Pos} : QE X (.Dict [] [] pos) tDNewG := ⟨L2.pe_dnewG⟩
theorem pi_rangeD {a b c : Expr} {ta : TA} {p pos : Pos} (hg : Gl X "range") (hm : X.mg "range" = none) (ha : QA X [a, b, c] ta) (hn : [a, b, c].all noStar = true := by rfl) : QI X tg (.Call (.Name "range" p) [a, b, c] [] pos) (iRngD ta) := ⟨L2.pi_rangeD hg hm ha.h hn⟩
theorem pe_callW {P : Program} {w : World} {K : PySem.W.Frag} {mg : Str → Option Value} {base : Heap} {i k : Nat} {x : Str} {p pos : Pos} {e : Expr} {es : List Expr} {t : TA} (hr : Room k X.A) (ha : QA X (e :: es) t) (hP : X.prog = P := by rfl) (hw : X.w = w := by rfl) (hK : X.K = K := by rfl) (hg : X.mg = mg := by rfl) (hB : X.base = base := by rfl)
    (hN : X.N[i]? = some x := by rfl) (hv : Vis X.env.scope x := by first | exact Or.inl rfl | exact Or.inr (Or.inl rfl) | exact Or.inr (Or.inr rfl))
    (hn : (e :: es).all noStar = true := by rfl) (hd : (x == ("__debug__" : Str)) = false := by decide) (hcd : (x == ("__classdict__" : Str)) = false := by decide) :
    QE X (.Call (.Name x p) (e :: es) [] pos) (tCallV (Clo P w K mg base k) i t) := by
  subst hP hw hK hg hB
  exact pe_callV hr ha hN hv hn hd hcd
end
end L2.Z
namespace L2
open PySem
section
variable {σ : St} {H : Hp} {Q : VK}
theorem rd_listRev {t : TA} (h : t σ H fun vs H1 => ∃ l xs, vs = [.ref l] ∧ H1 l = some (.lst xs) ∧ ∀ q, H1 q = none → Q (.ref q) (upd H1 q (.lst xs.reverse))) : tListRev t σ H Q := h
end
end L2
namespace L2
open PySem PySem.Spec PySem.W PyProof.Rows
theorem walk_keys {prog : Program} {w : World} {A : Around} (hh : A.handled = none) (I d : Addr) (hne : d ≠ I) (es : Array DictEntry) (ep : Nat) :
    Walks prog w A I [I, d] [I] es.size (fun i v => ∃ e, es[i]? = some e ∧ v = e.key) (fun i h => It4 "dict_keyiterator" h I d i es.size ep ∧ Raw h d es ep) where
  sub := fun b hb => List.mem_cons.mpr (.inl (by simpa using hb))
  frame := fun _ _ _ st hk => ⟨st.1.keep fun o e => hk I (by simp) o e, st.2.keep fun o e => hk d (by simp) o e⟩
  item := fun i s Q E hi st hQ => by
    have hx : es[i]? = some es[i] := Array.getElem?_eq_getElem hi
    refine raw_nextKey st.1 st.2 hx fun h' a b => hQ es[i].key h' s.toks ⟨_, hx, rfl⟩ ⟨a, st.2.keep fun o e => b.extBut d o hne e⟩ fun b' o hb e => b.extBut b' o (fun z => hb (List.mem_singleton.mpr z)) e
  done := fun s Q E st hQ => raw_endKey hh st.1 st.2 (Nat.le_refl _) fun h' z => hQ h' s.toks fun b o hb e => z b o (fun y => hb (List.mem_singleton.mpr y)) e
  self := fun _ _ _ _ st hQ => wpAny_pyIter_keyiter st.1 hQ
theorem src_keysT {prog : Program} {w : World} {d : Addr} {es : Array DictEntry} {ep : Nat} (lo : (d == sysModules) = false) : KdlSrc prog w "dict" d d es.size (fun i v => ∃ e, es[i]? = some e ∧ v = e.key) (fun h => Raw h d es ep) where
  type := fun _ hm => hm.ty
  there := fun _ hm => let ⟨_, e, _⟩ := hm; ⟨Heap.lt_size e, Heap.lt_size e⟩
  keep := fun _ _ hm hk => hm.keep fun o e => hk d (.inl rfl) o e
  notList := by decide
  notTuple := by decide
  hint := fun _ _ _ _ hm hq => kdl_hint_dict hm.ty hq
  iter := fun _ _ hh hm => ⟨_, _, (fun _ _ hq => raw_iterKeys lo hm hq), walk_keys hh _ d (Nat.ne_of_lt (let ⟨_, e, _⟩ := hm; Heap.lt_size e)) es ep, ⟨⟨_, Heap.get?_push_size _ rfl, rfl, rfl⟩, hm.keep fun o e => Heap.get?_push_of_some _ e⟩⟩
section
variable {X : Cx}
def rSortK : List V → Hp → VK → Prop := fun xs H Q => ∃ (d : Addr) (kvs : List (List Key × V)) (ts : List (List Int)), xs = [.ref d] ∧ H d = some (.dT kvs) ∧ kvs.map (·.1) = ts.map (fun t => t.map Sum.inl) ∧ (∀ t ∈ ts, t ≠ []) ∧ ts.length < 64 ∧
  ∀ (p : Addr) (qs : List Addr) (us : List (List Int)), H p = none → TupsAt H qs us → us.Perm ts → us.Pairwise (fun a b => lexB b a = false) → Q (.ref p) (upd H p (.lst (qs.map V.ref)))
theorem call_sortedK (hc : X.calm = true) : CallR X (.builtin "sorted") rSortK := by
  intro pins s σ H xs us Q I r h
  obtain ⟨d, kvs, ts, rfl, hd, ek, hne, h64', q⟩ := h
  obtain ⟨u, rfl, ru⟩ := vals1 r
  cases ru
  obtain ⟨lo, ob, es, ep, ys, g1, g2, g3, rel, g4, g5⟩ := dt_raw (show ObjOk X.prog X.w H s.heap d (.dT kvs) from I.hok d _ hd)
  have raw : Raw s.heap d es ep := ⟨ob, g1, g2.1, g3⟩
  have hkl : kvs.length = ts.length := by have := congrArg List.length ek; simpa using this
  have hyl : ys.length = kvs.length := (Paired.length rel).symm
  have ht : TupsAt H (ys.map (·.2.1)) ts := by
    refine ⟨by rw [List.length_map, hyl, hkl], fun j a t x y => ?_⟩
    have hj : j < kvs.length := by rw [hkl]; exact (List.getElem?_eq_some_iff.mp y).1
    obtain ⟨p, hp, hb, _⟩ := kt_get rel (List.getElem?_eq_getElem hj)
    rw [List.getElem?_map, hp] at x
    cases x
    refine ⟨?_, hne t (List.mem_of_getElem? y)⟩
    have e3 : (kvs.map (·.1))[j]? = some kvs[j].1 := by rw [List.getElem?_map, List.getElem?_eq_getElem hj]; rfl
    rw [ek, List.getElem?_map, y] at e3
    have e4 : t.map Sum.inl = kvs[j].1 := Option.some.inj e3
    rw [hb, ← e4, List.map_map]
    rfl
  have hv : ((ys.map (·.2.1)).map Value.ref).length = ts.length := by rw [List.length_map]; exact ht.len
  refine Calls.call_function_entry kind_sorted plain_sorted entry_sorted (args_sorted1 (.ref d)) ?_
  unfold Builtin.«sorted»
  refine wpAny_bind (m := checkCount "sorted" 1 1 _) (wpAny_pure (wpAny_bind (PySem.W.kdu_collect (A := X.A.in1) (src_keysT (es := es) (ep := ep) lo) (I.ok.hd hc) raw (by rw [sizeLine_eq]; omega) fun h1 tk acc k0 hacc => ?_)))
  have ea : acc.toList = (ys.map (·.2.1)).map Value.ref := by
    refine List.ext_getElem? fun j => ?_
    by_cases hj : j < kvs.length
    · have hja : j < acc.size := by rw [hacc.1, g5]; exact hj
      have e1 : acc[j]? = some acc[j] := Array.getElem?_eq_getElem hja
      obtain ⟨e, he, ev⟩ := hacc.2 j _ e1
      obtain ⟨p, hp, hb, _⟩ := kt_get rel (List.getElem?_eq_getElem hj)
      rw [entry_at g4, hp] at he
      cases he
      rw [Array.getElem?_toList, e1, ev, List.getElem?_map, List.getElem?_map, hp]
      rfl
    · rw [List.getElem?_eq_none (by rw [Array.length_toList, hacc.1, g5]; omega), List.getElem?_eq_none (by rw [List.length_map, List.length_map, hyl]; omega)]
  rw [ea]
  generalize hqs : ys.map (·.2.1) = qs at ht hv ea
  have hq := ht.len
  have h64 : qs.length < 64 := by omega
  refine wpAny_bind (wpAny_newList ?_ (by rw [hv, sizeLine_eq]; omega))
  have k1 : ∀ b o, s.heap.get? b = some o → (h1.push (seqObj "list" (qs.map Value.ref).toArray 0)).get? b = some o := fun b o g => Heap.get?_push_of_some _ (k0 b o g)
  have gD : (h1.push (seqObj "list" (qs.map Value.ref).toArray 0)).get? h1.objs.size = some (seqObj "list" (qs.map Value.ref).toArray 0) := Heap.get?_push_size _ rfl
  refine wpAny_bind (wpAny_holding (wpAny_call_entry (s := { s with heap := h1.push (seqObj "list" (qs.map Value.ref).toArray 0), toks := tk }) slot_list_sort ⟨_, gD, rfl⟩ entry_list_sort (sort_tups gD ((ht.tups I).keeps fun b o _ g => k1 b o g) (by rw [hv, ← hq]; exact h64) fun p hr hu => ⟨_, rfl, ?_⟩) (args_list_sort (.ref h1.objs.size))))
  rw [hv, ← hq] at hr hu
  have pl : p.toList.Perm (List.range qs.length) := by simpa using Array.perm_iff_toList_perm.mp hr
  have plen : p.toList.length = qs.length := by have := pl.length_eq; simpa using this
  have eo : (outOf (qs.map Value.ref) p).toList = (p.toList.map fun i => qs.getD i 0).map Value.ref := by
    unfold outOf
    show p.toList.map (fun i => (qs.map Value.ref).getD i Value.none) = _
    rw [List.map_map]
    refine List.map_congr_left fun i hi => ?_
    have li : i < qs.length := List.mem_range.mp (pl.mem_iff.mp hi)
    show (qs.map Value.ref).getD i Value.none = Value.ref (qs.getD i 0)
    simp [List.getD_eq_getElem?_getD, List.getElem?_eq_getElem li]
  refine wpAny_pure ⟨_, rfl, ?_⟩
  obtain ⟨c, hc2⟩ := sortedHeap_at (out := outOf (qs.map Value.ref) p) gD
  have T' : TupsAt H (p.toList.map fun i => qs.getD i 0) (p.toList.map fun i => ts.getD i []) := by
    refine ⟨by rw [List.length_map, List.length_map], fun j a b x y => ?_⟩
    rw [List.getElem?_map] at x y
    obtain ⟨i, e1, e2⟩ := Option.map_eq_some_iff.mp x
    rw [e1] at y
    have li : i < qs.length := List.mem_range.mp (pl.mem_iff.mp (List.mem_of_getElem? e1))
    refine ht.at_ i a b ?_ ?_
    · rw [← e2]; simp [List.getD_eq_getElem?_getD, List.getElem?_eq_getElem li]
    · cases y
      simp [List.getD_eq_getElem?_getD, List.getElem?_eq_getElem (show i < ts.length by omega)]
  obtain ⟨hn, I2⟩ := I.laidN (t' := tk) (h' := sortedHeap (h1.push (seqObj "list" (qs.map Value.ref).toArray 0)) h1.objs.size (qs.map Value.ref) (outOf (qs.map Value.ref) p)) (a := h1.objs.size) (o := .lst ((p.toList.map fun i => qs.getD i 0).map V.ref)) (fun b ob g => by
      have lb : b < h1.objs.size := Heap.lt_size (k0 b ob g)
      rw [sortedHeap_old (Nat.ne_of_lt lb) (by rw [size_push']; exact Nat.lt_succ_of_lt lb)]
      exact k1 b ob g) (fun b ob g => Nat.ne_of_lt (Heap.lt_size (k0 b ob g)))
    ⟨by rw [List.length_map, List.length_map, plen, sizeLine_eq]; omega, (p.toList.map fun i => qs.getD i 0).map Value.ref, c, vals_refs9 _, by rw [← eo, Array.toArray_toList]; exact hc2⟩
  refine ⟨.ref h1.objs.size, _, I2, rfl, q _ _ _ hn T' ?_ ?_⟩
  · have := pl.map (fun i => ts.getD i [])
    rw [hq, range_getD] at this
    exact this
  · rw [List.pairwise_iff_getElem]
    intro i j hi hj hij
    rw [List.length_map, plen] at hi hj
    have key : ∀ k (hk : k < p.toList.length), (p.toList.map fun i => ts.getD i [])[k]'(by rw [List.length_map]; exact hk) = kq (O := lexO) (fun i => ts.getD i []) p k := fun k hk => by
      rw [List.getElem_map]
      unfold kq
      have : p.getD k 0 = p.toList[k] := by
        have hk' : k < p.size := by simpa using hk
        simp [Array.getD, hk']
      rw [this]
    rw [key i (by omega), key j (by omega)]
    exact hu i j (by omega) hj
end
section
variable {H : Hp} {Q : VK}
theorem rd_sortK {d : Addr} {kvs : List (List Key × V)} {ts : List (List Int)} (h : H d = some (.dT kvs)) (e : kvs.map (·.1) = ts.map (fun t => t.map Sum.inl)) (hne : ∀ t ∈ ts, t ≠ []) (hl : ts.length < 64) (q : ∀ (p : Addr) (qs : List Addr) (us : List (List Int)), H p = none → TupsAt H qs us → us.Perm ts → us.Pairwise (fun a b => lexB b a = false) → Q (.ref p) (upd H p (.lst (qs.map V.ref)))) : rSortK [.ref d] H Q := ⟨d, kvs, ts, rfl, h, e, hne, hl, q⟩
end
end L2
namespace L2
open PySem PySem.Spec PyProof.Rows
section
variable {X : Cx}
def rNeE (K : PySem.W.Frag) : R2 := fun x y H Q => ∃ (a b : Addr) (xs : List V), x = .ref a ∧ y = .ref b ∧ SqL K H a xs ∧ SqL K H b [] ∧ Q (.bl (!xs.isEmpty)) H
theorem op_neE (hu : X.A.units + 9 < cLine) : OpR X (compareOp .NotEq) (rNeE X.K) := by
  intro pins s σ H x y v u Q I rx ry h
  obtain ⟨a, b, xs, rfl, rfl, h1, h2, q⟩ := h
  cases rx
  cases ry
  have fin : EP X pins σ Q (.bool (!xs.isEmpty)) s := ⟨.bl (!xs.isEmpty), H, I, rfl, q⟩
  obtain ⟨us, r1, p1, _⟩ := I.list h1
  obtain ⟨vs, r2, p2, _⟩ := I.list h2
  cases r2
  cases xs with
  | nil =>
    cases r1
    refine SeqAt.RcNeAt.lists (e := fun _ => true) p1.isList p2.isList rfl (by omega) (fun j h1 h2 => by simp at h1) X.prog X.w X.xe _ ?_
    exact fin
  | cons z zs =>
    cases r1 with
    | cons hz ht => exact SeqAt.RcNeAt.lists_lengths p1.isList p2.isList (by simp) (by omega) X.prog X.w X.xe _ fin
end
section
variable {K : PySem.W.Frag} {H : Hp} {Q : VK}
theorem rd_neE {a b : Addr} {xs : List V} (h1 : H a = some (.lst xs)) (h2 : H b = some (.lst [])) (h : Q (.bl (!xs.isEmpty)) H) : rNeE K (.ref a) (.ref b) H Q := ⟨a, b, xs, rfl, rfl, SqL.of h1, SqL.of h2, h⟩
end
end L2
local macro_rules | `(tactic| walk_at "ne") => `(tactic| first
  | assumption
  | (refine Ne.symm ?_; assumption)
  | exact L2.ne_none (by assumption) (by walk_at "hp")
  | exact Ne.symm (L2.ne_none (by assumption) (by walk_at "hp")))
local macro_rules | `(tactic| walk_at "hp") => `(tactic| first
  | assumption
  | exact L2.upd_same
  | (refine Eq.trans (L2.upd_ne (by walk_at "ne")) ?_; walk_at "hp")
  | (refine L2.Same.at (by assumption) ?_; walk_at "hp")
  | (refine L2.Keep.at (by assumption) ?_ (by walk_at "ne"); walk_at "hp"))
local macro_rules | `(tactic| walk_at "sq") => `(tactic| first
  | assumption
  | exact L2.SqL.of (by walk_at "hp")
  | exact L2.SqT.of (by walk_at "hp")
  | exact L2.Same.seq (by assumption) (by walk_at "sq"))
local macro_rules | `(tactic| walk_at "cnd") => `(tactic| first
  | omega
  | decide
  | (simp only [List.length_map]; omega)
  | (refine ⟨?_, ?_⟩ <;> first | omega | decide)
  | (refine Or.inl ⟨?_, ?_⟩ <;> first | omega | decide)
  | (refine Or.inr ⟨?_, ?_⟩ <;> first | omega | decide)
  | (refine ⟨?_, ?_, ?_⟩ <;> first | omega | decide))
local macro_rules | `(tactic| walk_at "sz") => `(tactic| (refine L2.sz_le ?_; first | decide | (simp only [List.length_cons, List.length_nil, List.length_append]; omega) | omega))
local macro_rules | `(tactic| walk_at "rd") => `(tactic| (with_reducible first
  | refine L2.rd_next ?_
  | refine L2.rd_par ?_
  | refine L2.rd_asg ?_
  | refine L2.rd_drop ?_
  | refine L2.rd_ret ?_
  | refine L2.rd_retN ?_
  | refine L2.rd_break ?_
  | refine L2.rd_cont ?_
  | refine L2.rd_ifS ?_
  | refine L2.rd_augS ?_
  | refine L2.rd_for ?_
  | refine L2.rd_gnil ?_
  | refine L2.rd_gcons ?_
  | refine L2.rd_gsub ?_
  | refine L2.rd_iItems ?_
  | refine L2.rd_dgetT ?_
  | refine L2.rd_dict1 ?_
  | refine L2.rd_dget2 ?_
  | refine L2.rd_ipI ?_
  | refine L2.rd_c ?_
  | refine L2.rd_op ?_
  | refine L2.rd_un ?_
  | refine L2.rd_rI0 ?_
  | refine L2.rd_rU ?_
  | refine L2.rd_addI ?_
  | refine L2.rd_sl ?_
  | refine L2.rd_nopart ?_
  | refine L2.rd_part ?_
  | refine L2.rd_partN ?_
  | refine L2.rd_pnN ?_
  | refine L2.rd_pnI ?_
  | refine L2.rd_andV ?_
  | refine L2.rd_orV ?_
  | refine L2.rd_notV ?_
  | refine L2.rd_ifE ?_
  | refine L2.rd_chain ?_
  | refine L2.rd_test ?_
  | refine L2.rd_tB ?_
  | refine L2.rd_and ?_
  | refine L2.rd_or ?_
  | refine L2.rd_not ?_
  | refine L2.rd_yes ?_
  | refine L2.rd_bl ?_
  | refine L2.rd_int1 ?_
  | refine L2.rd_l1 ?_
  | refine L2.rd_l2 ?_
  | refine L2.rd_bl2 ?_
  | refine L2.rd_nil ?_
  | refine L2.rd_cons ?_
  | refine L2.rd_tup ?_
  | refine L2.rd_lst ?_
  | refine L2.rd_call ?_
  | refine L2.rd_cb ?_
  | refine L2.rd_comp ?_
  | refine L2.rd_iListQ ?_
  | refine L2.rd_iTupQ ?_
  | refine L2.rd_iRng1 ?_
  | refine L2.rd_iRng2 ?_
  | refine L2.rd_fld ?_
  | refine L2.iteT ?_
  | refine L2.iteF ?_
  | refine L2.iteNT ?_
  | refine L2.iteNF ?_
  | refine L2.rd_bm ?_
  | refine L2.rd_iEnum ?_
  | refine L2.rd_rng ?_
  | refine L2.rd_make ?_
  | refine L2.rd_meth ?_
  | refine L2.rd_sfld ?_
  | refine L2.rd_dput ?_
  | refine L2.rd_callL ?_
  | refine L2.rd_listRev ?_
  | refine L2.rd_iRngD ?_))
local macro_rules | `(tactic| walk_at "st") => `(tactic| first
  | walk_at "rd"
  | ((with_reducible refine L2.rd_nx (b := ?b) ?t ?_); (case t => assumption))
  | ((with_reducible refine L2.rd_var (v := ?v) ?e ?_); (case e => rfl))
  | ((with_reducible refine L2.rd_gname (σ' := ?s) ?e ?_); (case e => first | (simp only [List.set_cons_zero, List.set_cons_succ]; rfl) | rfl))
  | ((with_reducible refine L2.rd_rI ?c ?_); (case c => walk_at "cnd"))
  | ((with_reducible refine L2.rd_mulI ?c ?_); (case c => walk_at "cnd"))
  | ((with_reducible refine L2.rd_ixL (xs := ?xs) (v := ?v) ?a ?b ?_); (case a => walk_at "sq"); (case b => first | rfl | assumption))
  | ((with_reducible refine L2.rd_ixT (xs := ?xs) (v := ?v) ?a ?b ?_); (case a => walk_at "sq"); (case b => first | rfl | assumption))
  | (with_reducible refine L2.rd_abs ?_)
  | (with_reducible refine L2.rd_max ?_)
  | (with_reducible refine L2.rd_min ?_)
  | (with_reducible refine L2.rd_intI ?_)
  | (with_reducible refine L2.rd_intB ?_)
  | ((with_reducible refine L2.rd_lenL (xs := ?xs) ?a ?_); (case a => walk_at "sq"))
  | ((with_reducible refine L2.rd_lenT (xs := ?xs) ?a ?_); (case a => walk_at "sq"))
  | (with_reducible refine L2.rd_eqI ?_)
  | (with_reducible refine L2.rd_neI ?_)
  | ((with_reducible refine L2.rd_eqF ?a ?b ?_); (case a => rfl); (case b => rfl))
  | ((with_reducible refine L2.rd_neF ?a ?b ?_); (case a => rfl); (case b => rfl))
  | ((with_reducible refine L2.rd_is (b := ?b) ?e ?_); (case e => rfl))
  | ((with_reducible refine L2.rd_isNot (b := ?b) ?e ?_); (case e => rfl))
  | ((with_reducible refine L2.rd_size ?c ?_); (case c => walk_at "sz")))
local macro_rules | `(tactic| walk_at "go") => `(tactic| first
  | (with_reducible refine L2.rd_seqH (fun _ _ => ?_))
  | walk_at "st")
local macro_rules | `(tactic| walk_at "w") => `(tactic| repeat walk_at "go")
local macro_rules | `(tactic| walk_at "gs") => `(tactic| first
  | walk_at "go"
  | ((with_reducible refine L2.iteGF ?e ?_); (case e => rfl))
  | ((with_reducible refine L2.iteGT ?e ?_); (case e => rfl)))
namespace My
open PySem L2
def top (i : Nat) : Stmt := PySem.Challenge.pw_stintwise_k47_prices_raised.main.body.getD i (.Pass ⟨0, 0, 0, 0⟩)
abbrev s__law_open : Stmt := top 37
abbrev s__law_draw : Stmt := top 38
abbrev s__law_far : Stmt := top 39
abbrev s__law_factor : Stmt := top 40
abbrev s_is_whole : Stmt := top 12
abbrev s_is_amount : Stmt := top 13
abbrev s_is_span : Stmt := top 32
abbrev s_is_piece : Stmt := top 33
abbrev s_are_pieces : Stmt := top 34
abbrev s_Machine_init : Stmt := inClass (top 35) 0
abbrev s__law_spec : Stmt := top 41
abbrev s__law_machine : Stmt := top 42
abbrev s__law_same : Stmt := top 48
abbrev s_Machine_gain : Stmt := inClass (top 35) 3
abbrev s__law_gain : Stmt := top 46
abbrev s_may_be : Stmt := top 15
abbrev s_state_after : Stmt := top 16
abbrev s__law_state : Stmt := top 43
abbrev s_run_fault : Stmt := top 20
abbrev s_refuse_fault : Stmt := top 21
abbrev s_run_begins : Stmt := top 22
abbrev s_run_cost : Stmt := top 23
abbrev s_least_of : Stmt := top 2
abbrev s_worths_ahead : Stmt := top 3
abbrev s_worths_by_hour : Stmt := top 4
abbrev s_first_best : Stmt := top 5
abbrev s_first_row : Stmt := top 6
abbrev s_ways_one_on : Stmt := top 17
abbrev s_states_by_hour : Stmt := top 18
abbrev s_next_hours : Stmt := top 24
abbrev s_hour_ways : Stmt := top 26
abbrev s_worths_of_states : Stmt := top 27
abbrev s_cheapest_run : Stmt := top 28
abbrev s__law_price : Stmt := top 44
abbrev s__law_prices : Stmt := top 50
abbrev s__law_times : Stmt := top 51
abbrev s__law_one : Stmt := top 52
abbrev s_law : Stmt := top 53
theorem sc__law_open : FnScope ["_law_script", "_law_place", "_law_cells", "_law_at", "_law_digits"] ["_law_script", "_law_place"] (defScope s__law_open) := ⟨rfl, rfl, rfl, by decide +kernel, rfl, by decide +kernel, by decide +kernel⟩
theorem sc__law_draw : FnScope ["_law_hand", "_law_many", "_law_got", "_law_cell", "_law_number"] ["_law_hand", "_law_many"] (defScope s__law_draw) := ⟨rfl, rfl, rfl, by decide +kernel, rfl, by decide +kernel, by decide +kernel⟩
theorem sc__law_far : FnScope ["_law_hand", "_law_bound", "_law_total", "_law_k"] ["_law_hand", "_law_bound"] (defScope s__law_far) := ⟨rfl, rfl, rfl, by decide +kernel, rfl, by decide +kernel, by decide +kernel⟩
theorem sc__law_factor : FnScope ["_law_hand"] ["_law_hand"] (defScope s__law_factor) := ⟨rfl, rfl, rfl, by decide +kernel, rfl, by decide +kernel, by decide +kernel⟩
theorem sc_is_whole : FnScope ["thing"] ["thing"] (defScope s_is_whole) := ⟨rfl, rfl, rfl, by decide +kernel, rfl, by decide +kernel, by decide +kernel⟩
theorem sc_is_amount : FnScope ["thing"] ["thing"] (defScope s_is_amount) := ⟨rfl, rfl, rfl, by decide +kernel, rfl, by decide +kernel, by decide +kernel⟩
theorem sc_is_span : FnScope ["thing"] ["thing"] (defScope s_is_span) := ⟨rfl, rfl, rfl, by decide +kernel, rfl, by decide +kernel, by decide +kernel⟩
theorem sc_is_piece : FnScope ["thing"] ["thing"] (defScope s_is_piece) := ⟨rfl, rfl, rfl, by decide +kernel, rfl, by decide +kernel, by decide +kernel⟩
theorem sc_are_pieces : FnScope ["thing"] ["thing"] (defScope s_are_pieces) := ⟨rfl, rfl, rfl, by decide +kernel, rfl, by decide +kernel, by decide +kernel⟩
theorem sc_Machine_init : FnScope ["self", "up", "down", "begin", "run", "rest", "least", "pieces", "spans", "costs", "at", "fits"] ["self", "up", "down", "begin", "run", "rest", "least", "pieces"] (defScope s_Machine_init) := ⟨rfl, rfl, rfl, by decide +kernel, rfl, by decide +kernel, by decide +kernel⟩
theorem sc__law_spec : FnScope ["_law_hand", "_law_by", "_law_longest", "_law_up", "_law_down", "_law_costs", "_law_least", "_law_rate", "_law_pieces", "_law_k"] ["_law_hand", "_law_by", "_law_longest"] (defScope s__law_spec) := ⟨rfl, rfl, rfl, by decide +kernel, rfl, by decide +kernel, by decide +kernel⟩
theorem sc__law_machine : FnScope ["_law_spec_here"] ["_law_spec_here"] (defScope s__law_machine) := ⟨rfl, rfl, rfl, by decide +kernel, rfl, by decide +kernel, by decide +kernel⟩
theorem sc__law_same : FnScope ["_law_one_here", "_law_due"] ["_law_one_here", "_law_due"] (defScope s__law_same) := ⟨rfl, rfl, rfl, by decide +kernel, rfl, by decide +kernel, by decide +kernel⟩
theorem sc_Machine_gain : FnScope ["self", "price", "worth", "amount", "rate"] ["self", "price"] (defScope s_Machine_gain) := ⟨rfl, rfl, rfl, by decide +kernel, rfl, by decide +kernel, by decide +kernel⟩
theorem sc__law_gain : FnScope ["_law_spec_here", "_law_price_here"] ["_law_spec_here", "_law_price_here"] (defScope s__law_gain) := ⟨rfl, rfl, rfl, by decide +kernel, rfl, by decide +kernel, by decide +kernel⟩
theorem sc_may_be : FnScope ["machine", "state", "on"] ["machine", "state", "on"] (defScope s_may_be) := ⟨rfl, rfl, rfl, by decide +kernel, rfl, by decide +kernel, by decide +kernel⟩
theorem sc_state_after : FnScope ["machine", "state", "on"] ["machine", "state", "on"] (defScope s_state_after) := ⟨rfl, rfl, rfl, by decide +kernel, rfl, by decide +kernel, by decide +kernel⟩
theorem sc__law_state : FnScope ["_law_hand", "_law_spec_here"] ["_law_hand", "_law_spec_here"] (defScope s__law_state) := ⟨rfl, rfl, rfl, by decide +kernel, rfl, by decide +kernel, by decide +kernel⟩
theorem sc_run_fault : FnScope ["machine", "state", "run", "hour", "on"] ["machine", "state", "run"] (defScope s_run_fault) := ⟨rfl, rfl, rfl, by decide +kernel, rfl, by decide +kernel, by decide +kernel⟩
theorem sc_refuse_fault : FnScope ["machine", "state", "run", "fault"] ["machine", "state", "run"] (defScope s_refuse_fault) := ⟨rfl, rfl, rfl, by decide +kernel, rfl, by decide +kernel, by decide +kernel⟩
theorem sc_run_begins : FnScope ["machine", "state", "run", "begins", "ahead", "hour", "on"] ["machine", "state", "run"] (defScope s_run_begins) := ⟨rfl, rfl, rfl, by decide +kernel, rfl, by decide +kernel, by decide +kernel⟩
theorem sc_run_cost : FnScope ["machine", "state", "run", "begins"] ["machine", "state", "run"] (defScope s_run_cost) := ⟨rfl, rfl, rfl, by decide +kernel, rfl, by decide +kernel, by decide +kernel⟩
theorem sc_least_of : FnScope ["ways", "behind"] ["ways", "behind"] (defScope s_least_of) := ⟨rfl, rfl, rfl, by decide +kernel, rfl, by decide +kernel, by decide +kernel⟩
theorem sc_worths_ahead : FnScope ["places", "hour", "behind", "ways_at", "worths", "place"] ["places", "hour", "behind", "ways_at"] (defScope s_worths_ahead) := ⟨rfl, rfl, rfl, by decide +kernel, rfl, by decide +kernel, by decide +kernel⟩
theorem sc_worths_by_hour : FnScope ["layers", "ways_at", "behind", "place", "worths", "hour"] ["layers", "ways_at"] (defScope s_worths_by_hour) := ⟨rfl, rfl, rfl, by decide +kernel, rfl, by decide +kernel, by decide +kernel⟩
theorem sc_first_best : FnScope ["ways", "behind", "least"] ["ways", "behind"] (defScope s_first_best) := ⟨rfl, rfl, rfl, by decide +kernel, rfl, by decide +kernel, by decide +kernel⟩
theorem sc_first_row : FnScope ["place", "worths", "ways_at", "row", "hour", "way"] ["place", "worths", "ways_at"] (defScope s_first_row) := ⟨rfl, rfl, rfl, by decide +kernel, rfl, by decide +kernel, by decide +kernel⟩
theorem sc_ways_one_on : FnScope ["machine", "ways", "later", "state", "many", "on", "behind"] ["machine", "ways"] (defScope s_ways_one_on) := ⟨rfl, rfl, rfl, by decide +kernel, rfl, by decide +kernel, by decide +kernel⟩
theorem sc_states_by_hour : FnScope ["machine", "state", "hours", "ways", "layers", "hour"] ["machine", "state", "hours"] (defScope s_states_by_hour) := ⟨rfl, rfl, rfl, by decide +kernel, rfl, by decide +kernel, by decide +kernel⟩
theorem sc_next_hours : FnScope ["machine", "state"] ["machine", "state"] (defScope s_next_hours) := ⟨rfl, rfl, rfl, by decide +kernel, rfl, by decide +kernel, by decide +kernel⟩
theorem sc_hour_ways : FnScope ["machine", "state", "price"] ["machine", "state", "price"] (defScope s_hour_ways) := ⟨rfl, rfl, rfl, by decide +kernel, rfl, by decide +kernel, by decide +kernel⟩
theorem sc_worths_of_states : FnScope ["machine", "state", "prices", "layers"] ["machine", "state", "prices"] (defScope s_worths_of_states) := ⟨rfl, rfl, rfl, by decide +kernel, rfl, by decide +kernel, by decide +kernel⟩
theorem sc_cheapest_run : FnScope ["machine", "state", "prices", "worths", "run"] ["machine", "state", "prices"] (defScope s_cheapest_run) := ⟨rfl, rfl, rfl, by decide +kernel, rfl, by decide +kernel, by decide +kernel⟩
theorem sc__law_price : FnScope ["_law_hand", "_law_by", "_law_most"] ["_law_hand", "_law_by", "_law_most"] (defScope s__law_price) := ⟨rfl, rfl, rfl, by decide +kernel, rfl, by decide +kernel, by decide +kernel⟩
theorem sc__law_prices : FnScope ["_law_hand", "_law_spec_here", "_law_by", "_law_hours", "_law_prices_here", "_law_base", "_law_hour_here", "_law_price_here"] ["_law_hand", "_law_spec_here", "_law_by", "_law_hours"] (defScope s__law_prices) := ⟨rfl, rfl, rfl, by decide +kernel, rfl, by decide +kernel, by decide +kernel⟩
theorem sc__law_times : FnScope ["_law_spec_here", "_law_times_here", "_law_pieces"] ["_law_spec_here", "_law_times_here"] (defScope s__law_times) := ⟨rfl, rfl, rfl, by decide +kernel, rfl, by decide +kernel, by decide +kernel⟩
theorem sc__law_one : FnScope ["_law_hand", "_law_spec_here", "_law_state_here", "_law_prices_here", "_law_machine_here", "_law_worth", "_law_run", "_law_at", "_law_more", "_law_raised", "_law_fallen", "_law_dear", "_law_times_here", "_law_found", "_law_bare"] ["_law_hand", "_law_spec_here", "_law_state_here", "_law_prices_here"] (defScope s__law_one) := ⟨rfl, rfl, rfl, by decide +kernel, rfl, by decide +kernel, by decide +kernel⟩
theorem sc_law : FnScope ["_law_script", "_law_hand", "_law_by", "_law_place", "_law_spec_here", "_law_state_here", "_law_prices_here"] ["_law_script"] (defScope s_law) := ⟨rfl, rfl, rfl, by decide +kernel, rfl, by decide +kernel, by decide +kernel⟩
structure Adr where
  f__law_open : Addr
  d__law_open : FuncData
  f__law_draw : Addr
  d__law_draw : FuncData
  f__law_far : Addr
  d__law_far : FuncData
  f__law_factor : Addr
  d__law_factor : FuncData
  f_is_whole : Addr
  d_is_whole : FuncData
  f_is_amount : Addr
  d_is_amount : FuncData
  f_is_span : Addr
  d_is_span : FuncData
  f_is_piece : Addr
  d_is_piece : FuncData
  f_are_pieces : Addr
  d_are_pieces : FuncData
  f_Machine_init : Addr
  d_Machine_init : FuncData
  f__law_spec : Addr
  d__law_spec : FuncData
  f__law_machine : Addr
  d__law_machine : FuncData
  f__law_same : Addr
  d__law_same : FuncData
  f_Machine_gain : Addr
  d_Machine_gain : FuncData
  f__law_gain : Addr
  d__law_gain : FuncData
  f_may_be : Addr
  d_may_be : FuncData
  f_state_after : Addr
  d_state_after : FuncData
  f__law_state : Addr
  d__law_state : FuncData
  f_run_fault : Addr
  d_run_fault : FuncData
  f_refuse_fault : Addr
  d_refuse_fault : FuncData
  f_run_begins : Addr
  d_run_begins : FuncData
  f_run_cost : Addr
  d_run_cost : FuncData
  f_least_of : Addr
  d_least_of : FuncData
  f_worths_ahead : Addr
  d_worths_ahead : FuncData
  f_worths_by_hour : Addr
  d_worths_by_hour : FuncData
  f_first_best : Addr
  d_first_best : FuncData
  f_first_row : Addr
  d_first_row : FuncData
  f_ways_one_on : Addr
  d_ways_one_on : FuncData
  f_states_by_hour : Addr
  d_states_by_hour : FuncData
  f_next_hours : Addr
  d_next_hours : FuncData
  f_hour_ways : Addr
  d_hour_ways : FuncData
  f_worths_of_states : Addr
  d_worths_of_states : FuncData
  f_cheapest_run : Addr
  d_cheapest_run : FuncData
  f__law_price : Addr
  d__law_price : FuncData
  f__law_prices : Addr
  d__law_prices : FuncData
  f__law_times : Addr
  d__law_times : FuncData
  f__law_one : Addr
  d__law_one : FuncData
  f_law : Addr
  d_law : FuncData
  k_worths_of_states : Addr
  t_worths_of_states : Addr
  k_cheapest_run : Addr
  t_cheapest_run : Addr
  c_Machine : Addr
structure Txt (K : PySem.W.Frag) (mg : Str → Option Value) (a : Adr) : Prop where
  F__law_open : Fun K "_law_open" "_law_open" s__law_open a.f__law_open a.d__law_open
  b__law_open : Binds K a.d__law_open ["_law_script", "_law_place"] []
  g__law_open : mg "_law_open" = some (.ref a.f__law_open)
  F__law_draw : Fun K "_law_draw" "_law_draw" s__law_draw a.f__law_draw a.d__law_draw
  b__law_draw : Binds K a.d__law_draw ["_law_hand", "_law_many"] []
  g__law_draw : mg "_law_draw" = some (.ref a.f__law_draw)
  F__law_far : Fun K "_law_far" "_law_far" s__law_far a.f__law_far a.d__law_far
  b__law_far : Binds K a.d__law_far ["_law_hand", "_law_bound"] []
  g__law_far : mg "_law_far" = some (.ref a.f__law_far)
  F__law_factor : Fun K "_law_factor" "_law_factor" s__law_factor a.f__law_factor a.d__law_factor
  b__law_factor : Binds K a.d__law_factor ["_law_hand"] []
  g__law_factor : mg "_law_factor" = some (.ref a.f__law_factor)
  F_is_whole : Fun K "is_whole" "is_whole" s_is_whole a.f_is_whole a.d_is_whole
  b_is_whole : Binds K a.d_is_whole ["thing"] []
  g_is_whole : mg "is_whole" = some (.ref a.f_is_whole)
  F_is_amount : Fun K "is_amount" "is_amount" s_is_amount a.f_is_amount a.d_is_amount
  b_is_amount : Binds K a.d_is_amount ["thing"] []
  g_is_amount : mg "is_amount" = some (.ref a.f_is_amount)
  F_is_span : Fun K "is_span" "is_span" s_is_span a.f_is_span a.d_is_span
  b_is_span : Binds K a.d_is_span ["thing"] []
  g_is_span : mg "is_span" = some (.ref a.f_is_span)
  F_is_piece : Fun K "is_piece" "is_piece" s_is_piece a.f_is_piece a.d_is_piece
  b_is_piece : Binds K a.d_is_piece ["thing"] []
  g_is_piece : mg "is_piece" = some (.ref a.f_is_piece)
  F_are_pieces : Fun K "are_pieces" "are_pieces" s_are_pieces a.f_are_pieces a.d_are_pieces
  b_are_pieces : Binds K a.d_are_pieces ["thing"] []
  g_are_pieces : mg "are_pieces" = some (.ref a.f_are_pieces)
  F_Machine_init : Fun K "__init__" "Machine.__init__" s_Machine_init a.f_Machine_init a.d_Machine_init
  b_Machine_init : Binds K a.d_Machine_init ["self", "up", "down", "begin", "run", "rest", "least", "pieces"] []
  F__law_spec : Fun K "_law_spec" "_law_spec" s__law_spec a.f__law_spec a.d__law_spec
  b__law_spec : Binds K a.d__law_spec ["_law_hand", "_law_by", "_law_longest"] []
  g__law_spec : mg "_law_spec" = some (.ref a.f__law_spec)
  F__law_machine : Fun K "_law_machine" "_law_machine" s__law_machine a.f__law_machine a.d__law_machine
  b__law_machine : Binds K a.d__law_machine ["_law_spec_here"] []
  g__law_machine : mg "_law_machine" = some (.ref a.f__law_machine)
  F__law_same : Fun K "_law_same" "_law_same" s__law_same a.f__law_same a.d__law_same
  b__law_same : Binds K a.d__law_same ["_law_one_here", "_law_due"] []
  g__law_same : mg "_law_same" = some (.ref a.f__law_same)
  F_Machine_gain : Fun K "gain" "Machine.gain" s_Machine_gain a.f_Machine_gain a.d_Machine_gain
  b_Machine_gain : Binds K a.d_Machine_gain ["self", "price"] []
  F__law_gain : Fun K "_law_gain" "_law_gain" s__law_gain a.f__law_gain a.d__law_gain
  b__law_gain : Binds K a.d__law_gain ["_law_spec_here", "_law_price_here"] []
  g__law_gain : mg "_law_gain" = some (.ref a.f__law_gain)
  F_may_be : Fun K "may_be" "may_be" s_may_be a.f_may_be a.d_may_be
  b_may_be : Binds K a.d_may_be ["machine", "state", "on"] []
  g_may_be : mg "may_be" = some (.ref a.f_may_be)
  F_state_after : Fun K "state_after" "state_after" s_state_after a.f_state_after a.d_state_after
  b_state_after : Binds K a.d_state_after ["machine", "state", "on"] []
  g_state_after : mg "state_after" = some (.ref a.f_state_after)
  F__law_state : Fun K "_law_state" "_law_state" s__law_state a.f__law_state a.d__law_state
  b__law_state : Binds K a.d__law_state ["_law_hand", "_law_spec_here"] []
  g__law_state : mg "_law_state" = some (.ref a.f__law_state)
  F_run_fault : Fun K "run_fault" "run_fault" s_run_fault a.f_run_fault a.d_run_fault
  b_run_fault : Binds K a.d_run_fault ["machine", "state", "run"] []
  g_run_fault : mg "run_fault" = some (.ref a.f_run_fault)
  F_refuse_fault : Fun K "refuse_fault" "refuse_fault" s_refuse_fault a.f_refuse_fault a.d_refuse_fault
  b_refuse_fault : Binds K a.d_refuse_fault ["machine", "state", "run"] []
  g_refuse_fault : mg "refuse_fault" = some (.ref a.f_refuse_fault)
  F_run_begins : Fun K "run_begins" "run_begins" s_run_begins a.f_run_begins a.d_run_begins
  b_run_begins : Binds K a.d_run_begins ["machine", "state", "run"] []
  g_run_begins : mg "run_begins" = some (.ref a.f_run_begins)
  F_run_cost : Fun K "run_cost" "run_cost" s_run_cost a.f_run_cost a.d_run_cost
  b_run_cost : Binds K a.d_run_cost ["machine", "state", "run"] []
  g_run_cost : mg "run_cost" = some (.ref a.f_run_cost)
  F_least_of : Fun K "least_of" "least_of" s_least_of a.f_least_of a.d_least_of
  b_least_of : Binds K a.d_least_of ["ways", "behind"] []
  g_least_of : mg "least_of" = some (.ref a.f_least_of)
  F_worths_ahead : Fun K "worths_ahead" "worths_ahead" s_worths_ahead a.f_worths_ahead a.d_worths_ahead
  b_worths_ahead : Binds K a.d_worths_ahead ["places", "hour", "behind", "ways_at"] []
  g_worths_ahead : mg "worths_ahead" = some (.ref a.f_worths_ahead)
  F_worths_by_hour : Fun K "worths_by_hour" "worths_by_hour" s_worths_by_hour a.f_worths_by_hour a.d_worths_by_hour
  b_worths_by_hour : Binds K a.d_worths_by_hour ["layers", "ways_at"] []
  g_worths_by_hour : mg "worths_by_hour" = some (.ref a.f_worths_by_hour)
  F_first_best : Fun K "first_best" "first_best" s_first_best a.f_first_best a.d_first_best
  b_first_best : Binds K a.d_first_best ["ways", "behind"] []
  g_first_best : mg "first_best" = some (.ref a.f_first_best)
  F_first_row : Fun K "first_row" "first_row" s_first_row a.f_first_row a.d_first_row
  b_first_row : Binds K a.d_first_row ["place", "worths", "ways_at"] []
  g_first_row : mg "first_row" = some (.ref a.f_first_row)
  F_ways_one_on : Fun K "ways_one_on" "ways_one_on" s_ways_one_on a.f_ways_one_on a.d_ways_one_on
  b_ways_one_on : Binds K a.d_ways_one_on ["machine", "ways"] []
  g_ways_one_on : mg "ways_one_on" = some (.ref a.f_ways_one_on)
  F_states_by_hour : Fun K "states_by_hour" "states_by_hour" s_states_by_hour a.f_states_by_hour a.d_states_by_hour
  b_states_by_hour : Binds K a.d_states_by_hour ["machine", "state", "hours"] []
  g_states_by_hour : mg "states_by_hour" = some (.ref a.f_states_by_hour)
  F_next_hours : Fun K "next_hours" "next_hours" s_next_hours a.f_next_hours a.d_next_hours
  b_next_hours : Binds K a.d_next_hours ["machine", "state"] []
  g_next_hours : mg "next_hours" = some (.ref a.f_next_hours)
  F_hour_ways : Fun K "hour_ways" "hour_ways" s_hour_ways a.f_hour_ways a.d_hour_ways
  b_hour_ways : Binds K a.d_hour_ways ["machine", "state", "price"] []
  g_hour_ways : mg "hour_ways" = some (.ref a.f_hour_ways)
  F_worths_of_states : Fun K "worths_of_states" "worths_of_states" s_worths_of_states a.f_worths_of_states a.d_worths_of_states
  b_worths_of_states : Binds K a.d_worths_of_states ["machine", "state", "prices"] []
  g_worths_of_states : mg "worths_of_states" = some (.ref a.f_worths_of_states)
  F_cheapest_run : Fun K "cheapest_run" "cheapest_run" s_cheapest_run a.f_cheapest_run a.d_cheapest_run
  b_cheapest_run : Binds K a.d_cheapest_run ["machine", "state", "prices"] []
  g_cheapest_run : mg "cheapest_run" = some (.ref a.f_cheapest_run)
  F__law_price : Fun K "_law_price" "_law_price" s__law_price a.f__law_price a.d__law_price
  b__law_price : Binds K a.d__law_price ["_law_hand", "_law_by", "_law_most"] []
  g__law_price : mg "_law_price" = some (.ref a.f__law_price)
  F__law_prices : Fun K "_law_prices" "_law_prices" s__law_prices a.f__law_prices a.d__law_prices
  b__law_prices : Binds K a.d__law_prices ["_law_hand", "_law_spec_here", "_law_by", "_law_hours"] []
  g__law_prices : mg "_law_prices" = some (.ref a.f__law_prices)
  F__law_times : Fun K "_law_times" "_law_times" s__law_times a.f__law_times a.d__law_times
  b__law_times : Binds K a.d__law_times ["_law_spec_here", "_law_times_here"] []
  g__law_times : mg "_law_times" = some (.ref a.f__law_times)
  F__law_one : Fun K "_law_one" "_law_one" s__law_one a.f__law_one a.d__law_one
  b__law_one : Binds K a.d__law_one ["_law_hand", "_law_spec_here", "_law_state_here", "_law_prices_here"] []
  g__law_one : mg "_law_one" = some (.ref a.f__law_one)
  F_law : Fun K "law" "law" s_law a.f_law a.d_law
  b_law : Binds K a.d_law ["_law_script"] []
  g_law : mg "law" = some (.ref a.f_law)
  C_Machine : Cls K a.c_Machine
  g_Machine : mg "Machine" = some (.ref a.c_Machine)
  M_Machine : Mk K a.c_Machine a.f_Machine_init
  m_Machine_gain : Meth K a.c_Machine "gain" a.f_Machine_gain
  n_Machine_up : NoAttr K a.c_Machine "up"
  n_Machine_down : NoAttr K a.c_Machine "down"
  n_Machine_begin : NoAttr K a.c_Machine "begin"
  n_Machine_run : NoAttr K a.c_Machine "run"
  n_Machine_rest : NoAttr K a.c_Machine "rest"
  n_Machine_least : NoAttr K a.c_Machine "least"
  n_Machine_pieces : NoAttr K a.c_Machine "pieces"
  K_worths_of_states : CodK K a.d_worths_of_states a.k_worths_of_states a.t_worths_of_states
  K_cheapest_run : CodK K a.d_cheapest_run a.k_cheapest_run a.t_cheapest_run
  z_abs : mg "abs" = none
  z_all : mg "all" = none
  z_bool : mg "bool" = none
  z_enumerate : mg "enumerate" = none
  z_int : mg "int" = none
  z_isinstance : mg "isinstance" = none
  z_len : mg "len" = none
  z_list : mg "list" = none
  z_max : mg "max" = none
  z_min : mg "min" = none
  z_range : mg "range" = none
  z_reversed : mg "reversed" = none
  z_sorted : mg "sorted" = none
  z_str : mg "str" = none
  z_sum : mg "sum" = none
  z_tuple : mg "tuple" = none
  v_LONGEST_STINT : ∃ t, mg "LONGEST_STINT" = some (.int 12 t)
  v_MOST_PIECES : ∃ t, mg "MOST_PIECES" = some (.int 4 t)
abbrev lp_worths_of_states : Pos := ⟨103, 34, 103, 93⟩
abbrev lq_worths_of_states : Str := (("worths_of_states" : Str) ++ ".<locals>.") ++ "<lambda>"
abbrev lp_cheapest_run : Pos := ⟨106, 35, 106, 94⟩
abbrev lq_cheapest_run : Str := (("cheapest_run" : Str) ++ ".<locals>.") ++ "<lambda>"
end My
namespace My
open PySem L2
inductive Th (H : Hp) : V → String → Prop where
  | non : Th H .non "NoneType"
  | bl (b : Bool) : Th H (.bl b) "bool"
  | int (i : Int) : Th H (.int i) "int"
  | str (x : Str) : Th H (.str x) "str"
  | lst {p : Addr} {xs : List V} (e : H p = some (.lst xs)) : Th H (.ref p) "list"
  | tup {p : Addr} {xs : List V} (e : H p = some (.tup xs)) : Th H (.ref p) "tuple"
  | dK {p : Addr} {kvs : List (Key × V)} (e : H p = some (.dK kvs)) : Th H (.ref p) "dict"
theorem Th.ty {K : PySem.W.Frag} {H : Hp} {v : V} {T : String} (h : Th H v T) : TyOf K H v (.type T) := by
  cases h with
  | non => exact .non
  | bl b => exact .bl b
  | int i => exact .int i
  | str x => exact .str x
  | lst e => exact .lst e
  | tup e => exact .tup e
  | dK e => exact .dK e
theorem Th.keep {H H' : Hp} {p : Addr} {v : V} {T : String} (h : Th H v T) (n : ∀ b, v = .ref b → b ≠ p) (k : Keep p H H') : Th H' v T := by
  cases h with
  | non => exact .non
  | bl b => exact .bl b
  | int i => exact .int i
  | str x => exact .str x
  | lst e => exact .lst (k _ _ e (n _ rfl))
  | tup e => exact .tup (k _ _ e (n _ rfl))
  | dK e => exact .dK (k _ _ e (n _ rfl))
theorem isi_int {K : PySem.W.Frag} {H : Hp} {v : V} {T : String} (h : Th H v T) : IsI K H v (.ty "int") (T == "int" || T == "bool") := by
  refine ⟨_, h.ty, .inl ⟨_, rfl, ?_⟩⟩
  cases h <;> rfl
theorem isi_bool {K : PySem.W.Frag} {H : Hp} {v : V} {T : String} (h : Th H v T) : IsI K H v (.ty "bool") (T == "bool") := by
  refine ⟨_, h.ty, .inl ⟨_, rfl, ?_⟩⟩
  cases h <;> rfl
def amt : V → Bool
  | .int i => decide (0 ≤ i) && decide (i ≤ 10 ^ 12)
  | _ => false
structure HandAt (H : Hp) (p : Addr) : Prop where
  ex : ∃ (d c : Int) (q : Addr) (ms : List Int), H p = some (.lst [.int d, .int c, .ref q]) ∧ H q = some (.lst (ms.map V.int)) ∧ ms ≠ [] ∧ q ≠ p
def SameQ (p : Addr) (H H' : Hp) : Prop := ∀ (d c : Int) (q : Addr), H p = some (.lst [.int d, .int c, .ref q]) → ∃ d' c' : Int, H' p = some (.lst [.int d', .int c', .ref q])
theorem SameQ.trans {p : Addr} {H H1 H2 : Hp} (a : SameQ p H H1) (b : SameQ p H1 H2) : SameQ p H H2 := fun d c q e => by
  obtain ⟨d', c', e'⟩ := a d c q e
  exact b d' c' q e'
theorem SameQ.of {p : Addr} {H H' : Hp} (s : ∀ o, H p = some o → H' p = some o) : SameQ p H H' := fun d c q e => ⟨d, c, s _ e⟩
theorem HandAt.of {p : Addr} {H H' : Hp} (h : HandAt H p) (k : Keep p H H') (s : SameQ p H H') : HandAt H' p := by
  obtain ⟨d, c, q, ms, hp, hq, hne, hqp⟩ := h.ex
  obtain ⟨d', c', e⟩ := s d c q hp
  exact ⟨⟨d', c', q, ms, e, k _ _ hq hqp, hne, hqp⟩⟩
theorem HandAt.same {H H' : Hp} {p : Addr} (h : HandAt H p) (s : Same H H') : HandAt H' p := by
  obtain ⟨d, c, q, ms, hp, hq, hne, hqp⟩ := h.ex
  exact ⟨⟨d, c, q, ms, s _ _ hp, s _ _ hq, hne, hqp⟩⟩
theorem isi_list {K : PySem.W.Frag} {H : Hp} {v : V} {T : String} (h : Th H v T) : IsI K H v (.ty "list") (T == "list") := by
  refine ⟨_, h.ty, .inl ⟨_, rfl, ?_⟩⟩
  cases h <;> rfl
theorem isi_str {K : PySem.W.Frag} {H : Hp} {v : V} {T : String} (h : Th H v T) : IsI K H v (.ty "str") (T == "str") := by
  refine ⟨_, h.ty, .inl ⟨_, rfl, ?_⟩⟩
  cases h <;> rfl
theorem isi_tuple {K : PySem.W.Frag} {H : Hp} {v : V} {T : String} (h : Th H v T) : IsI K H v (.ty "tuple") (T == "tuple") := by
  refine ⟨_, h.ty, .inl ⟨_, rfl, ?_⟩⟩
  cases h <;> rfl
theorem mod_at {ms : List Int} {c : Int} (h : ms ≠ []) : ∃ m, m ∈ ms ∧ atI (ms.map V.int) (c % ((ms.map V.int).length : Int)) = some (.int m) := by
  have hl : 0 < ms.length := List.length_pos_iff.mpr h
  have e1 := Int.emod_nonneg c (b := ((ms.map V.int).length : Int)) (by rw [List.length_map]; omega)
  have e2 := Int.emod_lt_of_pos c (b := ((ms.map V.int).length : Int)) (by rw [List.length_map]; omega)
  obtain ⟨j, hj⟩ : ∃ j : Nat, c % ((ms.map V.int).length : Int) = (j : Int) := ⟨_, (Int.toNat_of_nonneg e1).symm⟩
  rw [hj] at e2 ⊢
  rw [List.length_map] at e2
  have hjl : j < ms.length := by omega
  exact ⟨ms[j], List.getElem_mem hjl, atI_nat (by rw [List.getElem?_map, List.getElem?_eq_getElem hjl]; rfl)⟩
theorem cut_map (ms : List Int) (lo hi : Option Int) : ∃ r : List Int, cutV (ms.map V.int) lo hi = r.map V.int ∧ r.length = (cutV (ms.map V.int) lo hi).length := by
  unfold cutV
  rw [← List.map_drop, ← List.map_take]
  exact ⟨_, rfl, by simp⟩
theorem rot {ms : List Int} {i : Int} (h0 : 0 ≤ i) (h1 : i < ms.length) : ∃ ms' : List Int, cutV (ms.map V.int) (some i) none ++ cutV (ms.map V.int) none (some i) = ms'.map V.int ∧ ms' ≠ [] ∧ ms'.length ≤ ms.length + ms.length := by
  obtain ⟨r1, e1, l1⟩ := cut_map ms (some i) none
  obtain ⟨r2, e2, l2⟩ := cut_map ms none (some i)
  have b1 := cutV_length (ms.map V.int) (some i) none
  have b2 := cutV_length (ms.map V.int) none (some i)
  rw [List.length_map] at b1 b2
  refine ⟨r1 ++ r2, by rw [e1, e2, List.map_append], fun z => ?_, by rw [List.length_append]; omega⟩
  have z1 : r1 = [] := (List.append_eq_nil_iff.mp z).1
  obtain ⟨j, rfl⟩ := Int.eq_ofNat_of_zero_le h0
  have hj : j < ms.length := by omega
  rw [z1, List.length_nil] at l1
  have l3 : (cutV (ms.map V.int) (some (j : Int)) none).length = ms.length - j := by
    unfold cutV
    rw [HT.sIx_nat, HT.sIx_none, List.length_take, List.length_drop, List.length_map, Nat.min_eq_left (Nat.le_of_lt hj)]
    omega
  rw [l3] at l1
  omega
def sp__law_open (K : PySem.W.Frag) : Sp := fun vs H Q _ => ∃ (a : Addr) (ns : List Int) (i : Int), vs = [.ref a, .int i] ∧ SqL K H a (ns.map V.int) ∧ ns.length ≤ 63 ∧ 0 ≤ i ∧
  ∀ p H', Same H H' → H p = none → HandAt H' p → Q (.ref p) H'
set_option maxHeartbeats 40000000 in
theorem ok__law_open {P : Program} {w : World} {K : PySem.W.Frag} {mg : Str → Option Value} {base : Heap} {a : Adr} (tx : Txt K mg a) : FnOk P w K mg base CX0 1 a.f__law_open a.d__law_open ["_law_script", "_law_place"] (sp__law_open K) := by
  refine tx.F__law_open.ok sc__law_open (fun vs H Q E h => ?_) (fun cdv A outer s H vs Q E hr h => ?_)
  · obtain ⟨a, ns, i, rfl, _⟩ := h
    rfl
  · obtain ⟨a, ns, i, rfl , hS, hl, h0, k⟩ := h
    have hu := hu9 hr
    refine Z.root (Z.pss_cons (Z.ps_setC (k := 1) (idx := []) (N := ["_law_cell"]) (i := 2) sc__law_open.nd rfl (Or.inl rfl) (blk_sc (sc := defScope s__law_open) (NX := ["_law_script", "_law_place", "_law_cells", "_law_at", "_law_digits"]) rfl rfl rfl (by decide +kernel)) rfl (Z.pi_listK (K' := K) (Z.pe_slice (rs := rSlG K) sl_G (Z.pv 0) Z.po_none (Z.po_some Z.pe_int))) (fun _ _ _ _ => (Z.pg_name (i := 0) (show (["_law_cell"] : List Str).Nodup by decide +kernel) rfl (Or.inl rfl))) (own_name (by decide)) (fun _ _ _ _ => Z.pts_nil) (fun _ _ _ _ => (Z.pe_callBN call_absG (by rfl) tx.z_abs bt_abs (Z.pa_c (Z.pv 0) Z.pa_nil))))
      (Z.pss_cons (Z.ps_if (Z.pt_cmpR (r := rEqG K) (op_eqG hu) (Z.pv 2) (Z.pe_lst Z.pa_nil) (nomark _)) (Z.pss_one (Z.ps_set (i := 2) sc__law_open.nd rfl (Or.inl rfl) (Z.lst1 Z.pe_int))) Z.pss_nil)
      (Z.pss_cons (Z.ps_set (i := 3) sc__law_open.nd rfl (Or.inl rfl) (Z.pe_op op_mod (Z.pv 1) (Z.pe_callBN (rc := rLen K) call_lenG (by rfl) tx.z_len bt_len (Z.pa_c (Z.pv 2) Z.pa_nil))))
      (Z.pss_cons (Z.ps_set (i := 4) sc__law_open.nd rfl (Or.inl rfl) Z.pe_int)
      (Z.pss_cons (Z.ps_if (Z.pw_pt (Z.pw_and (Z.pt_cmpR op_ge (Z.pe_ixK (K' := K) (Z.pv 2) (Z.pv 3) (fun _ _ => rfl)) (Z.pe_op op_pow Z.pe_int Z.pe_int) (nomark _)) (Z.pw_and1 (Z.pt_cmpR op_lt (Z.pv 1) (Z.pe_callBN (rc := rLen K) call_lenG (by rfl) tx.z_len bt_len (Z.pa_c (Z.pv 2) Z.pa_nil)) (nomark _))))) (Z.pss_one (Z.ps_set (i := 4) sc__law_open.nd rfl (Or.inl rfl) (Z.pe_ixK (K' := K) (Z.pv 2) (Z.pv 3) (fun _ _ => rfl)))) Z.pss_nil)
      (Z.pss_one (Z.ps_ret (Z.lst3 (Z.pv 4) (Z.pe_op op_addG Z.pe_int (Z.pe_op op_mulG Z.pe_int (Z.pv 1))) (Z.pe_op op_addG (Z.pe_slice (rs := rSlG K) sl_G (Z.pv 2) (Z.po_some (Z.pv 3)) Z.po_none) (Z.pe_slice (rs := rSlG K) sl_G (Z.pv 2) Z.po_none (Z.po_some (Z.pv 3)))))))))))) ?_
    refine rd_start (σ := [some (.ref a), some (.int i), none, none, none]) rfl ?_
    refine rd_seq ?_
    walk_at "w"
    refine rd_slL hS ?_
    intro p1 n1
    walk_at "w"
    rw [show cutV (ns.map V.int) none (some 63) = ns.map V.int from cut_head (n := 63) (by rw [List.length_map]; exact hl)]
    refine rd_li (SqL.of upd_same) ?_
    refine comp_pure (fun v => match v with | .int i => .int (if i < 0 then -i else i) | v => v) (SqL.of upd_same) (sz_le (by rw [List.length_map]; omega)) (fun x N N' hx hN => ?_) ?_
    · obtain ⟨y, hy, rfl⟩ := List.mem_map.mp hx
      walk_at "w"
      exact hN
    · intro p2 n2
      repeat walk_at "st"
      have s2 : Same H (upd (upd H p1 (.lst (ns.map V.int))) p2 (.lst ((ns.map V.int).map fun v => match v with | .int i => .int (if i < 0 then -i else i) | v => v))) := (Same.new n1).trans (Same.new n2)
      rw [List.map_map] at s2 ⊢
      generalize hm : ns.map ((fun v => match v with | V.int i => V.int (if i < 0 then -i else i) | v => v) ∘ V.int) = xs at s2 ⊢
      obtain ⟨ms, rfl⟩ : ∃ ms : List Int, xs = ms.map V.int := ⟨ns.map fun i => if i < 0 then -i else i, by rw [← hm, List.map_map]; rfl⟩
      have lm : ms.length ≤ 63 := by
        have := congrArg List.length hm
        simp only [List.length_map] at this
        omega
      refine rd_seqJ (fun σ' H' => ∃ (c : Addr) (ms : List Int), σ' = [some (.ref a), some (.int i), some (.ref c), none, none] ∧ Same H H' ∧ H' c = some (.lst (ms.map V.int)) ∧ ms ≠ [] ∧ ms.length ≤ 63) (fun N hN => ?_) ?_
      · walk_at "w"
        intro p3 n3
        walk_at "w"
        refine ⟨_, eqN_nil (SqL.of (by walk_at "hp")) (SqL.of upd_same), ?_⟩
        walk_at "w"
        refine rd_bool (fun h => ?_) (fun h => ?_)
        · walk_at "w"
          intro p4 n4
          walk_at "w"
          exact hN _ _ ⟨p4, [0], rfl, (s2.trans (Same.new n3)).trans (Same.new n4), upd_same, by simp, by simp⟩
        · walk_at "w"
          refine hN _ _ ⟨p2, ms, rfl, s2.trans (Same.new n3), by walk_at "hp", ?_, lm⟩
          rintro rfl
          simp at h
      · rintro σ' H' ⟨c, ms, rfl, sH, hc, hne, lm⟩
        have hl : 0 < ms.length := List.length_pos_iff.mpr hne
        obtain ⟨m, _, hm⟩ := mod_at (c := i) hne
        have e1 := Int.emod_nonneg i (b := ((ms.map V.int).length : Int)) (by rw [List.length_map]; omega)
        have e2 := Int.emod_lt_of_pos i (b := ((ms.map V.int).length : Int)) (by rw [List.length_map]; omega)
        obtain ⟨ms', em, en, el⟩ := rot (ms := ms) e1 (by rw [List.length_map] at e2 ⊢; exact e2)
        walk_at "w"
        refine rd_dec (fun h => ?_) (fun h => ?_)
        · walk_at "w"
          refine rd_dec (fun h => ?_) (fun h => ?_)
          all_goals
            walk_at "w"
            refine rd_slL (SqL.of hc) ?_
            intro p5 n5
            walk_at "w"
            refine rd_slL (SqL.of (by walk_at "hp")) ?_
            intro p6 n6
            walk_at "w"
            refine rd_addL (by walk_at "hp") (by walk_at "hp") (sz_le (by have := cutV_length (ms.map V.int) (some (i % ((ms.map V.int).length : Int))) none; have := cutV_length (ms.map V.int) none (some (i % ((ms.map V.int).length : Int))); simp only [List.length_map] at *; omega)) ?_
            intro p7 n7
            walk_at "w"
            rw [em]
            walk_at "w"
            intro p8 n8
            walk_at "w"
            have s8 := ((Same.new (o := .lst (cutV (ms.map V.int) (some (i % ((ms.map V.int).length : Int))) none)) n5).trans (Same.new (o := .lst (cutV (ms.map V.int) none (some (i % ((ms.map V.int).length : Int))))) n6)).trans (Same.new (o := .lst (ms'.map V.int)) n7)
            refine k _ _ (sH.trans (s8.trans (Same.new n8))) ((sH.trans s8).free n8) ⟨⟨_, _, _, ms', upd_same, by walk_at "hp", en, ?_⟩⟩
            exact ne_none n8 upd_same
        · walk_at "w"
          refine rd_slL (SqL.of hc) ?_
          intro p5 n5
          walk_at "w"
          refine rd_slL (SqL.of (by walk_at "hp")) ?_
          intro p6 n6
          walk_at "w"
          refine rd_addL (by walk_at "hp") (by walk_at "hp") (sz_le (by have := cutV_length (ms.map V.int) (some (i % ((ms.map V.int).length : Int))) none; have := cutV_length (ms.map V.int) none (some (i % ((ms.map V.int).length : Int))); simp only [List.length_map] at *; omega)) ?_
          intro p7 n7
          walk_at "w"
          rw [em]
          walk_at "w"
          intro p8 n8
          walk_at "w"
          have s8 := ((Same.new (o := .lst (cutV (ms.map V.int) (some (i % ((ms.map V.int).length : Int))) none)) n5).trans (Same.new (o := .lst (cutV (ms.map V.int) none (some (i % ((ms.map V.int).length : Int))))) n6)).trans (Same.new (o := .lst (ms'.map V.int)) n7)
          refine k _ _ (sH.trans (s8.trans (Same.new n8))) ((sH.trans s8).free n8) ⟨⟨_, _, _, ms', upd_same, by walk_at "hp", en, ?_⟩⟩
          exact ne_none n8 upd_same
def sp__law_draw (K : PySem.W.Frag) : Sp := fun vs H Q _ => ∃ (p : Addr) (n : Int), vs = [.ref p, .int n] ∧ HandAt H p ∧ 0 < n ∧ n < 1073741824 ∧
  ∀ (r : Int) H', 0 ≤ r → r < n → HandAt H' p → Keep p H H' → SameQ p H H' → Q (.int r) H'
set_option maxHeartbeats 40000000 in
theorem ok__law_draw {P : Program} {w : World} {K : PySem.W.Frag} {mg : Str → Option Value} {base : Heap} {a : Adr} (tx : Txt K mg a) : FnOk P w K mg base CX0 1 a.f__law_draw a.d__law_draw ["_law_hand", "_law_many"] (sp__law_draw K) := by
  refine tx.F__law_draw.ok sc__law_draw (fun vs H Q E h => ?_) (fun cdv A outer s H vs Q E hr h => ?_)
  · obtain ⟨p, n, rfl, _⟩ := h
    rfl
  · obtain ⟨p, n, rfl , hh, h0, h1, k⟩ := h
    have hu := hu9 hr
    refine Z.root (Z.pss_cons (Z.ps_if (Z.pt_cmpR op_gt (Z.pe_ixK (K' := K) (Z.pv 0) Z.pe_int (fun _ _ => rfl)) Z.pe_int (nomark _)) (Z.pss_cons (Z.ps_set (i := 2) sc__law_draw.nd rfl (Or.inl rfl) (Z.pe_op op_mod (Z.pe_ixK (K' := K) (Z.pv 0) Z.pe_int (fun _ _ => rfl)) (Z.pv 1)))
      (Z.pss_cons (Z.ps_asg (Z.pe_op op_fdiv (Z.pe_ixK (K' := K) (Z.pv 0) Z.pe_int (fun _ _ => rfl)) (Z.pv 1)) (Z.pg_sub (Z.pv 0) Z.pe_int set_list))
      (Z.pss_one (Z.ps_ret (Z.pv 2))))) Z.pss_nil)
      (Z.pss_cons (Z.ps_augS (Z.pv 0) Z.pe_int get_ix Z.pe_int ip_add set_list)
      (Z.pss_cons (Z.ps_set (i := 3) sc__law_draw.nd rfl (Or.inl rfl) (Z.pe_op op_mod (Z.pe_ixK (K' := K) (Z.pe_ixK (K' := K) (Z.pv 0) Z.pe_int (fun _ _ => rfl)) (Z.pe_op op_mod (Z.pe_ixK (K' := K) (Z.pv 0) Z.pe_int (fun _ _ => rfl)) (Z.pe_callBN (rc := rLen K) call_lenG (by rfl) tx.z_len bt_len (Z.pa_c (Z.pe_ixK (K' := K) (Z.pv 0) Z.pe_int (fun _ _ => rfl)) Z.pa_nil))) (fun _ _ => rfl)) Z.pe_int))
      (Z.pss_cons (Z.ps_set (i := 4) sc__law_draw.nd rfl (Or.inl rfl) (Z.pe_op op_mod (Z.pe_op op_addG (Z.pe_op op_addG (Z.pe_op op_mulG (Z.pv 3) Z.pe_int) (Z.pe_op op_mulG (Z.pe_ixK (K' := K) (Z.pv 0) Z.pe_int (fun _ _ => rfl)) Z.pe_int)) Z.pe_int) Z.pe_int))
      (Z.pss_cons (Z.ps_set (i := 4) sc__law_draw.nd rfl (Or.inl rfl) (Z.pe_op op_mod (Z.pe_op op_addG (Z.pe_op op_mulG (Z.pv 4) (Z.pv 4)) (Z.pe_ixK (K' := K) (Z.pv 0) Z.pe_int (fun _ _ => rfl))) Z.pe_int))
      (Z.pss_cons (Z.ps_set (i := 4) sc__law_draw.nd rfl (Or.inl rfl) (Z.pe_op op_mod (Z.pe_op op_addG (Z.pe_op op_mulG (Z.pv 4) Z.pe_int) Z.pe_int) Z.pe_int))
      (Z.pss_one (Z.ps_ret (Z.pe_op op_mod (Z.pe_op op_fdiv (Z.pe_op op_mod (Z.pe_op op_mulG (Z.pv 4) (Z.pv 4)) Z.pe_int) Z.pe_int) (Z.pv 1)))))))))) ?_
    obtain ⟨d, c, q, ms, hp, hq, hne, hqp⟩ := hh.ex
    refine rd_start (σ := [some (.ref p), some (.int n), none, none, none]) rfl ?_
    walk_at "w"
    refine rd_dec (fun hd => ?_) (fun hd => ?_)
    · walk_at "w"
      refine rd_setL hp rfl ?_
      walk_at "w"
      refine k _ _ (Int.emod_nonneg _ (by omega)) (Int.emod_lt_of_pos _ h0) ⟨⟨_, c, q, ms, upd_same, by walk_at "hp", hne, hqp⟩⟩ Keep.upd (fun d0 c0 q0 e0 => by rw [hp] at e0; cases e0; exact ⟨_, _, upd_same⟩)
    · walk_at "w"
      refine rd_gIx (SqL.of hp) (by decide) rfl ?_
      walk_at "w"
      refine rd_setL hp rfl ?_
      obtain ⟨m, _, hm⟩ := mod_at (c := c + 1) hne
      have hlen : 0 < ((ms.map V.int).length : Int) := by rw [List.length_map]; have := List.length_pos_iff.mpr hne; omega
      walk_at "w"
      have hq' : (upd H p (.lst [.int d, .int (c + 1), .ref q])) q = some (.lst (ms.map V.int)) := by walk_at "hp"
      walk_at "w"
      exact k _ _ (Int.emod_nonneg _ (by omega)) (Int.emod_lt_of_pos _ h0) ⟨⟨d, c + 1, q, ms, upd_same, hq', hne, hqp⟩⟩ Keep.upd (fun d0 c0 q0 e0 => by rw [hp] at e0; cases e0; exact ⟨_, _, upd_same⟩)
def sp__law_far (K : PySem.W.Frag) : Sp := fun vs H Q _ => ∃ (p : Addr) (b : Int), vs = [.ref p, .int b] ∧ HandAt H p ∧ 0 < b ∧
  ∀ (r : Int) H', 0 ≤ r → r < b → HandAt H' p → Keep p H H' → SameQ p H H' → Q (.int r) H'
set_option maxHeartbeats 40000000 in
theorem ok__law_far {P : Program} {w : World} {K : PySem.W.Frag} {mg : Str → Option Value} {base : Heap} {a : Adr} (tx : Txt K mg a) : FnOk P w K mg base CX0 2 a.f__law_far a.d__law_far ["_law_hand", "_law_bound"] (sp__law_far K) := by
  have G__law_draw := ok__law_draw (P := P) (w := w) (base := base) tx
  refine tx.F__law_far.ok sc__law_far (fun vs H Q E h => ?_) (fun cdv A outer s H vs Q E hr h => ?_)
  · obtain ⟨p, b, rfl, _⟩ := h
    rfl
  · obtain ⟨p, b, rfl , hh, h0, k⟩ := h
    have hu := hu9 hr
    refine Z.root (Z.pss_cons (Z.ps_set (i := 2) sc__law_far.nd rfl (Or.inl rfl) Z.pe_int)
      (Z.pss_cons (Z.ps_for PassesOwn.never rfl (Z.pi_range1N (by rfl) tx.z_range (Z.pa_c Z.pe_int Z.pa_nil)) (Z.pg_name (i := 3) sc__law_far.nd rfl (Or.inl rfl)) (Z.pss_one (Z.ps_set (i := 2) sc__law_far.nd rfl (Or.inl rfl) (Z.pe_op op_addG (Z.pe_op op_mulG (Z.pv 2) Z.pe_int) (Z.pe_callN (G__law_draw) (hr.mono (by decide)) (by rfl) tx.g__law_draw tx.F__law_draw.kp tx.b__law_draw .nil pass0 (Z.pa_c (Z.pv 0) (Z.pa_c Z.pe_int Z.pa_nil)))))))
      (Z.pss_one (Z.ps_ret (Z.pe_op op_mod (Z.pv 2) (Z.pv 1)))))) ?_
    refine rd_start (σ := [some (.ref p), some (.int b), none, none]) rfl ?_
    walk_at "w"
    refine ⟨by decide, by decide, ?_⟩
    refine rf_range (n := 11) (fun i σ' H' => ∃ (t : Int) (x : Option V), σ' = [some (.ref p), some (.int b), some (.int t), x] ∧ HandAt H' p ∧ Keep p H H' ∧ SameQ p H H') ⟨0, none, rfl, hh, fun _ _ e _ => e, SameQ.of fun _ e => e⟩ (fun i σ' H' hi ⟨t, x, e, h', kp, sq⟩ => ?_) (fun σ' H' ⟨t, x, e, h', kp, sq⟩ => ?_)
    · subst e
      walk_at "w"
      refine ⟨p, _, rfl, h', by decide, by decide, fun r H2 r0 r1 h2 k2 q2 => ?_⟩
      walk_at "w"
      exact ⟨_, _, rfl, h2, kp.trans k2, sq.trans q2⟩
    · subst e
      walk_at "w"
      exact k _ _ (Int.emod_nonneg _ (by omega)) (Int.emod_lt_of_pos _ h0) h' kp sq
def sp__law_factor (K : PySem.W.Frag) : Sp := fun vs H Q _ => ∃ (p : Addr), vs = [.ref p] ∧ HandAt H p ∧ ∀ (r : Int) H', 1 ≤ r → r ≤ 50000000000 → HandAt H' p → Keep p H H' → SameQ p H H' → Q (.int r) H'
set_option maxHeartbeats 40000000 in
theorem ok__law_factor {P : Program} {w : World} {K : PySem.W.Frag} {mg : Str → Option Value} {base : Heap} {a : Adr} (tx : Txt K mg a) : FnOk P w K mg base CX0 3 a.f__law_factor a.d__law_factor ["_law_hand"] (sp__law_factor K) := by
  have G__law_draw := ok__law_draw (P := P) (w := w) (base := base) tx
  have G__law_far := ok__law_far (P := P) (w := w) (base := base) tx
  refine tx.F__law_factor.ok sc__law_factor (fun vs H Q E h => ?_) (fun cdv A outer s H vs Q E hr h => ?_)
  · obtain ⟨p, rfl, _⟩ := h
    rfl
  · obtain ⟨p, rfl , hh, k⟩ := h
    have hu := hu9 hr
    refine Z.root (Z.pss_cons (Z.ps_if (Z.pt_cmpR op_gt (Z.pe_callN (G__law_draw) (hr.mono (by decide)) (by rfl) tx.g__law_draw tx.F__law_draw.kp tx.b__law_draw .nil pass0 (Z.pa_c (Z.pv 0) (Z.pa_c Z.pe_int Z.pa_nil))) Z.pe_int (nomark _)) (Z.pss_one (Z.ps_ret Z.pe_int)) Z.pss_nil)
      (Z.pss_one (Z.ps_ret (Z.pe_op op_addG Z.pe_int (Z.pe_callN (G__law_far) (hr.mono (by decide)) (by rfl) tx.g__law_far tx.F__law_far.kp tx.b__law_far .nil pass0 (Z.pa_c (Z.pv 0) (Z.pa_c (Z.pe_op op_mulG Z.pe_int (Z.pe_op op_pow Z.pe_int Z.pe_int)) Z.pa_nil))))))) ?_
    refine rd_start (σ := [some (.ref p)]) rfl ?_
    walk_at "w"
    refine ⟨p, _, rfl, hh, by decide, by decide, fun r1 H1 a1 b1 h1 k1 q1 => ?_⟩
    walk_at "w"
    refine rd_dec (fun h => ?_) (fun h => ?_)
    · walk_at "w"
      exact k _ _ (by decide) (by decide) h1 k1 q1
    · walk_at "w"
      refine ⟨p, _, rfl, h1, by decide, fun r2 H2 a2 b2 h2 k2 q2 => ?_⟩
      have b3 : r2 < 50000000000 := b2
      walk_at "w"
      exact k _ _ (by omega) (by omega) h2 (k1.trans k2) (q1.trans q2)
structure MS where
  up : Int
  down : Int
  begin_ : Int
  run : Int
  rest : Int
  least : Int
  pieces : List (Int × Int)
def Am (i : Int) : Prop := 0 ≤ i ∧ i ≤ 1000000000000
structure PcGood (ps : List (Int × Int)) : Prop where
  len : ps.length ≤ 4
  pc : ∀ t ∈ ps, 1 ≤ t.1 ∧ Am t.1 ∧ Am t.2
  up : ∀ (j : Nat) t u, ps[j]? = some t → ps[j + 1]? = some u → t.2 ≤ u.2
structure MS.Good (m : MS) : Prop where
  up : 1 ≤ m.up ∧ m.up ≤ 12
  down : 1 ≤ m.down ∧ m.down ≤ 12
  begin_ : Am m.begin_
  run : Am m.run
  rest : Am m.rest
  least : Am m.least
  pieces : PcGood m.pieces
structure Tup2 (H : Hp) (qs : List Addr) (ps : List (Int × Int)) : Prop where
  len : qs.length = ps.length
  at_ : ∀ (j : Nat) q t, qs[j]? = some q → ps[j]? = some t → H q = some (.tup [.int t.1, .int t.2])
structure PcAt (H : Hp) (p : Addr) (ps : List (Int × Int)) : Prop where
  ex : ∃ qs, H p = some (.lst (qs.map V.ref)) ∧ Tup2 H qs ps
structure SpecAt (H : Hp) (s : Addr) (m : MS) : Prop where
  ex : ∃ pl, H s = some (.lst [.int m.up, .int m.down, .int m.begin_, .int m.run, .int m.rest, .int m.least, .ref pl]) ∧ PcAt H pl m.pieces
def mFs (m : MS) (pl : Addr) : List (Str × V) := [("up", .int m.up), ("down", .int m.down), ("begin", .int m.begin_), ("run", .int m.run), ("rest", .int m.rest), ("least", .int m.least), ("pieces", .ref pl)]
structure MachAt (C : Addr) (H : Hp) (a : Addr) (m : MS) : Prop where
  ex : ∃ dx pl, H a = some (.ins C dx (mFs m pl)) ∧ PcAt H pl m.pieces
theorem Tup2.at2 {H : Hp} {qs : List Addr} {ps : List (Int × Int)} (h : Tup2 H qs ps) {q : Addr} (hq : q ∈ qs) : ∃ t ∈ ps, H q = some (.tup [.int t.1, .int t.2]) := by
  obtain ⟨j, hj, rfl⟩ := List.getElem_of_mem hq
  have hj2 : j < ps.length := by rw [← h.len]; exact hj
  exact ⟨ps[j], List.getElem_mem hj2, h.at_ j _ _ (List.getElem?_eq_getElem hj) (List.getElem?_eq_getElem hj2)⟩
theorem Tup2.same {H H' : Hp} {qs : List Addr} {ps : List (Int × Int)} (h : Tup2 H qs ps) (s : Same H H') : Tup2 H' qs ps := ⟨h.len, fun j q t h1 h2 => s _ _ (h.at_ j q t h1 h2)⟩
theorem PcAt.same {H H' : Hp} {p : Addr} {ps : List (Int × Int)} (h : PcAt H p ps) (s : Same H H') : PcAt H' p ps := by
  obtain ⟨qs, h1, h2⟩ := h.ex
  exact ⟨qs, s _ _ h1, h2.same s⟩
theorem SpecAt.same {H H' : Hp} {p : Addr} {m : MS} (h : SpecAt H p m) (s : Same H H') : SpecAt H' p m := by
  obtain ⟨pl, h1, h2⟩ := h.ex
  exact ⟨pl, s _ _ h1, h2.same s⟩
theorem MachAt.same {C : Addr} {H H' : Hp} {p : Addr} {m : MS} (h : MachAt C H p m) (s : Same H H') : MachAt C H' p m := by
  obtain ⟨dx, pl, h1, h2⟩ := h.ex
  exact ⟨dx, pl, s _ _ h1, h2.same s⟩
theorem Tup2.keep {H H' : Hp} {qs : List Addr} {ps : List (Int × Int)} {p : Addr} (h : Tup2 H qs ps) (hp : ∀ xs, H p ≠ some (.tup xs)) (s : Keep p H H') : Tup2 H' qs ps :=
  ⟨h.len, fun j q t h1 h2 => by
    have e := h.at_ j q t h1 h2
    exact s _ _ e (fun z => hp _ (z ▸ e))⟩
theorem HandAt.ntup {H : Hp} {p : Addr} (h : HandAt H p) (xs : List V) : H p ≠ some (.tup xs) := fun z => by
  obtain ⟨d, c, q, ms, hp, _⟩ := h.ex
  rw [hp] at z
  cases z
theorem PcAt.keep {H H' : Hp} {a p : Addr} {ps : List (Int × Int)} (h : PcAt H a ps) (hh : HandAt H p) (s : Keep p H H') : PcAt H' a ps := by
  obtain ⟨qs, h1, h2⟩ := h.ex
  obtain ⟨d, c, q, ms, hp, _⟩ := id hh.ex
  refine ⟨qs, s _ _ h1 (fun z => ?_), h2.keep hh.ntup s⟩
  rw [z, hp] at h1
  cases qs with
  | nil => cases h1
  | cons x xs => cases h1
theorem SpecAt.keep {H H' : Hp} {a p : Addr} {m : MS} (h : SpecAt H a m) (hh : HandAt H p) (s : Keep p H H') : SpecAt H' a m := by
  obtain ⟨pl, h1, h2⟩ := h.ex
  obtain ⟨d, c, q, ms, hp, _⟩ := id hh.ex
  refine ⟨pl, s _ _ h1 (fun z => ?_), h2.keep hh s⟩
  rw [z, hp] at h1
  cases h1
theorem MachAt.keep {C : Addr} {H H' : Hp} {a p : Addr} {m : MS} (h : MachAt C H a m) (hh : HandAt H p) (s : Keep p H H') : MachAt C H' a m := by
  obtain ⟨dx, pl, h1, h2⟩ := h.ex
  obtain ⟨d, c, q, ms, hp, _⟩ := id hh.ex
  refine ⟨dx, pl, s _ _ h1 (fun z => ?_), h2.keep hh s⟩
  rw [z, hp] at h1
  cases h1
theorem amt_of {i : Int} (h : Am i) : amt (.int i) = true := by
  obtain ⟨h1, h2⟩ := h
  have h3 : i ≤ 10 ^ 12 := h2
  show (decide (0 ≤ i) && decide (i ≤ 10 ^ 12)) = true
  rw [decide_eq_true h1, decide_eq_true h3]
  rfl
def sp_is_whole (K : PySem.W.Frag) : Sp := fun vs H Q _ => ∃ v T, vs = [v] ∧ Th H v T ∧ Q (.bl (T == "int")) H
set_option maxHeartbeats 40000000 in
theorem ok_is_whole {P : Program} {w : World} {K : PySem.W.Frag} {mg : Str → Option Value} {base : Heap} {a : Adr} (tx : Txt K mg a) : FnOk P w K mg base CX0 1 a.f_is_whole a.d_is_whole ["thing"] (sp_is_whole K) := by
  refine tx.F_is_whole.ok sc_is_whole (fun vs H Q E h => ?_) (fun cdv A outer s H vs Q E hr h => ?_)
  · obtain ⟨v, T, rfl, _⟩ := h
    rfl
  · obtain ⟨v, T, rfl , ht, k⟩ := h
    have hu := hu9 hr
    refine Z.root (Z.pss_one (Z.ps_ret (Z.pe_and (Z.pe_callBN (rc := rIsi K) call_isiG (by rfl) tx.z_isinstance bt_isinstance (Z.pa_c (Z.pv 0) (Z.pa_c (Z.pe_bltn (v := .ty "int") (by rfl) tx.z_int bt_int rfl) Z.pa_nil))) (Z.pe_one (Z.pe_not (Z.pe_callBN (rc := rIsi K) call_isiG (by rfl) tx.z_isinstance bt_isinstance (Z.pa_c (Z.pv 0) (Z.pa_c (Z.pe_bltn (v := .ty "bool") (by rfl) tx.z_bool bt_bool rfl) Z.pa_nil)))))))) ?_
    refine rd_start (σ := [some v]) rfl ?_
    walk_at "w"
    refine rd_isi (isi_int ht) ?_
    walk_at "w"
    refine rd_bool (fun h => ?_) (fun h => ?_)
    · walk_at "w"
      refine rd_isi (isi_bool ht) ?_
      walk_at "w"
      have e : (!(T == "bool")) = (T == "int") := by cases ht <;> first | rfl | cases h
      rw [e]
      exact k
    · have e : (T == "int") = false := by cases ht <;> first | rfl | cases h
      rw [e] at k
      exact k
def sp_is_amount (K : PySem.W.Frag) : Sp := fun vs H Q _ => ∃ v T, vs = [v] ∧ Th H v T ∧ Q (.bl (amt v)) H
set_option maxHeartbeats 40000000 in
theorem ok_is_amount {P : Program} {w : World} {K : PySem.W.Frag} {mg : Str → Option Value} {base : Heap} {a : Adr} (tx : Txt K mg a) : FnOk P w K mg base CX0 2 a.f_is_amount a.d_is_amount ["thing"] (sp_is_amount K) := by
  have G_is_whole := ok_is_whole (P := P) (w := w) (base := base) tx
  refine tx.F_is_amount.ok sc_is_amount (fun vs H Q E h => ?_) (fun cdv A outer s H vs Q E hr h => ?_)
  · obtain ⟨v, T, rfl, _⟩ := h
    rfl
  · obtain ⟨v, T, rfl , ht, k⟩ := h
    have hu := hu9 hr
    refine Z.root (Z.pss_one (Z.ps_ret (Z.pe_and (Z.pe_callN (G_is_whole) (hr.mono (by decide)) (by rfl) tx.g_is_whole tx.F_is_whole.kp tx.b_is_whole .nil pass0 (Z.pa_c (Z.pv 0) Z.pa_nil)) (Z.pe_one (Z.pe_chain op_le op_le Z.pe_int (Z.pv 0) (Z.pe_op op_pow Z.pe_int Z.pe_int)))))) ?_
    refine rd_start (σ := [some v]) rfl ?_
    walk_at "w"
    refine ⟨v, T, rfl, ht, ?_⟩
    walk_at "w"
    refine rd_bool (fun h => ?_) (fun h => ?_)
    · cases ht with
      | int i =>
        walk_at "w"
        refine rd_dec (fun h1 => ?_) (fun h1 => ?_)
        · walk_at "w"
          have e : amt (.int i) = decide (i ≤ 10 ^ (12 : Int).toNat) := by simp [amt, h1]
          rw [← e]
          exact k
        · have e : amt (.int i) = false := by simp [amt, h1]
          rw [e] at k
          exact k
      | _ => cases h
    · have e : amt v = false := by cases ht <;> first | rfl | cases h
      rw [e] at k
      exact k
def sp_is_span (K : PySem.W.Frag) : Sp := fun vs H Q _ => ∃ (i : Int), vs = [.int i] ∧ 1 ≤ i ∧ i ≤ 12 ∧ Q (.bl true) H
set_option maxHeartbeats 40000000 in
theorem ok_is_span {P : Program} {w : World} {K : PySem.W.Frag} {mg : Str → Option Value} {base : Heap} {a : Adr} (tx : Txt K mg a) : FnOk P w K mg base CX0 2 a.f_is_span a.d_is_span ["thing"] (sp_is_span K) := by
  have G_is_whole := ok_is_whole (P := P) (w := w) (base := base) tx
  refine tx.F_is_span.ok sc_is_span (fun vs H Q E h => ?_) (fun cdv A outer s H vs Q E hr h => ?_)
  · obtain ⟨i, rfl, _⟩ := h
    rfl
  · obtain ⟨i, rfl , h1, h2, k⟩ := h
    have hu := hu9 hr
    refine Z.root (Z.pss_one (Z.ps_ret (Z.pe_and (Z.pe_callN (G_is_whole) (hr.mono (by decide)) (by rfl) tx.g_is_whole tx.F_is_whole.kp tx.b_is_whole .nil pass0 (Z.pa_c (Z.pv 0) Z.pa_nil)) (Z.pe_one (Z.pe_chain op_le op_le Z.pe_int (Z.pv 0) (Z.pe_gint (n := 12) (by rfl) tx.v_LONGEST_STINT)))))) ?_
    refine rd_start (σ := [some (.int i)]) rfl ?_
    walk_at "w"
    refine ⟨_, _, rfl, .int i, ?_⟩
    walk_at "w"
    refine rd_bool (fun _ => ?_) (fun h => by simp at h)
    walk_at "w"
    refine rd_dec (fun _ => ?_) (fun h => absurd h1 h)
    walk_at "w"
    rw [decide_eq_true h2]
    exact k
def sp_is_piece (K : PySem.W.Frag) : Sp := fun vs H Q _ => ∃ (q : Addr) (x y : Int), vs = [.ref q] ∧ H q = some (.tup [.int x, .int y]) ∧ 1 ≤ x ∧ Am x ∧ Am y ∧ Q (.bl true) H
set_option maxHeartbeats 40000000 in
theorem ok_is_piece {P : Program} {w : World} {K : PySem.W.Frag} {mg : Str → Option Value} {base : Heap} {a : Adr} (tx : Txt K mg a) : FnOk P w K mg base CX0 3 a.f_is_piece a.d_is_piece ["thing"] (sp_is_piece K) := by
  have G_is_amount := ok_is_amount (P := P) (w := w) (base := base) tx
  refine tx.F_is_piece.ok sc_is_piece (fun vs H Q E h => ?_) (fun cdv A outer s H vs Q E hr h => ?_)
  · obtain ⟨q, x, y, rfl, _⟩ := h
    rfl
  · obtain ⟨q, x, y, rfl , hq, h1, h2, h3, k⟩ := h
    have hu := hu9 hr
    refine Z.root (Z.pss_cons (Z.ps_if (Z.pw_pt (Z.pw_or (Z.pt_not (Z.pt_val (Z.pe_callBN (rc := rIsi K) call_isiG (by rfl) tx.z_isinstance bt_isinstance (Z.pa_c (Z.pv 0) (Z.pa_c (Z.pe_bltn (v := .ty "tuple") (by rfl) tx.z_tuple bt_tuple rfl) Z.pa_nil))))) (Z.pw_or1 (Z.pt_cmpR (r := rNeG K) (op_neG hu) (Z.pe_callBN (rc := rLen K) call_lenG (by rfl) tx.z_len bt_len (Z.pa_c (Z.pv 0) Z.pa_nil)) Z.pe_int (nomark _))))) (Z.pss_one (Z.ps_ret Z.pe_bl)) Z.pss_nil)
      (Z.pss_one (Z.ps_ret (Z.pe_and (Z.pe_callN (G_is_amount) (hr.mono (by decide)) (by rfl) tx.g_is_amount tx.F_is_amount.kp tx.b_is_amount .nil pass0 (Z.pa_c (Z.pe_ixK (K' := K) (Z.pv 0) Z.pe_int (fun _ _ => rfl)) Z.pa_nil)) (Z.pe_and (Z.pe_cmpR op_ge (Z.pe_ixK (K' := K) (Z.pv 0) Z.pe_int (fun _ _ => rfl)) Z.pe_int (nomark _)) (Z.pe_one (Z.pe_callN (G_is_amount) (hr.mono (by decide)) (by rfl) tx.g_is_amount tx.F_is_amount.kp tx.b_is_amount .nil pass0 (Z.pa_c (Z.pe_ixK (K' := K) (Z.pv 0) Z.pe_int (fun _ _ => rfl)) Z.pa_nil)))))))) ?_
    refine rd_start (σ := [some (.ref q)]) rfl ?_
    walk_at "w"
    refine rd_isi (isi_tuple (.tup hq)) ?_
    walk_at "w"
    refine rd_bool (fun h => by simp at h) (fun _ => ?_)
    walk_at "w"
    refine rd_decN (fun h => absurd rfl h) (fun _ => ?_)
    walk_at "w"
    refine ⟨_, _, rfl, .int x, ?_⟩
    rw [amt_of h2]
    walk_at "w"
    refine rd_dec (fun _ => ?_) (fun h => absurd h1 h)
    walk_at "w"
    refine ⟨_, _, rfl, .int y, ?_⟩
    rw [amt_of h3]
    exact k
def sp_are_pieces (K : PySem.W.Frag) : Sp := fun vs H Q _ => ∃ (p : Addr) (ps : List (Int × Int)), vs = [.ref p] ∧ PcAt H p ps ∧ PcGood ps ∧ ∀ H', Same H H' → Q (.bl true) H'
set_option maxHeartbeats 40000000 in
theorem ok_are_pieces {P : Program} {w : World} {K : PySem.W.Frag} {mg : Str → Option Value} {base : Heap} {a : Adr} (tx : Txt K mg a) : FnOk P w K mg base CX0 4 a.f_are_pieces a.d_are_pieces ["thing"] (sp_are_pieces K) := by
  have G_is_piece := ok_is_piece (P := P) (w := w) (base := base) tx
  refine tx.F_are_pieces.ok sc_are_pieces (fun vs H Q E h => ?_) (fun cdv A outer s H vs Q E hr h => ?_)
  · obtain ⟨p, ps, rfl, _⟩ := h
    rfl
  · obtain ⟨p, ps, rfl , hp, hg, k⟩ := h
    have hu := hu9 hr
    refine Z.root (Z.pss_cons (Z.ps_if (Z.pw_pt (Z.pw_or (Z.pt_not (Z.pt_val (Z.pe_callBN (rc := rIsi K) call_isiG (by rfl) tx.z_isinstance bt_isinstance (Z.pa_c (Z.pv 0) (Z.pa_c (Z.pe_bltn (v := .ty "list") (by rfl) tx.z_list bt_list rfl) Z.pa_nil))))) (Z.pw_or1 (Z.pt_cmpR op_gt (Z.pe_callBN (rc := rLen K) call_lenG (by rfl) tx.z_len bt_len (Z.pa_c (Z.pv 0) Z.pa_nil)) (Z.pe_gint (n := 4) (by rfl) tx.v_MOST_PIECES) (nomark _))))) (Z.pss_one (Z.ps_ret Z.pe_bl)) Z.pss_nil)
      (Z.pss_cons (Z.ps_if (Z.pt_not (Z.pt_val (Z.pe_callBN (rc := rAll K) (call_allG rfl) (by rfl) tx.z_all bt_all (Z.pa_c (Z.pe_comp (k := 1) (idx := []) (N := ["piece"]) (blk_sc (sc := defScope s_are_pieces) (NX := ["thing"]) rfl rfl rfl (by decide +kernel)) rfl (Z.pi_listK (K' := K) (Z.pv 0)) (fun _ _ _ _ => (Z.pg_name (i := 0) (show (["piece"] : List Str).Nodup by decide +kernel) rfl (Or.inl rfl))) (own_name (by decide)) (fun _ _ _ _ => Z.pts_nil) (fun _ _ _ _ => (Z.pe_callN (G_is_piece) (hr.mono (by decide)) (by rfl) tx.g_is_piece tx.F_is_piece.kp tx.b_is_piece .nil pass0 (Z.pa_c (Z.pv 0) Z.pa_nil)))) Z.pa_nil)))) (Z.pss_one (Z.ps_ret Z.pe_bl)) Z.pss_nil)
      (Z.pss_one (Z.ps_ret (Z.pe_callBN (rc := rAll K) (call_allG rfl) (by rfl) tx.z_all bt_all (Z.pa_c (Z.pe_comp (k := 1) (idx := [0]) (N := ["at", "thing"]) (blk_sc (sc := defScope s_are_pieces) (NX := ["thing"]) rfl rfl rfl (by decide +kernel)) rfl (Z.pi_range2N (by rfl) tx.z_range (Z.pa_c Z.pe_int (Z.pa_c (Z.pe_callBN (rc := rLen K) call_lenG (by rfl) tx.z_len bt_len (Z.pa_c (Z.pv 0) Z.pa_nil)) Z.pa_nil))) (fun _ _ _ _ => (Z.pg_name (i := 0) (show (["at", "thing"] : List Str).Nodup by decide +kernel) rfl (Or.inl rfl))) (own_name (by decide)) (fun _ _ _ _ => Z.pts_nil) (fun _ _ _ _ => (Z.pe_cmpR op_le (Z.pe_ixK (K' := K) (Z.pe_ixK (K' := K) (Z.pv 1) (Z.pe_op op_sub (Z.pv 0) Z.pe_int) (fun _ _ => rfl)) Z.pe_int (fun _ _ => rfl)) (Z.pe_ixK (K' := K) (Z.pe_ixK (K' := K) (Z.pv 1) (Z.pv 0) (fun _ _ => rfl)) Z.pe_int (fun _ _ => rfl)) (nomark _)))) Z.pa_nil)))))) ?_
    obtain ⟨qs, h1, h2⟩ := hp.ex
    have hl := hg.len
    have hql : qs.length ≤ 4 := by rw [h2.len]; exact hl
    refine rd_start (σ := [some (.ref p)]) rfl ?_
    walk_at "w"
    refine rd_isi (isi_list (.lst h1)) ?_
    walk_at "w"
    refine rd_bool (fun h => by simp at h) (fun _ => ?_)
    walk_at "w"
    refine rd_dec (fun h => by rw [List.length_map] at h; omega) (fun _ => ?_)
    walk_at "w"
    refine rd_li (SqL.of h1) ?_
    refine comp_pure (fun _ => .bl true) (SqL.of h1) (sz_le (by rw [List.length_map]; omega)) (fun x N N' hxm hN => ?_) ?_
    · obtain ⟨q, hq, rfl⟩ := List.mem_map.mp hxm
      obtain ⟨t, ht, e⟩ := h2.at2 hq
      obtain ⟨g1, g2, g3⟩ := hg.pc t ht
      walk_at "w"
      exact ⟨q, t.1, t.2, rfl, e, g1, g2, g3, hN⟩
    · intro l1 n1
      walk_at "w"
      refine rd_allT (SqL.of upd_same) (fun x hx => by obtain ⟨_, _, rfl⟩ := List.mem_map.mp hx; rfl) ?_
      walk_at "w"
      have h1' := Same.new (o := .lst ((qs.map V.ref).map fun _ => V.bl true)) n1 _ _ h1
      have h2' := h2.same (Same.new (o := .lst ((qs.map V.ref).map fun _ => V.bl true)) n1)
      walk_at "w"
      refine ⟨⟨by omega, by omega, by omega, by rw [List.length_map]; omega⟩, ?_⟩
      rw [List.length_map]
      refine comp_pureR (fun _ => .bl true) (sz_le (by omega)) (fun i N N' hi hN => ?_) ?_
      · have i1 : i < qs.length := by omega
        have i2 : i + 1 < qs.length := by omega
        have j1 : i < ps.length := by rw [← h2.len]; exact i1
        have j2 : i + 1 < ps.length := by rw [← h2.len]; exact i2
        have e1 : atI (qs.map V.ref) (1 + (i : Int) - 1) = some (.ref qs[i]) := by
          rw [show 1 + (i : Int) - 1 = (i : Int) by omega]
          exact atI_nat (by rw [List.getElem?_map, List.getElem?_eq_getElem i1]; rfl)
        have e2 : atI (qs.map V.ref) (1 + (i : Int)) = some (.ref qs[i + 1]) := by
          rw [show 1 + (i : Int) = ((i + 1 : Nat) : Int) by omega]
          exact atI_nat (by rw [List.getElem?_map, List.getElem?_eq_getElem i2]; rfl)
        have t1 := h2'.at_ i _ _ (List.getElem?_eq_getElem i1) (List.getElem?_eq_getElem j1)
        have t2 := h2'.at_ (i + 1) _ _ (List.getElem?_eq_getElem i2) (List.getElem?_eq_getElem j2)
        have t3 := hg.up i _ _ (List.getElem?_eq_getElem j1) (List.getElem?_eq_getElem j2)
        walk_at "w"
        rw [decide_eq_true t3]
        exact hN
      · intro l2 n2
        walk_at "w"
        refine rd_allT (SqL.of upd_same) (fun x hx => by obtain ⟨_, _, rfl⟩ := List.mem_map.mp hx; rfl) ?_
        exact k _ ((Same.new n1).trans (Same.new n2))
def sp_Machine_init (K : PySem.W.Frag) (C : Addr) : Sp := fun vs H Q _ => ∃ (x dx pl : Addr) (m : MS), vs = [.ref x, .int m.up, .int m.down, .int m.begin_, .int m.run, .int m.rest, .int m.least, .ref pl] ∧ H x = some (.ins C dx []) ∧ PcAt H pl m.pieces ∧ m.Good ∧
  ∀ H', MachAt C H' x m → Keep x H H' → Q .non H'
set_option maxHeartbeats 40000000 in
theorem ok_Machine_init {P : Program} {w : World} {K : PySem.W.Frag} {mg : Str → Option Value} {base : Heap} {a : Adr} (tx : Txt K mg a) : FnOk P w K mg base CX0 5 a.f_Machine_init a.d_Machine_init ["self", "up", "down", "begin", "run", "rest", "least", "pieces"] (sp_Machine_init K a.c_Machine) := by
  have G_are_pieces := ok_are_pieces (P := P) (w := w) (base := base) tx
  have G_is_amount := ok_is_amount (P := P) (w := w) (base := base) tx
  have G_is_span := ok_is_span (P := P) (w := w) (base := base) tx
  refine tx.F_Machine_init.ok sc_Machine_init (fun vs H Q E h => ?_) (fun cdv A outer s H vs Q E hr h => ?_)
  · obtain ⟨x, dx, pl, m, rfl, _⟩ := h
    rfl
  · obtain ⟨x, dx, pl, m, rfl , hx, hp, hg, k⟩ := h
    have hu := hu9 hr
    refine Z.root (Z.pss_cons (Z.ps_set (i := 8) sc_Machine_init.nd rfl (Or.inl rfl) (Z.lst2 (Z.pe_callN (G_is_span) (hr.mono (by decide)) (by rfl) tx.g_is_span tx.F_is_span.kp tx.b_is_span .nil pass0 (Z.pa_c (Z.pv 1) Z.pa_nil)) (Z.pe_callN (G_is_span) (hr.mono (by decide)) (by rfl) tx.g_is_span tx.F_is_span.kp tx.b_is_span .nil pass0 (Z.pa_c (Z.pv 2) Z.pa_nil))))
      (Z.pss_cons (Z.ps_set (i := 9) sc_Machine_init.nd rfl (Or.inl rfl) (Z.lst4 (Z.pe_callN (G_is_amount) (hr.mono (by decide)) (by rfl) tx.g_is_amount tx.F_is_amount.kp tx.b_is_amount .nil pass0 (Z.pa_c (Z.pv 3) Z.pa_nil)) (Z.pe_callN (G_is_amount) (hr.mono (by decide)) (by rfl) tx.g_is_amount tx.F_is_amount.kp tx.b_is_amount .nil pass0 (Z.pa_c (Z.pv 4) Z.pa_nil)) (Z.pe_callN (G_is_amount) (hr.mono (by decide)) (by rfl) tx.g_is_amount tx.F_is_amount.kp tx.b_is_amount .nil pass0 (Z.pa_c (Z.pv 5) Z.pa_nil)) (Z.pe_callN (G_is_amount) (hr.mono (by decide)) (by rfl) tx.g_is_amount tx.F_is_amount.kp tx.b_is_amount .nil pass0 (Z.pa_c (Z.pv 6) Z.pa_nil))))
      (Z.pss_cons (Z.ps_for PassesOwn.never rfl (Z.pi_enumK (K' := K) (by rfl) tx.z_enumerate (Z.pa_c (Z.pe_op op_addG (Z.pe_op op_addG (Z.pv 8) (Z.pv 9)) (Z.lst1 (Z.pe_callN (G_are_pieces) (hr.mono (by decide)) (by rfl) tx.g_are_pieces tx.F_are_pieces.kp tx.b_are_pieces .nil pass0 (Z.pa_c (Z.pv 7) Z.pa_nil)))) Z.pa_nil)) (Z.pg_tupK (K' := K) (n := 2) rfl (Z.pgs_cons (Z.pg_name (i := 10) sc_Machine_init.nd rfl (Or.inl rfl)) (Z.pgs_cons (Z.pg_name (i := 11) sc_Machine_init.nd rfl (Or.inl rfl)) Z.pgs_nil))) (Z.pss_one (Z.ps_if (Z.pt_not (Z.pt_val (Z.pv 11))) (Z.pss_one Z.ps_never) Z.pss_nil)))
      (Z.pss_cons (Z.ps_fldK (K' := K) (Z.pv 0) (Z.pv 1) rfl)
      (Z.pss_cons (Z.ps_fldK (K' := K) (Z.pv 0) (Z.pv 2) rfl)
      (Z.pss_cons (Z.ps_fldK (K' := K) (Z.pv 0) (Z.pv 3) rfl)
      (Z.pss_cons (Z.ps_fldK (K' := K) (Z.pv 0) (Z.pv 4) rfl)
      (Z.pss_cons (Z.ps_fldK (K' := K) (Z.pv 0) (Z.pv 5) rfl)
      (Z.pss_cons (Z.ps_fldK (K' := K) (Z.pv 0) (Z.pv 6) rfl)
      (Z.pss_one (Z.ps_fldK (K' := K) (Z.pv 0) (Z.pe_callTyN (rc := rListOf K) call_listG (by rfl) tx.z_list bt_list (Z.pa_c (Z.pv 7) Z.pa_nil)) rfl))))))))))) ?_
    refine rd_start (σ := [some (.ref x), some (.int m.up), some (.int m.down), some (.int m.begin_), some (.int m.run), some (.int m.rest), some (.int m.least), some (.ref pl), none, none, none, none]) rfl ?_
    walk_at "w"
    refine ⟨_, rfl, hg.up.1, hg.up.2, ?_⟩
    walk_at "w"
    refine ⟨_, rfl, hg.down.1, hg.down.2, ?_⟩
    walk_at "w"
    intro l1 n1
    walk_at "w"
    refine ⟨_, _, rfl, .int _, ?_⟩
    rw [amt_of hg.begin_]
    walk_at "w"
    refine ⟨_, _, rfl, .int _, ?_⟩
    rw [amt_of hg.run]
    walk_at "w"
    refine ⟨_, _, rfl, .int _, ?_⟩
    rw [amt_of hg.rest]
    walk_at "w"
    refine ⟨_, _, rfl, .int _, ?_⟩
    rw [amt_of hg.least]
    walk_at "w"
    intro l2 n2
    walk_at "w"
    refine rd_addL (xs := [.bl true, .bl true]) (zs := [.bl true, .bl true, .bl true, .bl true]) (by walk_at "hp") upd_same (sz_le (by simp)) ?_
    intro l3 n3
    walk_at "w"
    have s3 : Same H (upd (upd (upd H l1 (.lst [.bl true, .bl true])) l2 (.lst [.bl true, .bl true, .bl true, .bl true])) l3 (.lst ([.bl true, .bl true] ++ [.bl true, .bl true, .bl true, .bl true]))) := ((Same.new n1).trans (Same.new n2)).trans (Same.new n3)
    refine ⟨pl, m.pieces, rfl, hp.same s3, hg.pieces, fun H4 s4 => ?_⟩
    walk_at "w"
    intro l5 n5
    walk_at "w"
    refine rd_addL (xs := [.bl true, .bl true] ++ [.bl true, .bl true, .bl true, .bl true]) (zs := [.bl true]) (Same.new n5 _ _ (s4 _ _ upd_same)) upd_same (sz_le (by simp)) ?_
    intro l6 n6
    walk_at "w"
    have s6 : Same H (upd (upd H4 l5 (.lst [.bl true])) l6 (.lst (([.bl true, .bl true] ++ [.bl true, .bl true, .bl true, .bl true]) ++ [.bl true]))) := (s3.trans s4).trans ((Same.new n5).trans (Same.new n6))
    generalize hH6 : upd (upd H4 l5 (.lst [.bl true])) l6 (.lst (([.bl true, .bl true] ++ [.bl true, .bl true, .bl true, .bl true]) ++ [.bl true])) = H6 at s6 ⊢
    have e6 : H6 l6 = some (.lst [.bl true, .bl true, .bl true, .bl true, .bl true, .bl true, .bl true]) := by rw [← hH6, upd_same]; rfl
    refine rd_en (SqL.of e6) ?_
    refine rf_enum (xs := [.bl true, .bl true, .bl true, .bl true, .bl true, .bl true, .bl true]) (fun i σ' H' => ∃ y z, σ' = [some (.ref x), some (.int m.up), some (.int m.down), some (.int m.begin_), some (.int m.run), some (.int m.rest), some (.int m.least), some (.ref pl), some (.ref l1), some (.ref l2), y, z] ∧ Same H6 H')
      ⟨_, _, rfl, Same.refl _⟩ (fun i σ' H' hi ⟨y, z, e, s⟩ => SqL.of (s _ _ e6)) (fun i v σ' H' T hv ⟨y, z, e, s⟩ nT => ?_) (fun σ' H' ⟨y, z, e, s⟩ => ?_)
    · subst e
      have ev : v = .bl true := by
        have := List.mem_of_getElem? hv
        simpa using this
      subst ev
      refine rd_gtup (SqT.of upd_same) rfl ?_
      walk_at "w"
      exact ⟨_, _, rfl, s.trans (Same.new nT)⟩
    · subst e
      have sH : Same H H' := s6.trans s
      have hx' := sH _ _ hx
      have hp' := hp.same sH
      obtain ⟨qs, p1, p2⟩ := hp'.ex
      walk_at "w"
      refine rd_put (fs' := [("up", .int m.up)]) hx' tx.C_Machine tx.n_Machine_up (by simp [mFs]) rfl ?_
      walk_at "w"
      refine rd_put (fs' := [("up", .int m.up), ("down", .int m.down)]) upd_same tx.C_Machine tx.n_Machine_down (by simp [mFs]) rfl ?_
      rw [upd_upd]
      walk_at "w"
      refine rd_put (fs' := [("up", .int m.up), ("down", .int m.down), ("begin", .int m.begin_)]) upd_same tx.C_Machine tx.n_Machine_begin (by simp [mFs]) rfl ?_
      rw [upd_upd]
      walk_at "w"
      refine rd_put (fs' := [("up", .int m.up), ("down", .int m.down), ("begin", .int m.begin_), ("run", .int m.run)]) upd_same tx.C_Machine tx.n_Machine_run (by simp [mFs]) rfl ?_
      rw [upd_upd]
      walk_at "w"
      refine rd_put (fs' := [("up", .int m.up), ("down", .int m.down), ("begin", .int m.begin_), ("run", .int m.run), ("rest", .int m.rest)]) upd_same tx.C_Machine tx.n_Machine_rest (by simp [mFs]) rfl ?_
      rw [upd_upd]
      walk_at "w"
      refine rd_put (fs' := [("up", .int m.up), ("down", .int m.down), ("begin", .int m.begin_), ("run", .int m.run), ("rest", .int m.rest), ("least", .int m.least)]) upd_same tx.C_Machine tx.n_Machine_least (by simp [mFs]) rfl ?_
      rw [upd_upd]
      walk_at "w"
      have px : pl ≠ x := fun z => by rw [z, hx'] at p1; cases p1
      refine rd_listL (ys := qs.map V.ref) (SqL.of (by rw [upd_ne px]; exact p1)) ?_
      intro l9 n9
      walk_at "w"
      have x9 : x ≠ l9 := ne_none n9 upd_same
      walk_at "w"
      refine rd_put (fs' := mFs m l9) (by rw [upd_ne x9]; exact upd_same) tx.C_Machine tx.n_Machine_pieces (by simp [mFs]) rfl ?_
      walk_at "w"
      refine k _ ⟨dx, l9, upd_same, qs, ?_, p2.len, fun j q t h1 h2 => ?_⟩ (fun b o e nb => ?_)
      · rw [upd_ne (Ne.symm x9), upd_same]
      · have e := p2.at_ j q t h1 h2
        have qx : q ≠ x := fun z => by rw [z, hx'] at e; cases e
        have q9 : q ≠ l9 := ne_none n9 (by rw [upd_ne qx]; exact e)
        rw [upd_ne qx, upd_ne q9, upd_ne qx]
        exact e
      · have e1 := sH _ _ e
        have b9 : b ≠ l9 := ne_none n9 (by rw [upd_ne nb]; exact e1)
        rw [upd_ne nb, upd_ne b9, upd_ne nb]
        exact e1
structure PcW (ps : List (Int × Int)) (r : Int) : Prop where
  pc : ∀ t ∈ ps, 1 ≤ t.1 ∧ Am t.1 ∧ Am t.2
  up : ∀ (j : Nat) t u, ps[j]? = some t → ps[j + 1]? = some u → t.2 ≤ u.2
  top : ∀ t ∈ ps, t.2 ≤ r
theorem PcW.nil {r : Int} : PcW [] r := ⟨fun _ h => by simp at h, fun j t u h => by simp at h, fun _ h => by simp at h⟩
theorem PcW.snoc {ps : List (Int × Int)} {r r' a : Int} (w : PcW ps r) (hr : r ≤ r') (h1 : 1 ≤ a) (h2 : Am a) (h3 : Am r') : PcW (ps ++ [(a, r')]) r' := by
  refine ⟨fun t h => ?_, fun j t u ht hu => ?_, fun t h => ?_⟩
  · rcases List.mem_append.mp h with h | h
    · exact w.pc t h
    · rw [List.mem_singleton.mp h]; exact ⟨h1, h2, h3⟩
  · have hj2 : j + 1 < (ps ++ [(a, r')]).length := (List.getElem?_eq_some_iff.mp hu).1
    rw [List.length_append, List.length_singleton] at hj2
    have hj : j < ps.length := by omega
    rw [List.getElem?_append_left hj] at ht
    by_cases hj3 : j + 1 < ps.length
    · rw [List.getElem?_append_left hj3] at hu
      exact w.up j t u ht hu
    · rw [List.getElem?_append_right (by omega), show j + 1 - ps.length = 0 by omega] at hu
      cases hu
      exact Int.le_trans (w.top t (List.mem_of_getElem? ht)) hr
  · rcases List.mem_append.mp h with h | h
    · exact Int.le_trans (w.top t h) hr
    · rw [List.mem_singleton.mp h]; exact Int.le_refl _
theorem Tup2.snoc {H H3 : Hp} {qs : List Addr} {ss : List (Int × Int)} {l T : Addr} {xs : List V} {t : Int × Int} (h : Tup2 H qs ss) (hl : H l = some (.lst xs)) (k : Keep l H H3) (hT : H3 T = some (.tup [.int t.1, .int t.2])) : Tup2 H3 (qs ++ [T]) (ss ++ [t]) := by
  refine ⟨by rw [List.length_append, List.length_append, h.len]; rfl, fun j q u hq hu => ?_⟩
  by_cases hj : j < qs.length
  · rw [List.getElem?_append_left hj] at hq
    rw [List.getElem?_append_left (by rw [← h.len]; exact hj)] at hu
    have e := h.at_ j q u hq hu
    refine k q _ e fun z => ?_
    rw [z, hl] at e
    cases e
  · have hj2 : j < (qs ++ [T]).length := (List.getElem?_eq_some_iff.mp hq).1
    rw [List.length_append, List.length_singleton] at hj2
    have e : j = qs.length := by omega
    subst e
    rw [List.getElem?_append_right (Nat.le_refl _), Nat.sub_self] at hq
    rw [h.len, List.getElem?_append_right (Nat.le_refl _), Nat.sub_self] at hu
    cases hq
    cases hu
    exact hT
theorem HandAt.nrefs {H : Hp} {p c : Addr} {qs : List Addr} (h : HandAt H p) (e : H c = some (.lst (qs.map V.ref))) : c ≠ p := fun z => by
  obtain ⟨d, cc, q, ms, hp, _⟩ := h.ex
  rw [z, hp] at e
  cases qs with
  | nil => cases e
  | cons x xs => cases e
theorem HandAt.nlen {H : Hp} {p c : Addr} {xs : List V} (h : HandAt H p) (e : H c = some (.lst xs)) (hl : xs.length ≠ 3) : c ≠ p := fun z => by
  obtain ⟨d, cc, q, ms, hp, _⟩ := h.ex
  rw [z, hp] at e
  cases e
  exact hl rfl
theorem HandAt.isL {H : Hp} {p : Addr} (h : HandAt H p) : ∃ xs, H p = some (.lst xs) := by
  obtain ⟨d, cc, q, ms, hp, _⟩ := h.ex
  exact ⟨_, hp⟩
theorem fresh_of {H H' : Hp} {p c : Addr} (k : Keep p H H') (hh : HandAt H' p) (n : H' c = none) : H c = none := by
  cases hc : H c with
  | none => rfl
  | some v =>
    obtain ⟨xs, e⟩ := hh.isL
    exact absurd rfl (ne_none n (k c v hc (fun z => ne_none n e z.symm)))
def MSB (m : MS) (y : Int) : Prop := m.begin_ ≤ 5 * y ∧ m.run ≤ 5 * y ∧ m.rest ≤ 5 * y ∧ ∀ t ∈ m.pieces, t.2 ≤ 8 * y
def Rb (i : Nat) (r y : Int) : Prop := (i = 0 ∧ r ≤ 0) ∨ (i = 1 ∧ r ≤ 2 * y) ∨ (i = 2 ∧ r ≤ 4 * y) ∨ (i = 3 ∧ r ≤ 6 * y) ∨ (i = 4 ∧ r ≤ 8 * y)
theorem Rb.on {i : Nat} {r y u : Int} (h : Rb i r y) (hi : i ≤ 3) (hu : u ≤ 2 * y) : Rb (i + 1) (r + u) y := by unfold Rb at h ⊢; omega
theorem Rb.top {i : Nat} {r y : Int} (h : Rb i r y) (h0 : 0 ≤ y) : r ≤ 8 * y := by unfold Rb at h; omega
def sp__law_spec (K : PySem.W.Frag) : Sp := fun vs H Q _ => ∃ (p b : Addr) (x y n : Int), vs = [.ref p, .ref b, .int n] ∧ HandAt H p ∧ H b = some (.lst [.int x, .int y]) ∧ 1 ≤ x ∧ x ≤ 50000000000 ∧ 1 ≤ y ∧ y ≤ 50000000000 ∧ 1 ≤ n ∧ n ≤ 12 ∧
  ∀ (s : Addr) (m : MS) H', SpecAt H' s m → m.Good → m.up ≤ n → m.down ≤ n → MSB m y → HandAt H' p → Keep p H H' → H s = none → Q (.ref s) H'
set_option maxHeartbeats 40000000 in
theorem ok__law_spec {P : Program} {w : World} {K : PySem.W.Frag} {mg : Str → Option Value} {base : Heap} {a : Adr} (tx : Txt K mg a) : FnOk P w K mg base CX0 2 a.f__law_spec a.d__law_spec ["_law_hand", "_law_by", "_law_longest"] (sp__law_spec K) := by
  have G__law_draw := ok__law_draw (P := P) (w := w) (base := base) tx
  refine tx.F__law_spec.ok sc__law_spec (fun vs H Q E h => ?_) (fun cdv A outer s H vs Q E hr h => ?_)
  · obtain ⟨p, b, x, y, n, rfl, _⟩ := h
    rfl
  · obtain ⟨p, b, x, y, n, rfl , hh, hb, x0, x1, y0, y1, n0, n1, k⟩ := h
    have hu := hu9 hr
    refine Z.root (Z.pss_cons (Z.ps_set (i := 3) sc__law_spec.nd rfl (Or.inl rfl) (Z.pe_op op_addG Z.pe_int (Z.pe_callN (G__law_draw) (hr.mono (by decide)) (by rfl) tx.g__law_draw tx.F__law_draw.kp tx.b__law_draw .nil pass0 (Z.pa_c (Z.pv 0) (Z.pa_c (Z.pv 2) Z.pa_nil)))))
      (Z.pss_cons (Z.ps_set (i := 4) sc__law_spec.nd rfl (Or.inl rfl) (Z.pe_op op_addG Z.pe_int (Z.pe_callN (G__law_draw) (hr.mono (by decide)) (by rfl) tx.g__law_draw tx.F__law_draw.kp tx.b__law_draw .nil pass0 (Z.pa_c (Z.pv 0) (Z.pa_c (Z.pv 2) Z.pa_nil)))))
      (Z.pss_cons (Z.ps_set (i := 5) sc__law_spec.nd rfl (Or.inl rfl) (Z.lst3 (Z.pe_op op_mulG (Z.pe_ixK (K' := K) (Z.pv 1) Z.pe_int (fun _ _ => rfl)) (Z.pe_callN (G__law_draw) (hr.mono (by decide)) (by rfl) tx.g__law_draw tx.F__law_draw.kp tx.b__law_draw .nil pass0 (Z.pa_c (Z.pv 0) (Z.pa_c Z.pe_int Z.pa_nil)))) (Z.pe_op op_mulG (Z.pe_ixK (K' := K) (Z.pv 1) Z.pe_int (fun _ _ => rfl)) (Z.pe_callN (G__law_draw) (hr.mono (by decide)) (by rfl) tx.g__law_draw tx.F__law_draw.kp tx.b__law_draw .nil pass0 (Z.pa_c (Z.pv 0) (Z.pa_c Z.pe_int Z.pa_nil)))) (Z.pe_op op_mulG (Z.pe_ixK (K' := K) (Z.pv 1) Z.pe_int (fun _ _ => rfl)) (Z.pe_callN (G__law_draw) (hr.mono (by decide)) (by rfl) tx.g__law_draw tx.F__law_draw.kp tx.b__law_draw .nil pass0 (Z.pa_c (Z.pv 0) (Z.pa_c Z.pe_int Z.pa_nil))))))
      (Z.pss_cons (Z.ps_set (i := 6) sc__law_spec.nd rfl (Or.inl rfl) (Z.pe_op op_mulG (Z.pe_ixK (K' := K) (Z.pv 1) Z.pe_int (fun _ _ => rfl)) (Z.pe_callN (G__law_draw) (hr.mono (by decide)) (by rfl) tx.g__law_draw tx.F__law_draw.kp tx.b__law_draw .nil pass0 (Z.pa_c (Z.pv 0) (Z.pa_c Z.pe_int Z.pa_nil)))))
      (Z.pss_cons (Z.ps_set (i := 7) sc__law_spec.nd rfl (Or.inl rfl) Z.pe_int)
      (Z.pss_cons (Z.ps_set (i := 8) sc__law_spec.nd rfl (Or.inl rfl) (Z.pe_lst Z.pa_nil))
      (Z.pss_cons (Z.ps_for PassesOwn.never rfl (Z.pi_range1N (by rfl) tx.z_range (Z.pa_c (Z.pe_callN (G__law_draw) (hr.mono (by decide)) (by rfl) tx.g__law_draw tx.F__law_draw.kp tx.b__law_draw .nil pass0 (Z.pa_c (Z.pv 0) (Z.pa_c Z.pe_int Z.pa_nil))) Z.pa_nil)) (Z.pg_name (i := 9) sc__law_spec.nd rfl (Or.inl rfl)) (Z.pss_cons (Z.ps_aug (i := 7) sc__law_spec.nd rfl (Or.inl rfl) (Z.pe_op op_mulG (Z.pe_ixK (K' := K) (Z.pv 1) Z.pe_int (fun _ _ => rfl)) (Z.pe_callN (G__law_draw) (hr.mono (by decide)) (by rfl) tx.g__law_draw tx.F__law_draw.kp tx.b__law_draw .nil pass0 (Z.pa_c (Z.pv 0) (Z.pa_c Z.pe_int Z.pa_nil)))) ip_add)
      (Z.pss_one (Z.ps_expr (Z.pe_appK (K' := K) (Z.pv 8) (Z.pa_c (Z.tup2 (Z.pe_op op_mulG (Z.pe_ixK (K' := K) (Z.pv 1) Z.pe_int (fun _ _ => rfl)) (Z.pe_op op_addG Z.pe_int (Z.pe_callN (G__law_draw) (hr.mono (by decide)) (by rfl) tx.g__law_draw tx.F__law_draw.kp tx.b__law_draw .nil pass0 (Z.pa_c (Z.pv 0) (Z.pa_c Z.pe_int Z.pa_nil))))) (Z.pv 7)) Z.pa_nil))))))
      (Z.pss_one (Z.ps_ret (Z.lst7 (Z.pv 3) (Z.pv 4) (Z.pe_ixK (K' := K) (Z.pv 5) Z.pe_int (fun _ _ => rfl)) (Z.pe_ixK (K' := K) (Z.pv 5) Z.pe_int (fun _ _ => rfl)) (Z.pe_ixK (K' := K) (Z.pv 5) Z.pe_int (fun _ _ => rfl)) (Z.pv 6) (Z.pv 8))))))))))) ?_
    have bp : b ≠ p := hh.nlen hb (by simp)
    refine rd_start (σ := [some (.ref p), some (.ref b), some (.int n), none, none, none, none, none, none, none]) rfl ?_
    walk_at "w"
    refine ⟨p, _, rfl, hh, by omega, by omega, fun r1 H1 a1 c1 h1 k1 _ => ?_⟩
    have hb1 := k1 _ _ hb bp
    walk_at "w"
    refine ⟨p, _, rfl, h1, by omega, by omega, fun r2 H2 a2 c2 h2 k2 _ => ?_⟩
    have hb2 := k2 _ _ hb1 bp
    walk_at "w"
    refine ⟨p, _, rfl, h2, by omega, by omega, fun r3 H3 a3 c3 h3 k3 _ => ?_⟩
    have hb3 := k3 _ _ hb2 bp
    walk_at "w"
    refine ⟨p, _, rfl, h3, by omega, by omega, fun r4 H4 a4 c4 h4 k4 _ => ?_⟩
    have hb4 := k4 _ _ hb3 bp
    walk_at "w"
    refine ⟨p, _, rfl, h4, by omega, by omega, fun r5 H5 a5 c5 h5 k5 _ => ?_⟩
    have hb5 := k5 _ _ hb4 bp
    walk_at "w"
    intro l6 n6
    walk_at "w"
    have hb6 := Same.new (o := .lst [.int (y * r3), .int (y * r4), .int (y * r5)]) n6 _ _ hb5
    have h6 := h5.same (Same.new (o := .lst [.int (y * r3), .int (y * r4), .int (y * r5)]) n6)
    walk_at "w"
    refine ⟨p, _, rfl, h6, by omega, by omega, fun r7 H7 a7 c7 h7 k7 _ => ?_⟩
    have hb7 := k7 _ _ hb6 bp
    have l6p : l6 ≠ p := fun z => by obtain ⟨_, e⟩ := h5.isL; exact ne_none n6 e z.symm
    have e7 : H7 l6 = some (.lst [.int (y * r3), .int (y * r4), .int (y * r5)]) := k7 _ _ upd_same l6p
    have kk7 : Keep p H H7 := k1.trans (k2.trans (k3.trans (k4.trans (k5.trans ((Same.new n6).keep.trans k7)))))
    have g3 : 0 ≤ y * r3 ∧ y * r3 ≤ 250000000000 := ⟨Int.mul_nonneg (by omega) (by omega), Int.le_trans (Int.mul_le_mul_of_nonneg_left (show r3 ≤ 5 by omega) (by omega)) (by omega)⟩
    have g4 : 0 ≤ y * r4 ∧ y * r4 ≤ 250000000000 := ⟨Int.mul_nonneg (by omega) (by omega), Int.le_trans (Int.mul_le_mul_of_nonneg_left (show r4 ≤ 5 by omega) (by omega)) (by omega)⟩
    have g5 : 0 ≤ y * r5 ∧ y * r5 ≤ 250000000000 := ⟨Int.mul_nonneg (by omega) (by omega), Int.le_trans (Int.mul_le_mul_of_nonneg_left (show r5 ≤ 5 by omega) (by omega)) (by omega)⟩
    have g7 : 0 ≤ x * r7 ∧ x * r7 ≤ 250000000000 := ⟨Int.mul_nonneg (by omega) (by omega), Int.le_trans (Int.mul_le_mul_of_nonneg_left (show r7 ≤ 5 by omega) (by omega)) (by omega)⟩
    walk_at "w"
    intro l8 n8
    walk_at "w"
    have h8 := h7.same (Same.new (o := .lst []) n8)
    walk_at "w"
    refine ⟨p, _, rfl, h8, by omega, by omega, fun r9 H9 a9 c9 h9 k9 _ => ?_⟩
    have l8p : l8 ≠ p := fun z => by obtain ⟨_, e⟩ := h7.isL; exact ne_none n8 e z.symm
    have e9 : H9 l8 = some (.lst []) := k9 _ _ upd_same l8p
    have hb9 := k9 _ _ (Same.new n8 _ _ hb7) bp
    have e69 : H9 l6 = some (.lst [.int (y * r3), .int (y * r4), .int (y * r5)]) := k9 _ _ (Same.new n8 _ _ e7) l6p
    have kk9 : Keep p H H9 := kk7.trans ((Same.new n8).keep.trans k9)
    have n8H : H l8 = none := fresh_of kk7 h7 n8
    have n6H : H l6 = none := fresh_of (k1.trans (k2.trans (k3.trans (k4.trans k5)))) h5 n6
    walk_at "w"
    refine ⟨by omega, by omega, ?_⟩
    refine rf_range (fun i σ' H' => ∃ qs ps rate x9, σ' = [some (.ref p), some (.ref b), some (.int n), some (.int (1 + r1)), some (.int (1 + r2)), some (.ref l6), some (.int (x * r7)), some (.int rate), some (.ref l8), x9] ∧ H' l8 = some (.lst (qs.map V.ref)) ∧ Tup2 H' qs ps ∧ ps.length = i ∧ PcW ps rate ∧
        0 ≤ rate ∧ rate ≤ (i : Int) * 100000000000 ∧ Rb i rate y ∧ HandAt H' p ∧ Keep p H H' ∧ H' b = some (.lst [.int x, .int y]) ∧ H' l6 = some (.lst [.int (y * r3), .int (y * r4), .int (y * r5)]))
      ⟨[], [], 0, _, rfl, e9, ⟨rfl, fun j q t h => by simp at h⟩, rfl, PcW.nil, by omega, by omega, .inl ⟨rfl, Int.le_refl _⟩, h9, kk9, hb9, e69⟩
      (fun i σ' H' hi ⟨qs, ps, rate, x9, e, f1, f2, f3, f4, f5, f6, fb, f7, f8, f9, f0⟩ => ?_) (fun σ' H' ⟨qs, ps, rate, x9, e, f1, f2, f3, f4, f5, f6, fb, f7, f8, f9, f0⟩ => ?_)
    · subst e
      have i4 : i ≤ 3 := by omega
      walk_at "w"
      refine rd_aug rfl ?_
      walk_at "w"
      refine ⟨p, _, rfl, f7, by omega, by omega, fun u1 J1 v1 w1 q1 t1 _ => ?_⟩
      have g1 : 0 ≤ y * u1 ∧ y * u1 ≤ 100000000000 := ⟨Int.mul_nonneg (by omega) (by omega), Int.le_trans (Int.mul_le_mul_of_nonneg_left (show u1 ≤ 2 by omega) (by omega)) (by omega)⟩
      have l8q : l8 ≠ p := f7.nrefs f1
      have d1 := t1 _ _ f1 l8q
      have d2 := f2.keep f7.ntup t1
      have d3 := t1 _ _ f9 bp
      have d4 := t1 _ _ f0 l6p
      walk_at "w"
      refine rd_tyL (SqL.of d1) ?_
      walk_at "w"
      refine ⟨p, _, rfl, q1, by omega, by omega, fun u2 J2 v2 w2 q2 t2 _ => ?_⟩
      have g2 : x * 1 ≤ x * (1 + u2) ∧ x * (1 + u2) ≤ 150000000000 := ⟨Int.mul_le_mul_of_nonneg_left (show 1 ≤ 1 + u2 by omega) (by omega), Int.le_trans (Int.mul_le_mul_of_nonneg_left (show 1 + u2 ≤ 3 by omega) (by omega)) (by omega)⟩
      rw [Int.mul_one] at g2
      have dd1 := t2 _ _ d1 l8q
      have dd2 := d2.keep q1.ntup t2
      have dd3 := t2 _ _ d3 bp
      have dd4 := t2 _ _ d4 l6p
      walk_at "w"
      intro T nT
      walk_at "w"
      refine rd_app (xs := qs.map V.ref) (Same.new nT _ _ dd1) (Nat.lt_of_lt_of_le (by rw [List.length_map, f2.len]; omega : (qs.map V.ref).length < 1000) (sz_le (by simp))) ?_
      walk_at "w"
      have hT8 : T ≠ l8 := Ne.symm (ne_none nT dd1)
      have kz : Keep l8 J2 (upd (upd J2 T (.tup [.int (x * (1 + u2)), .int (rate + y * u1)])) l8 (.lst (qs.map V.ref ++ [.ref T]))) := (Same.new nT).keep.trans Keep.upd
      refine ⟨qs ++ [T], ps ++ [(x * (1 + u2), rate + y * u1)], _, _, rfl, ?_, dd2.snoc dd1 kz (by rw [upd_ne hT8, upd_same]), by rw [List.length_append, f3]; rfl, f4.snoc (by omega) (by omega) ⟨by omega, by omega⟩ ⟨by omega, by omega⟩, by omega, by omega, fb.on i4 (by have := Int.mul_le_mul_of_nonneg_left (show u1 ≤ 2 by omega) (show 0 ≤ y by omega); omega), ?_, fun c o hc hcp => ?_, ?_, ?_⟩
      · rw [upd_same, List.map_append]; rfl
      · obtain ⟨dd, cc, q, ms, hp, hq, hne, hqp⟩ := q2.ex
        refine ⟨⟨dd, cc, q, ms, kz _ _ hp (Ne.symm l8q), kz _ _ hq (fun z => ?_), hne, hqp⟩⟩
        rw [z, dd1] at hq
        cases qs with
        | nil => cases ms with
          | nil => exact hne rfl
          | cons _ _ => cases hq
        | cons _ _ => cases ms with
          | nil => exact hne rfl
          | cons _ _ => cases hq
      · exact kz _ _ (t2 _ _ (t1 _ _ (f8 _ _ hc hcp) hcp) hcp) (ne_none n8H hc)
      · exact kz _ _ dd3 (fun z => by rw [z, dd1] at dd3; cases qs with
          | nil => cases dd3
          | cons _ _ => cases dd3)
      · exact kz _ _ dd4 (fun z => by rw [z, dd1] at dd4; cases qs with
          | nil => cases dd4
          | cons _ _ => cases dd4)
    · subst e
      walk_at "w"
      intro s ns
      walk_at "w"
      have hr9 : r9.toNat ≤ 4 := by omega
      refine k s ⟨1 + r1, 1 + r2, y * r3, y * r4, y * r5, x * r7, ps⟩ _ ⟨l8, upd_same, qs, Same.new ns _ _ f1, f2.same (Same.new ns)⟩ ⟨⟨by show 1 ≤ 1 + r1; omega, by show 1 + r1 ≤ 12; omega⟩, ⟨by show 1 ≤ 1 + r2; omega, by show 1 + r2 ≤ 12; omega⟩, ⟨g3.1, by show y * r3 ≤ _; omega⟩, ⟨g4.1, by show y * r4 ≤ _; omega⟩, ⟨g5.1, by show y * r5 ≤ _; omega⟩, ⟨g7.1, by show x * r7 ≤ _; omega⟩, ⟨by show ps.length ≤ 4; omega, f4.pc, f4.up⟩⟩ (by show 1 + r1 ≤ n; omega) (by show 1 + r2 ≤ n; omega) ⟨by have := Int.mul_le_mul_of_nonneg_left (show r3 ≤ 5 by omega) (show 0 ≤ y by omega); show y * r3 ≤ _; omega, by have := Int.mul_le_mul_of_nonneg_left (show r4 ≤ 5 by omega) (show 0 ≤ y by omega); show y * r4 ≤ _; omega, by have := Int.mul_le_mul_of_nonneg_left (show r5 ≤ 5 by omega) (show 0 ≤ y by omega); show y * r5 ≤ _; omega, fun t ht => Int.le_trans (f4.top t ht) (fb.top (by omega))⟩ (f7.same (Same.new ns)) (f8.trans (Same.new ns).keep) (fresh_of f8 f7 ns)
def sp__law_machine (K : PySem.W.Frag) (C : Addr) : Sp := fun vs H Q _ => ∃ (s : Addr) (m : MS), vs = [.ref s] ∧ SpecAt H s m ∧ m.Good ∧ ∀ x H', MachAt C H' x m → Same H H' → H x = none → Q (.ref x) H'
set_option maxHeartbeats 40000000 in
theorem ok__law_machine {P : Program} {w : World} {K : PySem.W.Frag} {mg : Str → Option Value} {base : Heap} {a : Adr} (tx : Txt K mg a) : FnOk P w K mg base CX0 7 a.f__law_machine a.d__law_machine ["_law_spec_here"] (sp__law_machine K a.c_Machine) := by
  have G_Machine_init := ok_Machine_init (P := P) (w := w) (base := base) tx
  refine tx.F__law_machine.ok sc__law_machine (fun vs H Q E h => ?_) (fun cdv A outer s H vs Q E hr h => ?_)
  · obtain ⟨s, m, rfl, _⟩ := h
    rfl
  · obtain ⟨s, m, rfl , hs, hg, k⟩ := h
    have hu := hu9 hr
    refine Z.root (Z.pss_one (Z.ps_ret (Z.pe_makeN tx.M_Machine (G_Machine_init) (hr.mono (by decide)) (by rfl) tx.g_Machine tx.b_Machine_init .nil pass0 (Z.pa_c (Z.pe_ixK (K' := K) (Z.pv 0) Z.pe_int (fun _ _ => rfl)) (Z.pa_c (Z.pe_ixK (K' := K) (Z.pv 0) Z.pe_int (fun _ _ => rfl)) (Z.pa_c (Z.pe_ixK (K' := K) (Z.pv 0) Z.pe_int (fun _ _ => rfl)) (Z.pa_c (Z.pe_ixK (K' := K) (Z.pv 0) Z.pe_int (fun _ _ => rfl)) (Z.pa_c (Z.pe_ixK (K' := K) (Z.pv 0) Z.pe_int (fun _ _ => rfl)) (Z.pa_c (Z.pe_ixK (K' := K) (Z.pv 0) Z.pe_int (fun _ _ => rfl)) (Z.pa_c (Z.pe_callTyN (rc := rListOf K) call_listG (by rfl) tx.z_list bt_list (Z.pa_c (Z.pe_ixK (K' := K) (Z.pv 0) Z.pe_int (fun _ _ => rfl)) Z.pa_nil)) Z.pa_nil)))))))))) ?_
    obtain ⟨pl, h1, h2⟩ := hs.ex
    obtain ⟨qs, h3, h4⟩ := h2.ex
    refine rd_start (σ := [some (.ref s)]) rfl ?_
    walk_at "w"
    refine rd_listL (SqL.of h3) ?_
    intro l n
    walk_at "w"
    intro x dx nx nd hd
    have sx : Same H (upd (upd (upd H l (.lst (qs.map V.ref))) dx (.own x)) x (.ins a.c_Machine dx [])) := fun b o e => by
      have e1 := Same.new (o := .lst (qs.map V.ref)) n _ _ e
      rw [upd_ne (ne_none nx e1), upd_ne (ne_none nd e1)]
      exact e1
    have lx : l ≠ x := ne_none nx upd_same
    have ld : l ≠ dx := ne_none nd upd_same
    refine ⟨x, dx, l, m, rfl, upd_same, ⟨qs, by rw [upd_ne lx, upd_ne ld, upd_same], h4.same sx⟩, hg, fun H' hM kx => ⟨rfl, ?_⟩⟩
    have nxH : H x = none := (Same.new n).free nx
    exact k x H' hM (fun b o e => kx _ _ (sx _ _ e) (ne_none nxH e)) nxH
theorem HandAt.nnew {H : Hp} {p c : Addr} (hh : HandAt H p) (n : H c = none) : c ≠ p := fun z => by
  obtain ⟨xs, e⟩ := hh.isL
  exact ne_none n e z.symm
def SmV (H : Hp) : Nat → V → V → Prop
  | 0, _, _ => False
  | j + 1, x, y => (∃ i, x = .int i ∧ y = .int i) ∨ (∃ b, x = .bl b ∧ y = .bl b) ∨ (x = .non ∧ y = .non) ∨ (∃ s, x = .str s ∧ y = .str s) ∨
    ∃ (p q : Addr) (xs ys : List V), x = .ref p ∧ y = .ref q ∧ ((H p = some (.tup xs) ∧ H q = some (.tup ys)) ∨ (H p = some (.lst xs) ∧ H q = some (.lst ys))) ∧ xs.length = ys.length ∧ ys.length ≤ 1000000 ∧ ∀ (i : Nat) u v, xs[i]? = some u → ys[i]? = some v → SmV H j u v
theorem SmV.same {H H' : Hp} (s : Same H H') : ∀ {j : Nat} {x y : V}, SmV H j x y → SmV H' j x y
  | 0, _, _, h => h
  | j + 1, x, y, h => by
    rcases h with h | h | h | h | ⟨p, q, xs, ys, e1, e2, e3, e4, e5, e6⟩
    · exact .inl h
    · exact .inr (.inl h)
    · exact .inr (.inr (.inl h))
    · exact .inr (.inr (.inr (.inl h)))
    · refine .inr (.inr (.inr (.inr ⟨p, q, xs, ys, e1, e2, ?_, e4, e5, fun i u v hu hv => SmV.same s (e6 i u v hu hv)⟩)))
      rcases e3 with ⟨a, b⟩ | ⟨a, b⟩
      · exact .inl ⟨s _ _ a, s _ _ b⟩
      · exact .inr ⟨s _ _ a, s _ _ b⟩
theorem SmV.int {H : Hp} {j : Nat} (i : Int) : SmV H (j + 1) (.int i) (.int i) := .inl ⟨i, rfl, rfl⟩
theorem SmV.pair {H : Hp} {j : Nat} {p q : Addr} {x y : Int} (h1 : H p = some (.tup [.int x, .int y])) (h2 : H q = some (.tup [.int x, .int y])) : SmV H (j + 2) (.ref p) (.ref q) := by
  refine .inr (.inr (.inr (.inr ⟨p, q, _, _, rfl, rfl, .inl ⟨h1, h2⟩, rfl, by simp, fun i u v hu hv => ?_⟩)))
  rw [hu] at hv
  cases hv
  match i, hu with
  | 0, hu => cases hu; exact SmV.int x
  | 1, hu => cases hu; exact SmV.int y
  | _ + 2, hu => simp at hu
def sp__law_same (K : PySem.W.Frag) (j : Nat) : Sp := fun vs H Q _ => ∃ (x y : V), vs = [x, y] ∧ SmV H j x y ∧ ∀ H', Same H H' → Q (.bl true) H'
theorem zero__law_same {K : PySem.W.Frag} {vs : List V} {H : Hp} {Q : VK} {E : XK} (h : sp__law_same K 0 vs H Q E) : False := by
  obtain ⟨_, _, _, h, _⟩ := h
  exact h
set_option maxHeartbeats 40000000 in
theorem ok__law_same {P : Program} {w : World} {K : PySem.W.Frag} {mg : Str → Option Value} {base : Heap} {a : Adr} (tx : Txt K mg a) : (j : Nat) → FnOk P w K mg base CX0 (j + 1) a.f__law_same a.d__law_same ["_law_one_here", "_law_due"] (sp__law_same K j)
  | 0 => ⟨fun vs H Q E h => (zero__law_same h).elim, fun A outer s H args us vs Q E _ _ _ _ h => (zero__law_same h).elim⟩
  | j + 1 => by
    have G__law_same := ok__law_same (P := P) (w := w) (base := base) tx j
    refine tx.F__law_same.ok sc__law_same (fun vs H Q E h => ?_) (fun cdv A outer s H vs Q E hr h => ?_)
    · obtain ⟨x, y, rfl, _⟩ := h
      rfl
    · obtain ⟨x, y, rfl , hs, k⟩ := h
      have hu := hu9 hr
      refine Z.root (Z.pss_cons (Z.ps_if (Z.pt_val (Z.pe_callBN (rc := rIsiT K) call_isiT (by rfl) tx.z_isinstance bt_isinstance (Z.pa_c (Z.pv 1) (Z.pa_c (Z.tup2 (Z.pe_bltn (v := .ty "list") (by rfl) tx.z_list bt_list rfl) (Z.pe_bltn (v := .ty "tuple") (by rfl) tx.z_tuple bt_tuple rfl)) Z.pa_nil)))) (Z.pss_cons (Z.ps_if (Z.pw_pt (Z.pw_or (Z.pt_cmpR (r := rNeG K) (op_neG hu) (Z.pe_callBN (rc := rIsi K) call_isiG (by rfl) tx.z_isinstance bt_isinstance (Z.pa_c (Z.pv 0) (Z.pa_c (Z.pe_bltn (v := .ty "list") (by rfl) tx.z_list bt_list rfl) Z.pa_nil))) (Z.pe_callBN (rc := rIsi K) call_isiG (by rfl) tx.z_isinstance bt_isinstance (Z.pa_c (Z.pv 1) (Z.pa_c (Z.pe_bltn (v := .ty "list") (by rfl) tx.z_list bt_list rfl) Z.pa_nil))) (nomark _)) (Z.pw_or1 (Z.pt_cmpR (r := rNeG K) (op_neG hu) (Z.pe_callBN (rc := rIsi K) call_isiG (by rfl) tx.z_isinstance bt_isinstance (Z.pa_c (Z.pv 0) (Z.pa_c (Z.pe_bltn (v := .ty "tuple") (by rfl) tx.z_tuple bt_tuple rfl) Z.pa_nil))) (Z.pe_callBN (rc := rIsi K) call_isiG (by rfl) tx.z_isinstance bt_isinstance (Z.pa_c (Z.pv 1) (Z.pa_c (Z.pe_bltn (v := .ty "tuple") (by rfl) tx.z_tuple bt_tuple rfl) Z.pa_nil))) (nomark _))))) (Z.pss_one (Z.ps_ret Z.pe_bl)) Z.pss_nil)
        (Z.pss_one (Z.ps_ret (Z.pe_and (Z.pe_cmpR (r := rEqG K) (op_eqG hu) (Z.pe_callBN (rc := rLen K) call_lenG (by rfl) tx.z_len bt_len (Z.pa_c (Z.pv 0) Z.pa_nil)) (Z.pe_callBN (rc := rLen K) call_lenG (by rfl) tx.z_len bt_len (Z.pa_c (Z.pv 1) Z.pa_nil)) (nomark _)) (Z.pe_one (Z.pe_callBN (rc := rAll K) (call_allG rfl) (by rfl) tx.z_all bt_all (Z.pa_c (Z.pe_comp (k := 1) (idx := [1, 0]) (N := ["_law_k", "_law_due", "_law_one_here"]) (blk_sc (sc := defScope s__law_same) (NX := ["_law_one_here", "_law_due"]) rfl rfl rfl (by decide +kernel)) rfl (Z.pi_range1N (by rfl) tx.z_range (Z.pa_c (Z.pe_callBN (rc := rLen K) call_lenG (by rfl) tx.z_len bt_len (Z.pa_c (Z.pv 1) Z.pa_nil)) Z.pa_nil)) (fun _ _ _ _ => (Z.pg_name (i := 0) (show (["_law_k", "_law_due", "_law_one_here"] : List Str).Nodup by decide +kernel) rfl (Or.inl rfl))) (own_name (by decide)) (fun _ _ _ _ => Z.pts_nil) (fun _ _ _ _ => (Z.pe_callN (G__law_same) (hr.mono (by omega)) (by rfl) tx.g__law_same tx.F__law_same.kp tx.b__law_same .nil pass0 (Z.pa_c (Z.pe_ixK (K' := K) (Z.pv 2) (Z.pv 0) (fun _ _ => rfl)) (Z.pa_c (Z.pe_ixK (K' := K) (Z.pv 1) (Z.pv 0) (fun _ _ => rfl)) Z.pa_nil))))) Z.pa_nil))))))) Z.pss_nil)
        (Z.pss_cons (Z.ps_if (Z.pw_pt (Z.pw_or (Z.pt_val (Z.pe_callBN (rc := rIsi K) call_isiG (by rfl) tx.z_isinstance bt_isinstance (Z.pa_c (Z.pv 0) (Z.pa_c (Z.pe_bltn (v := .ty "bool") (by rfl) tx.z_bool bt_bool rfl) Z.pa_nil)))) (Z.pw_or1 (Z.pt_val (Z.pe_callBN (rc := rIsi K) call_isiG (by rfl) tx.z_isinstance bt_isinstance (Z.pa_c (Z.pv 1) (Z.pa_c (Z.pe_bltn (v := .ty "bool") (by rfl) tx.z_bool bt_bool rfl) Z.pa_nil))))))) (Z.pss_one (Z.ps_ret (Z.pe_and (Z.pe_callBN (rc := rIsi K) call_isiG (by rfl) tx.z_isinstance bt_isinstance (Z.pa_c (Z.pv 0) (Z.pa_c (Z.pe_bltn (v := .ty "bool") (by rfl) tx.z_bool bt_bool rfl) Z.pa_nil))) (Z.pe_and (Z.pe_callBN (rc := rIsi K) call_isiG (by rfl) tx.z_isinstance bt_isinstance (Z.pa_c (Z.pv 1) (Z.pa_c (Z.pe_bltn (v := .ty "bool") (by rfl) tx.z_bool bt_bool rfl) Z.pa_nil))) (Z.pe_one (Z.pe_cmpR (r := rEqG K) (op_eqG hu) (Z.pv 0) (Z.pv 1) (nomark _))))))) Z.pss_nil)
        (Z.pss_cons (Z.ps_if (Z.pt_val (Z.pe_callBN (rc := rIsi K) call_isiG (by rfl) tx.z_isinstance bt_isinstance (Z.pa_c (Z.pv 1) (Z.pa_c (Z.pe_bltn (v := .ty "int") (by rfl) tx.z_int bt_int rfl) Z.pa_nil)))) (Z.pss_one (Z.ps_ret (Z.pe_and (Z.pe_callBN (rc := rIsi K) call_isiG (by rfl) tx.z_isinstance bt_isinstance (Z.pa_c (Z.pv 0) (Z.pa_c (Z.pe_bltn (v := .ty "int") (by rfl) tx.z_int bt_int rfl) Z.pa_nil))) (Z.pe_one (Z.pe_cmpR (r := rEqG K) (op_eqG hu) (Z.pv 0) (Z.pv 1) (nomark _)))))) Z.pss_nil)
        (Z.pss_cons (Z.ps_if (Z.pt_val (Z.pe_callBN (rc := rIsi K) call_isiG (by rfl) tx.z_isinstance bt_isinstance (Z.pa_c (Z.pv 1) (Z.pa_c (Z.pe_bltn (v := .ty "str") (by rfl) tx.z_str bt_str rfl) Z.pa_nil)))) (Z.pss_one (Z.ps_ret (Z.pe_and (Z.pe_callBN (rc := rIsi K) call_isiG (by rfl) tx.z_isinstance bt_isinstance (Z.pa_c (Z.pv 0) (Z.pa_c (Z.pe_bltn (v := .ty "str") (by rfl) tx.z_str bt_str rfl) Z.pa_nil))) (Z.pe_one (Z.pe_cmpR (r := rEqG K) (op_eqG hu) (Z.pv 0) (Z.pv 1) (nomark _)))))) Z.pss_nil)
        (Z.pss_one (Z.ps_ret (Z.pe_and (Z.pe_cmpR op_isG (Z.pv 0) Z.pe_non (nomark _)) (Z.pe_one (Z.pe_cmpR op_isG (Z.pv 1) Z.pe_non (nomark _)))))))))) ?_
      refine rd_start (σ := [some x, some y]) rfl ?_
      repeat walk_at "gs"
      intro T nT
      repeat walk_at "gs"
      rcases hs with ⟨i, rfl, rfl⟩ | ⟨b, rfl, rfl⟩ | ⟨rfl, rfl⟩ | ⟨z, rfl, rfl⟩ | ⟨p, q, xs, ys, rfl, rfl, e3, e4, e5, e6⟩
      · refine rd_isiT (Ts := ["list", "tuple"]) upd_same (.int i) rfl ?_
        repeat walk_at "gs"
        refine rd_isi (isi_bool (.int i)) ?_
        repeat walk_at "gs"
        refine rd_isi (isi_bool (.int i)) ?_
        repeat walk_at "gs"
        refine rd_isi (isi_int (.int i)) ?_
        repeat walk_at "gs"
        refine rd_isi (isi_int (.int i)) ?_
        repeat walk_at "gs"
        rw [decide_eq_true rfl]
        exact k _ (Same.new nT)
      · refine rd_isiT (Ts := ["list", "tuple"]) upd_same (.bl b) rfl ?_
        repeat walk_at "gs"
        refine rd_isi (isi_bool (.bl b)) ?_
        repeat walk_at "gs"
        refine rd_isi (isi_bool (.bl b)) ?_
        repeat walk_at "gs"
        refine rd_isi (isi_bool (.bl b)) ?_
        repeat walk_at "gs"
        rw [show eqV (.bl b) (.bl b) = true by cases b <;> rfl]
        exact k _ (Same.new nT)
      · refine rd_isiT (Ts := ["list", "tuple"]) upd_same .non rfl ?_
        repeat walk_at "gs"
        refine rd_isi (isi_bool .non) ?_
        repeat walk_at "gs"
        refine rd_isi (isi_bool .non) ?_
        repeat walk_at "gs"
        refine rd_isi (isi_int .non) ?_
        repeat walk_at "gs"
        refine rd_isi (isi_str .non) ?_
        repeat walk_at "gs"
        exact k _ (Same.new nT)
      · refine rd_isiT (Ts := ["list", "tuple"]) upd_same (.str z) rfl ?_
        repeat walk_at "gs"
        refine rd_isi (isi_bool (.str z)) ?_
        repeat walk_at "gs"
        refine rd_isi (isi_bool (.str z)) ?_
        repeat walk_at "gs"
        refine rd_isi (isi_int (.str z)) ?_
        repeat walk_at "gs"
        refine rd_isi (isi_str (.str z)) ?_
        repeat walk_at "gs"
        refine rd_isi (isi_str (.str z)) ?_
        repeat walk_at "gs"
        rw [show eqV (.str z) (.str z) = true from beq_self_eq_true z]
        exact k _ (Same.new nT)
      · have sT := Same.new (o := .tup [.ty "list", .ty "tuple"]) nT
        have hb : ∃ L : List V → Bool, True := ⟨fun _ => true, trivial⟩
        rcases e3 with ⟨a1, a2⟩ | ⟨a1, a2⟩
        · have c1 := sT _ _ a1
          have c2 := sT _ _ a2
          generalize hH1 : upd H T (.tup [.ty "list", .ty "tuple"]) = H1 at c1 c2 sT ⊢
          have eT : H1 T = some (.tup [.ty "list", .ty "tuple"]) := by rw [← hH1]; exact upd_same
          refine rd_isiT (Ts := ["list", "tuple"]) eT (.tup c2) rfl ?_
          repeat walk_at "gs"
          refine rd_isi (isi_list (.tup c1)) ?_
          repeat walk_at "gs"
          refine rd_isi (isi_list (.tup c2)) ?_
          repeat walk_at "gs"
          refine rd_isi (isi_tuple (.tup c1)) ?_
          repeat walk_at "gs"
          refine rd_isi (isi_tuple (.tup c2)) ?_
          repeat walk_at "gs"
          refine rd_dec (fun _ => ?_) (fun h => absurd (by rw [e4]) h)
          repeat walk_at "gs"
          refine ⟨by omega, by omega, ?_⟩
          refine comp_range (fun i zs H' => Same H1 H' ∧ zs.length = i ∧ ∀ z ∈ zs, z = .bl true) ⟨Same.refl _, rfl, fun z h => by simp at h⟩ (sz_le (by omega)) (fun i zs H' hi ⟨_, h, _⟩ => by omega) (fun i zs H' hi ⟨s1, h1, h2⟩ => ?_) (fun zs H' ⟨s1, h1, h2⟩ => ?_)
          · have hi2 : i < ys.length := by omega
            have hi1 : i < xs.length := by omega
            have g1 : atI xs (0 + (i : Int)) = some xs[i] := by rw [Int.zero_add]; exact atI_nat (List.getElem?_eq_getElem hi1)
            have g2 : atI ys (0 + (i : Int)) = some ys[i] := by rw [Int.zero_add]; exact atI_nat (List.getElem?_eq_getElem hi2)
            have d1 := s1 _ _ c1
            have d2 := s1 _ _ c2
            repeat walk_at "gs"
            refine ⟨_, _, rfl, SmV.same (sT.trans s1) (e6 i _ _ (List.getElem?_eq_getElem hi1) (List.getElem?_eq_getElem hi2)), fun H2 s2 => ?_⟩
            refine ⟨s1.trans s2, by rw [List.length_append, h1]; rfl, fun z hz => ?_⟩
            rcases List.mem_append.mp hz with h | h
            · exact h2 z h
            · exact List.mem_singleton.mp h
          · intro L nL
            repeat walk_at "gs"
            refine rd_allT (SqL.of upd_same) h2 ?_
            exact k _ ((sT.trans s1).trans (Same.new nL))
        · have c1 := sT _ _ a1
          have c2 := sT _ _ a2
          generalize hH1 : upd H T (.tup [.ty "list", .ty "tuple"]) = H1 at c1 c2 sT ⊢
          have eT : H1 T = some (.tup [.ty "list", .ty "tuple"]) := by rw [← hH1]; exact upd_same
          refine rd_isiT (Ts := ["list", "tuple"]) eT (.lst c2) rfl ?_
          repeat walk_at "gs"
          refine rd_isi (isi_list (.lst c1)) ?_
          repeat walk_at "gs"
          refine rd_isi (isi_list (.lst c2)) ?_
          repeat walk_at "gs"
          refine rd_isi (isi_tuple (.lst c1)) ?_
          repeat walk_at "gs"
          refine rd_isi (isi_tuple (.lst c2)) ?_
          repeat walk_at "gs"
          refine rd_dec (fun _ => ?_) (fun h => absurd (by rw [e4]) h)
          repeat walk_at "gs"
          refine ⟨by omega, by omega, ?_⟩
          refine comp_range (fun i zs H' => Same H1 H' ∧ zs.length = i ∧ ∀ z ∈ zs, z = .bl true) ⟨Same.refl _, rfl, fun z h => by simp at h⟩ (sz_le (by omega)) (fun i zs H' hi ⟨_, h, _⟩ => by omega) (fun i zs H' hi ⟨s1, h1, h2⟩ => ?_) (fun zs H' ⟨s1, h1, h2⟩ => ?_)
          · have hi2 : i < ys.length := by omega
            have hi1 : i < xs.length := by omega
            have g1 : atI xs (0 + (i : Int)) = some xs[i] := by rw [Int.zero_add]; exact atI_nat (List.getElem?_eq_getElem hi1)
            have g2 : atI ys (0 + (i : Int)) = some ys[i] := by rw [Int.zero_add]; exact atI_nat (List.getElem?_eq_getElem hi2)
            have d1 := s1 _ _ c1
            have d2 := s1 _ _ c2
            repeat walk_at "gs"
            refine ⟨_, _, rfl, SmV.same (sT.trans s1) (e6 i _ _ (List.getElem?_eq_getElem hi1) (List.getElem?_eq_getElem hi2)), fun H2 s2 => ?_⟩
            refine ⟨s1.trans s2, by rw [List.length_append, h1]; rfl, fun z hz => ?_⟩
            rcases List.mem_append.mp hz with h | h
            · exact h2 z h
            · exact List.mem_singleton.mp h
          · intro L nL
            repeat walk_at "gs"
            refine rd_allT (SqL.of upd_same) h2 ?_
            exact k _ ((sT.trans s1).trans (Same.new nL))
def sumA : List (Int × Int) → Int
  | [] => 0
  | t :: ps => t.1 + sumA ps
def gn (p : Int) : List (Int × Int) → Int
  | [] => 0
  | t :: ps => t.1 * max (p - t.2) 0 + gn p ps
def Up : List (Int × Int) → Prop
  | [] => True
  | t :: ps => 1 ≤ t.1 ∧ (∀ u ∈ ps, t.2 ≤ u.2) ∧ Up ps
theorem gn_app {p : Int} : ∀ (a : List (Int × Int)) (t : Int × Int), gn p (a ++ [t]) = gn p a + t.1 * max (p - t.2) 0
  | [], t => by show t.1 * max (p - t.2) 0 + 0 = 0 + t.1 * max (p - t.2) 0; omega
  | u :: a, t => by
    show u.1 * max (p - u.2) 0 + gn p (a ++ [t]) = u.1 * max (p - u.2) 0 + gn p a + t.1 * max (p - t.2) 0
    rw [gn_app a t]; omega
theorem sum_gn {p : Int} : ∀ (ps : List (Int × Int)), List.sum (ps.filterMap fun t => some (max 0 (p - t.2) * t.1)) = gn p ps
  | [] => rfl
  | t :: ps => by
    rw [List.filterMap_cons]
    show List.sum (max 0 (p - t.2) * t.1 :: _) = t.1 * max (p - t.2) 0 + gn p ps
    rw [List.sum_cons, sum_gn ps, Int.mul_comm, show max 0 (p - t.2) = max (p - t.2) 0 by omega]
theorem comp_pcs {K : PySem.W.Frag} {H : Hp} {pl : Addr} {qs : List Addr} {ps : List (Int × Int)} {σ₀ : St} {g : TG} {tt : TT} {te : TE} {R : List V → Hp → Prop} (f : Int × Int → Option Int) (h1 : H pl = some (.lst (qs.map V.ref))) (h2 : Tup2 H qs ps) (hz : ps.length ≤ 4)
    (hs : ∀ q t (N : V → Hp → Prop) (N' : Hp → Prop), t ∈ ps → H q = some (.tup [.int t.1, .int t.2]) → (∀ y, f t = some y → N (.int y) H) → (f t = none → N' H) → g (.ref q) σ₀ H fun σ2 H2 => tt σ2 H2 fun b H3 => if b = true then te σ2 H3 fun y H4 => N y H4 else N' H3)
    (hd : R ((ps.filterMap f).map V.int) H) : tCompW (Itl K pl) σ₀ g tt te R H := by
  have hql : qs.length ≤ 4 := by rw [h2.len]; exact hz
  refine comp_list (xs := qs.map V.ref) (fun i ys H' => H' = H ∧ ys = ((ps.take i).filterMap f).map V.int) ⟨rfl, by simp⟩ (sz_le (by rw [List.length_map]; omega)) (fun i ys H' hi ⟨e1, e2⟩ => ?_) (fun i x ys H' hx ⟨e1, e2⟩ => ?_) (fun ys H' ⟨e1, e2⟩ => ?_)
  · subst e1 e2
    refine ⟨SqL.of h1, ?_⟩
    rw [List.length_map]
    exact Nat.le_trans (List.length_filterMap_le ..) (by rw [List.length_take]; omega)
  · subst e1 e2
    rw [List.getElem?_map] at hx
    cases hq : qs[i]? with
    | none => rw [hq] at hx; cases hx
    | some q =>
      rw [hq] at hx
      cases hx
      have li : i < ps.length := by rw [← h2.len]; exact (List.getElem?_eq_some_iff.mp hq).1
      have ht : ps[i]? = some ps[i] := List.getElem?_eq_getElem li
      have e := h2.at_ i q _ hq ht
      have hm := List.getElem_mem li
      generalize ps[i] = t at ht e hm
      refine hs q t (fun y H4 => H4 = H' ∧ ((ps.take i).filterMap f).map V.int ++ [y] = ((ps.take (i + 1)).filterMap f).map V.int) (fun H3 => H3 = H' ∧ ((ps.take i).filterMap f).map V.int = ((ps.take (i + 1)).filterMap f).map V.int) hm e (fun y hy => ⟨rfl, ?_⟩) (fun hy => ⟨rfl, ?_⟩)
      · rw [List.take_add_one, ht, List.filterMap_append, List.map_append]
        simp [hy]
      · rw [List.take_add_one, ht, List.filterMap_append, List.map_append]
        simp [hy]
  · subst e1 e2
    rw [List.length_map, h2.len, List.take_length]
    exact hd
def sp_Machine_gain (K : PySem.W.Frag) (C : Addr) : Sp := fun vs H Q _ => ∃ (x : Addr) (m : MS) (pr : Int), vs = [.ref x, .int pr] ∧ MachAt C H x m ∧ m.Good ∧ 0 ≤ pr ∧ pr ≤ 1000000000001 ∧ Q (.int (pr * m.least + gn pr m.pieces)) H
set_option maxHeartbeats 40000000 in
theorem ok_Machine_gain {P : Program} {w : World} {K : PySem.W.Frag} {mg : Str → Option Value} {base : Heap} {a : Adr} (tx : Txt K mg a) : FnOk P w K mg base CX0 1 a.f_Machine_gain a.d_Machine_gain ["self", "price"] (sp_Machine_gain K a.c_Machine) := by
  refine tx.F_Machine_gain.ok sc_Machine_gain (fun vs H Q E h => ?_) (fun cdv A outer s H vs Q E hr h => ?_)
  · obtain ⟨x, m, pr, rfl, _⟩ := h
    rfl
  · obtain ⟨x, m, pr, rfl , hm, hg, p0, p1, k⟩ := h
    have hu := hu9 hr
    refine Z.root (Z.pss_cons (Z.ps_set (i := 2) sc_Machine_gain.nd rfl (Or.inl rfl) (Z.pe_op op_mulG (Z.pv 1) (Z.pe_fldK (K' := K) (Z.pv 0) rfl)))
      (Z.pss_cons (Z.ps_for PassesOwn.never rfl (Z.pi_listK (K' := K) (Z.pe_fldK (K' := K) (Z.pv 0) rfl)) (Z.pg_tupK (K' := K) (n := 2) rfl (Z.pgs_cons (Z.pg_name (i := 3) sc_Machine_gain.nd rfl (Or.inl rfl)) (Z.pgs_cons (Z.pg_name (i := 4) sc_Machine_gain.nd rfl (Or.inl rfl)) Z.pgs_nil))) (Z.pss_one (Z.ps_aug (i := 2) sc_Machine_gain.nd rfl (Or.inl rfl) (Z.pe_op op_mulG (Z.pv 3) (Z.pe_callBN (call_maxG rfl) (by rfl) tx.z_max bt_max (Z.pa_c (Z.pe_op op_sub (Z.pv 1) (Z.pv 4)) (Z.pa_c Z.pe_int Z.pa_nil)))) ip_add)))
      (Z.pss_one (Z.ps_ret (Z.pv 2))))) ?_
    obtain ⟨dx, pl, hx, hp⟩ := hm.ex
    obtain ⟨qs, h1, h2⟩ := hp.ex
    refine rd_start (σ := [some (.ref x), some (.int pr), none, none, none]) rfl ?_
    walk_at "w"
    refine rd_get hx tx.C_Machine tx.n_Machine_least rfl ?_
    walk_at "w"
    refine rd_get hx tx.C_Machine tx.n_Machine_pieces rfl ?_
    refine rd_li (SqL.of h1) ?_
    refine rf_list (xs := qs.map V.ref) (fun i σ' H' => H' = H ∧ ∃ y z, σ' = [some (.ref x), some (.int pr), some (.int (pr * m.least + gn pr (m.pieces.take i))), y, z]) ⟨rfl, _, _, by rw [show gn pr (m.pieces.take 0) = 0 by simp [gn], Int.add_zero]⟩ (fun i σ' H' hi ⟨e1, y, z, e⟩ => by subst e1; exact SqL.of h1) (fun i v σ' H' hv ⟨e1, y, z, e⟩ => ?_) (fun σ' H' ⟨e1, y, z, e⟩ => ?_)
    · subst e1 e
      rw [List.getElem?_map] at hv
      cases hq : qs[i]? with
      | none => rw [hq] at hv; cases hv
      | some q =>
        rw [hq] at hv
        cases hv
        have li : i < m.pieces.length := by rw [← h2.len]; exact (List.getElem?_eq_some_iff.mp hq).1
        have ht : m.pieces[i]? = some m.pieces[i] := List.getElem?_eq_getElem li
        have e := h2.at_ i q _ hq ht
        obtain ⟨z1, ⟨z2, z3⟩, z4, z5⟩ := hg.pieces.pc _ (List.getElem_mem li)
        generalize m.pieces[i] = t at ht e z1 z2 z3 z4 z5
        refine rd_gtup (SqT.of e) rfl ?_
        walk_at "w"
        refine rd_aug rfl ?_
        walk_at "w"
        refine ⟨rfl, some (.int t.1), some (.int t.2), ?_⟩
        rw [List.take_add_one, ht]
        show _ = [some (V.ref x), some (V.int pr), some (V.int (pr * m.least + gn pr (m.pieces.take i ++ [t]))), _, _]
        rw [gn_app, Int.add_assoc]
        rfl
    · subst e1 e
      walk_at "w"
      rw [List.length_map, h2.len, List.take_length]
      exact k
def sp__law_gain (K : PySem.W.Frag) : Sp := fun vs H Q _ => ∃ (s : Addr) (m : MS) (pr : Int), vs = [.ref s, .int pr] ∧ SpecAt H s m ∧ m.Good ∧ 0 ≤ pr ∧ pr ≤ 1000000000001 ∧ ∀ H', Same H H' → Q (.int (pr * m.least + gn pr m.pieces)) H'
set_option maxHeartbeats 40000000 in
theorem ok__law_gain {P : Program} {w : World} {K : PySem.W.Frag} {mg : Str → Option Value} {base : Heap} {a : Adr} (tx : Txt K mg a) : FnOk P w K mg base CX0 1 a.f__law_gain a.d__law_gain ["_law_spec_here", "_law_price_here"] (sp__law_gain K) := by
  refine tx.F__law_gain.ok sc__law_gain (fun vs H Q E h => ?_) (fun cdv A outer s H vs Q E hr h => ?_)
  · obtain ⟨s, m, pr, rfl, _⟩ := h
    rfl
  · obtain ⟨s, m, pr, rfl , hs, hg, p0, p1, k⟩ := h
    have hu := hu9 hr
    refine Z.root (Z.pss_one (Z.ps_ret (Z.pe_op op_addG (Z.pe_op op_mulG (Z.pv 1) (Z.pe_ixK (K' := K) (Z.pv 0) Z.pe_int (fun _ _ => rfl))) (Z.pe_callBN (rc := rSum K) (call_sumG rfl) (by rfl) tx.z_sum bt_sum (Z.pa_c (Z.pe_comp (k := 2) (idx := [1]) (N := ["_law_amount", "_law_rate", "_law_price_here"]) (blk_sc (sc := defScope s__law_gain) (NX := ["_law_spec_here", "_law_price_here"]) rfl rfl rfl (by decide +kernel)) rfl (Z.pi_listK (K' := K) (Z.pe_ixK (K' := K) (Z.pv 0) Z.pe_int (fun _ _ => rfl))) (fun _ _ _ _ => (Z.pg_tupK (K' := K) (n := 2) rfl (Z.pgs_cons (Z.pg_name (i := 0) (show (["_law_amount", "_law_rate", "_law_price_here"] : List Str).Nodup by decide +kernel) rfl (Or.inl rfl)) (Z.pgs_cons (Z.pg_name (i := 1) (show (["_law_amount", "_law_rate", "_law_price_here"] : List Str).Nodup by decide +kernel) rfl (Or.inl rfl)) Z.pgs_nil)))) (own_tup (owns_cons (by decide) (owns_cons (by decide) owns_nil))) (fun _ _ _ _ => Z.pts_nil) (fun _ _ _ _ => (Z.pe_op op_mulG (Z.pe_callBN (call_maxG rfl) (by rfl) tx.z_max bt_max (Z.pa_c Z.pe_int (Z.pa_c (Z.pe_op op_sub (Z.pv 2) (Z.pv 1)) Z.pa_nil))) (Z.pv 0)))) Z.pa_nil))))) ?_
    obtain ⟨pl, hx, hp⟩ := hs.ex
    obtain ⟨qs, h1, h2⟩ := hp.ex
    refine rd_start (σ := [some (.ref s), some (.int pr)]) rfl ?_
    walk_at "w"
    refine rd_li (SqL.of h1) ?_
    refine comp_pcs (fun t => some (max 0 (pr - t.2) * t.1)) h1 h2 hg.pieces.len (fun q t N N' hm hq hN hN' => ?_) ?_
    · obtain ⟨z1, ⟨z2, z3⟩, z4, z5⟩ := hg.pieces.pc _ hm
      refine rd_gtup (SqT.of hq) rfl ?_
      walk_at "w"
      exact hN _ rfl
    intro l1 n1
    walk_at "w"
    refine rd_sum (SqL.of upd_same) ?_
    rw [sum_gn]
    walk_at "w"
    exact k _ (Same.new n1)
def sp_may_be (K : PySem.W.Frag) : Sp := fun vs H Q _ => ∃ (v : V) (t : Addr) (o d on : Int), vs = [v, .ref t, .int on] ∧ H t = some (.tup [.int o, .int d]) ∧ Q (.bl (decide (o = on) || decide (d = 0))) H
set_option maxHeartbeats 40000000 in
theorem ok_may_be {P : Program} {w : World} {K : PySem.W.Frag} {mg : Str → Option Value} {base : Heap} {a : Adr} (tx : Txt K mg a) : FnOk P w K mg base CX0 1 a.f_may_be a.d_may_be ["machine", "state", "on"] (sp_may_be K) := by
  refine tx.F_may_be.ok sc_may_be (fun vs H Q E h => ?_) (fun cdv A outer s H vs Q E hr h => ?_)
  · obtain ⟨v, t, o, d, on, rfl, _⟩ := h
    rfl
  · obtain ⟨v, t, o, d, on, rfl , ht, k⟩ := h
    have hu := hu9 hr
    refine Z.root (Z.pss_one (Z.ps_ret (Z.pe_or (Z.pe_cmpR (r := rEqG K) (op_eqG hu) (Z.pe_ixK (K' := K) (Z.pv 1) Z.pe_int (fun _ _ => rfl)) (Z.pv 2) (nomark _)) (Z.pe_one (Z.pe_cmpR (r := rEqG K) (op_eqG hu) (Z.pe_ixK (K' := K) (Z.pv 1) Z.pe_int (fun _ _ => rfl)) Z.pe_int (nomark _)))))) ?_
    refine rd_start (σ := [some v, some (.ref t), some (.int on)]) rfl ?_
    walk_at "w"
    refine rd_dec (fun h => ?_) (fun h => ?_)
    · rw [decide_eq_true h, Bool.true_or] at k
      exact k
    · rw [decide_eq_false h, Bool.false_or] at k
      walk_at "w"
      exact k
def aft (m : MS) (o d on : Int) : Int × Int := if o = on then (on, max (d - 1) 0) else if on = 1 then (1, m.up - 1) else (0, m.down - 1)
def sp_state_after (K : PySem.W.Frag) (C : Addr) : Sp := fun vs H Q _ => ∃ (q : Addr) (m : MS) (t : Addr) (o d on : Int), vs = [.ref q, .ref t, .int on] ∧ MachAt C H q m ∧ H t = some (.tup [.int o, .int d]) ∧ (o = on ∨ d = 0) ∧
  ∀ T H', Same H H' → H T = none → H' T = some (.tup [.int (aft m o d on).1, .int (aft m o d on).2]) → Q (.ref T) H'
set_option maxHeartbeats 40000000 in
theorem ok_state_after {P : Program} {w : World} {K : PySem.W.Frag} {mg : Str → Option Value} {base : Heap} {a : Adr} (tx : Txt K mg a) : FnOk P w K mg base CX0 2 a.f_state_after a.d_state_after ["machine", "state", "on"] (sp_state_after K a.c_Machine) := by
  have G_may_be := ok_may_be (P := P) (w := w) (base := base) tx
  refine tx.F_state_after.ok sc_state_after (fun vs H Q E h => ?_) (fun cdv A outer s H vs Q E hr h => ?_)
  · obtain ⟨q, m, t, o, d, on, rfl, _⟩ := h
    rfl
  · obtain ⟨q, m, t, o, d, on, rfl , hm, ht, hmay, k⟩ := h
    have hu := hu9 hr
    refine Z.root (Z.pss_cons (Z.ps_if (Z.pt_not (Z.pt_val (Z.pe_callN (G_may_be) (hr.mono (by decide)) (by rfl) tx.g_may_be tx.F_may_be.kp tx.b_may_be .nil pass0 (Z.pa_c (Z.pv 0) (Z.pa_c (Z.pv 1) (Z.pa_c (Z.pv 2) Z.pa_nil)))))) (Z.pss_one Z.ps_never) Z.pss_nil)
      (Z.pss_cons (Z.ps_if (Z.pt_cmpR (r := rEqG K) (op_eqG hu) (Z.pe_ixK (K' := K) (Z.pv 1) Z.pe_int (fun _ _ => rfl)) (Z.pv 2) (nomark _)) (Z.pss_one (Z.ps_ret (Z.tup2 (Z.pv 2) (Z.pe_callBN (call_maxG rfl) (by rfl) tx.z_max bt_max (Z.pa_c (Z.pe_op op_sub (Z.pe_ixK (K' := K) (Z.pv 1) Z.pe_int (fun _ _ => rfl)) Z.pe_int) (Z.pa_c Z.pe_int Z.pa_nil)))))) Z.pss_nil)
      (Z.pss_cons (Z.ps_if (Z.pt_cmpR (r := rEqG K) (op_eqG hu) (Z.pv 2) Z.pe_int (nomark _)) (Z.pss_one (Z.ps_ret (Z.tup2 Z.pe_int (Z.pe_op op_sub (Z.pe_fldK (K' := K) (Z.pv 0) rfl) Z.pe_int)))) Z.pss_nil)
      (Z.pss_one (Z.ps_ret (Z.tup2 Z.pe_int (Z.pe_op op_sub (Z.pe_fldK (K' := K) (Z.pv 0) rfl) Z.pe_int))))))) ?_
    obtain ⟨dx, pl, hq, _⟩ := hm.ex
    refine rd_start (σ := [some (.ref q), some (.ref t), some (.int on)]) rfl ?_
    walk_at "w"
    refine ⟨_, _, _, _, _, rfl, ht, ?_⟩
    walk_at "w"
    rw [show (decide (o = on) || decide (d = 0)) = true by rcases hmay with h | h <;> simp [h]]
    walk_at "w"
    unfold aft at k
    refine rd_dec (fun h => ?_) (fun h => ?_)
    · rw [if_pos h] at k
      walk_at "w"
      intro T nT
      walk_at "w"
      exact k _ _ (Same.new nT) nT upd_same
    · rw [if_neg h] at k
      walk_at "w"
      refine rd_dec (fun h1 => ?_) (fun h1 => ?_)
      · rw [if_pos h1] at k
        walk_at "w"
        refine rd_get hq tx.C_Machine tx.n_Machine_up rfl ?_
        walk_at "w"
        intro T nT
        walk_at "w"
        exact k _ _ (Same.new nT) nT upd_same
      · rw [if_neg h1] at k
        walk_at "w"
        refine rd_get hq tx.C_Machine tx.n_Machine_down rfl ?_
        walk_at "w"
        intro T nT
        walk_at "w"
        exact k _ _ (Same.new nT) nT upd_same
def Bit (o : Int) : Prop := o = 0 ∨ o = 1
theorem aft_ok {m : MS} (hg : m.Good) {o d on : Int} (ho : Bit on) : Bit (aft m o d on).1 ∧ 0 ≤ (aft m o d on).2 := by
  obtain ⟨u0, u1⟩ := hg.up
  obtain ⟨d0, d1⟩ := hg.down
  unfold aft
  split
  · exact ⟨ho, by show 0 ≤ max (d - 1) 0; omega⟩
  · split
    · exact ⟨.inr rfl, by show 0 ≤ m.up - 1; omega⟩
    · exact ⟨.inl rfl, by show 0 ≤ m.down - 1; omega⟩
theorem mod_ix {ns : List Int} {r : Int} (h0 : 0 ≤ r) (hne : ns ≠ []) : ∃ j : Nat, j < ns.length ∧ r % (ns.length : Int) = (j : Int) := by
  have hl : 0 < ns.length := List.length_pos_iff.mpr hne
  have e1 := Int.emod_nonneg r (b := (ns.length : Int)) (by omega)
  have e2 := Int.emod_lt_of_pos r (b := (ns.length : Int)) (by omega)
  exact ⟨(r % (ns.length : Int)).toNat, by omega, by omega⟩
structure RL {α : Type} (P : Addr → α → Prop) (as : List Addr) (xs : List α) : Prop where
  len : as.length = xs.length
  at_ : ∀ (j : Nat) a x, as[j]? = some a → xs[j]? = some x → P a x
theorem RL.nil {α : Type} {P : Addr → α → Prop} : RL P [] [] := ⟨rfl, fun j a x h => by simp at h⟩
theorem RL.imp {α : Type} {P P' : Addr → α → Prop} {as : List Addr} {xs : List α} (h : RL P as xs) (f : ∀ a x, P a x → P' a x) : RL P' as xs := ⟨h.len, fun j a x h1 h2 => f a x (h.at_ j a x h1 h2)⟩
theorem RL.snoc {α : Type} {P : Addr → α → Prop} {as : List Addr} {xs : List α} (h : RL P as xs) {a : Addr} {x : α} (hp : P a x) : RL P (as ++ [a]) (xs ++ [x]) := by
  refine ⟨by rw [List.length_append, List.length_append, h.len]; rfl, fun j q u hq hu => ?_⟩
  by_cases hj : j < as.length
  · rw [List.getElem?_append_left hj] at hq
    rw [List.getElem?_append_left (by rw [← h.len]; exact hj)] at hu
    exact h.at_ j q u hq hu
  · have hj2 : j < (as ++ [a]).length := (List.getElem?_eq_some_iff.mp hq).1
    rw [List.length_append, List.length_singleton] at hj2
    have e : j = as.length := by omega
    subst e
    rw [List.getElem?_append_right (Nat.le_refl _), Nat.sub_self] at hq
    rw [h.len, List.getElem?_append_right (Nat.le_refl _), Nat.sub_self] at hu
    cases hq
    cases hu
    exact hp
theorem RL.two {α : Type} {P : Addr → α → Prop} {as : List Addr} {xs : List α} (h : RL P as xs) (hl : as.length = 2) : ∃ a b x y, as = [a, b] ∧ xs = [x, y] ∧ P a x ∧ P b y := by
  have hx : xs.length = 2 := by rw [← h.len]; exact hl
  match as, xs, hl, hx with
  | [a, b], [x, y], _, _ => exact ⟨a, b, x, y, rfl, rfl, h.at_ 0 a x rfl rfl, h.at_ 1 b y rfl rfl⟩
def HandSh (o : HO) : Prop := (∃ (d c : Int) (q : Addr), o = .lst [.int d, .int c, .ref q]) ∨ ∃ (C dx : Addr), o = .ins C dx []
def Tr (H H' : Hp) : Prop := ∀ b o, H b = some o → ¬ HandSh o → H' b = some o
theorem Tr.refl (H : Hp) : Tr H H := fun _ _ e _ => e
theorem Tr.trans {H H1 H2 : Hp} (a : Tr H H1) (b : Tr H1 H2) : Tr H H2 := fun c o e n => b c o (a c o e n) n
theorem _root_.L2.Same.tr {H H' : Hp} (s : Same H H') : Tr H H' := fun b o e _ => s b o e
theorem HandAt.tr {H H' : Hp} {p : Addr} (hh : HandAt H p) (k : Keep p H H') : Tr H H' := fun b o e n => k b o e fun z => by
  obtain ⟨d, c, q, ms, hp, _⟩ := hh.ex
  rw [z, hp] at e
  cases e
  exact n (.inl ⟨d, c, q, rfl⟩)
def Tk (H H' : Hp) : Prop := ∀ b xs, H b = some (.tup xs) → H' b = some (.tup xs)
theorem Tk.trans {H H1 H2 : Hp} (a : Tk H H1) (b : Tk H1 H2) : Tk H H2 := fun c o e => b c o (a c o e)
theorem nh_tup {xs : List V} : ¬ HandSh (.tup xs) := fun z => by rcases z with ⟨_, _, _, e⟩ | ⟨_, _, e⟩ <;> cases e
theorem nh_ins {C dx : Addr} {fs : List (Str × V)} (h : fs ≠ []) : ¬ HandSh (.ins C dx fs) := fun z => by
  rcases z with ⟨_, _, _, e⟩ | ⟨_, _, e⟩
  · cases e
  · cases e; exact h rfl
theorem nh_len {xs : List V} (h : xs.length ≠ 3) : ¬ HandSh (.lst xs) := fun z => by
  rcases z with ⟨_, _, _, e⟩ | ⟨_, _, e⟩
  · cases e; exact h rfl
  · cases e
theorem nh_refs {qs : List Addr} : ¬ HandSh (.lst (qs.map V.ref)) := fun z => by
  rcases z with ⟨_, _, _, e⟩ | ⟨_, _, e⟩
  · cases qs with
    | nil => cases e
    | cons x xs => cases e
  · cases e
theorem Tr.tk {H H' : Hp} (s : Tr H H') : Tk H H' := fun b xs e => s b _ e nh_tup
theorem _root_.L2.Same.tk {H H' : Hp} (s : Same H H') : Tk H H' := fun b xs e => s b _ e
def del (l : Addr) (H : Hp) : Hp := fun b => if b = l then none else H b
theorem del_at {l b : Addr} {H : Hp} (n : b ≠ l) : del l H b = H b := by unfold del; rw [if_neg n]
theorem del_le {l : Addr} {H : Hp} : Same (del l H) H := fun b o e => by
  unfold del at e
  split at e
  · cases e
  · exact e
theorem del_l {l : Addr} {H : Hp} : del l H l = none := by unfold del; rw [if_pos rfl]
theorem del_some {l b : Addr} {H : Hp} {o : HO} (e : H b = some o) (n : b ≠ l) : del l H b = some o := by rw [del_at n]; exact e
theorem Tr.del {l : Addr} {H H' : Hp} (s : Tr H H') : Tr (del l H) (del l H') := fun b o e n => by
  by_cases hb : b = l
  · subst hb; rw [del_l] at e; cases e
  · rw [del_at hb] at e ⊢; exact s b o e n
theorem Tup2.tr {H H' : Hp} {qs : List Addr} {ps : List (Int × Int)} (h : Tup2 H qs ps) (s : Tk H H') : Tup2 H' qs ps := ⟨h.len, fun j q t h1 h2 => s _ _ (h.at_ j q t h1 h2)⟩
theorem PcAt.tr {H H' : Hp} {p : Addr} {ps : List (Int × Int)} (h : PcAt H p ps) (s : Tr H H') : PcAt H' p ps := by
  obtain ⟨qs, h1, h2⟩ := h.ex
  exact ⟨qs, s _ _ h1 nh_refs, h2.tr s.tk⟩
theorem SpecAt.tr {H H' : Hp} {p : Addr} {m : MS} (h : SpecAt H p m) (s : Tr H H') : SpecAt H' p m := by
  obtain ⟨pl, h1, h2⟩ := h.ex
  exact ⟨pl, s _ _ h1 (nh_len (by simp)), h2.tr s⟩
theorem MachAt.tr {C : Addr} {H H' : Hp} {p : Addr} {m : MS} (h : MachAt C H p m) (s : Tr H H') : MachAt C H' p m := by
  obtain ⟨dx, pl, h1, h2⟩ := h.ex
  exact ⟨dx, pl, s _ _ h1 (nh_ins (by simp [mFs])), h2.tr s⟩
structure SS where
  cap : Int
  into : Int
  out : Int
  takes : Int
  gives : Int
structure SS.Good (s : SS) : Prop where
  cap : 0 ≤ s.cap ∧ s.cap ≤ 8
  into : 0 ≤ s.into ∧ s.into ≤ 8
  out : 0 ≤ s.out ∧ s.out ≤ 8
  takes : Am s.takes
  gives : Am s.gives
def Lv (s : SS) (l n : Int) : Prop := 0 ≤ n ∧ n ≤ s.cap ∧ l - s.out ≤ n ∧ n ≤ l + s.into
instance (s : SS) (l n : Int) : Decidable (Lv s l n) := by unfold Lv; infer_instance
def dr (s : SS) (l n : Int) : Int := (if l < n then s.takes else s.gives) * (n - l)
def sFs (s : SS) : List (Str × V) := [("cap", .int s.cap), ("into", .int s.into), ("out", .int s.out), ("takes", .int s.takes), ("gives", .int s.gives)]
structure SomeAt (H : Hp) (a : Addr) (s : SS) : Prop where
  at_ : H a = some (.lst [.int s.cap, .int s.into, .int s.out, .int s.takes, .int s.gives])
structure StoreAt (C : Addr) (H : Hp) (x : Addr) (s : SS) : Prop where
  ex : ∃ dx, H x = some (.ins C dx (sFs s))
theorem SomeAt.same {H H' : Hp} {a : Addr} {s : SS} (h : SomeAt H a s) (e : Same H H') : SomeAt H' a s := ⟨e _ _ h.at_⟩
theorem StoreAt.same {C : Addr} {H H' : Hp} {a : Addr} {s : SS} (h : StoreAt C H a s) (e : Same H H') : StoreAt C H' a s := by
  obtain ⟨dx, q⟩ := h.ex
  exact ⟨dx, e _ _ q⟩
theorem SomeAt.tr {H H' : Hp} {a : Addr} {s : SS} (h : SomeAt H a s) (e : Tr H H') : SomeAt H' a s := ⟨e _ _ h.at_ (nh_len (by simp))⟩
theorem StoreAt.tr {C : Addr} {H H' : Hp} {a : Addr} {s : SS} (h : StoreAt C H a s) (e : Tr H H') : StoreAt C H' a s := by
  obtain ⟨dx, q⟩ := h.ex
  exact ⟨dx, e _ _ q (nh_ins (by simp [sFs]))⟩
def StA (H : Hp) (q : Addr) (t : Int × Int) : Prop := H q = some (.tup [.int t.1, .int t.2])
structure StsAt (H : Hp) (t : Addr) (ss : List (Int × Int)) : Prop where
  ex : ∃ qs, H t = some (.tup (qs.map V.ref)) ∧ RL (StA H) qs ss
abbrev Ps := List (Int × Int) × Int
structure PosAt (H : Hp) (a : Addr) (P : Ps) : Prop where
  ex : ∃ t, H a = some (.tup [.ref t, .int P.2]) ∧ StsAt H t P.1
structure Hr where
  ons : List Int
  outs : List Int
  lev : Int
structure HrAt (H : Hp) (a : Addr) (h : Hr) : Prop where
  ex : ∃ t u, H a = some (.tup [.ref t, .ref u, .int h.lev]) ∧ H t = some (.tup (h.ons.map V.int)) ∧ H u = some (.tup (h.outs.map V.int))
structure PlanAt (H : Hp) (a : Addr) (hs : List Hr) : Prop where
  ex : ∃ qs, H a = some (.lst (qs.map V.ref)) ∧ RL (HrAt H) qs hs
structure PossAt (H : Hp) (a : Addr) (hs : List Ps) : Prop where
  ex : ∃ qs, H a = some (.lst (qs.map V.ref)) ∧ RL (PosAt H) qs hs
theorem StsAt.tk {H H' : Hp} {t : Addr} {ss : List (Int × Int)} (h : StsAt H t ss) (s : Tk H H') : StsAt H' t ss := by
  obtain ⟨qs, h1, h2⟩ := h.ex
  exact ⟨qs, s _ _ h1, h2.imp fun a x z => s _ _ z⟩
theorem PosAt.tk {H H' : Hp} {a : Addr} {P : Ps} (h : PosAt H a P) (s : Tk H H') : PosAt H' a P := by
  obtain ⟨t, h1, h2⟩ := h.ex
  exact ⟨t, s _ _ h1, h2.tk s⟩
theorem HrAt.tk {H H' : Hp} {a : Addr} {h : Hr} (x : HrAt H a h) (s : Tk H H') : HrAt H' a h := by
  obtain ⟨t, u, h1, h2, h3⟩ := x.ex
  exact ⟨t, u, s _ _ h1, s _ _ h2, s _ _ h3⟩
theorem PlanAt.tr {H H' : Hp} {a : Addr} {hs : List Hr} (x : PlanAt H a hs) (s : Tr H H') : PlanAt H' a hs := by
  obtain ⟨qs, h1, h2⟩ := x.ex
  exact ⟨qs, s _ _ h1 nh_refs, h2.imp fun a x z => z.tk s.tk⟩
theorem PossAt.tr {H H' : Hp} {a : Addr} {hs : List Ps} (x : PossAt H a hs) (s : Tr H H') : PossAt H' a hs := by
  obtain ⟨qs, h1, h2⟩ := x.ex
  exact ⟨qs, s _ _ h1 nh_refs, h2.imp fun a x z => z.tk s.tk⟩
structure WS where
  specs : List MS
  store : Option SS
  lack : Int
  x : Int
  y : Int
  wide : Int
structure WS.Good (W : WS) : Prop where
  specs : ∀ m ∈ W.specs, m.Good
  len : W.specs.length ≤ 6
  store : ∀ s, W.store = some s → s.Good
  lack : Am W.lack
  x : 1 ≤ W.x ∧ W.x ≤ 50000000000
  y : 1 ≤ W.y ∧ W.y ≤ 50000000000
  wide : W.wide = 0 ∨ W.wide = 1
structure SpecsAt (H : Hp) (l : Addr) (ms : List MS) : Prop where
  ex : ∃ qs, H l = some (.lst (qs.map V.ref)) ∧ RL (SpecAt H) qs ms
structure MachsAt (C : Addr) (H : Hp) (l : Addr) (ms : List MS) : Prop where
  ex : ∃ qs, H l = some (.lst (qs.map V.ref)) ∧ RL (MachAt C H) qs ms
def StoS (H : Hp) (v : V) : Option SS → Prop
  | none => v = .non
  | some s => ∃ a, v = .ref a ∧ SomeAt H a s
def StoO (C : Addr) (H : Hp) (v : V) : Option SS → Prop
  | none => v = .non
  | some s => ∃ a, v = .ref a ∧ StoreAt C H a s
theorem SpecsAt.tr {H H' : Hp} {l : Addr} {ms : List MS} (h : SpecsAt H l ms) (s : Tr H H') : SpecsAt H' l ms := by
  obtain ⟨qs, h1, h2⟩ := h.ex
  exact ⟨qs, s _ _ h1 nh_refs, h2.imp fun a x z => z.tr s⟩
theorem MachsAt.tr {C : Addr} {H H' : Hp} {l : Addr} {ms : List MS} (h : MachsAt C H l ms) (s : Tr H H') : MachsAt C H' l ms := by
  obtain ⟨qs, h1, h2⟩ := h.ex
  exact ⟨qs, s _ _ h1 nh_refs, h2.imp fun a x z => z.tr s⟩
theorem StoS.tr {H H' : Hp} {v : V} : ∀ {o : Option SS}, StoS H v o → Tr H H' → StoS H' v o
  | none, h, _ => h
  | some s, ⟨a, e, h⟩, t => ⟨a, e, h.tr t⟩
theorem StoO.tr {C : Addr} {H H' : Hp} {v : V} : ∀ {o : Option SS}, StoO C H v o → Tr H H' → StoO C H' v o
  | none, h, _ => h
  | some s, ⟨a, e, h⟩, t => ⟨a, e, h.tr t⟩
structure WSpecAt (H : Hp) (a : Addr) (W : WS) : Prop where
  ex : ∃ ls st b, H a = some (.lst [.ref ls, st, .int W.lack, .ref b, .int W.wide]) ∧ SpecsAt H ls W.specs ∧ StoS H st W.store ∧ H b = some (.lst [.int W.x, .int W.y])
theorem WSpecAt.tr {H H' : Hp} {a : Addr} {W : WS} (h : WSpecAt H a W) (s : Tr H H') : WSpecAt H' a W := by
  obtain ⟨ls, st, b, h1, h2, h3, h4⟩ := h.ex
  exact ⟨ls, st, b, s _ _ h1 (nh_len (by simp)), h2.tr s, h3.tr s, s _ _ h4 (nh_len (by simp))⟩
def wFs (lm : Addr) (st : V) (k : Int) : List (Str × V) := [("machines", .ref lm), ("store", st), ("lack", .int k)]
structure WorksAt (CW CM CS : Addr) (H : Hp) (w : Addr) (W : WS) : Prop where
  ex : ∃ dx lm st, H w = some (.ins CW dx (wFs lm st W.lack)) ∧ MachsAt CM H lm W.specs ∧ StoO CS H st W.store
theorem WorksAt.tr {CW CM CS : Addr} {H H' : Hp} {w : Addr} {W : WS} (h : WorksAt CW CM CS H w W) (s : Tr H H') : WorksAt CW CM CS H' w W := by
  obtain ⟨dx, lm, st, h1, h2, h3⟩ := h.ex
  exact ⟨dx, lm, st, s _ _ h1 (nh_ins (by simp [wFs])), h2.tr s, h3.tr s⟩
def VS (s : Int × Int) : Prop := Bit s.1 ∧ 0 ≤ s.2
def aftL : List MS → List (Int × Int) → List Int → List (Int × Int)
  | m :: ms, s :: ss, o :: os => aft m s.1 s.2 o :: aftL ms ss os
  | _, _, _ => []
theorem aftL_len : ∀ {ms : List MS} {ss : List (Int × Int)} {os : List Int}, ss.length = ms.length → os.length = ms.length → (aftL ms ss os).length = ms.length
  | [], _, _, _, _ => by simp [aftL]
  | m :: ms, s :: ss, o :: os, h1, h2 => by
    show (aft m s.1 s.2 o :: aftL ms ss os).length = _
    rw [List.length_cons, aftL_len (by simpa using h1) (by simpa using h2), List.length_cons]
  | _ :: _, [], _, h, _ => by cases h
  | _ :: _, _ :: _, [], _, h => by cases h
theorem aftL_get : ∀ {ms : List MS} {ss : List (Int × Int)} {os : List Int} {j : Nat} {m : MS} {s : Int × Int} {o : Int}, ms[j]? = some m → ss[j]? = some s → os[j]? = some o → (aftL ms ss os)[j]? = some (aft m s.1 s.2 o)
  | m :: ms, s :: ss, o :: os, 0, _, _, _, h1, h2, h3 => by cases h1; cases h2; cases h3; rfl
  | m :: ms, s :: ss, o :: os, j + 1, _, _, _, h1, h2, h3 => by
    show (aftL ms ss os)[j]? = _
    exact aftL_get h1 h2 h3
  | [], _, _, _, _, _, _, h, _, _ => by simp at h
  | _ :: _, [], _, _, _, _, _, _, h, _ => by simp at h
  | _ :: _, _ :: _, [], _, _, _, _, _, _, h => by simp at h
def May (ss : List (Int × Int)) (os : List Int) : Prop := ∀ (j : Nat) (s : Int × Int) (o : Int), ss[j]? = some s → os[j]? = some o → s.1 = o ∨ s.2 = 0
def LevOk (W : WS) (l : Int) : Prop := match W.store with | none => l = 0 | some s => 0 ≤ l ∧ l ≤ s.cap
def LvW (W : WS) (l n : Int) : Prop := match W.store with | none => n = 0 | some s => Lv s l n
structure PosOk (W : WS) (P : Ps) : Prop where
  len : P.1.length = W.specs.length
  vs : ∀ s ∈ P.1, VS s
  lev : LevOk W P.2
def OutOk (m : MS) (on out : Int) : Prop := (on = 0 → out = 0) ∧ (on ≠ 0 → m.least ≤ out ∧ out ≤ m.least + sumA m.pieces)
structure HourOk (W : WS) (P : Ps) (h : Hr) : Prop where
  ons : h.ons.length = W.specs.length
  outs : h.outs.length = W.specs.length
  bits : ∀ o ∈ h.ons, Bit o
  may : May P.1 h.ons
  out : ∀ (j : Nat) m on out, W.specs[j]? = some m → h.ons[j]? = some on → h.outs[j]? = some out → OutOk m on out
  lev : LvW W P.2 h.lev
def nxt (W : WS) (P : Ps) (h : Hr) : Ps := (aftL W.specs P.1 h.ons, h.lev)
theorem LvW.ok {W : WS} {l n : Int} (h : LvW W l n) : LevOk W n := by
  unfold LvW at h
  unfold LevOk
  cases e : W.store with
  | none => rw [e] at h; exact h
  | some s => rw [e] at h; exact ⟨h.1, h.2.1⟩
theorem HourOk.nxt {W : WS} {P : Ps} {h : Hr} (g : W.Good) (p : PosOk W P) (x : HourOk W P h) : PosOk W (nxt W P h) := by
  refine ⟨aftL_len p.len x.ons, fun s hs => ?_, x.lev.ok⟩
  obtain ⟨j, hj⟩ := List.getElem?_of_mem hs
  have hl := aftL_len p.len x.ons
  have hj' : j < W.specs.length := by rw [← hl]; exact (List.getElem?_eq_some_iff.mp hj).1
  have g1 : W.specs[j]? = some W.specs[j] := List.getElem?_eq_getElem hj'
  have g2 : P.1[j]? = some (P.1[j]'(by rw [p.len]; exact hj')) := List.getElem?_eq_getElem _
  have g3 : h.ons[j]? = some (h.ons[j]'(by rw [x.ons]; exact hj')) := List.getElem?_eq_getElem _
  replace hj : (aftL W.specs P.1 h.ons)[j]? = some s := hj
  rw [aftL_get g1 g2 g3] at hj
  cases hj
  exact aft_ok (g.specs _ (List.getElem_mem hj')) (x.bits _ (List.mem_of_getElem? g3))
def PlanOk (W : WS) : Ps → List Hr → Prop
  | _, [] => True
  | P, h :: hs => HourOk W P h ∧ PlanOk W (nxt W P h) hs
def endP (W : WS) : Ps → List Hr → Ps
  | P, [] => P
  | P, h :: hs => endP W (nxt W P h) hs
theorem PlanOk.snoc {W : WS} : ∀ {P : Ps} {hs : List Hr} {h : Hr}, PlanOk W P hs → HourOk W (endP W P hs) h → PlanOk W P (hs ++ [h])
  | _, [], _, _, x => ⟨x, trivial⟩
  | P, g :: hs, h, p, x => ⟨p.1, PlanOk.snoc p.2 x⟩
theorem PlanOk.pos {W : WS} (g : W.Good) : ∀ {P : Ps} {hs : List Hr}, PosOk W P → PlanOk W P hs → PosOk W (endP W P hs)
  | _, [], p, _ => p
  | P, h :: hs, p, x => PlanOk.pos (P := nxt W P h) (hs := hs) g (x.1.nxt g p) x.2
theorem PlanOk.take {W : WS} : ∀ {P : Ps} {hs : List Hr} {i : Nat} {h : Hr}, PlanOk W P hs → hs[i]? = some h → PlanOk W P (hs.take i) ∧ HourOk W (endP W P (hs.take i)) h
  | P, g :: hs, 0, h, x, e => by cases e; exact ⟨trivial, x.1⟩
  | P, g :: hs, i + 1, h, x, e => by
    have := PlanOk.take (i := i) (h := h) x.2 e
    exact ⟨⟨x.1, this.1⟩, this.2⟩
  | _, [], _, _, _, e => by simp at e
theorem take_snoc {α : Type} {l : List α} {i : Nat} {x : α} (h : l[i]? = some x) : l.take (i + 1) = l.take i ++ [x] := by
  rw [List.take_add_one, h]; rfl
theorem RL.get {α : Type} {P : Addr → α → Prop} {as : List Addr} {xs : List α} (h : RL P as xs) {i : Nat} {v : V} (hv : (as.map V.ref)[i]? = some v) : ∃ a x, as[i]? = some a ∧ v = .ref a ∧ xs[i]? = some x ∧ P a x := by
  rw [List.getElem?_map] at hv
  cases hq : as[i]? with
  | none => rw [hq] at hv; cases hv
  | some a =>
    rw [hq] at hv
    cases hv
    have li : i < xs.length := by rw [← h.len]; exact (List.getElem?_eq_some_iff.mp hq).1
    have hx : xs[i]? = some xs[i] := List.getElem?_eq_getElem li
    exact ⟨a, xs[i], rfl, rfl, hx, h.at_ i a _ hq hx⟩
theorem RL.ix {α : Type} {P : Addr → α → Prop} {as : List Addr} {xs : List α} (h : RL P as xs) {i : Nat} (hi : i < xs.length) : ∃ a, as[i]? = some a ∧ P a xs[i] := by
  have li : i < as.length := by rw [h.len]; exact hi
  have ha : as[i]? = some as[i] := List.getElem?_eq_getElem li
  exact ⟨as[i], ha, h.at_ i _ _ ha (List.getElem?_eq_getElem hi)⟩
theorem int_get {ns : List Int} {i : Nat} {x : V} (h : (ns.map V.int)[i]? = some x) : ∃ n, ns[i]? = some n ∧ x = .int n := by
  rw [List.getElem?_map] at h
  cases hq : ns[i]? with
  | none => rw [hq] at h; cases h
  | some n => rw [hq] at h; cases h; exact ⟨n, rfl, rfl⟩
theorem keep_fresh {H H1 H2 : Hp} {p : Addr} (np : H p = none) (s : Same H H1) (k : Keep p H1 H2) : Same H H2 := fun b o e => k _ _ (s _ _ e) (ne_none np e)
theorem RL.last {α : Type} {P : Addr → α → Prop} {as : List Addr} {xs : List α} {x : α} (h : RL P as (xs ++ [x])) : ∃ bs b, as = bs ++ [b] ∧ P b x := by
  have hl := h.len
  rw [List.length_append, List.length_singleton] at hl
  have hlt : xs.length < as.length := by omega
  refine ⟨as.take xs.length, as[xs.length], ?_, h.at_ xs.length _ _ (List.getElem?_eq_getElem hlt) (by simp)⟩
  have e := List.take_append_drop xs.length as
  rw [List.drop_eq_getElem_cons hlt, List.drop_of_length_le (by omega)] at e
  exact e.symm
theorem RL.take {α : Type} {P : Addr → α → Prop} {as : List Addr} {xs : List α} (h : RL P as xs) (i : Nat) : RL P (as.take i) (xs.take i) := by
  refine ⟨by rw [List.length_take, List.length_take, h.len], fun j a x h1 h2 => ?_⟩
  rw [List.getElem?_take] at h1 h2
  split at h1
  · rename_i hj
    rw [if_pos hj] at h2
    exact h.at_ j a x h1 h2
  · cases h1
theorem RL.drop {α : Type} {P : Addr → α → Prop} {as : List Addr} {xs : List α} (h : RL P as xs) (i : Nat) : RL P (as.drop i) (xs.drop i) := by
  refine ⟨by rw [List.length_drop, List.length_drop, h.len], fun j a x h1 h2 => ?_⟩
  rw [List.getElem?_drop] at h1 h2
  exact h.at_ _ a x h1 h2
theorem StA.sm {H : Hp} {j : Nat} {p q : Addr} {t : Int × Int} (h1 : StA H p t) (h2 : StA H q t) : SmV H (j + 2) (.ref p) (.ref q) := SmV.pair h1 h2
theorem RL.smT {H : Hp} {α : Type} {P : Addr → α → Prop} {j : Nat} {p q : Addr} {as bs : List Addr} {xs : List α} (h1 : H p = some (.tup (as.map V.ref))) (h2 : H q = some (.tup (bs.map V.ref))) (r1 : RL P as xs) (r2 : RL P bs xs) (hl : xs.length ≤ 1000000) (f : ∀ a b x, P a x → P b x → SmV H j (.ref a) (.ref b)) : SmV H (j + 1) (.ref p) (.ref q) := by
  refine .inr (.inr (.inr (.inr ⟨p, q, _, _, rfl, rfl, .inl ⟨h1, h2⟩, by rw [List.length_map, List.length_map, r1.len, r2.len], by rw [List.length_map, r2.len]; exact hl, fun i u v hu hv => ?_⟩)))
  rw [List.getElem?_map] at hu hv
  cases ea : as[i]? with
  | none => rw [ea] at hu; cases hu
  | some a =>
    cases eb : bs[i]? with
    | none => rw [eb] at hv; cases hv
    | some b =>
      rw [ea] at hu
      rw [eb] at hv
      cases hu
      cases hv
      have li : i < xs.length := by rw [← r1.len]; exact (List.getElem?_eq_some_iff.mp ea).1
      exact f a b _ (r1.at_ i a _ ea (List.getElem?_eq_getElem li)) (r2.at_ i b _ eb (List.getElem?_eq_getElem li))
theorem PosAt.sm {H : Hp} {j : Nat} {p q : Addr} {P : Ps} (h1 : PosAt H p P) (h2 : PosAt H q P) (hl : P.1.length ≤ 1000000) : SmV H (j + 4) (.ref p) (.ref q) := by
  obtain ⟨t, a1, s1⟩ := h1.ex
  obtain ⟨u, a2, s2⟩ := h2.ex
  obtain ⟨qs, b1, r1⟩ := s1.ex
  obtain ⟨qs', b2, r2⟩ := s2.ex
  refine .inr (.inr (.inr (.inr ⟨p, q, _, _, rfl, rfl, .inl ⟨a1, a2⟩, rfl, by simp, fun i x y hx hy => ?_⟩)))
  match i, hx, hy with
  | 0, hx, hy => cases hx; cases hy; exact RL.smT b1 b2 r1 r2 hl fun a b x z1 z2 => StA.sm z1 z2
  | 1, hx, hy => cases hx; cases hy; exact SmV.int _
  | _ + 2, hx, _ => simp at hx
def sp__law_state (K : PySem.W.Frag) : Sp := fun vs H Q _ => ∃ (p s : Addr) (m : MS), vs = [.ref p, .ref s] ∧ HandAt H p ∧ SpecAt H s m ∧ m.Good ∧
  ∀ (t : Addr) (o d : Int) H', H' t = some (.tup [.int o, .int d]) → ((o = 1 ∧ 0 ≤ d ∧ d < m.up) ∨ (o = 0 ∧ 0 ≤ d ∧ d < 60)) → HandAt H' p → Keep p H H' → Q (.ref t) H'
set_option maxHeartbeats 40000000 in
theorem ok__law_state {P : Program} {w : World} {K : PySem.W.Frag} {mg : Str → Option Value} {base : Heap} {a : Adr} (tx : Txt K mg a) : FnOk P w K mg base CX0 2 a.f__law_state a.d__law_state ["_law_hand", "_law_spec_here"] (sp__law_state K) := by
  have G__law_draw := ok__law_draw (P := P) (w := w) (base := base) tx
  refine tx.F__law_state.ok sc__law_state (fun vs H Q E h => ?_) (fun cdv A outer s H vs Q E hr h => ?_)
  · obtain ⟨p, s, m, rfl, _⟩ := h
    rfl
  · obtain ⟨p, s, m, rfl , hh, hs, hg, k⟩ := h
    have hu := hu9 hr
    refine Z.root (Z.pss_cons (Z.ps_if (Z.pt_cmpR (r := rEqG K) (op_eqG hu) (Z.pe_callN (G__law_draw) (hr.mono (by decide)) (by rfl) tx.g__law_draw tx.F__law_draw.kp tx.b__law_draw .nil pass0 (Z.pa_c (Z.pv 0) (Z.pa_c Z.pe_int Z.pa_nil))) Z.pe_int (nomark _)) (Z.pss_one (Z.ps_ret (Z.tup2 Z.pe_int (Z.pe_callN (G__law_draw) (hr.mono (by decide)) (by rfl) tx.g__law_draw tx.F__law_draw.kp tx.b__law_draw .nil pass0 (Z.pa_c (Z.pv 0) (Z.pa_c (Z.pe_ixK (K' := K) (Z.pv 1) Z.pe_int (fun _ _ => rfl)) Z.pa_nil)))))) Z.pss_nil)
      (Z.pss_cons (Z.ps_if (Z.pt_cmpR (r := rEqG K) (op_eqG hu) (Z.pe_callN (G__law_draw) (hr.mono (by decide)) (by rfl) tx.g__law_draw tx.F__law_draw.kp tx.b__law_draw .nil pass0 (Z.pa_c (Z.pv 0) (Z.pa_c Z.pe_int Z.pa_nil))) Z.pe_int (nomark _)) (Z.pss_one (Z.ps_ret (Z.tup2 Z.pe_int (Z.pe_callN (G__law_draw) (hr.mono (by decide)) (by rfl) tx.g__law_draw tx.F__law_draw.kp tx.b__law_draw .nil pass0 (Z.pa_c (Z.pv 0) (Z.pa_c Z.pe_int Z.pa_nil)))))) Z.pss_nil)
      (Z.pss_one (Z.ps_ret (Z.tup2 Z.pe_int (Z.pe_callN (G__law_draw) (hr.mono (by decide)) (by rfl) tx.g__law_draw tx.F__law_draw.kp tx.b__law_draw .nil pass0 (Z.pa_c (Z.pv 0) (Z.pa_c (Z.pe_ixK (K' := K) (Z.pv 1) Z.pe_int (fun _ _ => rfl)) Z.pa_nil)))))))) ?_
    obtain ⟨u0, u1⟩ := hg.up
    obtain ⟨d0, d1⟩ := hg.down
    refine rd_start (σ := [some (.ref p), some (.ref s)]) rfl ?_
    walk_at "w"
    refine ⟨p, _, rfl, hh, by decide, by decide, fun r1 H1 a1 b1 h1 k1 _ => ?_⟩
    have hs1 := hs.keep hh k1
    obtain ⟨pl, e1, _⟩ := hs1.ex
    walk_at "w"
    refine rd_dec (fun h => ?_) (fun h => ?_)
    · walk_at "w"
      refine ⟨p, _, rfl, h1, by omega, by omega, fun r2 H2 a2 b2 h2 k2 _ => ?_⟩
      walk_at "w"
      intro T nT
      walk_at "w"
      exact k _ _ _ _ upd_same (.inl ⟨rfl, a2, b2⟩) (h2.same (Same.new nT)) (k1.trans (k2.trans (Same.new nT).keep))
    · walk_at "w"
      refine ⟨p, _, rfl, h1, by decide, by decide, fun r2 H2 a2 b2 h2 k2 _ => ?_⟩
      have hs2 := hs1.keep h1 k2
      obtain ⟨pl2, e2, _⟩ := hs2.ex
      walk_at "w"
      refine rd_dec (fun h => ?_) (fun h => ?_)
      · walk_at "w"
        refine ⟨p, _, rfl, h2, by decide, by decide, fun r3 H3 a3 b3 h3 k3 _ => ?_⟩
        walk_at "w"
        intro T nT
        walk_at "w"
        exact k _ _ _ _ upd_same (.inr ⟨rfl, a3, b3⟩) (h3.same (Same.new nT)) (k1.trans (k2.trans (k3.trans (Same.new nT).keep)))
      · walk_at "w"
        refine ⟨p, _, rfl, h2, by omega, by omega, fun r3 H3 a3 b3 h3 k3 _ => ?_⟩
        walk_at "w"
        intro T nT
        walk_at "w"
        exact k _ _ _ _ upd_same (.inr ⟨rfl, a3, by omega⟩) (h3.same (Same.new nT)) (k1.trans (k2.trans (k3.trans (Same.new nT).keep)))
def flt (m : MS) : Int → Int → List Int → Nat → V
  | _, _, [], _ => .non
  | o, d, on :: r, i => if o = on ∨ d = 0 then flt m (aft m o d on).1 (aft m o d on).2 r (i + 1) else .int i
theorem drop_at {ns : List Int} {i : Nat} {n : Int} (h : ns[i]? = some n) : ns.drop i = n :: ns.drop (i + 1) := by
  obtain ⟨hi, e⟩ := List.getElem?_eq_some_iff.mp h
  rw [List.drop_eq_getElem_cons hi, e]
def sp_run_fault (K : PySem.W.Frag) (C : Addr) : Sp := fun vs H Q _ => ∃ (q : Addr) (m : MS) (t : Addr) (o d : Int) (p : Addr) (ns : List Int), vs = [.ref q, .ref t, .ref p] ∧ MachAt C H q m ∧ H t = some (.tup [.int o, .int d]) ∧ H p = some (.lst (ns.map V.int)) ∧
  ∀ H', Same H H' → Q (flt m o d ns 0) H'
set_option maxHeartbeats 40000000 in
theorem ok_run_fault {P : Program} {w : World} {K : PySem.W.Frag} {mg : Str → Option Value} {base : Heap} {a : Adr} (tx : Txt K mg a) : FnOk P w K mg base CX0 3 a.f_run_fault a.d_run_fault ["machine", "state", "run"] (sp_run_fault K a.c_Machine) := by
  have G_may_be := ok_may_be (P := P) (w := w) (base := base) tx
  have G_state_after := ok_state_after (P := P) (w := w) (base := base) tx
  refine tx.F_run_fault.ok sc_run_fault (fun vs H Q E h => ?_) (fun cdv A outer s H vs Q E hr h => ?_)
  · obtain ⟨q, m, t, o, d, p, ns, rfl, _⟩ := h
    rfl
  · obtain ⟨q, m, t, o, d, p, ns, rfl , hm, ht, hp, k⟩ := h
    have hu := hu9 hr
    refine Z.root (Z.pss_cons (Z.ps_for PassesOwn.never rfl (Z.pi_enumK (K' := K) (by rfl) tx.z_enumerate (Z.pa_c (Z.pv 2) Z.pa_nil)) (Z.pg_tupK (K' := K) (n := 2) rfl (Z.pgs_cons (Z.pg_name (i := 3) sc_run_fault.nd rfl (Or.inl rfl)) (Z.pgs_cons (Z.pg_name (i := 4) sc_run_fault.nd rfl (Or.inl rfl)) Z.pgs_nil))) (Z.pss_cons (Z.ps_if (Z.pt_not (Z.pt_val (Z.pe_callN (G_may_be) (hr.mono (by decide)) (by rfl) tx.g_may_be tx.F_may_be.kp tx.b_may_be .nil pass0 (Z.pa_c (Z.pv 0) (Z.pa_c (Z.pv 1) (Z.pa_c (Z.pv 4) Z.pa_nil)))))) (Z.pss_one (Z.ps_ret (Z.pv 3))) Z.pss_nil)
      (Z.pss_one (Z.ps_set (i := 1) sc_run_fault.nd rfl (Or.inl rfl) (Z.pe_callN (G_state_after) (hr.mono (by decide)) (by rfl) tx.g_state_after tx.F_state_after.kp tx.b_state_after .nil pass0 (Z.pa_c (Z.pv 0) (Z.pa_c (Z.pv 1) (Z.pa_c (Z.pv 4) Z.pa_nil))))))))
      (Z.pss_one (Z.ps_ret Z.pe_non))) ?_
    refine rd_start (σ := [some (.ref q), some (.ref t), some (.ref p), none, none]) rfl ?_
    walk_at "w"
    refine rd_en (SqL.of hp) ?_
    refine rf_enum (xs := ns.map V.int) (fun i σ' H' => ∃ t' o' d' x3 x4, σ' = [some (.ref q), some (.ref t'), some (.ref p), x3, x4] ∧ H' t' = some (.tup [.int o', .int d']) ∧ Same H H' ∧ flt m o' d' (ns.drop i) i = flt m o d ns 0)
      ⟨t, o, d, _, _, rfl, ht, Same.refl _, rfl⟩ (fun i σ' H' hi ⟨t', o', d', x3, x4, e, h1, h2, h3⟩ => SqL.of (h2 _ _ hp)) (fun i x σ' H' T hx ⟨t', o', d', x3, x4, e, h1, h2, h3⟩ nT => ?_) (fun σ' H' ⟨t', o', d', x3, x4, e, h1, h2, h3⟩ => ?_)
    · subst e
      rw [List.getElem?_map] at hx
      obtain ⟨n, hn, rfl⟩ : ∃ n, ns[i]? = some n ∧ x = .int n := by
        cases hq : ns[i]? with
        | none => rw [hq] at hx; cases hx
        | some n => rw [hq] at hx; cases hx; exact ⟨n, rfl, rfl⟩
      rw [drop_at hn] at h3
      have sT := Same.new (o := .tup [.int (i : Int), .int n]) nT
      refine rd_gtup (SqT.of upd_same) rfl ?_
      walk_at "w"
      refine ⟨_, _, _, _, _, rfl, sT _ _ h1, ?_⟩
      walk_at "w"
      have h3' : (if o' = n ∨ d' = 0 then flt m (aft m o' d' n).1 (aft m o' d' n).2 (ns.drop (i + 1)) (i + 1) else .int i) = flt m o d ns 0 := h3
      by_cases hmay : o' = n ∨ d' = 0
      · rw [if_pos hmay] at h3'
        rw [show (decide (o' = n) || decide (d' = 0)) = true by rcases hmay with h | h <;> simp [h]]
        walk_at "w"
        refine ⟨q, m, t', o', d', n, rfl, hm.same (h2.trans sT), sT _ _ h1, hmay, fun T2 H2 s2 nT2 hT2 => ?_⟩
        walk_at "w"
        exact ⟨T2, _, _, _, _, rfl, hT2, (h2.trans sT).trans s2, h3'⟩
      · rw [if_neg hmay] at h3'
        rw [show (decide (o' = n) || decide (d' = 0)) = false by simp only [not_or] at hmay; simp [hmay.1, hmay.2]]
        walk_at "w"
        rw [← h3'] at k
        exact k _ (h2.trans sT)
    · subst e
      rw [List.length_map, List.drop_length] at h3
      walk_at "w"
      have h3' : V.non = flt m o d ns 0 := h3
      rw [h3']
      exact k _ h2
def bgs : Int → List Int → Nat → List Int
  | _, [], _ => []
  | o, on :: r, i => (if on = 1 ∧ o = 0 then [(i : Int)] else []) ++ bgs on r (i + 1)
def rcst (m : MS) (o : Int) (ns : List Int) : Int := m.begin_ * ((bgs o ns 0).length : Int) + m.run * (ns.count 1 : Nat) + m.rest * (ns.count 0 : Nat)
def sp_refuse_fault (K : PySem.W.Frag) (C : Addr) : Sp := fun vs H Q _ => ∃ (q : Addr) (m : MS) (t : Addr) (o d : Int) (p : Addr) (ns : List Int), vs = [.ref q, .ref t, .ref p] ∧ MachAt C H q m ∧ H t = some (.tup [.int o, .int d]) ∧ H p = some (.lst (ns.map V.int)) ∧
  flt m o d ns 0 = .non ∧ ∀ H', Same H H' → Q .non H'
set_option maxHeartbeats 40000000 in
theorem ok_refuse_fault {P : Program} {w : World} {K : PySem.W.Frag} {mg : Str → Option Value} {base : Heap} {a : Adr} (tx : Txt K mg a) : FnOk P w K mg base CX0 4 a.f_refuse_fault a.d_refuse_fault ["machine", "state", "run"] (sp_refuse_fault K a.c_Machine) := by
  have G_run_fault := ok_run_fault (P := P) (w := w) (base := base) tx
  refine tx.F_refuse_fault.ok sc_refuse_fault (fun vs H Q E h => ?_) (fun cdv A outer s H vs Q E hr h => ?_)
  · obtain ⟨q, m, t, o, d, p, ns, rfl, _⟩ := h
    rfl
  · obtain ⟨q, m, t, o, d, p, ns, rfl , hm, ht, hp, hf, k⟩ := h
    have hu := hu9 hr
    refine Z.root (Z.pss_cons (Z.ps_set (i := 3) sc_refuse_fault.nd rfl (Or.inl rfl) (Z.pe_callN (G_run_fault) (hr.mono (by decide)) (by rfl) tx.g_run_fault tx.F_run_fault.kp tx.b_run_fault .nil pass0 (Z.pa_c (Z.pv 0) (Z.pa_c (Z.pv 1) (Z.pa_c (Z.pv 2) Z.pa_nil)))))
      (Z.pss_one (Z.ps_if (Z.pt_cmpR op_isNotG (Z.pv 3) Z.pe_non (nomark _)) (Z.pss_one Z.ps_never) Z.pss_nil))) ?_
    refine rd_start (σ := [some (.ref q), some (.ref t), some (.ref p), none]) rfl ?_
    walk_at "w"
    refine ⟨q, m, t, o, d, p, ns, rfl, hm, ht, hp, fun H1 s1 => ?_⟩
    rw [hf]
    walk_at "w"
    exact k _ s1
def sp_run_begins (K : PySem.W.Frag) (C : Addr) : Sp := fun vs H Q _ => ∃ (q : Addr) (m : MS) (t : Addr) (o d : Int) (p : Addr) (ns : List Int), vs = [.ref q, .ref t, .ref p] ∧ MachAt C H q m ∧ H t = some (.tup [.int o, .int d]) ∧ H p = some (.lst (ns.map V.int)) ∧ ns.length ≤ 48 ∧
  flt m o d ns 0 = .non ∧ ∀ c H', Same H H' → H c = none → H' c = some (.lst ((bgs o ns 0).map V.int)) → Q (.ref c) H'
set_option maxHeartbeats 40000000 in
theorem ok_run_begins {P : Program} {w : World} {K : PySem.W.Frag} {mg : Str → Option Value} {base : Heap} {a : Adr} (tx : Txt K mg a) : FnOk P w K mg base CX0 5 a.f_run_begins a.d_run_begins ["machine", "state", "run"] (sp_run_begins K a.c_Machine) := by
  have G_refuse_fault := ok_refuse_fault (P := P) (w := w) (base := base) tx
  refine tx.F_run_begins.ok sc_run_begins (fun vs H Q E h => ?_) (fun cdv A outer s H vs Q E hr h => ?_)
  · obtain ⟨q, m, t, o, d, p, ns, rfl, _⟩ := h
    rfl
  · obtain ⟨q, m, t, o, d, p, ns, rfl , hm, ht, hp, hl, hn, k1⟩ := h
    have hu := hu9 hr
    refine Z.root (Z.pss_cons (Z.ps_expr (Z.pe_callN (G_refuse_fault) (hr.mono (by decide)) (by rfl) tx.g_refuse_fault tx.F_refuse_fault.kp tx.b_refuse_fault .nil pass0 (Z.pa_c (Z.pv 0) (Z.pa_c (Z.pv 1) (Z.pa_c (Z.pv 2) Z.pa_nil)))))
      (Z.pss_cons (Z.ps_set (i := 3) sc_run_begins.nd rfl (Or.inl rfl) (Z.pe_lst Z.pa_nil))
      (Z.pss_cons (Z.ps_set (i := 4) sc_run_begins.nd rfl (Or.inl rfl) (Z.pe_ixK (K' := K) (Z.pv 1) Z.pe_int (fun _ _ => rfl)))
      (Z.pss_cons (Z.ps_for PassesOwn.never rfl (Z.pi_enumK (K' := K) (by rfl) tx.z_enumerate (Z.pa_c (Z.pv 2) Z.pa_nil)) (Z.pg_tupK (K' := K) (n := 2) rfl (Z.pgs_cons (Z.pg_name (i := 5) sc_run_begins.nd rfl (Or.inl rfl)) (Z.pgs_cons (Z.pg_name (i := 6) sc_run_begins.nd rfl (Or.inl rfl)) Z.pgs_nil))) (Z.pss_cons (Z.ps_if (Z.pw_pt (Z.pw_and (Z.pt_cmpR (r := rEqG K) (op_eqG hu) (Z.pv 6) Z.pe_int (nomark _)) (Z.pw_and1 (Z.pt_cmpR (r := rEqG K) (op_eqG hu) (Z.pv 4) Z.pe_int (nomark _))))) (Z.pss_one (Z.ps_expr (Z.pe_appK (K' := K) (Z.pv 3) (Z.pa_c (Z.pv 5) Z.pa_nil)))) Z.pss_nil)
      (Z.pss_one (Z.ps_set (i := 4) sc_run_begins.nd rfl (Or.inl rfl) (Z.pv 6)))))
      (Z.pss_one (Z.ps_ret (Z.pv 3))))))) ?_
    refine rd_start (σ := [some (.ref q), some (.ref t), some (.ref p), none, none, none, none]) rfl ?_
    walk_at "w"
    refine ⟨q, m, t, o, d, p, ns, rfl, hm, ht, hp, hn, fun H1 s1 => ?_⟩
    walk_at "w"
    intro c nc
    obtain ⟨H2, i2, s2, g2⟩ := nw _ nc; rw [i2]
    have ht2 := (s1.trans s2) _ _ ht
    have hp2 := (s1.trans s2) _ _ hp
    have cp : c ≠ p := fun z => by rw [z] at nc; exact ne_none nc (s1 _ _ hp) rfl
    walk_at "w"
    refine rd_en (SqL.of hp2) ?_
    refine rf_enum (xs := ns.map V.int) (fun i σ' H' => ∃ (a' : Int) (bs : List Int) (x5 x6 : Option V), σ' = [some (.ref q), some (.ref t), some (.ref p), some (.ref c), some (.int a'), x5, x6] ∧ H' c = some (.lst (bs.map V.int)) ∧ bs.length ≤ i ∧ bs ++ bgs a' (ns.drop i) i = bgs o ns 0 ∧ Same H1 H')
      ⟨o, [], _, _, rfl, g2, Nat.le_refl _, rfl, s2⟩ (fun i σ' H' hi ⟨a', bs, x5, x6, e, g, lb, eb, s'⟩ => SqL.of (s' _ _ (s1 _ _ hp))) (fun i x σ' H' T hx ⟨a', bs, x5, x6, e, g, lb, eb, s'⟩ nT => ?_) (fun σ' H' ⟨a', bs, x5, x6, e, g, lb, eb, s'⟩ => ?_)
    · subst e
      rw [List.getElem?_map] at hx
      obtain ⟨n, hn', rfl⟩ := Option.map_eq_some_iff.mp hx
      have hi : i < ns.length := (List.getElem?_eq_some_iff.mp hn').1
      rw [drop_at hn'] at eb
      obtain ⟨H3, i3, s3, g3⟩ := nw (.tup [.int (i : Int), .int n]) nT; rw [i3]
      refine rd_gtup (SqT.of g3) rfl ?_
      have g' := s3 _ _ g
      have eb' : bs ++ ((if n = 1 ∧ a' = 0 then [(i : Int)] else []) ++ bgs n (ns.drop (i + 1)) (i + 1)) = bgs o ns 0 := eb
      walk_at "w"
      refine rd_dec (fun h1 => ?_) (fun h1 => ?_)
      · walk_at "w"
        refine rd_dec (fun h2 => ?_) (fun h2 => ?_)
        · rw [if_pos ⟨h1, h2⟩, ← List.append_assoc] at eb'
          walk_at "w"
          refine rd_tyL (SqL.of g') ?_
          walk_at "w"
          refine rd_app (xs := bs.map V.int) g' (Nat.lt_of_lt_of_le (by rw [List.length_map]; omega : (bs.map V.int).length < 1000) (sz_le (by simp))) ?_
          obtain ⟨H4, i4, k4, g4⟩ := wr H3 c (.lst (bs.map V.int ++ [.int (i : Int)])); rw [i4]
          walk_at "w"
          exact ⟨n, bs ++ [(i : Int)], _, _, rfl, by rw [g4, List.map_append]; rfl, by rw [List.length_append]; simp; exact lb, eb', fun b o e => k4 _ _ (s3 _ _ (s' _ _ e)) (ne_none nc e)⟩
        · rw [if_neg (fun z => h2 z.2), List.nil_append] at eb'
          walk_at "w"
          exact ⟨n, bs, _, _, rfl, g', by omega, eb', s'.trans s3⟩
      · rw [if_neg (fun z => h1 z.1), List.nil_append] at eb'
        walk_at "w"
        exact ⟨n, bs, _, _, rfl, g', by omega, eb', s'.trans s3⟩
    · subst e
      rw [List.length_map, List.drop_length] at eb
      rw [show bs ++ bgs a' [] ns.length = bs from List.append_nil bs] at eb
      walk_at "w"
      exact k1 c _ (s1.trans s') (s1.free nc) (by rw [← eb]; exact g)
def sp_run_cost (K : PySem.W.Frag) (C : Addr) : Sp := fun vs H Q _ => ∃ (q : Addr) (m : MS) (t : Addr) (o d : Int) (p : Addr) (ns : List Int), vs = [.ref q, .ref t, .ref p] ∧ MachAt C H q m ∧ m.Good ∧ H t = some (.tup [.int o, .int d]) ∧ H p = some (.lst (ns.map V.int)) ∧ ns.length ≤ 48 ∧
  flt m o d ns 0 = .non ∧ ∀ H', Same H H' → Q (.int (rcst m o ns)) H'
set_option maxHeartbeats 40000000 in
theorem ok_run_cost {P : Program} {w : World} {K : PySem.W.Frag} {mg : Str → Option Value} {base : Heap} {a : Adr} (tx : Txt K mg a) : FnOk P w K mg base CX0 6 a.f_run_cost a.d_run_cost ["machine", "state", "run"] (sp_run_cost K a.c_Machine) := by
  have G_run_begins := ok_run_begins (P := P) (w := w) (base := base) tx
  refine tx.F_run_cost.ok sc_run_cost (fun vs H Q E h => ?_) (fun cdv A outer s H vs Q E hr h => ?_)
  · obtain ⟨q, m, t, o, d, p, ns, rfl, _⟩ := h
    rfl
  · obtain ⟨q, m, t, o, d, p, ns, rfl , hm, hg, ht, hp, hl, hn, k1⟩ := h
    have hu := hu9 hr
    refine Z.root (Z.pss_cons (Z.ps_set (i := 3) sc_run_cost.nd rfl (Or.inl rfl) (Z.pe_callBN (rc := rLen K) call_lenG (by rfl) tx.z_len bt_len (Z.pa_c (Z.pe_callN (G_run_begins) (hr.mono (by decide)) (by rfl) tx.g_run_begins tx.F_run_begins.kp tx.b_run_begins .nil pass0 (Z.pa_c (Z.pv 0) (Z.pa_c (Z.pv 1) (Z.pa_c (Z.pv 2) Z.pa_nil)))) Z.pa_nil)))
      (Z.pss_one (Z.ps_ret (Z.pe_op op_addG (Z.pe_op op_addG (Z.pe_op op_mulG (Z.pe_fldK (K' := K) (Z.pv 0) rfl) (Z.pv 3)) (Z.pe_op op_mulG (Z.pe_fldK (K' := K) (Z.pv 0) rfl) (Z.pe_countK (K' := K) (Z.pv 2) (Z.pa_c Z.pe_int Z.pa_nil)))) (Z.pe_op op_mulG (Z.pe_fldK (K' := K) (Z.pv 0) rfl) (Z.pe_countK (K' := K) (Z.pv 2) (Z.pa_c Z.pe_int Z.pa_nil))))))) ?_
    obtain ⟨b0, b1⟩ := hg.begin_
    obtain ⟨u0, u1⟩ := hg.run
    obtain ⟨r0, r1⟩ := hg.rest
    refine rd_start (σ := [some (.ref q), some (.ref t), some (.ref p), none]) rfl ?_
    walk_at "w"
    refine ⟨q, m, t, o, d, p, ns, rfl, hm, ht, hp, hl, hn, fun c H1 s1 nc gc => ?_⟩
    obtain ⟨dx, pl, hq, _⟩ := (hm.same s1).ex
    have hp1 := s1 _ _ hp
    walk_at "w"
    refine rd_get hq tx.C_Machine tx.n_Machine_begin rfl ?_
    walk_at "w"
    refine rd_get hq tx.C_Machine tx.n_Machine_run rfl ?_
    walk_at "w"
    refine rd_tyL (SqL.of hp1) ?_
    walk_at "w"
    refine rd_count (SqL.of hp1) ?_
    walk_at "w"
    refine rd_get hq tx.C_Machine tx.n_Machine_rest rfl ?_
    walk_at "w"
    refine rd_tyL (SqL.of hp1) ?_
    walk_at "w"
    refine rd_count (SqL.of hp1) ?_
    walk_at "w"
    rw [List.length_map]
    exact k1 _ s1
def Ok (m : MS) : Int → Int → List Int → Prop
  | _, _, [] => True
  | o, d, on :: r => (o = on ∨ d = 0) ∧ Ok m (aft m o d on).1 (aft m o d on).2 r
def ed (m : MS) : Int → Int → List Int → Int × Int
  | o, d, [] => (o, d)
  | o, d, on :: r => ed m (aft m o d on).1 (aft m o d on).2 r
theorem flt_ok {m : MS} : ∀ {ns : List Int} {o d : Int} {i : Nat}, flt m o d ns i = .non ↔ Ok m o d ns
  | [], _, _, _ => ⟨fun _ => trivial, fun _ => rfl⟩
  | on :: r, o, d, i => by
    show (if o = on ∨ d = 0 then flt m (aft m o d on).1 (aft m o d on).2 r (i + 1) else .int i) = .non ↔ (o = on ∨ d = 0) ∧ Ok m (aft m o d on).1 (aft m o d on).2 r
    by_cases c : o = on ∨ d = 0
    · rw [if_pos c, flt_ok]
      exact ⟨fun h => ⟨c, h⟩, fun h => h.2⟩
    · rw [if_neg c]
      exact ⟨fun h => by (cases h), fun h => absurd h.1 c⟩
def St0 (o d : Int) : Prop := Bit o ∧ 0 ≤ d ∧ d < 60
theorem St0.aft {m : MS} (g : m.Good) {o d on : Int} (h : St0 o d) (b : Bit on) : St0 (aft m o d on).1 (aft m o d on).2 := by
  obtain ⟨h0, h1, h2⟩ := h
  refine ⟨(aft_ok g b).1, (aft_ok g b).2, ?_⟩
  have u := g.up
  have v := g.down
  unfold My.aft
  split
  · show max (d - 1) 0 < 60; omega
  · split
    · show m.up - 1 < 60; omega
    · show m.down - 1 < 60; omega
def tP (m : MS) (on : Int) (f : Int → Int → Int) (o d : Int) : Int := if o = on ∨ d = 0 then f (aft m o d on).1 (aft m o d on).2 else 0
def tB (m : MS) (f : Int → Int → Int) (o d : Int) : Int := tP m 0 f o d + tP m 1 f o d
def one (_ _ : Int) : Int := 1
abbrev WP := (Int × Int) × Int
def encK (k : Int × Int) : List Key := [.inl k.1, .inl k.2]
def enc (ps : List WP) : List (List Key × V) := ps.map fun p => (encK p.1, V.int p.2)
theorem encK_inj {a b : Int × Int} (h : encK a = encK b) : a = b := by
  unfold encK at h
  simp only [List.cons.injEq, Sum.inl.injEq, and_true] at h
  exact Prod.ext h.1 h.2
def getW (ps : List WP) (k : Int × Int) : Option Int := (ps.find? fun p => decide (p.1 = k)).map (·.2)
def addW (ps : List WP) (k : Int × Int) (v : Int) : List WP := if ps.any (fun p => decide (p.1 = k)) then ps.map (fun p => if p.1 = k then (p.1, v) else p) else ps ++ [(k, v)]
theorem enc_get (ps : List WP) (k : Int × Int) : valV (enc ps) (encK k) = (getW ps k).map V.int := by
  unfold valV getW enc
  induction ps with
  | nil => rfl
  | cons p r ih =>
    by_cases h : p.1 = k
    · simp [h]
    · have : encK p.1 ≠ encK k := fun z => h (encK_inj z)
      simp only [List.map_cons, List.find?_cons, this, h, decide_false]
      exact ih
theorem enc_put (ps : List WP) (k : Int × Int) (v : Int) : putK (enc ps) (encK k) (.int v) = enc (addW ps k v) := by
  unfold putK addW enc
  have e : ((ps.map fun p : WP => (encK p.1, V.int p.2)).any fun kv => decide (kv.1 = encK k)) = ps.any fun p => decide (p.1 = k) := by
    rw [List.any_map]
    congr 1
    funext p
    show decide (encK p.1 = encK k) = decide (p.1 = k)
    exact decide_eq_decide.mpr ⟨encK_inj, fun z => by rw [z]⟩
  rw [e]
  split
  · rw [List.map_map, List.map_map]
    congr 1
    funext p
    show (if encK p.1 = encK k then (encK p.1, V.int v) else (encK p.1, V.int p.2)) = (encK (if p.1 = k then (p.1, v) else p).1, V.int (if p.1 = k then (p.1, v) else p).2)
    by_cases h : p.1 = k
    · rw [if_pos h, if_pos (by rw [h])]
    · rw [if_neg h, if_neg fun z => h (encK_inj z)]
  · rw [List.map_append]
    rfl
def wsum (f : Int → Int → Int) (ps : List WP) : Int := List.sum (ps.map fun p => p.2 * f p.1.1 p.1.2)
theorem wsum_cons (f : Int → Int → Int) (p : WP) (ps : List WP) : wsum f (p :: ps) = p.2 * f p.1.1 p.1.2 + wsum f ps := rfl
theorem wsum_app (f : Int → Int → Int) (ps qs : List WP) : wsum f (ps ++ qs) = wsum f ps + wsum f qs := by
  unfold wsum
  rw [List.map_append, List.sum_append]
theorem addW_ok {ps : List WP} {k : Int × Int} {c : Int} (nd : (ps.map (·.1)).Nodup) : ((addW ps k ((getW ps k).getD 0 + c)).map (·.1)).Nodup ∧ (∀ p ∈ addW ps k ((getW ps k).getD 0 + c), p.1 = k ∨ ∃ q ∈ ps, q.1 = p.1) ∧ ∀ f, wsum f (addW ps k ((getW ps k).getD 0 + c)) = wsum f ps + c * f k.1 k.2 := by
  unfold addW
  by_cases h : ps.any (fun p => decide (p.1 = k)) = true
  · rw [if_pos h]
    refine ⟨?_, fun p hp => ?_, fun f => ?_⟩
    · rw [List.map_map]
      have e : ((fun p : WP => p.1) ∘ fun p : WP => if p.1 = k then (p.1, (getW ps k).getD 0 + c) else p) = fun p => p.1 := by
        funext p
        show (if p.1 = k then (p.1, (getW ps k).getD 0 + c) else p).1 = p.1
        split <;> rfl
      rw [e]
      exact nd
    · obtain ⟨q, hq, rfl⟩ := List.mem_map.mp hp
      refine .inr ⟨q, hq, ?_⟩
      split <;> rfl
    · have key : ∀ (qs : List WP), (qs.map (·.1)).Nodup → qs.any (fun p => decide (p.1 = k)) = true → ∀ v, (getW qs k).getD 0 + c = v → wsum f (qs.map fun p => if p.1 = k then (p.1, v) else p) = wsum f qs + c * f k.1 k.2 := by
        intro qs
        induction qs with
        | nil => intro _ z; cases z
        | cons p r ih =>
          intro nd h v hv
          rw [List.map_cons, List.nodup_cons] at nd
          rw [List.map_cons, wsum_cons, wsum_cons]
          by_cases hp : p.1 = k
          · have hn : ∀ q ∈ r, ¬ q.1 = k := fun q hq z => nd.1 (List.mem_map.mpr ⟨q, hq, by rw [z, hp]⟩)
            have e1 : (r.map fun p => if p.1 = k then (p.1, v) else p) = r := by
              conv => rhs; rw [← List.map_id r]
              exact List.map_congr_left fun q hq => if_neg (hn q hq)
            have e2 : getW (p :: r) k = some p.2 := by unfold getW; simp [hp]
            rw [e2] at hv
            rw [e1, if_pos hp, ← hv, hp]
            show (p.2 + c) * f k.1 k.2 + wsum f r = _
            rw [Int.add_mul]
            omega
          · have h' : r.any (fun p => decide (p.1 = k)) = true := by simpa [hp] using h
            have e2 : getW (p :: r) k = getW r k := by unfold getW; simp [hp]
            rw [e2] at hv
            rw [if_neg hp, ih nd.2 h' v hv]
            omega
      exact key ps nd h _ rfl
  · have hn : getW ps k = none := by
      unfold getW
      rw [Option.map_eq_none_iff, List.find?_eq_none]
      intro p hp z
      exact h (List.any_eq_true.mpr ⟨p, hp, z⟩)
    rw [if_neg h, hn]
    refine ⟨?_, fun p hp => ?_, fun f => ?_⟩
    · rw [List.map_append, List.nodup_append]
      refine ⟨nd, by simp, fun a ha b hb => ?_⟩
      rw [List.map_cons, List.map_nil, List.mem_singleton] at hb
      rintro rfl
      obtain ⟨q, hq, e⟩ := List.mem_map.mp ha
      exact h (List.any_eq_true.mpr ⟨q, hq, by simpa using e.trans hb⟩)
    · rcases List.mem_append.mp hp with z | z
      · exact .inr ⟨p, z, rfl⟩
      · rw [List.mem_singleton.mp z]; exact .inl rfl
    · rw [wsum_app]
      show _ + ((0 + c) * f k.1 k.2 + 0) = _
      rw [Int.zero_add, Int.add_zero]
theorem nd_le : ∀ (n : Nat) (l : List Nat), l.Nodup → (∀ x ∈ l, x < n) → l.length ≤ n
  | 0, l, _, h => by
    cases l with
    | nil => exact Nat.le_refl _
    | cons x r => exact absurd (h x (.head _)) (by omega)
  | n + 1, l, nd, h => by
    have := nd_le n (l.erase n) (nd.erase n) (fun x hx => by
      have h1 := (nd.mem_erase_iff.mp hx)
      have := h x h1.2
      have := h1.1
      omega)
    rw [List.length_erase] at this
    split at this <;> omega
structure Ways (ps : List WP) : Prop where
  nd : (ps.map (·.1)).Nodup
  st : ∀ p ∈ ps, St0 p.1.1 p.1.2
theorem Ways.len {ps : List WP} (h : Ways ps) : ps.length ≤ 120 := by
  have := nd_le 120 ((ps.map (·.1)).map fun k => (k.1 * 60 + k.2).toNat) (by
    rw [List.Nodup, List.pairwise_map]
    refine h.nd.imp_of_mem ?_
    intro a b ha hb hab z
    obtain ⟨p, hp, rfl⟩ := List.mem_map.mp ha
    obtain ⟨q, hq, rfl⟩ := List.mem_map.mp hb
    obtain ⟨a1, a2, a3⟩ := h.st p hp
    obtain ⟨b1, b2, b3⟩ := h.st q hq
    refine hab (Prod.ext ?_ ?_)
    · rcases a1 with a1 | a1 <;> rcases b1 with b1 | b1 <;> rw [a1, b1] <;> rw [a1, b1] at z <;> omega
    · rcases a1 with a1 | a1 <;> rcases b1 with b1 | b1 <;> rw [a1, b1] at z <;> omega) (fun x hx => by
    obtain ⟨k, hk, rfl⟩ := List.mem_map.mp hx
    obtain ⟨p, hp, rfl⟩ := List.mem_map.mp hk
    obtain ⟨a1, a2, a3⟩ := h.st p hp
    rcases a1 with a1 | a1 <;> rw [a1] <;> omega)
  simpa using this
theorem Ways.add {ps : List WP} (h : Ways ps) {k : Int × Int} (hk : St0 k.1 k.2) (c : Int) : Ways (addW ps k ((getW ps k).getD 0 + c)) := by
  obtain ⟨h1, h2, _⟩ := addW_ok (k := k) (c := c) h.nd
  refine ⟨h1, fun p hp => ?_⟩
  rcases h2 p hp with z | ⟨q, hq, z⟩
  · rw [z]; exact hk
  · rw [← z]; exact h.st q hq
theorem aft_fst {m : MS} {o d n : Int} (nb : Bit n) : (aft m o d n).1 = n := by
  unfold My.aft
  split
  · rfl
  · split
    · rename_i h; exact h.symm
    · rename_i h
      rcases nb with h' | h'
      · exact h'.symm
      · exact absurd h' h
theorem bgs_app {m : MS} {ys : List Int} : ∀ {xs : List Int} {o d : Int} {i : Nat}, (∀ n ∈ xs, Bit n) → bgs o (xs ++ ys) i = bgs o xs i ++ bgs (ed m o d xs).1 ys (i + xs.length)
  | [], _, _, _, _ => rfl
  | x :: xs, o, d, i, h => by
    have ih := bgs_app (m := m) (ys := ys) (xs := xs) (o := x) (d := (aft m o d x).2) (i := i + 1) fun n hn => h n (List.mem_cons_of_mem _ hn)
    have e : (aft m o d x).1 = x := aft_fst (h x (.head _))
    show (if x = 1 ∧ o = 0 then [(i : Int)] else []) ++ bgs x (xs ++ ys) (i + 1) = ((if x = 1 ∧ o = 0 then [(i : Int)] else []) ++ bgs x xs (i + 1)) ++ bgs (ed m (aft m o d x).1 (aft m o d x).2 xs).1 ys (i + (xs.length + 1))
    rw [ih, e, List.append_assoc, show i + 1 + xs.length = i + (xs.length + 1) by omega]
theorem bgs_shift (k : Nat) : ∀ {ys : List Int} {o : Int} {i : Nat}, bgs o ys (i + k) = (bgs o ys i).map fun h => (k : Int) + h
  | [], _, _ => rfl
  | y :: ys, o, i => by
    show (if y = 1 ∧ o = 0 then [((i + k : Nat) : Int)] else []) ++ bgs y ys (i + k + 1) = ((if y = 1 ∧ o = 0 then [(i : Int)] else []) ++ bgs y ys (i + 1)).map _
    rw [List.map_append, show i + k + 1 = i + 1 + k by omega, bgs_shift k]
    congr 1
    split
    · rw [List.map_cons, List.map_nil, show ((i + k : Nat) : Int) = (k : Int) + i by omega]
    · rfl
theorem rcst_app {m : MS} {xs ys : List Int} {o d : Int} (h : ∀ n ∈ xs, Bit n) : rcst m o (xs ++ ys) = rcst m o xs + rcst m (ed m o d xs).1 ys := by
  unfold rcst
  rw [bgs_app (m := m) (d := d) h, List.length_append, List.count_append, List.count_append, show (0 : Nat) + xs.length = 0 + xs.length from rfl, bgs_shift xs.length (i := 0), List.length_map]
  rw [Int.natCast_add, Int.natCast_add, Int.natCast_add, Int.mul_add, Int.mul_add, Int.mul_add]
  omega
section
variable {α : Type}
abbrev Wy (α : Type) := Int × α × Int
def leastW (f : α → Int) : List (Wy α) → Int
  | [] => 0
  | [w] => w.2.2 + f w.2.1
  | w :: v :: r => min (w.2.2 + f w.2.1) (leastW f (v :: r))
theorem leastW_le (f : α → Int) : ∀ {ws : List (Wy α)} {w : Wy α}, w ∈ ws → leastW f ws ≤ w.2.2 + f w.2.1
  | [], _, h => by cases h
  | [w], v, h => by rw [List.mem_singleton.mp h]; exact Int.le_refl _
  | w :: v :: r, u, h => by
    show min _ _ ≤ _
    rcases List.mem_cons.mp h with rfl | h
    · omega
    · have := leastW_le f h; omega
theorem leastW_mem (f : α → Int) : ∀ {ws : List (Wy α)}, ws ≠ [] → ∃ w ∈ ws, w.2.2 + f w.2.1 = leastW f ws
  | [], h => absurd rfl h
  | [w], _ => ⟨w, .head _, rfl⟩
  | w :: v :: r, _ => by
    obtain ⟨u, hu, e⟩ := leastW_mem f (ws := v :: r) (by simp)
    by_cases h : w.2.2 + f w.2.1 ≤ leastW f (v :: r)
    · exact ⟨w, .head _, by show _ = min _ _; omega⟩
    · exact ⟨u, List.mem_cons_of_mem _ hu, by show _ = min _ _; omega⟩
theorem leastW_eq {f : α → Int} {ws : List (Wy α)} {m : Int} (h1 : ∃ w ∈ ws, w.2.2 + f w.2.1 = m) (h2 : ∀ w ∈ ws, m ≤ w.2.2 + f w.2.1) : m = leastW f ws := by
  obtain ⟨w, hw, e⟩ := h1
  have a := leastW_le f hw
  obtain ⟨u, hu, e2⟩ := leastW_mem f (ws := ws) (fun z => by rw [z] at hw; cases hw)
  have b := h2 u hu
  omega
def wF (W : Nat → α → List (Wy α)) : Nat → Nat → α → Int
  | 0, _, _ => 0
  | k + 1, i, x => leastW (wF W k (i + 1)) (W i x)
def firstW (f : α → Int) (ws : List (Wy α)) : Option (Wy α) := ws.find? fun w => decide (w.2.2 + f w.2.1 = leastW f ws)
theorem firstW_some (f : α → Int) {ws : List (Wy α)} (h : ws ≠ []) : ∃ w, firstW f ws = some w ∧ w ∈ ws ∧ w.2.2 + f w.2.1 = leastW f ws := by
  obtain ⟨u, hu, e⟩ := leastW_mem f h
  cases q : firstW f ws with
  | none =>
    unfold firstW at q
    rw [List.find?_eq_none] at q
    exact absurd (decide_eq_true e) (q u hu)
  | some w =>
    unfold firstW at q
    exact ⟨w, rfl, List.mem_of_find?_eq_some q, of_decide_eq_true (List.find?_some (p := fun w : Wy α => decide (w.2.2 + f w.2.1 = leastW f ws)) q)⟩
def rowF (W : Nat → α → List (Wy α)) : Nat → Nat → α → List Int
  | 0, _, _ => []
  | k + 1, i, x => match firstW (wF W k (i + 1)) (W i x) with
    | none => []
    | some w => w.1 :: rowF W k (i + 1) w.2.1
def rowW (W : Nat → α → List (Wy α)) : Nat → α → List Int → Option Int
  | _, _, [] => some 0
  | i, x, c :: r => match (W i x).find? fun w => decide (w.1 = c) with
    | none => none
    | some w => (rowW W (i + 1) w.2.1 r).map (w.2.2 + ·)
structure Lay (W : Nat → α → List (Wy α)) (n : Nat) (L : Nat → α → Prop) : Prop where
  ne : ∀ i x, i < n → L i x → W i x ≠ []
  on : ∀ i x w, i < n → L i x → w ∈ W i x → L (i + 1) w.2.1
def Rise (ws : List (Wy α)) : Prop := ws.Pairwise fun a b => a.1 < b.1
theorem rise_find {ws : List (Wy α)} (h : Rise ws) {w : Wy α} (hw : w ∈ ws) : (ws.find? fun v => decide (v.1 = w.1)) = some w := by
  induction ws with
  | nil => cases hw
  | cons a r ih =>
    obtain ⟨h1, h2⟩ := List.pairwise_cons.mp h
    rw [List.find?_cons]
    rcases List.mem_cons.mp hw with rfl | hw
    · simp
    · have := h1 w hw
      rw [decide_eq_false (by omega)]
      exact ih h2 hw
theorem rowF_ok {W : Nat → α → List (Wy α)} {n : Nat} {L : Nat → α → Prop} (hl : Lay W n L) (hr : ∀ i x, Rise (W i x)) : ∀ (k i : Nat) (x : α), i + k ≤ n → L i x → rowW W i x (rowF W k i x) = some (wF W k i x) ∧ (rowF W k i x).length = k
  | 0, _, _, _, _ => ⟨rfl, rfl⟩
  | k + 1, i, x, hk, hx => by
    obtain ⟨w, e1, e2, e3⟩ := firstW_some (wF W k (i + 1)) (hl.ne i x (by omega) hx)
    obtain ⟨h1, h2⟩ := rowF_ok hl hr k (i + 1) w.2.1 (by omega) (hl.on i x w (by omega) hx e2)
    have e : rowF W (k + 1) i x = w.1 :: rowF W k (i + 1) w.2.1 := by
      show (match firstW (wF W k (i + 1)) (W i x) with | none => [] | some w => w.1 :: rowF W k (i + 1) w.2.1) = _
      rw [e1]
    rw [e]
    refine ⟨?_, by rw [List.length_cons, h2]⟩
    unfold rowW
    rw [rise_find (hr i x) e2]
    show Option.map (w.2.2 + ·) (rowW W (i + 1) w.2.1 (rowF W k (i + 1) w.2.1)) = _
    rw [h1]
    show some (w.2.2 + wF W k (i + 1) w.2.1) = some (leastW (wF W k (i + 1)) (W i x))
    rw [e3]
theorem find_at {β : Type} {p : β → Bool} : ∀ {l : List β} {j : Nat} {w : β}, l[j]? = some w → (∀ x ∈ l.take j, p x = false) → p w = true → l.find? p = some w
  | [], _, _, h, _, _ => by simp at h
  | a :: r, 0, w, h, _, hp => by
    cases h
    rw [List.find?_cons, hp]
  | a :: r, j + 1, w, h, hn, hp => by
    rw [List.find?_cons, hn a (by rw [List.take_succ_cons]; exact .head _)]
    exact find_at (l := r) (j := j) h (fun x hx => hn x (by rw [List.take_succ_cons]; exact List.mem_cons_of_mem _ hx)) hp
end
inductive PK (α : Type) where
  | ik (f : α → Key) (inj : ∀ x y, f x = f y → x = y)
  | tk (f : α → List Key) (inj : ∀ x y, f x = f y → x = y)
def PK.pv {α : Type} : PK α → Hp → V → α → Prop
  | .ik f _, _, v, x => v = kV (f x)
  | .tk f _, H, v, x => ∃ b, v = .ref b ∧ H b = some (.tup ((f x).map kV))
def PK.da {α : Type} : PK α → Hp → Addr → List α → (α → Int) → Prop
  | .ik f _, H, d, ps, g => H d = some (.dK (ps.map fun x => (f x, .int (g x))))
  | .tk f _, H, d, ps, g => H d = some (.dT (ps.map fun x => (f x, .int (g x))))
section
variable {α : Type} {κ : PK α} {H H' : Hp} {v : V} {x : α} {d : Addr} {ps : List α} {g g' : α → Int}
theorem PK.pv_same (h : κ.pv H v x) (s : Same H H') : κ.pv H' v x := by
  cases κ with
  | ik f i => exact h
  | tk f i => obtain ⟨b, e, hb⟩ := h; exact ⟨b, e, s _ _ hb⟩
theorem PK.da_same (h : κ.da H d ps g) (s : Same H H') : κ.da H' d ps g := by
  cases κ with
  | ik f i => exact s _ _ h
  | tk f i => exact s _ _ h
theorem valV_map {κ' : Type} [DecidableEq κ'] {f : α → κ'} (inj : ∀ x y, f x = f y → x = y) {g : α → Int} {x : α} : ∀ {ps : List α}, x ∈ ps → valV (ps.map fun x => (f x, V.int (g x))) (f x) = some (.int (g x))
  | [], h => by cases h
  | y :: r, h => by
    rw [List.map_cons]
    by_cases e : f y = f x
    · rw [valV_pos (show (f y, V.int (g y)).1 = f x from e), inj _ _ e]
    · rw [valV_neg (show ¬ (f y, V.int (g y)).1 = f x from e)]
      rcases List.mem_cons.mp h with rfl | h
      · exact absurd rfl e
      · exact valV_map inj h
theorem valV_none {κ' : Type} [DecidableEq κ'] {f : α → κ'} (inj : ∀ x y, f x = f y → x = y) {g : α → Int} {x : α} : ∀ {ps : List α}, x ∉ ps → valV (ps.map fun x => (f x, V.int (g x))) (f x) = none
  | [], _ => rfl
  | y :: r, h => by
    rw [List.map_cons, valV_neg (show ¬ (f y, V.int (g y)).1 = f x from fun z => h (by rw [inj _ _ z]; exact .head _))]
    exact valV_none inj fun z => h (List.mem_cons_of_mem _ z)
theorem PK.get (h : κ.da H d ps g) (hv : κ.pv H v x) (hx : x ∈ ps) : DGet H d v (some (.int (g x))) := by
  cases κ with
  | ik f i =>
    have hv' : v = kV (f x) := hv
    subst hv'
    have z := DGet.k (k := f x) (show H d = some (.dK _) from h)
    rw [valV_map i hx] at z
    exact z
  | tk f i =>
    obtain ⟨b, rfl, hb⟩ := hv
    have z := DGet.t (show H d = some (.dT _) from h) hb
    rw [valV_map i hx] at z
    exact z
theorem putK_new {κ' : Type} [DecidableEq κ'] {f : α → κ'} (inj : ∀ x y, f x = f y → x = y) {g : α → Int} {x : α} {ps : List α} (hx : x ∉ ps) : putK (ps.map fun x => (f x, V.int (g x))) (f x) (.int (g x)) = (ps ++ [x]).map fun x => (f x, V.int (g x)) := by
  unfold putK
  rw [valV_any, valV_none inj hx, List.map_append]
  rfl
theorem PK.put (h : κ.da H d ps g) (hv : κ.pv H v x) (hx : x ∉ ps) (hl : ps.length < 1000000) : ∃ H', DPut H d v (.int (g x)) H' ∧ κ.da H' d (ps ++ [x]) g ∧ Keep d H H' := by
  have lt : ps.length < sizeLine := Nat.lt_of_lt_of_le hl (sz_le (by decide))
  cases κ with
  | ik f i =>
    have hv' : v = kV (f x) := hv
    subst hv'
    refine ⟨_, DPut.k (k := f x) (show H d = some (.dK _) from h) (by rw [List.length_map]; exact lt), ?_, Keep.upd⟩
    show upd H d _ d = _
    rw [upd_same, putK_new i hx]
  | tk f i =>
    obtain ⟨b, rfl, hb⟩ := hv
    refine ⟨_, DPut.t (show H d = some (.dT _) from h) hb (by rw [List.length_map]; exact lt), ?_, Keep.upd⟩
    show upd H d _ d = _
    rw [upd_same, putK_new i hx]
theorem PK.new {σ : St} {Q : VK} (κ : PK α) (g : α → Int) (h : ∀ p H', H p = none → Same H H' → κ.da H' p [] g → Q (.ref p) H') : tDNewG σ H Q := by
  cases κ with
  | ik f i => exact rd_dnewK' fun p np => h p _ np (Same.new np) upd_same
  | tk f i => exact rd_dnewT' fun p np => h p _ np (Same.new np) upd_same
theorem PK.notlst {xs : List V} (h : κ.da H d ps g) (e : H d = some (.lst xs)) : False := by
  cases κ with
  | ik f i => have h' : H d = some (.dK _) := h; rw [e] at h'; cases h'
  | tk f i => have h' : H d = some (.dT _) := h; rw [e] at h'; cases h'
def WayAt (κ : PK α) (H : Hp) (a : Addr) (w : Wy α) : Prop := ∃ v, H a = some (.tup [.int w.1, v, .int w.2.2]) ∧ κ.pv H v w.2.1
theorem WayAt.same {a : Addr} {w : Wy α} (h : WayAt κ H a w) (s : Same H H') : WayAt κ H' a w := let ⟨v, e, p⟩ := h; ⟨v, s _ _ e, κ.pv_same p s⟩
structure WaysAt (κ : PK α) (H : Hp) (l : Addr) (ws : List (Wy α)) : Prop where
  ex : ∃ as, H l = some (.lst (as.map V.ref)) ∧ RL (WayAt κ H) as ws
theorem WaysAt.same {l : Addr} {ws : List (Wy α)} (h : WaysAt κ H l ws) (s : Same H H') : WaysAt κ H' l ws := let ⟨as, e, r⟩ := h.ex; ⟨as, s _ _ e, r.imp fun _ _ z => z.same s⟩
structure WaysOk (κ : PK α) (C : Addr → Sp → Prop) (H : Hp) (f : Addr) (W : Nat → α → List (Wy α)) (L : Nat → α → Prop) : Prop where
  ex : ∃ spc, C f spc ∧ ∀ (H' : Hp) (h : Nat) (v : V) (x : α) (Q : VK), Same H H' → L h x → κ.pv H' v x → (∀ l H'', Same H' H'' → WaysAt κ H'' l (W h x) → Q (.ref l) H'') → spc [.int (h : Int), v] H' Q E0
theorem WaysOk.same {C : Addr → Sp → Prop} {f : Addr} {W : Nat → α → List (Wy α)} {L : Nat → α → Prop} (h : WaysOk κ C H f W L) (s : Same H H') : WaysOk κ C H' f W L :=
  let ⟨spc, c, p⟩ := h.ex; ⟨spc, c, fun H2 a v x Q s2 => p H2 a v x Q (s.trans s2)⟩
def PVs (κ : PK α) (H : Hp) (vs : List V) (ps : List α) : Prop := vs.length = ps.length ∧ ∀ (i : Nat) v x, vs[i]? = some v → ps[i]? = some x → κ.pv H v x
theorem PVs.same {vs : List V} (h : PVs κ H vs ps) (s : Same H H') : PVs κ H' vs ps := ⟨h.1, fun i v x h1 h2 => κ.pv_same (h.2 i v x h1 h2) s⟩
theorem PVs.get {vs : List V} (h : PVs κ H vs ps) {i : Nat} {v : V} (e : vs[i]? = some v) : ∃ x, ps[i]? = some x ∧ κ.pv H v x := by
  have li : i < ps.length := by rw [← h.1]; exact (List.getElem?_eq_some_iff.mp e).1
  exact ⟨_, List.getElem?_eq_getElem li, h.2 i v _ e (List.getElem?_eq_getElem li)⟩
end
theorem take_sn {α : Type} {l : List α} {i : Nat} {x : α} (h : l[i]? = some x) : l.take (i + 1) = l.take i ++ [x] := by rw [List.take_add_one, h]; rfl
theorem RL.gt {α : Type} {P : Addr → α → Prop} {as : List Addr} {xs : List α} (h : RL P as xs) {i : Nat} {v : V} (hv : (as.map V.ref)[i]? = some v) : ∃ a x, as[i]? = some a ∧ v = .ref a ∧ xs[i]? = some x ∧ P a x := by
  rw [List.getElem?_map] at hv
  obtain ⟨a, e, rfl⟩ := Option.map_eq_some_iff.mp hv
  have li : i < xs.length := by rw [← h.len]; exact (List.getElem?_eq_some_iff.mp e).1
  exact ⟨a, xs[i], e, rfl, List.getElem?_eq_getElem li, h.at_ i a _ e (List.getElem?_eq_getElem li)⟩
def sp_least_of (K : PySem.W.Frag) : Sp := fun vs H Q _ => ∃ (α : Type) (κ : PK α) (l d : Addr) (ws : List (Wy α)) (ps : List α) (g : α → Int), vs = [.ref l, .ref d] ∧ WaysAt κ H l ws ∧ κ.da H d ps g ∧ ws ≠ [] ∧ ws.length ≤ 10000 ∧ (∀ w ∈ ws, w.2.1 ∈ ps) ∧
  ∀ H', Same H H' → Q (.int (leastW g ws)) H'
set_option maxHeartbeats 40000000 in
theorem ok_least_of {P : Program} {w : World} {K : PySem.W.Frag} {mg : Str → Option Value} {base : Heap} {a : Adr} (tx : Txt K mg a) : FnOk P w K mg base CX0 1 a.f_least_of a.d_least_of ["ways", "behind"] (sp_least_of K) := by
  refine tx.F_least_of.ok sc_least_of (fun vs H Q E h => ?_) (fun cdv A outer s H vs Q E hr h => ?_)
  · obtain ⟨α, κ, l, d, ws, ps, g, rfl, _⟩ := h
    rfl
  · obtain ⟨α, κ, l, d, ws, ps, g, rfl , hw, hd, hne, hlen, hin, k⟩ := h
    have hu := hu9 hr
    refine Z.root (Z.pss_one (Z.ps_ret (Z.pe_callBN (rc := rMinL K) (call_minL rfl) (by rfl) tx.z_min bt_min (Z.pa_c (Z.pe_comp (k := 3) (idx := [1]) (N := ["choice", "later", "worth", "behind"]) (blk_sc (sc := defScope s_least_of) (NX := ["ways", "behind"]) rfl rfl rfl (by decide +kernel)) rfl (Z.pi_listK (K' := K) (Z.pv 0)) (fun _ _ _ _ => (Z.pg_tupK (K' := K) (n := 3) rfl (Z.pgs_cons (Z.pg_name (i := 0) (show (["choice", "later", "worth", "behind"] : List Str).Nodup by decide +kernel) rfl (Or.inl rfl)) (Z.pgs_cons (Z.pg_name (i := 1) (show (["choice", "later", "worth", "behind"] : List Str).Nodup by decide +kernel) rfl (Or.inl rfl)) (Z.pgs_cons (Z.pg_name (i := 2) (show (["choice", "later", "worth", "behind"] : List Str).Nodup by decide +kernel) rfl (Or.inl rfl)) Z.pgs_nil))))) (own_tup (owns_cons (by decide) (owns_cons (by decide) (owns_cons (by decide) owns_nil)))) (fun _ _ _ _ => Z.pts_nil) (fun _ _ _ _ => (Z.pe_op op_addG (Z.pv 2) (Z.pe_dgetT hu (Z.pv 3) (Z.pv 1))))) Z.pa_nil)))) ?_
    obtain ⟨as, gl, rl⟩ := hw.ex
    have las := rl.len
    refine rd_start (σ := [some (.ref l), some (.ref d)]) rfl ?_
    walk_at "w"
    refine rd_li (SqL.of gl) ?_
    refine comp_list (xs := as.map V.ref) (fun j us H' => H' = H ∧ us = (((ws.take j).map fun w => w.2.2 + g w.2.1).map V.int)) ⟨rfl, rfl⟩ (sz_le (by rw [List.length_map]; omega))
      (fun j us H' hj ⟨e0, e1⟩ => ⟨by rw [e0]; exact SqL.of gl, by rw [e1, List.length_map, List.length_map, List.length_take]; omega⟩) (fun j v us H' hv ⟨e0, e1⟩ => ?_) (fun us H' ⟨e0, e1⟩ => ?_)
    · subst e0
      obtain ⟨a1, w, ea, rfl, ew, vv, g1, hp⟩ := rl.gt hv
      refine rd_gtup (SqT.of g1) rfl ?_
      walk_at "w"
      refine ⟨d, _, rfl, κ.get hd hp (hin w (List.mem_of_getElem? ew)), ?_⟩
      walk_at "w"
      refine ⟨rfl, ?_⟩
      rw [e1, take_sn ew, List.map_append, List.map_append]
      rfl
    subst e0 e1
    rw [List.length_map, las, List.take_length]
    intro l2 n2
    obtain ⟨H2, i2, s2, g2⟩ := nw _ n2; rw [i2]
    walk_at "w"
    refine rd_minL (SqL.of g2) (by simpa using hne) fun m hm hle => ?_
    have e : m = leastW g ws := leastW_eq (by
      obtain ⟨w, hw, e⟩ := List.mem_map.mp hm
      exact ⟨w, hw, e⟩) fun w hw => hle _ (List.mem_map.mpr ⟨w, hw, rfl⟩)
    rw [e]
    exact k H2 s2
def sp_worths_ahead (K : PySem.W.Frag) (C : Addr → Sp → Prop) : Sp := fun vs H Q _ => ∃ (α : Type) (κ : PK α) (lp d f : Addr) (h : Nat) (us : List V) (ps bs : List α) (g : α → Int) (W : Nat → α → List (Wy α)) (L : Nat → α → Prop), vs = [.ref lp, .int (h : Int), .ref d, .ref f] ∧
  H lp = some (.lst us) ∧ PVs κ H us ps ∧ ps.Nodup ∧ ps.length ≤ 10000 ∧ κ.da H d bs g ∧ WaysOk κ C H f W L ∧ (∀ x ∈ ps, L h x ∧ W h x ≠ [] ∧ (W h x).length ≤ 10000 ∧ ∀ w ∈ W h x, w.2.1 ∈ bs) ∧
  ∀ q H', Same H H' → H q = none → κ.da H' q ps (fun x => leastW g (W h x)) → Q (.ref q) H'
set_option maxHeartbeats 40000000 in
theorem ok_worths_ahead {P : Program} {w : World} {K : PySem.W.Frag} {mg : Str → Option Value} {base : Heap} {a : Adr} (tx : Txt K mg a) : FnOk P w K mg base CX0 10 a.f_worths_ahead a.d_worths_ahead ["places", "hour", "behind", "ways_at"] (sp_worths_ahead K (Clo P w K mg base (8 + 1))) := by
  have G_least_of := ok_least_of (P := P) (w := w) (base := base) tx
  refine tx.F_worths_ahead.ok sc_worths_ahead (fun vs H Q E h => ?_) (fun cdv A outer s H vs Q E hr h => ?_)
  · obtain ⟨α, κ, lp, d, f, h, us, ps, bs, g, W, L, rfl, _⟩ := h
    rfl
  · obtain ⟨α, κ, lp, d, f, h, us, ps, bs, g, W, L, rfl , gl, hpv, hnd, hlen, hd, hW, hon, k⟩ := h
    have hu := hu9 hr
    refine Z.root (Z.pss_cons (Z.ps_set (i := 4) sc_worths_ahead.nd rfl (Or.inl rfl) Z.pe_dnewG)
      (Z.pss_cons (Z.ps_for PassesOwn.never rfl (Z.pi_listK (K' := K) (Z.pv 0)) (Z.pg_name (i := 5) sc_worths_ahead.nd rfl (Or.inl rfl)) (Z.pss_one (Z.ps_dput hu (Z.pv 4) (Z.pv 5) (Z.pe_callN (G_least_of) (hr.mono (by decide)) (by rfl) tx.g_least_of tx.F_least_of.kp tx.b_least_of .nil pass0 (Z.pa_c (Z.pe_callW (P := P) (w := w) (K := K) (mg := mg) (base := base) (i := 3) (k := 8 + 1) (hr.mono (by decide)) (Z.pa_c (Z.pv 1) (Z.pa_c (Z.pv 5) Z.pa_nil))) (Z.pa_c (Z.pv 2) Z.pa_nil))))))
      (Z.pss_one (Z.ps_ret (Z.pv 4))))) ?_
    obtain ⟨spc, hC, hp⟩ := hW.ex
    have lus := hpv.1
    refine rd_start (σ := [some (.ref lp), some (.int (h : Int)), some (.ref d), some (.ref f), none, none]) rfl ?_
    walk_at "w"
    refine κ.new (fun x => leastW g (W h x)) fun wd H1 nwd s1 dw => ?_
    walk_at "w"
    refine rd_li (SqL.of (s1 _ _ gl)) ?_
    refine rf_list (xs := us) (fun i σ' H' => Same H H' ∧ κ.da H' wd (ps.take i) (fun x => leastW g (W h x)) ∧ ∃ z, σ' = [some (.ref lp), some (.int (h : Int)), some (.ref d), some (.ref f), some (.ref wd), z]) ⟨s1, dw, _, rfl⟩
      (fun i σ' H' hi ⟨s', _⟩ => SqL.of (s' _ _ gl)) (fun i v σ' H' hv ⟨s', dw', z, e⟩ => ?_) (fun σ' H' ⟨s', dw', z, e⟩ => ?_)
    · subst e
      obtain ⟨x, ex, px⟩ := hpv.get hv
      obtain ⟨o1, o2, o3, o4⟩ := hon x (List.mem_of_getElem? ex)
      walk_at "w"
      refine rd_callV rfl hC ?_
      walk_at "w"
      refine hp H' h v x _ s' o1 (κ.pv_same px s') fun l H2 s2 hws => ?_
      have s02 := s'.trans s2
      walk_at "w"
      refine ⟨α, κ, l, d, W h x, bs, g, rfl, hws, κ.da_same hd s02, o2, o3, o4, fun H3 s3 => ?_⟩
      have s03 := s02.trans s3
      walk_at "w"
      have nx : x ∉ ps.take i := fun z => by
        have hi : i < ps.length := (List.getElem?_eq_some_iff.mp ex).1
        obtain ⟨j, hj, ej⟩ := List.getElem_of_mem z
        rw [List.length_take] at hj
        rw [List.getElem_take] at ej
        have e2 : ps[i] = x := (List.getElem?_eq_some_iff.mp ex).2
        have := (List.getElem_inj hnd).mp (ej.trans e2.symm)
        omega
      obtain ⟨H4, p4, d4, k4⟩ := κ.put (κ.da_same dw' (s2.trans s3)) (κ.pv_same px s03) nx (by rw [List.length_take]; omega)
      refine ⟨wd, H4, rfl, p4, ?_⟩
      walk_at "w"
      refine ⟨fun b o e => k4 _ _ (s03 _ _ e) (ne_none nwd e), ?_, _, rfl⟩
      rw [take_sn ex]
      exact d4
    · subst e
      walk_at "w"
      rw [lus, List.take_length] at dw'
      exact k wd H' s' nwd dw'
structure LayAt {α : Type} (κ : PK α) (H : Hp) (a : Addr) (Ls : List (List α)) : Prop where
  ex : ∃ as, H a = some (.lst (as.map V.ref)) ∧ RL (fun b ps => ∃ us, H b = some (.lst us) ∧ PVs κ H us ps) as Ls
theorem LayAt.same {α : Type} {κ : PK α} {H H' : Hp} {a : Addr} {Ls : List (List α)} (h : LayAt κ H a Ls) (s : Same H H') : LayAt κ H' a Ls :=
  let ⟨as, e, r⟩ := h.ex; ⟨as, s _ _ e, r.imp fun _ _ ⟨us, e, p⟩ => ⟨us, s _ _ e, p.same s⟩⟩
structure DsAt {α : Type} (κ : PK α) (H : Hp) (a : Addr) (Ls : List (List α)) (F : Nat → α → Int) : Prop where
  ex : ∃ ds : List Addr, H a = some (.lst (ds.map V.ref)) ∧ ds.length = Ls.length ∧ ∀ (i : Nat) d ps, ds[i]? = some d → Ls[i]? = some ps → κ.da H d ps (F i)
theorem DsAt.same {α : Type} {κ : PK α} {H H' : Hp} {a : Addr} {Ls : List (List α)} {F : Nat → α → Int} (h : DsAt κ H a Ls F) (s : Same H H') : DsAt κ H' a Ls F :=
  let ⟨ds, e, l, r⟩ := h.ex; ⟨ds, s _ _ e, l, fun i d ps h1 h2 => κ.da_same (r i d ps h1 h2) s⟩
structure LayOk {α : Type} (W : Nat → α → List (Wy α)) (Ls : List (List α)) : Prop where
  pos : 0 < Ls.length
  nd : ∀ ps ∈ Ls, ps.Nodup
  few : ∀ ps ∈ Ls, ps.length ≤ 10000
  ne : ∀ (i : Nat) ps x, Ls[i]? = some ps → i + 1 < Ls.length → x ∈ ps → W i x ≠ [] ∧ (W i x).length ≤ 10000
  on : ∀ (i : Nat) ps qs x w, Ls[i]? = some ps → Ls[i + 1]? = some qs → x ∈ ps → w ∈ W i x → w.2.1 ∈ qs
theorem atI_last {xs : List V} (h : 0 < xs.length) : atI xs (-1) = xs[xs.length - 1]? := by
  have e : ixN xs.length (-1) = some (xs.length - 1) := by
    unfold ixN
    rw [if_neg (by omega), if_pos (by omega)]
    congr 1
    omega
  unfold atI
  rw [e]
  rfl
theorem PK.da_keep {α : Type} {κ : PK α} {H H' : Hp} {d p : Addr} {ps : List α} {g : α → Int} (h : κ.da H d ps g) (n : d ≠ p) (k : Keep p H H') : κ.da H' d ps g := by
  cases κ with
  | ik f i => exact k _ _ h n
  | tk f i => exact k _ _ h n
theorem PK.pv_keep {α : Type} {κ : PK α} {H H' : Hp} {v : V} {x : α} {p : Addr} {xs : List V} (h : κ.pv H v x) (gp : H p = some (.lst xs)) (k : Keep p H H') : κ.pv H' v x := by
  cases κ with
  | ik f i => exact h
  | tk f i =>
    obtain ⟨b, e, hb⟩ := h
    exact ⟨b, e, k _ _ hb fun z => by rw [z, gp] at hb; cases hb⟩
theorem ref_at {as : List Addr} {i : Nat} {a : Addr} (h : as[i]? = some a) : (as.map V.ref)[i]? = some (.ref a) := by rw [List.getElem?_map, h]; rfl
def sp_worths_by_hour (K : PySem.W.Frag) (C : Addr → Sp → Prop) : Sp := fun vs H Q _ => ∃ (α : Type) (κ : PK α) (la f : Addr) (Ls : List (List α)) (W : Nat → α → List (Wy α)) (L : Nat → α → Prop), vs = [.ref la, .ref f] ∧ LayAt κ H la Ls ∧ LayOk W Ls ∧ Ls.length ≤ 10000 ∧ WaysOk κ C H f W L ∧
  (∀ (i : Nat) ps x, Ls[i]? = some ps → i + 1 < Ls.length → x ∈ ps → L i x) ∧ ∀ q H', Same H H' → H q = none → DsAt κ H' q Ls (fun i => wF W (Ls.length - 1 - i) i) → Q (.ref q) H'
set_option maxHeartbeats 40000000 in
theorem ok_worths_by_hour {P : Program} {w : World} {K : PySem.W.Frag} {mg : Str → Option Value} {base : Heap} {a : Adr} (tx : Txt K mg a) : FnOk P w K mg base CX0 11 a.f_worths_by_hour a.d_worths_by_hour ["layers", "ways_at"] (sp_worths_by_hour K (Clo P w K mg base (8 + 1))) := by
  have G_worths_ahead := ok_worths_ahead (P := P) (w := w) (base := base) tx
  refine tx.F_worths_by_hour.ok sc_worths_by_hour (fun vs H Q E h => ?_) (fun cdv A outer s H vs Q E hr h => ?_)
  · obtain ⟨α, κ, la, f, Ls, W, L, rfl, _⟩ := h
    rfl
  · obtain ⟨α, κ, la, f, Ls, W, L, rfl , hla, hok, hlen, hW, hL, k⟩ := h
    have hu := hu9 hr
    refine Z.root (Z.pss_cons (Z.ps_set (i := 2) sc_worths_by_hour.nd rfl (Or.inl rfl) Z.pe_dnewG)
      (Z.pss_cons (Z.ps_for PassesOwn.never rfl (Z.pi_listK (K' := K) (Z.pe_ixK (K' := K) (Z.pv 0) (Z.pe_un un_neg Z.pe_int) (fun _ _ => rfl))) (Z.pg_name (i := 3) sc_worths_by_hour.nd rfl (Or.inl rfl)) (Z.pss_one (Z.ps_dput hu (Z.pv 2) (Z.pv 3) Z.pe_int)))
      (Z.pss_cons (Z.ps_set (i := 4) sc_worths_by_hour.nd rfl (Or.inl rfl) (Z.lst1 (Z.pv 2)))
      (Z.pss_cons (Z.ps_for PassesOwn.never rfl (Z.pi_rangeD (by rfl) tx.z_range (Z.pa_c (Z.pe_op op_sub (Z.pe_callBN (rc := rLen K) call_lenG (by rfl) tx.z_len bt_len (Z.pa_c (Z.pv 0) Z.pa_nil)) Z.pe_int) (Z.pa_c (Z.pe_un un_neg Z.pe_int) (Z.pa_c (Z.pe_un un_neg Z.pe_int) Z.pa_nil)))) (Z.pg_name (i := 5) sc_worths_by_hour.nd rfl (Or.inl rfl)) (Z.pss_cons (Z.ps_set (i := 2) sc_worths_by_hour.nd rfl (Or.inl rfl) (Z.pe_callN (G_worths_ahead) (hr.mono (by decide)) (by rfl) tx.g_worths_ahead tx.F_worths_ahead.kp tx.b_worths_ahead .nil pass0 (Z.pa_c (Z.pe_ixK (K' := K) (Z.pv 0) (Z.pv 5) (fun _ _ => rfl)) (Z.pa_c (Z.pv 5) (Z.pa_c (Z.pv 2) (Z.pa_c (Z.pv 1) Z.pa_nil))))))
      (Z.pss_one (Z.ps_expr (Z.pe_appK (K' := K) (Z.pv 4) (Z.pa_c (Z.pv 2) Z.pa_nil))))))
      (Z.pss_one (Z.ps_ret (Z.pe_listRev rfl (by rfl) tx.z_list (by rfl) tx.z_reversed (Z.pa_c (Z.pv 4) Z.pa_nil)))))))) ?_
    obtain ⟨as, ga, ra⟩ := hla.ex
    have las := ra.len
    have pos := hok.pos
    obtain ⟨n, hn⟩ : ∃ n, Ls.length = n + 1 := ⟨Ls.length - 1, by omega⟩
    have el : as[n]? = some as[n] := List.getElem?_eq_getElem (by omega)
    have ll : Ls[n]? = some Ls[n] := List.getElem?_eq_getElem (by omega)
    obtain ⟨us, gu, pu⟩ := ra.at_ n _ _ el ll
    generalize as[n] = an at el gu
    generalize Ls[n] = pn at ll pu
    have lpn := hok.few pn (List.mem_of_getElem? ll)
    have ndn := hok.nd pn (List.mem_of_getElem? ll)
    have lus := pu.1
    have ai : atI (as.map V.ref) (-1) = some (.ref an) := by
      rw [atI_last (by rw [List.length_map]; omega), List.length_map, las, hn, Nat.add_sub_cancel]
      exact ref_at el
    refine rd_start (σ := [some (.ref la), some (.ref f), none, none, none, none]) rfl ?_
    walk_at "w"
    refine κ.new (fun _ => 0) fun bd H1 nbd s1 db => ?_
    have ga1 := s1 _ _ ga
    walk_at "w"
    refine rd_li (SqL.of (s1 _ _ gu)) ?_
    refine rf_list (xs := us) (fun i σ' H' => Same H H' ∧ κ.da H' bd (pn.take i) (fun _ => 0) ∧ ∃ z, σ' = [some (.ref la), some (.ref f), some (.ref bd), z, none, none]) ⟨s1, db, _, rfl⟩
      (fun i σ' H' hi ⟨s', _⟩ => SqL.of (s' _ _ gu)) (fun i v σ' H' hv ⟨s', dw', z, e⟩ => ?_) (fun σ' H2 ⟨s2, d2, z, e⟩ => ?_)
    · subst e
      obtain ⟨x, ex, px⟩ := pu.get hv
      walk_at "w"
      have nx : x ∉ pn.take i := fun z => by
        obtain ⟨j, hj, ej⟩ := List.getElem_of_mem z
        rw [List.length_take] at hj
        rw [List.getElem_take] at ej
        have e2 : pn[i]'((List.getElem?_eq_some_iff.mp ex).1) = x := (List.getElem?_eq_some_iff.mp ex).2
        have := (List.getElem_inj ndn).mp (ej.trans e2.symm)
        omega
      obtain ⟨H4, p4, d4, k4⟩ := κ.put dw' (κ.pv_same px s') nx (by rw [List.length_take]; omega)
      refine ⟨bd, H4, rfl, p4, ?_⟩
      walk_at "w"
      refine ⟨fun b o e => k4 _ _ (s' _ _ e) (ne_none nbd e), ?_, _, rfl⟩
      rw [take_sn ex]
      exact d4
    · subst e
      rw [lus, List.take_length] at d2
      have ga2 := s2 _ _ ga
      walk_at "w"
      intro lw nlw
      obtain ⟨H3, i3, s3, g3⟩ := nw _ nlw; rw [i3]
      have s03 := s2.trans s3
      have ga3 := s03 _ _ ga
      have nlH : H lw = none := s2.free nlw
      walk_at "w"
      refine ⟨_, _, rfl, by rw [List.length_map, las]; omega, ?_⟩
      rw [show (((as.map V.ref).length : Int) - 2 - -1).toNat = n by rw [List.length_map, las, hn]; omega]
      refine rf_down (n := n) (fun i σ' H' => Same H H' ∧ (∃ ds : List Addr, H' lw = some (.lst (ds.map V.ref)) ∧ ds.length = i + 1 ∧ (∃ d, ds[i]? = some d ∧ σ'[2]? = some (some (.ref d))) ∧ ∀ (j : Nat) d ps, ds[j]? = some d → Ls[n - j]? = some ps → κ.da H' d ps (wF W j (n - j))) ∧ ∃ b z5, σ' = [some (.ref la), some (.ref f), some (.ref b), z, some (.ref lw), z5])
        ⟨s03, ⟨[bd], g3, rfl, ⟨bd, rfl, rfl⟩, fun j d ps h1 h2 => ?_⟩, _, _, rfl⟩ (fun i σ' H' hi ⟨s', ⟨ds, gd, ld, ⟨d, ed, e2⟩, hd⟩, b, z5, e⟩ => ?_) (fun σ' H' ⟨s', ⟨ds, gd, ld, ⟨d, ed, e2⟩, hd⟩, b, z5, e⟩ => ?_)
      · match j, h1 with
        | 0, h1 =>
          cases h1
          rw [Nat.sub_zero, ll] at h2
          cases h2
          exact κ.da_same d2 s3
        | j + 1, h1 => simp at h1
      · subst e
        have e2' : some (some (V.ref b)) = some (some (.ref d)) := e2
        cases e2'
        have hh : (((as.map V.ref).length : Int) - 2 - (i : Int)) = ((n - 1 - i : Nat) : Int) := by rw [List.length_map, las, hn]; omega
        rw [hh]
        have ea : as[n - 1 - i]? = some as[n - 1 - i] := List.getElem?_eq_getElem (by omega)
        have eL : Ls[n - 1 - i]? = some Ls[n - 1 - i] := List.getElem?_eq_getElem (by omega)
        have eL2 : Ls[n - i]? = some Ls[n - i] := List.getElem?_eq_getElem (by omega)
        obtain ⟨us', gu', pu'⟩ := ra.at_ _ _ _ ea eL
        generalize as[n - 1 - i] = ax at ea gu'
        generalize Ls[n - 1 - i] = px at eL pu'
        have db' := hd i d _ ed eL2
        generalize Ls[n - i] = qx at eL2 db'
        have ga' := s' _ _ ga
        have ix : atI (as.map V.ref) ((n - 1 - i : Nat) : Int) = some (.ref ax) := atI_nat (ref_at ea)
        walk_at "w"
        have e1 : n - 1 - i + 1 = n - i := by omega
        refine ⟨α, κ, ax, d, f, n - 1 - i, us', px, qx, wF W i (n - i), W, L, rfl, s' _ _ gu', pu'.same s', hok.nd px (List.mem_of_getElem? eL), hok.few px (List.mem_of_getElem? eL), db', hW.same s', fun x hx => ?_, fun q H4 s4 nq dq => ?_⟩
        · obtain ⟨n1, n2⟩ := hok.ne _ px x eL (by omega) hx
          exact ⟨hL _ px x eL (by omega) hx, n1, n2, fun w hw => hok.on _ px qx x w eL (by rw [e1]; exact eL2) hx hw⟩
        have gd4 := s4 _ _ gd
        walk_at "w"
        refine rd_tyL (SqL.of gd4) ?_
        walk_at "w"
        refine rd_app (xs := ds.map V.ref) gd4 (Nat.lt_of_lt_of_le (by rw [List.length_map]; omega : (ds.map V.ref).length < 20000) (sz_le (by decide))) ?_
        obtain ⟨H5, i5, k5, g5⟩ := wr H4 lw _; rw [i5]
        walk_at "w"
        refine ⟨fun b o e => k5 _ _ (s4 _ _ (s' _ _ e)) (ne_none nlH e), ⟨ds ++ [q], by rw [g5, List.map_append]; rfl, by rw [List.length_append, ld]; rfl, ⟨q, by rw [List.getElem?_append_right (by omega), ld, Nat.sub_self]; rfl, rfl⟩, fun j d ps h1 h2 => ?_⟩, _, _, rfl⟩
        by_cases hj : j < i + 1
        · rw [List.getElem?_append_left (by omega)] at h1
          have z := κ.da_same (hd j d ps h1 h2) s4
          exact κ.da_keep z (fun y => κ.notlst z (by rw [y]; exact gd4)) k5
        · have hj2 : j < (ds ++ [q]).length := (List.getElem?_eq_some_iff.mp h1).1
          rw [List.length_append, List.length_singleton] at hj2
          obtain rfl : j = i + 1 := by omega
          rw [List.getElem?_append_right (by omega), ld, Nat.sub_self] at h1
          cases h1
          rw [show n - (i + 1) = n - 1 - i by omega, eL] at h2
          cases h2
          have z := κ.da_keep dq (fun y => κ.notlst dq (by rw [y]; exact gd4)) k5
          have ee : (fun x => leastW (wF W i (n - i)) (W (n - 1 - i) x)) = wF W (i + 1) (n - (i + 1)) := by
            rw [show n - (i + 1) = n - 1 - i by omega]
            funext x
            show _ = leastW (wF W i (n - 1 - i + 1)) (W (n - 1 - i) x)
            rw [e1]
          rw [← ee]
          exact z
      · subst e
        walk_at "w"
        refine ⟨lw, _, rfl, gd, fun q nq => ?_⟩
        obtain ⟨H5, i5, s5, g5⟩ := nw _ nq; rw [i5]
        walk_at "w"
        refine k q H5 (s'.trans s5) (s'.free nq) ⟨⟨ds.reverse, by rw [g5, List.map_reverse], by rw [List.length_reverse, ld, hn], fun i d ps h1 h2 => ?_⟩⟩
        have hi : i < ds.length := by rw [← List.length_reverse]; exact (List.getElem?_eq_some_iff.mp h1).1
        rw [List.getElem?_reverse hi] at h1
        have z := hd _ d ps h1 (by rw [show n - (ds.length - 1 - i) = i by omega]; exact h2)
        rw [show n - (ds.length - 1 - i) = i by omega, show ds.length - 1 - i = Ls.length - 1 - i by omega] at z
        exact κ.da_same z s5
def sp_first_best (K : PySem.W.Frag) : Sp := fun vs H Q _ => ∃ (α : Type) (κ : PK α) (l d : Addr) (ws : List (Wy α)) (ps : List α) (g : α → Int), vs = [.ref l, .ref d] ∧ WaysAt κ H l ws ∧ κ.da H d ps g ∧ ws ≠ [] ∧ ws.length ≤ 10000 ∧ (∀ w ∈ ws, w.2.1 ∈ ps) ∧
  ∀ a w H', Same H H' → firstW g ws = some w → WayAt κ H' a w → Q (.ref a) H'
set_option maxHeartbeats 40000000 in
theorem ok_first_best {P : Program} {w : World} {K : PySem.W.Frag} {mg : Str → Option Value} {base : Heap} {a : Adr} (tx : Txt K mg a) : FnOk P w K mg base CX0 2 a.f_first_best a.d_first_best ["ways", "behind"] (sp_first_best K) := by
  have G_least_of := ok_least_of (P := P) (w := w) (base := base) tx
  refine tx.F_first_best.ok sc_first_best (fun vs H Q E h => ?_) (fun cdv A outer s H vs Q E hr h => ?_)
  · obtain ⟨α, κ, l, d, ws, ps, g, rfl, _⟩ := h
    rfl
  · obtain ⟨α, κ, l, d, ws, ps, g, rfl , hw, hd, hne, hlen, hin, k⟩ := h
    have hu := hu9 hr
    refine Z.root (Z.pss_cons (Z.ps_set (i := 2) sc_first_best.nd rfl (Or.inr rfl) (Z.pe_callN (G_least_of) (hr.mono (by decide)) (by rfl) tx.g_least_of tx.F_least_of.kp tx.b_least_of .nil pass0 (Z.pa_c (Z.pv 0) (Z.pa_c (Z.pv 1) Z.pa_nil))))
      (Z.pss_one (Z.ps_ret (Z.pe_ixK (K' := K) (Z.pe_comp (k := 1) (idx := [1, 2]) (N := ["way", "behind", "least"]) (blk_sc (sc := defScope s_first_best) (NX := ["ways", "behind", "least"]) rfl rfl rfl (by decide +kernel)) rfl (Z.pi_listK (K' := K) (Z.pv 0)) (fun _ _ _ _ => (Z.pg_name (i := 0) (show (["way", "behind", "least"] : List Str).Nodup by decide +kernel) rfl (Or.inl rfl))) (own_name (by decide)) (fun _ _ _ _ => (Z.pts_one (Z.pt_cmpR (r := rEqG K) (op_eqG hu) (Z.pe_op op_addG (Z.pe_ixK (K' := K) (Z.pv 0) Z.pe_int (fun _ _ => rfl)) (Z.pe_dgetT hu (Z.pv 1) (Z.pe_ixK (K' := K) (Z.pv 0) Z.pe_int (fun _ _ => rfl)))) (Z.pv 2) (nomark _)))) (fun _ _ _ _ => (Z.pv 0))) Z.pe_int (fun _ _ => rfl))))) ?_
    refine rd_start (σ := [some (.ref l), some (.ref d), none]) rfl ?_
    walk_at "w"
    refine ⟨α, κ, l, d, ws, ps, g, rfl, hw, hd, hne, hlen, hin, fun H1 s1 => ?_⟩
    obtain ⟨as, gl, rl⟩ := (hw.same s1).ex
    have las := rl.len
    have hd1 := κ.da_same hd s1
    walk_at "w"
    refine rd_li (SqL.of gl) ?_
    refine comp_list (xs := as.map V.ref) (fun j us H' => H' = H1 ∧ us.length ≤ j ∧ (us = [] → ∀ w ∈ ws.take j, ¬ w.2.2 + g w.2.1 = leastW g ws) ∧ ∀ u, us[0]? = some u → ∃ a w, u = .ref a ∧ firstW g ws = some w ∧ WayAt κ H1 a w) ⟨rfl, Nat.le_refl _, (fun _ w hw => by simp at hw), (fun u hu => by simp at hu)⟩ (sz_le (by rw [List.length_map]; omega))
      (fun j us H' hj ⟨e0, e1, _⟩ => ⟨by rw [e0]; exact SqL.of gl, e1⟩) (fun j v us H' hv ⟨e0, e1, e2, e3⟩ => ?_) (fun us H' ⟨e0, e1, e2, e3⟩ => ?_)
    · subst e0
      obtain ⟨a1, w, ea, rfl, ew, vv, g1, hp⟩ := rl.gt hv
      walk_at "w"
      refine ⟨d, _, rfl, κ.get hd1 hp (hin w (List.mem_of_getElem? ew)), ?_⟩
      walk_at "w"
      refine rd_dec (fun h => ?_) (fun h => ?_)
      · walk_at "w"
        refine ⟨rfl, by rw [List.length_append, List.length_singleton]; omega, (fun z => by simp at z), fun u hu => ?_⟩
        cases us with
        | nil =>
          cases hu
          refine ⟨a1, w, rfl, ?_, vv, g1, hp⟩
          unfold firstW
          exact find_at ew (fun x hx => decide_eq_false (e2 rfl x hx)) (decide_eq_true h)
        | cons y r => exact e3 u hu
      · walk_at "w"
        refine ⟨rfl, by omega, fun z x hx => ?_, e3⟩
        rw [take_sn ew] at hx
        rcases List.mem_append.mp hx with q | q
        · exact e2 z x q
        · rw [List.mem_singleton.mp q]; exact h
    subst e0
    rw [List.length_map, las, List.take_length] at e2
    obtain ⟨w0, hw0, hw1⟩ := leastW_mem g hne
    cases us with
    | nil => exact absurd hw1 (e2 rfl w0 hw0)
    | cons u0 r =>
      obtain ⟨a1, w, rfl, f1, hA⟩ := e3 u0 rfl
      intro l2 n2
      obtain ⟨H2, i2, s2, g2⟩ := nw _ n2; rw [i2]
      have ix : atI (V.ref a1 :: r) 0 = some (.ref a1) := atI_nat (j := 0) rfl
      walk_at "w"
      exact k a1 w H2 (s1.trans s2) f1 (hA.same s2)
def sp_first_row (K : PySem.W.Frag) (C : Addr → Sp → Prop) : Sp := fun vs H Q _ => ∃ (α : Type) (κ : PK α) (v : V) (x : α) (p0 : List α) (lw f : Addr) (Ls : List (List α)) (W : Nat → α → List (Wy α)) (L : Nat → α → Prop), vs = [v, .ref lw, .ref f] ∧ κ.pv H v x ∧ DsAt κ H lw Ls (fun i => wF W (Ls.length - 1 - i) i) ∧ Ls[0]? = some p0 ∧ x ∈ p0 ∧ LayOk W Ls ∧ Ls.length ≤ 10000 ∧ WaysOk κ C H f W L ∧
  (∀ (i : Nat) ps x, Ls[i]? = some ps → i + 1 < Ls.length → x ∈ ps → L i x) ∧ ∀ q H', Same H H' → H q = none → H' q = some (.lst ((rowF W (Ls.length - 1) 0 x).map V.int)) → Q (.ref q) H'
set_option maxHeartbeats 40000000 in
theorem ok_first_row {P : Program} {w : World} {K : PySem.W.Frag} {mg : Str → Option Value} {base : Heap} {a : Adr} (tx : Txt K mg a) : FnOk P w K mg base CX0 10 a.f_first_row a.d_first_row ["place", "worths", "ways_at"] (sp_first_row K (Clo P w K mg base (8 + 1))) := by
  have G_first_best := ok_first_best (P := P) (w := w) (base := base) tx
  refine tx.F_first_row.ok sc_first_row (fun vs H Q E h => ?_) (fun cdv A outer s H vs Q E hr h => ?_)
  · obtain ⟨α, κ, v, x, p0, lw, f, Ls, W, L, rfl, _⟩ := h
    rfl
  · obtain ⟨α, κ, v, x, p0, lw, f, Ls, W, L, rfl , hv, hds, hp0, hx0, hok, hlen, hW, hL, k⟩ := h
    have hu := hu9 hr
    refine Z.root (Z.pss_cons (Z.ps_set (i := 3) sc_first_row.nd rfl (Or.inl rfl) (Z.pe_lst Z.pa_nil))
      (Z.pss_cons (Z.ps_for PassesOwn.never rfl (Z.pi_range1N (by rfl) tx.z_range (Z.pa_c (Z.pe_op op_sub (Z.pe_callBN (rc := rLen K) call_lenG (by rfl) tx.z_len bt_len (Z.pa_c (Z.pv 1) Z.pa_nil)) Z.pe_int) Z.pa_nil)) (Z.pg_name (i := 4) sc_first_row.nd rfl (Or.inl rfl)) (Z.pss_cons (Z.ps_set (i := 5) sc_first_row.nd rfl (Or.inl rfl) (Z.pe_callN (G_first_best) (hr.mono (by decide)) (by rfl) tx.g_first_best tx.F_first_best.kp tx.b_first_best .nil pass0 (Z.pa_c (Z.pe_callW (P := P) (w := w) (K := K) (mg := mg) (base := base) (i := 2) (k := 8 + 1) (hr.mono (by decide)) (Z.pa_c (Z.pv 4) (Z.pa_c (Z.pv 0) Z.pa_nil))) (Z.pa_c (Z.pe_ixK (K' := K) (Z.pv 1) (Z.pe_op op_addG (Z.pv 4) Z.pe_int) (fun _ _ => rfl)) Z.pa_nil))))
      (Z.pss_cons (Z.ps_expr (Z.pe_appK (K' := K) (Z.pv 3) (Z.pa_c (Z.pe_ixK (K' := K) (Z.pv 5) Z.pe_int (fun _ _ => rfl)) Z.pa_nil)))
      (Z.pss_one (Z.ps_set (i := 0) sc_first_row.nd rfl (Or.inl rfl) (Z.pe_ixK (K' := K) (Z.pv 5) Z.pe_int (fun _ _ => rfl)))))))
      (Z.pss_one (Z.ps_ret (Z.pv 3))))) ?_
    obtain ⟨ds, gds, lds, hds'⟩ := hds.ex
    obtain ⟨spc, hC, hp⟩ := hW.ex
    have pos := hok.pos
    obtain ⟨n, hn⟩ : ∃ n, Ls.length = n + 1 := ⟨Ls.length - 1, by omega⟩
    refine rd_start (σ := [some v, some (.ref lw), some (.ref f), none, none, none]) rfl ?_
    walk_at "w"
    intro lr nlr
    obtain ⟨H1, i1, s1, g1⟩ := nw _ nlr; rw [i1]
    have gds1 := s1 _ _ gds
    walk_at "w"
    refine ⟨by rw [List.length_map]; omega, by rw [List.length_map]; omega, ?_⟩
    rw [show (((ds.map V.ref).length : Int) - 1).toNat = n by rw [List.length_map, lds, hn]; omega]
    refine rf_range (n := n) (fun i σ' H' => Same H H' ∧ ∃ (row : List Int) (u : V) (y : α) (ps : List α) (z4 z5 : Option V), σ' = [some u, some (.ref lw), some (.ref f), some (.ref lr), z4, z5] ∧ H' lr = some (.lst (row.map V.int)) ∧ row.length = i ∧ κ.pv H' u y ∧ Ls[i]? = some ps ∧ y ∈ ps ∧ row ++ rowF W (n - i) i y = rowF W n 0 x)
      ⟨s1, [], v, x, p0, _, _, rfl, g1, rfl, κ.pv_same hv s1, hp0, hx0, rfl⟩ (fun i σ' H' hi ⟨s', row, u, y, ps, z4, z5, e, gr, lr', py, eps, hy, hrow⟩ => ?_) (fun σ' H' ⟨s', row, u, y, ps, z4, z5, e, gr, lr', py, eps, hy, hrow⟩ => ?_)
    · subst e
      have eq : Ls[i + 1]? = some Ls[i + 1] := List.getElem?_eq_getElem (by omega)
      have ed : ds[i + 1]? = some ds[i + 1] := List.getElem?_eq_getElem (by omega)
      have hdd := hds' (i + 1) _ _ ed eq
      generalize ds[i + 1] = dx at ed hdd
      generalize Ls[i + 1] = qs at eq hdd
      obtain ⟨n1, n2⟩ := hok.ne i ps y eps (by omega) hy
      have gds' := s' _ _ gds
      have ix : atI (ds.map V.ref) ((0 + (i : Int)) + 1) = some (.ref dx) := by
        rw [show (0 + (i : Int)) + 1 = ((i + 1 : Nat) : Int) by push_cast; omega]
        exact atI_nat (ref_at ed)
      walk_at "w"
      refine rd_callV rfl hC ?_
      walk_at "w"
      rw [show (0 + (i : Int)) = (i : Int) by omega]
      refine hp H' i u y _ s' (hL i ps y eps (by omega) hy) py fun l H2 s2 hws => ?_
      have gds2 := s2 _ _ gds'
      have ix2 : atI (ds.map V.ref) ((i : Int) + 1) = some (.ref dx) := by rw [← ix, show (0 + (i : Int)) = (i : Int) by omega]
      walk_at "w"
      refine ⟨α, κ, l, dx, W i y, qs, _, rfl, hws, κ.da_same hdd (s'.trans s2), n1, n2, fun w hw => hok.on i ps qs y w eps eq hy hw, fun a w H3 s3 fw hA => ?_⟩
      obtain ⟨vv, ga, hpv⟩ := hA
      have gr3 := (s2.trans s3) _ _ gr
      have hwm : w ∈ W i y := by
        unfold firstW at fw
        exact List.mem_of_find?_eq_some fw
      walk_at "w"
      refine rd_tyL (SqL.of gr3) ?_
      walk_at "w"
      refine rd_app (xs := row.map V.int) gr3 (Nat.lt_of_lt_of_le (by rw [List.length_map]; omega : (row.map V.int).length < 20000) (sz_le (by decide))) ?_
      obtain ⟨H4, i4, k4, g4⟩ := wr H3 lr _; rw [i4]
      have na : a ≠ lr := fun z => by rw [z, gr3] at ga; cases ga
      have ga4 := k4 _ _ ga na
      have hpv4 : κ.pv H4 vv w.2.1 := κ.pv_keep hpv gr3 k4
      walk_at "w"
      refine ⟨fun b o e => k4 _ _ ((s'.trans (s2.trans s3)) _ _ e) (ne_none nlr e), row ++ [w.1], vv, w.2.1, qs, _, _, rfl, by rw [g4, List.map_append]; rfl, by rw [List.length_append, lr']; rfl, hpv4, eq, hok.on i ps qs y w eps eq hy hwm, ?_⟩
      rw [← hrow, List.append_assoc]
      congr 1
      obtain ⟨m, hm⟩ : ∃ m, n - i = m + 1 := ⟨n - i - 1, by omega⟩
      rw [hm, show n - (i + 1) = m by omega]
      have fw' : firstW (wF W m (i + 1)) (W i y) = some w := by rw [← fw, show Ls.length - 1 - (i + 1) = m by omega]
      show _ = (match firstW (wF W m (i + 1)) (W i y) with | none => [] | some w => w.1 :: rowF W m (i + 1) w.2.1)
      rw [fw']
      rfl
    · subst e
      walk_at "w"
      rw [Nat.sub_self, show rowF W 0 n y = [] from rfl, List.append_nil] at hrow
      refine k lr H' s' nlr ?_
      rw [gr, hrow, hn, Nat.add_sub_cancel]
def On (m : MS) (s s' : Int × Int) : Prop := ∃ on, Bit on ∧ (s.1 = on ∨ s.2 = 0) ∧ s' = aft m s.1 s.2 on
def Rc (m : MS) (a : Int × Int) : Nat → Int × Int → Prop
  | 0, s => s = a
  | n + 1, s => ∃ q, Rc m a n q ∧ On m q s
def sLt (a b : Int × Int) : Prop := a.1 < b.1 ∨ (a.1 = b.1 ∧ a.2 < b.2)
def St1 (m : MS) (s : Int × Int) : Prop := (s.1 = 1 ∧ 0 ≤ s.2 ∧ s.2 < m.up) ∨ (s.1 = 0 ∧ 0 ≤ s.2 ∧ s.2 < 60)
theorem St1.st0 {m : MS} (g : m.Good) {s : Int × Int} (h : St1 m s) : St0 s.1 s.2 := by
  obtain ⟨u0, u1⟩ := g.up
  rcases h with ⟨a, b, c⟩ | ⟨a, b, c⟩
  · exact ⟨.inr a, b, by omega⟩
  · exact ⟨.inl a, b, c⟩
theorem Rc.st {m : MS} (g : m.Good) {a : Int × Int} (h : St1 m a) : ∀ {n : Nat} {s : Int × Int}, Rc m a n s → St0 s.1 s.2 ∧ (s.2 < 12 ∨ (s.1 = 0 ∧ s.2 = a.2 - n))
  | 0, s, hs => by
    have hs' : s = a := hs
    subst hs'
    obtain ⟨u0, u1⟩ := g.up
    refine ⟨h.st0 g, ?_⟩
    rcases h with ⟨x, y, z⟩ | ⟨x, y, z⟩
    · exact .inl (by omega)
    · exact .inr ⟨x, by omega⟩
  | n + 1, s, hs => by
    obtain ⟨q, hq, on, bon, may, rfl⟩ := hs
    obtain ⟨i1, i2⟩ := Rc.st g h hq
    obtain ⟨u0, u1⟩ := g.up
    obtain ⟨d0, d1⟩ := g.down
    refine ⟨i1.aft g bon, ?_⟩
    unfold My.aft
    by_cases e : q.1 = on
    · rw [if_pos e]
      rcases i2 with i2 | ⟨i2, i3⟩
      · exact .inl (by show max (q.2 - 1) 0 < 12; omega)
      · by_cases z : q.2 - 1 < 12
        · exact .inl (by show max (q.2 - 1) 0 < 12; omega)
        · refine .inr ⟨by show on = 0; omega, ?_⟩
          show max (q.2 - 1) 0 = a.2 - ((n + 1 : Nat) : Int)
          omega
    · rw [if_neg e]
      split
      · exact .inl (by show m.up - 1 < 12; omega)
      · exact .inl (by show m.down - 1 < 12; omega)
theorem Rc.few {m : MS} (g : m.Good) {a : Int × Int} (h : St1 m a) {n : Nat} {ks : List (Int × Int)} (nd : ks.Nodup) (hr : ∀ k ∈ ks, Rc m a n k) : ks.length ≤ 25 := by
  have := nd_le 25 (ks.map fun k => if k.2 < 12 then (k.1 * 12 + k.2).toNat else 24) (by
    rw [List.Nodup, List.pairwise_map]
    refine nd.imp_of_mem ?_
    intro x y hx hy hxy z
    obtain ⟨⟨a1, a2, a3⟩, a4⟩ := Rc.st g h (hr x hx)
    obtain ⟨⟨b1, b2, b3⟩, b4⟩ := Rc.st g h (hr y hy)
    refine hxy ?_
    by_cases c1 : x.2 < 12 <;> by_cases c2 : y.2 < 12
    · rw [if_pos c1, if_pos c2] at z
      refine Prod.ext ?_ ?_
      · rcases a1 with a1 | a1 <;> rcases b1 with b1 | b1 <;> rw [a1, b1] <;> rw [a1, b1] at z <;> omega
      · rcases a1 with a1 | a1 <;> rcases b1 with b1 | b1 <;> rw [a1, b1] at z <;> omega
    · rw [if_pos c1, if_neg c2] at z
      rcases a1 with a1 | a1 <;> rw [a1] at z <;> omega
    · rw [if_neg c1, if_pos c2] at z
      rcases b1 with b1 | b1 <;> rw [b1] at z <;> omega
    · rcases a4 with a4 | ⟨a4, a5⟩
      · omega
      · rcases b4 with b4 | ⟨b4, b5⟩
        · omega
        · exact Prod.ext (by omega) (by omega)) (fun x hx => by
    obtain ⟨k, hk, rfl⟩ := List.mem_map.mp hx
    obtain ⟨⟨a1, a2, a3⟩, a4⟩ := Rc.st g h (hr k hk)
    split
    · rcases a1 with a1 | a1 <;> rw [a1] <;> omega
    · omega)
  simpa using this
structure LayR (m : MS) (a : Int × Int) (Ls : List (List (Int × Int))) : Prop where
  at_ : ∀ (i : Nat) ps, Ls[i]? = some ps → ps.Pairwise sLt ∧ ∀ s, s ∈ ps ↔ Rc m a i s
theorem sLt_nd {ps : List (Int × Int)} (h : ps.Pairwise sLt) : ps.Nodup := h.imp fun {a b} hab z => by
  subst z
  rcases hab with y | ⟨_, y⟩ <;> omega
def gnT (m : MS) (p : Int) : Int := p * m.least + gn p m.pieces
def hcst (m : MS) (s : Int × Int) (on : Int) : Int := rcst m s.1 [on]
def hw (m : MS) (p : Int) (s : Int × Int) (on : Int) : Int := hcst m s on - on * gnT m p
def mayB (s : Int × Int) (on : Int) : Bool := decide (s.1 = on) || decide (s.2 = 0)
def rwy (m : MS) (p : Int) (s : Int × Int) : List (Wy (Int × Int)) := (([0, 1] : List Int).filter (mayB s)).map fun on => (on, aft m s.1 s.2 on, hw m p s on)
def Wr (m : MS) (ps : List Int) (i : Nat) (s : Int × Int) : List (Wy (Int × Int)) := rwy m (ps.getD i 0) s
theorem mayB_iff {s : Int × Int} {on : Int} : mayB s on = true ↔ s.1 = on ∨ s.2 = 0 := by unfold mayB; simp
theorem rwy_mem {m : MS} {p : Int} {s : Int × Int} {w : Wy (Int × Int)} : w ∈ rwy m p s ↔ ∃ on, Bit on ∧ (s.1 = on ∨ s.2 = 0) ∧ w = (on, aft m s.1 s.2 on, hw m p s on) := by
  unfold rwy
  rw [List.mem_map]
  constructor
  · rintro ⟨on, h, rfl⟩
    obtain ⟨h1, h2⟩ := List.mem_filter.mp h
    exact ⟨on, by simpa [Bit] using h1, mayB_iff.mp h2, rfl⟩
  · rintro ⟨on, b, h, rfl⟩
    exact ⟨on, List.mem_filter.mpr ⟨by simpa [Bit] using b, mayB_iff.mpr h⟩, rfl⟩
theorem rwy_ne {m : MS} {p : Int} {s : Int × Int} (b : Bit s.1) : rwy m p s ≠ [] := fun z => by
  have : _ ∈ rwy m p s := rwy_mem.mpr ⟨s.1, b, .inl rfl, rfl⟩
  rw [z] at this
  cases this
theorem rwy_len (m : MS) (p : Int) (s : Int × Int) : (rwy m p s).length ≤ 2 := by
  unfold rwy
  rw [List.length_map]
  exact List.length_filter_le ..
theorem rwy_rise (m : MS) (p : Int) (s : Int × Int) : Rise (rwy m p s) := by
  unfold Rise rwy
  rw [List.pairwise_map]
  exact List.Pairwise.filter _ (by simp)
theorem layR_ok {m : MS} (g : m.Good) {a : Int × Int} (h : St1 m a) (qs : List Int) {Ls : List (List (Int × Int))} (pos : 0 < Ls.length) (hl : LayR m a Ls) : LayOk (Wr m qs) Ls where
  pos := pos
  nd := fun ps hp => by
    obtain ⟨i, hi⟩ := List.getElem?_of_mem hp
    exact sLt_nd (hl.at_ i ps hi).1
  few := fun ps hp => by
    obtain ⟨i, hi⟩ := List.getElem?_of_mem hp
    obtain ⟨h1, h2⟩ := hl.at_ i ps hi
    exact Nat.le_trans (Rc.few g h (sLt_nd h1) fun k hk => (h2 k).mp hk) (by decide)
  ne := fun i ps x hi _ hx => by
    have := ((Rc.st g h (((hl.at_ i ps hi).2 x).mp hx)).1).1
    exact ⟨rwy_ne this, Nat.le_trans (rwy_len ..) (by decide)⟩
  on := fun i ps rs x w hi hj hx hw => by
    obtain ⟨on, b, may, rfl⟩ := rwy_mem.mp hw
    exact ((hl.at_ (i + 1) rs hj).2 _).mpr ⟨x, ((hl.at_ i ps hi).2 x).mp hx, on, b, may, rfl⟩
theorem lay_run {m : MS} (g : m.Good) {a : Int × Int} (h : St1 m a) (qs : List Int) (n : Nat) : Lay (Wr m qs) n (Rc m a) where
  ne := fun i x _ hx => rwy_ne ((Rc.st g h hx).1).1
  on := fun i x w _ hx hw => by
    obtain ⟨on, b, may, rfl⟩ := rwy_mem.mp hw
    exact ⟨x, hx, on, b, may, rfl⟩
def rwF (m : MS) (qs : List Int) (a : Int × Int) : Int := wF (Wr m qs) qs.length 0 a
def rrF (m : MS) (qs : List Int) (a : Int × Int) : List Int := rowF (Wr m qs) qs.length 0 a
def κS : PK (Int × Int) := .tk encK fun _ _ h => encK_inj h
theorem MachAt.delT {C : Addr} {H : Hp} {q w : Addr} {m : MS} {kvs : List (List Key × V)} (h : MachAt C H q m) (e : H w = some (.dT kvs)) : MachAt C (del w H) q m := by
  obtain ⟨dx, pl, h1, h2⟩ := h.ex
  obtain ⟨qs, h3, h4⟩ := h2.ex
  refine ⟨dx, pl, del_some h1 (fun z => by rw [z, e] at h1; cases h1), qs, del_some h3 (fun z => by rw [z, e] at h3; cases h3), h4.len, fun j a t h5 h6 => ?_⟩
  have h7 := h4.at_ j a t h5 h6
  exact del_some h7 (fun z => by rw [z, e] at h7; cases h7)
theorem opt_int (x : Option Int) : (x.map V.int).getD (.int 0) = .int (x.getD 0) := by cases x <;> rfl
theorem enc_at {ps : List WP} {i : Nat} {kv : List Key × V} (h : (enc ps)[i]? = some kv) : ∃ p, ps[i]? = some p ∧ kv = (encK p.1, V.int p.2) := by
  unfold enc at h
  rw [List.getElem?_map] at h
  obtain ⟨p, hp, e⟩ := Option.map_eq_some_iff.mp h
  exact ⟨p, hp, e.symm⟩
theorem enc_len (ps : List WP) : (enc ps).length = ps.length := by unfold enc; rw [List.length_map]
theorem addW_keys {ps : List WP} {k s : Int × Int} {v : Int} : s ∈ (addW ps k v).map (·.1) ↔ s ∈ ps.map (·.1) ∨ s = k := by
  unfold addW
  by_cases h : ps.any (fun p => decide (p.1 = k)) = true
  · rw [if_pos h, List.map_map]
    have e : ((fun p : WP => p.1) ∘ fun p : WP => if p.1 = k then (p.1, v) else p) = fun p => p.1 := by
      funext p
      show (if p.1 = k then (p.1, v) else p).1 = p.1
      split <;> rfl
    rw [e]
    refine ⟨.inl, fun z => ?_⟩
    rcases z with z | z
    · exact z
    · obtain ⟨p, hp, e⟩ := List.any_eq_true.mp h
      rw [z]
      exact List.mem_map.mpr ⟨p, hp, of_decide_eq_true e⟩
  · rw [if_neg h, List.map_append, List.mem_append]
    simp
def sp_ways_one_on (K : PySem.W.Frag) (C : Addr) : Sp := fun vs H Q _ => ∃ (q : Addr) (m : MS) (w : Addr) (ps : List WP), vs = [.ref q, .ref w] ∧ MachAt C H q m ∧ m.Good ∧ H w = some (.dT (enc ps)) ∧ Ways ps ∧
  ∀ w' ps' H', Same (del w H) H' → H w' = none → H' w' = some (.dT (enc ps')) → Ways ps' → (∀ s, s ∈ ps'.map (·.1) ↔ ∃ q ∈ ps.map (·.1), On m q s) → Q (.ref w') H'
set_option maxHeartbeats 40000000 in
theorem ok_ways_one_on {P : Program} {w : World} {K : PySem.W.Frag} {mg : Str → Option Value} {base : Heap} {a : Adr} (tx : Txt K mg a) : FnOk P w K mg base CX0 3 a.f_ways_one_on a.d_ways_one_on ["machine", "ways"] (sp_ways_one_on K a.c_Machine) := by
  have G_may_be := ok_may_be (P := P) (w := w) (base := base) tx
  have G_state_after := ok_state_after (P := P) (w := w) (base := base) tx
  refine tx.F_ways_one_on.ok sc_ways_one_on (fun vs H Q E h => ?_) (fun cdv A outer s H vs Q E hr h => ?_)
  · obtain ⟨q, m, w, ps, rfl, _⟩ := h
    rfl
  · obtain ⟨q, m, w, ps, rfl , hm, hg, gw, hW, k⟩ := h
    have hu := hu9 hr
    refine Z.root (Z.pss_cons (Z.ps_set (i := 2) sc_ways_one_on.nd rfl (Or.inl rfl) Z.pe_dnewG)
      (Z.pss_cons (Z.ps_for PassesOwn.never rfl (Z.pi_items (Z.pv 1)) (Z.pg_tupK (K' := K) (n := 2) rfl (Z.pgs_cons (Z.pg_name (i := 3) sc_ways_one_on.nd rfl (Or.inl rfl)) (Z.pgs_cons (Z.pg_name (i := 4) sc_ways_one_on.nd rfl (Or.inl rfl)) Z.pgs_nil))) (Z.pss_one (Z.ps_for PassesOwn.never rfl (Z.pi_tupK (K' := K) (Z.tup2 Z.pe_int Z.pe_int)) (Z.pg_name (i := 5) sc_ways_one_on.nd rfl (Or.inl rfl)) (Z.pss_one (Z.ps_if (Z.pt_val (Z.pe_callN (G_may_be) (hr.mono (by decide)) (by rfl) tx.g_may_be tx.F_may_be.kp tx.b_may_be .nil pass0 (Z.pa_c (Z.pv 0) (Z.pa_c (Z.pv 3) (Z.pa_c (Z.pv 5) Z.pa_nil))))) (Z.pss_cons (Z.ps_set (i := 6) sc_ways_one_on.nd rfl (Or.inl rfl) (Z.pe_callN (G_state_after) (hr.mono (by decide)) (by rfl) tx.g_state_after tx.F_state_after.kp tx.b_state_after .nil pass0 (Z.pa_c (Z.pv 0) (Z.pa_c (Z.pv 3) (Z.pa_c (Z.pv 5) Z.pa_nil)))))
      (Z.pss_one (Z.ps_dput hu (Z.pv 2) (Z.pv 6) (Z.pe_op op_addG (Z.pe_dget2 hu (Z.pv 2) (Z.pv 6) Z.pe_int) (Z.pv 4))))) Z.pss_nil)))))
      (Z.pss_one (Z.ps_ret (Z.pv 2))))) ?_
    have hmD := hm.delT gw
    refine rd_start (σ := [some (.ref q), some (.ref w), none, none, none, none, none]) rfl ?_
    walk_at "w"
    refine rd_dnewT' ?_
    intro l nl
    obtain ⟨H1, i1, s1, g1⟩ := nw _ nl; rw [i1]
    have gw1 := s1 _ _ gw
    have lw : l ≠ w := fun z => by rw [z, gw] at nl; cases nl
    have nlD : del w H l = none := by rw [del_at lw]; exact nl
    walk_at "w"
    refine rd_im gw1 fun ob => ?_
    obtain ⟨H2, i2, k2, g2⟩ := wr H1 w _; rw [i2]
    have g12 := k2 _ _ g1 lw
    have S2 : Same (del w H) H2 := fun b o e => k2 _ _ (s1 _ _ (del_le _ _ e)) (fun z => by rw [z, del_l] at e; cases e)
    refine rf_items (kvs := enc ps) (fun i σ' H' => ∃ (ps' : List WP) (z3 z4 z5 z6 : Option V), σ' = [some (.ref q), some (.ref w), some (.ref l), z3, z4, z5, z6] ∧ H' l = some (.dT (enc ps')) ∧ Ways ps' ∧ (∀ s, s ∈ ps'.map (·.1) ↔ ∃ q ∈ (ps.take i).map (·.1), On m q s) ∧ Same (del w H) H' ∧ H' w = some (.frz ob (.dT (enc ps))))
      ⟨[], _, _, _, _, rfl, g12, ⟨List.nodup_nil, fun p hp => by cases hp⟩, fun s => ⟨(fun h => by cases h), (fun ⟨q, h, _⟩ => by simp at h)⟩, S2, g2⟩ (fun i σ' H' hi ⟨_, _, _, _, _, _, _, _, _, _, h⟩ => h) (fun i kv σ' H' T b hk ⟨ps', z3, z4, z5, z6, e, gl, hW', hs, S', gw'⟩ nT gb => ?_) (fun σ' H' ⟨ps', z3, z4, z5, z6, e, gl, hW', hs, S', gw'⟩ => ?_)
    · subst e
      obtain ⟨p, ep, rfl⟩ := enc_at hk
      have hst := hW.st p (List.mem_of_getElem? ep)
      have gb0 : H' b = some (.tup [.int p.1.1, .int p.1.2]) := gb
      obtain ⟨H3, i3, s3, gT⟩ := nw _ nT; rw [i3]
      refine rd_gtup (SqT.of gT) rfl ?_
      walk_at "w"
      intro Tu nTu
      obtain ⟨H4, i4, s4, gTu⟩ := nw _ nTu; rw [i4]
      have gl4 := (s3.trans s4) _ _ gl
      have gb4 := (s3.trans s4) _ _ gb0
      have gw4 := (s3.trans s4) _ _ gw'
      have S4 := S'.trans (s3.trans s4)
      have Tul : Tu ≠ l := fun z => by rw [z, gl4] at gTu; cases gTu
      have bl : b ≠ l := fun z => by rw [z, gl4] at gb4; cases gb4
      walk_at "w"
      refine rd_ti (SqT.of gTu) ?_
      refine rf_tup (xs := ([0, 1] : List Int).map V.int) (fun j σ' H' => ∃ (ps' : List WP) (z5 z6 : Option V), σ' = [some (.ref q), some (.ref w), some (.ref l), some (.ref b), some (.int p.2), z5, z6] ∧ H' l = some (.dT (enc ps')) ∧ Ways ps' ∧ (∀ s, s ∈ ps'.map (·.1) ↔ (∃ q ∈ (ps.take i).map (·.1), On m q s) ∨ ∃ on ∈ ([0, 1] : List Int).take j, (p.1.1 = on ∨ p.1.2 = 0) ∧ s = aft m p.1.1 p.1.2 on) ∧ Same (del w H) H' ∧ Keep l H4 H')
        ⟨ps', _, _, rfl, gl4, hW', fun s => by rw [hs s]; simp, S4, fun _ _ e _ => e⟩ (fun j σ' H' hj ⟨_, _, _, _, _, _, _, _, h⟩ => SqT.of (h _ _ gTu Tul)) (fun j v σ' H5 hv ⟨ps', z5, z6, e, gl5, hW5, hs5, S5, k5⟩ => ?_) (fun σ' H5 ⟨ps', z5, z6, e, gl5, hW5, hs5, S5, k5⟩ => ?_)
      · subst e
        obtain ⟨on, eon, rfl⟩ := int_get hv
        have bon : Bit on := by
          have := List.mem_of_getElem? eon
          simp at this
          exact this
        have gb5 := k5 _ _ gb4 bl
        have tk : ([0, 1] : List Int).take (j + 1) = ([0, 1] : List Int).take j ++ [on] := by rw [List.take_add_one, eon]; rfl
        walk_at "w"
        refine ⟨_, b, _, _, on, rfl, gb5, ?_⟩
        by_cases hmay : p.1.1 = on ∨ p.1.2 = 0
        · rw [show (decide (p.1.1 = on) || decide (p.1.2 = 0)) = true by simpa using hmay]
          walk_at "w"
          refine ⟨q, m, b, _, _, on, rfl, hmD.same S5, gb5, hmay, fun T2 H6 s6 nT2 gT2 => ?_⟩
          have gl6 := s6 _ _ gl5
          have gk : H6 T2 = some (.tup ((encK (aft m p.1.1 p.1.2 on)).map kV)) := gT2
          have hle := hW5.len
          walk_at "w"
          refine ⟨l, rfl, .inr ⟨_, .inl gl6⟩, ?_⟩
          walk_at "w"
          refine ⟨_, DGet.t gl6 gk, ?_⟩
          rw [enc_get, opt_int]
          walk_at "w"
          refine ⟨l, _, rfl, DPut.t gl6 gk (Nat.lt_of_lt_of_le (by rw [enc_len]; omega : (enc ps').length < 1000) (sz_le (by decide))), ?_⟩
          rw [enc_put]
          obtain ⟨H7, i7, k7, g7⟩ := wr H6 l _; rw [i7]
          walk_at "w"
          refine ⟨_, _, _, rfl, g7, hW5.add (hst.aft hg bon) p.2, fun s => ?_, fun b o e => k7 _ _ ((S5.trans s6) _ _ e) (ne_none nlD e), k5.trans (s6.keep.trans k7)⟩
          rw [addW_keys, hs5 s, tk]
          constructor
          · rintro ((h | ⟨on', h1, h2⟩) | h)
            · exact .inl h
            · exact .inr ⟨on', List.mem_append_left _ h1, h2⟩
            · exact .inr ⟨on, List.mem_append_right _ (.head _), hmay, h⟩
          · rintro (h | ⟨on', h1, h2, h3⟩)
            · exact .inl (.inl h)
            · rcases List.mem_append.mp h1 with z | z
              · exact .inl (.inr ⟨on', z, h2, h3⟩)
              · rw [List.mem_singleton.mp z] at h3; exact .inr h3
        · rw [show (decide (p.1.1 = on) || decide (p.1.2 = 0)) = false by simpa using hmay]
          walk_at "w"
          refine ⟨ps', _, _, rfl, gl5, hW5, fun s => ?_, S5, k5⟩
          rw [hs5 s, tk]
          constructor
          · rintro (h | ⟨on', h1, h2⟩)
            · exact .inl h
            · exact .inr ⟨on', List.mem_append_left _ h1, h2⟩
          · rintro (h | ⟨on', h1, h2, h3⟩)
            · exact .inl h
            · rcases List.mem_append.mp h1 with z | z
              · exact .inr ⟨on', z, h2, h3⟩
              · rw [List.mem_singleton.mp z] at h2; exact absurd h2 hmay
      · subst e
        refine ⟨ps', _, _, _, _, rfl, gl5, hW5, fun s => ?_, S5, k5 _ _ gw4 (Ne.symm lw)⟩
        rw [hs5 s, take_snoc ep, List.map_append]
        constructor
        · rintro (⟨q, h1, h2⟩ | ⟨on', h1, h2, h3⟩)
          · exact ⟨q, List.mem_append_left _ h1, h2⟩
          · exact ⟨p.1, List.mem_append_right _ (.head _), on', by simpa [Bit] using h1, h2, h3⟩
        · rintro ⟨q, h1, on', b1, h2, h3⟩
          rcases List.mem_append.mp h1 with z | z
          · exact .inl ⟨q, z, on', b1, h2, h3⟩
          · rw [show q = p.1 by simpa using z] at h2 h3
            exact .inr ⟨on', by rcases b1 with rfl | rfl <;> simp, h2, h3⟩
    · subst e
      walk_at "w"
      refine k l ps' H' S' nl gl hW' fun s => ?_
      rw [hs s, enc_len, List.take_length]
theorem rd_lam {t : TE} {σ σ' : St} {H : Hp} {Q : VK} (e : σ' = σ) (h : t σ H Q) : t σ' H Q := e ▸ h
theorem cut_take (xs : List V) (m : Nat) : cutV xs none (some (m : Int)) = xs.take m := by
  unfold cutV
  rw [HT.sIx_none, HT.sIx_nat, List.drop_zero, Nat.sub_zero]
  by_cases h : m ≤ xs.length
  · rw [Nat.min_eq_left h]
  · rw [Nat.min_eq_right (by omega), List.take_length, List.take_of_length_le (by omega)]
theorem cut_drop (xs : List V) (m : Nat) : cutV xs (some (m : Int)) none = xs.drop m := by
  unfold cutV
  rw [HT.sIx_nat, HT.sIx_none]
  by_cases h : m ≤ xs.length
  · rw [Nat.min_eq_left h]
    exact List.take_of_length_le (by rw [List.length_drop]; exact Nat.le_refl _)
  · rw [Nat.min_eq_right (by omega), List.drop_length, List.drop_of_length_le (by omega)]
    simp
theorem RL.one {α : Type} {P : Addr → α → Prop} {a : Addr} {x : α} (h : P a x) : RL P [a] [x] := ⟨rfl, fun j q u hq hu => by
  match j, hq, hu with
  | 0, hq, hu => cases hq; cases hu; exact h
  | _ + 1, hq, _ => simp at hq⟩
theorem enc_keys (ps : List WP) : (enc ps).map (·.1) = (ps.map fun p => [p.1.1, p.1.2]).map fun t => t.map Sum.inl := by
  unfold enc
  rw [List.map_map, List.map_map]
  rfl
theorem states_sorted {H : Hp} {ps : List WP} {qs : List Addr} {us : List (List Int)} (nd : (ps.map (·.1)).Nodup) (hT : TupsAt H qs us) (hp : us.Perm (ps.map fun p => [p.1.1, p.1.2])) (hs : us.Pairwise fun a b => lexB b a = false) :
    ∃ ks : List (Int × Int), ks.Pairwise sLt ∧ (∀ s, s ∈ ks ↔ s ∈ ps.map (·.1)) ∧ PVs κS H (qs.map V.ref) ks := by
  have hform : ∀ u ∈ us, u = [u.getD 0 0, u.getD 1 0] := fun u hu => by
    obtain ⟨p, _, rfl⟩ := List.mem_map.mp (hp.mem_iff.mp hu)
    rfl
  have pk : (us.map fun u => (u.getD 0 0, u.getD 1 0)).Perm (ps.map (·.1)) := by
    have := hp.map fun u => (u.getD 0 0, u.getD 1 0)
    rw [List.map_map] at this
    exact this
  have ndk := pk.nodup_iff.mpr nd
  refine ⟨us.map fun u => (u.getD 0 0, u.getD 1 0), ?_, fun s => pk.mem_iff, ?_⟩
  · rw [List.pairwise_map]
    have nd' : us.Pairwise fun a b => (a.getD 0 0, a.getD 1 0) ≠ (b.getD 0 0, b.getD 1 0) := List.pairwise_map.mp ndk
    refine (hs.and nd').imp_of_mem ?_
    intro a b ha hb ⟨h1, h2⟩
    rw [hform a ha, hform b hb] at h1
    generalize a.getD 0 0 = a0 at h1 h2 ⊢
    generalize a.getD 1 0 = a1 at h1 h2 ⊢
    generalize b.getD 0 0 = b0 at h1 h2 ⊢
    generalize b.getD 1 0 = b1 at h1 h2 ⊢
    unfold sLt
    show a0 < b0 ∨ (a0 = b0 ∧ a1 < b1)
    by_cases e0 : a0 = b0
    · subst e0
      by_cases e1 : a1 = b1
      · exact absurd (by rw [e1]) h2
      · rw [lexB_cons, if_pos rfl, lexB_cons, if_neg (fun z => e1 z.symm)] at h1
        have := of_decide_eq_false h1
        omega
    · rw [lexB_cons, if_neg (fun z => e0 z.symm)] at h1
      have := of_decide_eq_false h1
      omega
  · refine ⟨by rw [List.length_map, List.length_map, hT.len], fun i v x h1 h2 => ?_⟩
    rw [List.getElem?_map] at h1 h2
    obtain ⟨q, e1, rfl⟩ := Option.map_eq_some_iff.mp h1
    obtain ⟨u, e2, rfl⟩ := Option.map_eq_some_iff.mp h2
    have := (hT.at_ i q u e1 e2).1
    rw [hform u (List.mem_of_getElem? e2)] at this
    exact ⟨q, rfl, this⟩
def sp_states_by_hour (K : PySem.W.Frag) (C : Addr) : Sp := fun vs H Q _ => ∃ (q : Addr) (m : MS) (t : Addr) (a : Int × Int) (n : Nat), vs = [.ref q, .ref t, .int (n : Int)] ∧ MachAt C H q m ∧ m.Good ∧ H t = some (.tup [.int a.1, .int a.2]) ∧ St1 m a ∧ n ≤ 1000 ∧
  ∀ la Ls H', Same H H' → H la = none → LayAt κS H' la Ls → LayR m a Ls → Ls.length = n + 1 → Q (.ref la) H'
set_option maxHeartbeats 40000000 in
theorem ok_states_by_hour {P : Program} {w : World} {K : PySem.W.Frag} {mg : Str → Option Value} {base : Heap} {a : Adr} (tx : Txt K mg a) : FnOk P w K mg base CX0 4 a.f_states_by_hour a.d_states_by_hour ["machine", "state", "hours"] (sp_states_by_hour K a.c_Machine) := by
  have G_ways_one_on := ok_ways_one_on (P := P) (w := w) (base := base) tx
  refine tx.F_states_by_hour.ok sc_states_by_hour (fun vs H Q E h => ?_) (fun cdv A outer s H vs Q E hr h => ?_)
  · obtain ⟨q, m, t, st, n, rfl, _⟩ := h
    rfl
  · obtain ⟨q, m, t, st, n, rfl , hm, hg, ht, hst, hn, k⟩ := h
    have hu := hu9 hr
    refine Z.root (Z.pss_cons (Z.ps_set (i := 3) sc_states_by_hour.nd rfl (Or.inl rfl) (Z.pe_dict1 hu (Z.pv 1) Z.pe_int))
      (Z.pss_cons (Z.ps_set (i := 4) sc_states_by_hour.nd rfl (Or.inl rfl) (Z.lst1 (Z.lst1 (Z.pv 1))))
      (Z.pss_cons (Z.ps_for PassesOwn.never rfl (Z.pi_range1N (by rfl) tx.z_range (Z.pa_c (Z.pv 2) Z.pa_nil)) (Z.pg_name (i := 5) sc_states_by_hour.nd rfl (Or.inl rfl)) (Z.pss_cons (Z.ps_set (i := 3) sc_states_by_hour.nd rfl (Or.inl rfl) (Z.pe_callN (G_ways_one_on) (hr.mono (by decide)) (by rfl) tx.g_ways_one_on tx.F_ways_one_on.kp tx.b_ways_one_on .nil pass0 (Z.pa_c (Z.pv 0) (Z.pa_c (Z.pv 3) Z.pa_nil))))
      (Z.pss_one (Z.ps_expr (Z.pe_appK (K' := K) (Z.pv 4) (Z.pa_c (Z.pe_callBN (rc := rSortK) (call_sortedK rfl) (by rfl) tx.z_sorted bt_sorted (Z.pa_c (Z.pv 3) Z.pa_nil)) Z.pa_nil))))))
      (Z.pss_one (Z.ps_ret (Z.pv 4)))))) ?_
    refine rd_start (σ := [some (.ref q), some (.ref t), some (.int (n : Int)), none, none, none]) rfl ?_
    walk_at "w"
    intro w nw0
    obtain ⟨H1, i1, s1, g1⟩ := nw _ nw0; rw [i1]
    have ht1 := s1 _ _ ht
    walk_at "w"
    refine ⟨t, encK st, rfl, ht1, g1, ?_⟩
    obtain ⟨H2, i2, k2, g2⟩ := wr H1 w _; rw [i2]
    have S2 : Same H H2 := fun b o e => k2 _ _ (s1 _ _ e) (ne_none nw0 e)
    walk_at "w"
    intro l0 nl0
    obtain ⟨H3, i3, s3, g3⟩ := nw _ nl0; rw [i3]
    walk_at "w"
    intro la nla
    obtain ⟨H4, i4, s4, g4⟩ := nw _ nla; rw [i4]
    have S4 : Same H H4 := S2.trans (s3.trans s4)
    have nlaH : H la = none := (S2.trans s3).free nla
    have g24 := (s3.trans s4) _ _ g2
    have g34 := s4 _ _ g3
    have ht4 := S4 _ _ ht
    have wla : w ≠ la := fun z => by rw [z, g4] at g24; cases g24
    walk_at "w"
    refine ⟨by omega, by omega, ?_⟩
    refine rf_range (fun i σ' H' => ∃ (w : Addr) (ps : List WP) (as : List Addr) (Ls : List (List (Int × Int))) (z5 : Option V), σ' = [some (.ref q), some (.ref t), some (.int (n : Int)), some (.ref w), some (.ref la), z5] ∧ H w = none ∧ H' w = some (.dT (enc ps)) ∧ Ways ps ∧ (∀ s, s ∈ ps.map (·.1) ↔ Rc m st i s) ∧ Same H H' ∧ H' la = some (.lst (as.map V.ref)) ∧ RL (fun b ps => ∃ us, H' b = some (.lst us) ∧ PVs κS H' us ps ∧ b ≠ la) as Ls ∧ LayR m st Ls ∧ Ls.length = i + 1)
      ⟨w, [(st, 1)], [l0], [[st]], _, rfl, nw0, g24, ⟨by simp, fun p hp => by rw [List.mem_singleton.mp hp]; exact hst.st0 hg⟩, ?_, S4, g4, RL.one ⟨_, g34, ⟨rfl, fun i v x h1 h2 => ?_⟩, fun z => ?_⟩, ⟨fun i ps hi => ?_⟩, rfl⟩ (fun i σ' H' hi ⟨w', ps, as, Ls, z5, e, nw', gw, hW, hk, S', gla, rla, hL, lL⟩ => ?_) (fun σ' H' ⟨w', ps, as, Ls, z5, e, nw', gw, hW, hk, S', gla, rla, hL, lL⟩ => ?_)
    · intro s
      show s ∈ [st] ↔ s = st
      simp
    · match i, h1, h2 with
      | 0, h1, h2 => cases h1; cases h2; exact ⟨t, rfl, ht4⟩
      | _ + 1, h1, _ => simp at h1
    · rw [z, nla] at g3
      cases g3
    · match i, hi with
      | 0, hi => cases hi; exact ⟨by simp, fun s => by show s ∈ [st] ↔ s = st; simp⟩
      | _ + 1, hi => simp at hi
    · subst e
      walk_at "w"
      refine ⟨q, m, w', ps, rfl, hm.same S', hg, gw, hW, fun w2 ps2 H5 s5 nw2 gw2 hW2 hk2 => ?_⟩
      have S5 : Same H H5 := fun b o e => s5 _ _ (del_some (S' _ _ e) (ne_none nw' e))
      have gla5 : H5 la = some (.lst (as.map V.ref)) := s5 _ _ (del_some gla fun z => by rw [z, gw] at gla; cases gla)
      have hk3 : ∀ s, s ∈ ps2.map (·.1) ↔ Rc m st (i + 1) s := fun s => by
        rw [hk2 s]
        exact ⟨fun ⟨p, h1, h2⟩ => ⟨p, (hk p).mp h1, h2⟩, fun ⟨p, h1, h2⟩ => ⟨p, (hk p).mpr h1, h2⟩⟩
      have few := Rc.few hg hst hW2.nd fun k hk => (hk3 k).mp hk
      rw [List.length_map] at few
      have las := rla.len
      walk_at "w"
      refine rd_tyL (SqL.of gla5) ?_
      walk_at "w"
      refine rd_sortK gw2 (enc_keys ps2) (fun t ht => by obtain ⟨p, _, rfl⟩ := List.mem_map.mp ht; simp) (by rw [List.length_map]; omega) fun p qs us np hT hp hs => ?_
      obtain ⟨ks, k1, k2', k3⟩ := states_sorted hW2.nd hT hp hs
      obtain ⟨H6, i6, s6, g6⟩ := nw _ np; rw [i6]
      have npla : p ≠ la := fun z => by rw [z, gla5] at np; cases np
      walk_at "w"
      refine rd_app (xs := as.map V.ref) (s6 _ _ gla5) (Nat.lt_of_lt_of_le (by rw [List.length_map]; omega : (as.map V.ref).length < 20000) (sz_le (by decide))) ?_
      obtain ⟨H7, i7, k7, g7⟩ := wr H6 la _; rw [i7]
      have w2la : w2 ≠ la := fun z => by rw [z, gla5] at gw2; cases gw2
      walk_at "w"
      have hR : RL (fun b ps => ∃ us, H7 b = some (.lst us) ∧ PVs κS H7 us ps ∧ b ≠ la) (as ++ [p]) (Ls ++ [ks]) := by
        refine RL.snoc (rla.imp fun b ps ⟨us, a1, a2, a3⟩ => ?_) ⟨_, k7 _ _ g6 npla, ⟨k3.1, fun i v x h1 h2 => PK.pv_keep (κS.pv_same (k3.2 i v x h1 h2) s6) (s6 _ _ gla5) k7⟩, npla⟩
        have a1' : H5 b = some (.lst us) := s5 _ _ (del_some a1 fun z => by rw [z, gw] at a1; cases a1)
        refine ⟨us, k7 _ _ (s6 _ _ a1') a3, ⟨a2.1, fun i v x h1 h2 => ?_⟩, a3⟩
        obtain ⟨b', e', hb'⟩ := a2.2 i v x h1 h2
        exact PK.pv_keep (κS.pv_same (H := H5) ⟨b', e', s5 _ _ (del_some hb' fun z => by rw [z, gw] at hb'; cases hb')⟩ s6) (s6 _ _ gla5) k7
      have hLL : LayR m st (Ls ++ [ks]) := by
        refine ⟨fun j rs hj => ?_⟩
        by_cases hj2 : j < Ls.length
        · rw [List.getElem?_append_left hj2] at hj
          exact hL.at_ j rs hj
        · have hj3 : j < (Ls ++ [ks]).length := (List.getElem?_eq_some_iff.mp hj).1
          rw [List.length_append, List.length_singleton] at hj3
          obtain rfl : j = Ls.length := by omega
          rw [List.getElem?_append_right (Nat.le_refl _), Nat.sub_self] at hj
          cases hj
          refine ⟨k1, fun s => ?_⟩
          rw [k2' s, hk3 s, lL]
      exact ⟨w2, ps2, as ++ [p], Ls ++ [ks], _, rfl, S'.free nw2, k7 _ _ (s6 _ _ gw2) w2la, hW2, hk3, fun b o e => k7 _ _ (s6 _ _ (S5 _ _ e)) (ne_none nlaH e), by rw [g7, List.map_append]; rfl, hR, hLL, by rw [List.length_append, lL]; rfl⟩
    · subst e
      walk_at "w"
      exact k la Ls H' S' nlaH ⟨as, gla, rla.imp fun b ps ⟨us, a1, a2, _⟩ => ⟨us, a1, a2⟩⟩ hL (by omega)
def sp_next_hours (K : PySem.W.Frag) (C : Addr) : Sp := fun vs H Q _ => ∃ (q : Addr) (m : MS) (t : Addr) (a : Int × Int), vs = [.ref q, .ref t] ∧ MachAt C H q m ∧ m.Good ∧ H t = some (.tup [.int a.1, .int a.2]) ∧ St0 a.1 a.2 ∧
  ∀ l H', Same H H' → WaysAt κS H' l ((([0, 1] : List Int).filter (mayB a)).map fun on => (on, aft m a.1 a.2 on, hcst m a on)) → Q (.ref l) H'
set_option maxHeartbeats 40000000 in
theorem ok_next_hours {P : Program} {w : World} {K : PySem.W.Frag} {mg : Str → Option Value} {base : Heap} {a : Adr} (tx : Txt K mg a) : FnOk P w K mg base CX0 7 a.f_next_hours a.d_next_hours ["machine", "state"] (sp_next_hours K a.c_Machine) := by
  have G_may_be := ok_may_be (P := P) (w := w) (base := base) tx
  have G_run_cost := ok_run_cost (P := P) (w := w) (base := base) tx
  have G_state_after := ok_state_after (P := P) (w := w) (base := base) tx
  refine tx.F_next_hours.ok sc_next_hours (fun vs H Q E h => ?_) (fun cdv A outer s H vs Q E hr h => ?_)
  · obtain ⟨q, m, t, st, rfl, _⟩ := h
    rfl
  · obtain ⟨q, m, t, st, rfl , hm, hg, ht, hst, k⟩ := h
    have hu := hu9 hr
    refine Z.root (Z.pss_one (Z.ps_ret (Z.pe_comp (k := 1) (idx := [0, 1]) (N := ["on", "machine", "state"]) (blk_sc (sc := defScope s_next_hours) (NX := ["machine", "state"]) rfl rfl rfl (by decide +kernel)) rfl (Z.pi_tupK (K' := K) (Z.tup2 Z.pe_int Z.pe_int)) (fun _ _ _ _ => (Z.pg_name (i := 0) (show (["on", "machine", "state"] : List Str).Nodup by decide +kernel) rfl (Or.inl rfl))) (own_name (by decide)) (fun _ _ _ _ => (Z.pts_one (Z.pt_val (Z.pe_callN (G_may_be) (hr.mono (by decide)) (by rfl) tx.g_may_be tx.F_may_be.kp tx.b_may_be .nil pass0 (Z.pa_c (Z.pv 1) (Z.pa_c (Z.pv 2) (Z.pa_c (Z.pv 0) Z.pa_nil))))))) (fun _ _ _ _ => (Z.tup3 (Z.pv 0) (Z.pe_callN (G_state_after) (hr.mono (by decide)) (by rfl) tx.g_state_after tx.F_state_after.kp tx.b_state_after .nil pass0 (Z.pa_c (Z.pv 1) (Z.pa_c (Z.pv 2) (Z.pa_c (Z.pv 0) Z.pa_nil)))) (Z.pe_callN (G_run_cost) (hr.mono (by decide)) (by rfl) tx.g_run_cost tx.F_run_cost.kp tx.b_run_cost .nil pass0 (Z.pa_c (Z.pv 1) (Z.pa_c (Z.pv 2) (Z.pa_c (Z.lst1 (Z.pv 0)) Z.pa_nil))))))))) ?_
    refine rd_start (σ := [some (.ref q), some (.ref t)]) rfl ?_
    walk_at "w"
    intro Tu nTu
    obtain ⟨H1, i1, s1, gTu⟩ := nw _ nTu; rw [i1]
    refine rd_ti (SqT.of gTu) ?_
    refine comp_tup (xs := ([0, 1] : List Int).map V.int) (fun j us H' => Same H1 H' ∧ ∃ as : List Addr, us = as.map V.ref ∧ as.length ≤ j ∧ RL (WayAt κS H') as (((([0, 1] : List Int).take j).filter (mayB st)).map fun on => (on, aft m st.1 st.2 on, hcst m st on))) ⟨Same.refl _, [], rfl, Nat.le_refl _, RL.nil⟩ (sz_le (by simp))
      (fun j us H' hj ⟨s', as, e, la, r⟩ => ⟨SqT.of (s' _ _ gTu), by rw [e, List.length_map]; exact la⟩) (fun j v us H' hv ⟨s', as, e, la, r⟩ => ?_) (fun us H' ⟨s', as, e, la, r⟩ => ?_)
    · obtain ⟨on, eon, rfl⟩ := int_get hv
      have bon : Bit on := by
        have := List.mem_of_getElem? eon
        simp at this
        exact this
      have tk : ([0, 1] : List Int).take (j + 1) = ([0, 1] : List Int).take j ++ [on] := by rw [List.take_add_one, eon]; rfl
      have S' := s1.trans s'
      have ht' := S' _ _ ht
      walk_at "w"
      refine ⟨_, t, _, _, on, rfl, ht', ?_⟩
      by_cases hmay : st.1 = on ∨ st.2 = 0
      · have hmb : mayB st on = true := mayB_iff.mpr hmay
        rw [show (decide (st.1 = on) || decide (st.2 = 0)) = true from hmb]
        walk_at "w"
        refine ⟨q, m, t, _, _, on, rfl, hm.same S', ht', hmay, fun T2 H3 s3 nT2 gT2 => ?_⟩
        walk_at "w"
        intro lo nlo
        obtain ⟨H4, i4, s4, g4⟩ := nw _ nlo; rw [i4]
        walk_at "w"
        refine ⟨q, m, t, _, _, lo, [on], rfl, hm.same (S'.trans (s3.trans s4)), hg, (s3.trans s4) _ _ ht', g4, by simp, ?_, fun H5 s5 => ?_⟩
        · show (if st.1 = on ∨ st.2 = 0 then _ else _) = _
          rw [if_pos hmay]
          rfl
        walk_at "w"
        intro T nT
        obtain ⟨H6, i6, s6, g6⟩ := nw _ nT; rw [i6]
        have s36 := s3.trans (s4.trans (s5.trans s6))
        refine ⟨s'.trans s36, as ++ [T], by rw [e, List.map_append]; rfl, by rw [List.length_append]; simp; omega, ?_⟩
        rw [tk, List.filter_append, List.map_append, List.filter_cons_of_pos hmb]
        exact RL.snoc (r.imp fun _ _ z => z.same s36) ⟨_, g6, T2, rfl, (s4.trans (s5.trans s6)) _ _ gT2⟩
      · have hmb : mayB st on = false := by cases h : mayB st on; rfl; exact absurd (mayB_iff.mp h) hmay
        rw [show (decide (st.1 = on) || decide (st.2 = 0)) = false from hmb]
        walk_at "w"
        refine ⟨s', as, e, by omega, ?_⟩
        rw [tk, List.filter_append, List.map_append, List.filter_cons_of_neg (by rw [hmb]; simp)]
        simpa using r
    · intro l nl
      obtain ⟨H3, i3, s3, g3⟩ := nw _ nl; rw [i3]
      walk_at "w"
      exact k l H3 (s1.trans (s'.trans s3)) ⟨as, by rw [g3, e], r.imp fun _ _ z => z.same s3⟩
def sp_hour_ways (K : PySem.W.Frag) (C : Addr) : Sp := fun vs H Q _ => ∃ (q : Addr) (m : MS) (t : Addr) (a : Int × Int) (p : Int), vs = [.ref q, .ref t, .int p] ∧ MachAt C H q m ∧ m.Good ∧ H t = some (.tup [.int a.1, .int a.2]) ∧ St0 a.1 a.2 ∧ 0 ≤ p ∧ p ≤ 1000000000001 ∧
  ∀ l H', Same H H' → WaysAt κS H' l (rwy m p a) → Q (.ref l) H'
set_option maxHeartbeats 40000000 in
theorem ok_hour_ways {P : Program} {w : World} {K : PySem.W.Frag} {mg : Str → Option Value} {base : Heap} {a : Adr} (tx : Txt K mg a) : FnOk P w K mg base CX0 8 a.f_hour_ways a.d_hour_ways ["machine", "state", "price"] (sp_hour_ways K a.c_Machine) := by
  have G_Machine_gain := ok_Machine_gain (P := P) (w := w) (base := base) tx
  have G_next_hours := ok_next_hours (P := P) (w := w) (base := base) tx
  refine tx.F_hour_ways.ok sc_hour_ways (fun vs H Q E h => ?_) (fun cdv A outer s H vs Q E hr h => ?_)
  · obtain ⟨q, m, t, st, pr, rfl, _⟩ := h
    rfl
  · obtain ⟨q, m, t, st, pr, rfl , hm, hg, ht, hst, p0, p1, k⟩ := h
    have hu := hu9 hr
    refine Z.root (Z.pss_one (Z.ps_ret (Z.pe_comp (k := 3) (idx := [0, 2]) (N := ["on", "later", "cost", "machine", "price"]) (blk_sc (sc := defScope s_hour_ways) (NX := ["machine", "state", "price"]) rfl rfl rfl (by decide +kernel)) rfl (Z.pi_listK (K' := K) (Z.pe_callN (G_next_hours) (hr.mono (by decide)) (by rfl) tx.g_next_hours tx.F_next_hours.kp tx.b_next_hours .nil pass0 (Z.pa_c (Z.pv 0) (Z.pa_c (Z.pv 1) Z.pa_nil)))) (fun _ _ _ _ => (Z.pg_tupK (K' := K) (n := 3) rfl (Z.pgs_cons (Z.pg_name (i := 0) (show (["on", "later", "cost", "machine", "price"] : List Str).Nodup by decide +kernel) rfl (Or.inl rfl)) (Z.pgs_cons (Z.pg_name (i := 1) (show (["on", "later", "cost", "machine", "price"] : List Str).Nodup by decide +kernel) rfl (Or.inl rfl)) (Z.pgs_cons (Z.pg_name (i := 2) (show (["on", "later", "cost", "machine", "price"] : List Str).Nodup by decide +kernel) rfl (Or.inl rfl)) Z.pgs_nil))))) (own_tup (owns_cons (by decide) (owns_cons (by decide) (owns_cons (by decide) owns_nil)))) (fun _ _ _ _ => Z.pts_nil) (fun _ _ _ _ => (Z.tup3 (Z.pv 0) (Z.pv 1) (Z.pe_op op_sub (Z.pv 2) (Z.pe_op op_mulG (Z.pv 0) (Z.pe_meth (Z.pv 3) tx.C_Machine tx.m_Machine_gain (G_Machine_gain) (hr.mono (by decide)) tx.b_Machine_gain .nil pass0 (Z.pa_c (Z.pv 4) Z.pa_nil))))))))) ?_
    refine rd_start (σ := [some (.ref q), some (.ref t), some (.int pr)]) rfl ?_
    walk_at "w"
    refine ⟨q, m, t, st, rfl, hm, hg, ht, hst, fun l H1 s1 hw1 => ?_⟩
    obtain ⟨as, gl, rl⟩ := hw1.ex
    have las := rl.len
    have lfil := rwy_len m pr st
    unfold rwy at lfil
    rw [List.length_map] at las lfil
    refine rd_li (SqL.of gl) ?_
    refine comp_list (xs := as.map V.ref) (fun j us H' => Same H1 H' ∧ ∃ bs : List Addr, us = bs.map V.ref ∧ RL (WayAt κS H') bs ((rwy m pr st).take j)) ⟨Same.refl _, [], rfl, RL.nil⟩ (sz_le (by rw [List.length_map]; omega))
      (fun j us H' hj ⟨s', bs, e, r⟩ => ⟨SqL.of (s' _ _ gl), by rw [e, List.length_map, r.len, List.length_take]; omega⟩) (fun j v us H' hv ⟨s', bs, e, r⟩ => ?_) (fun us H' ⟨s', bs, e, r⟩ => ?_)
    · obtain ⟨a1, w, ea, rfl, ew, vv, g1, hp⟩ := rl.gt hv
      rw [List.getElem?_map] at ew
      obtain ⟨on, eon, rfl⟩ := Option.map_eq_some_iff.mp ew
      have er : (rwy m pr st)[j]? = some (on, aft m st.1 st.2 on, hw m pr st on) := by unfold rwy; rw [List.getElem?_map, eon]; rfl
      obtain ⟨b, rfl, hb⟩ := hp
      have bon : 0 ≤ on ∧ on ≤ 1 := by
        have := (List.mem_filter.mp (List.mem_of_getElem? eon)).1
        simp at this
        omega
      obtain ⟨bo0, bo1⟩ := bon
      refine rd_gtup (SqT.of (s' _ _ g1)) rfl ?_
      walk_at "w"
      have hm2 := hm.same (s1.trans s')
      obtain ⟨dx, pl, hq, _⟩ := hm2.ex
      refine ⟨q, dx, _, rfl, hq, rfl, ?_⟩
      walk_at "w"
      refine ⟨q, m, pr, rfl, hm2, hg, p0, p1, ?_⟩
      walk_at "w"
      intro T nT
      obtain ⟨H3, i3, s3, g3⟩ := nw _ nT; rw [i3]
      refine ⟨s'.trans s3, bs ++ [T], by rw [e, List.map_append]; rfl, ?_⟩
      rw [take_sn er]
      exact RL.snoc (r.imp fun _ _ z => z.same s3) ⟨_, g3, b, rfl, (s'.trans s3) _ _ hb⟩
    · intro l2 nl2
      obtain ⟨H3, i3, s3, g3⟩ := nw _ nl2; rw [i3]
      walk_at "w"
      rw [List.length_map, las, show (([0, 1] : List Int).filter (mayB st)).length = (rwy m pr st).length by unfold rwy; rw [List.length_map], List.take_length] at r
      exact k l2 H3 (s1.trans (s'.trans s3)) ⟨bs, by rw [g3, e], r.imp fun _ _ z => z.same s3⟩
theorem states_ok {K : PySem.W.Frag} {a : Adr} {H : Hp} {x q : Addr} {m : MS} {ps : List Int} (C : Addr → Sp → Prop) (f : Addr) (spc : Sp) (hC : C f spc) (hs : MachAt a.c_Machine H x m) (hg : m.Good) (hq : H q = some (.lst (ps.map V.int))) (ha : ∀ n ∈ ps, Am n)
    (h : ∀ (H' : Hp) (h : Nat) (b : Addr) (p : Int) (Q : VK), Same H H' → H' q = some (.lst (ps.map V.int)) → atI (ps.map V.int) (h : Int) = some (.int p) → sp_hour_ways K a.c_Machine [.ref x, .ref b, .int p] H' Q E0 → spc [.int (h : Int), .ref b] H' Q E0) :
    WaysOk κS C H f (Wr m ps) fun i y => i < ps.length ∧ St0 y.1 y.2 := by
  refine ⟨spc, hC, fun H' i v y Q s' hL hpv hk => ?_⟩
  obtain ⟨b, rfl, hb⟩ := hpv
  obtain ⟨hi, hy⟩ := hL
  have ep : ps[i]? = some ps[i] := List.getElem?_eq_getElem hi
  obtain ⟨a0, a1⟩ := ha _ (List.getElem_mem hi)
  refine h H' i b ps[i] Q s' (s' _ _ hq) (atI_nat (by rw [List.getElem?_map, ep]; rfl)) ⟨x, m, b, y, ps[i], rfl, hs.same s', hg, hb, hy, a0, by omega, fun l H2 s2 hw => hk l H2 s2 ?_⟩
  unfold Wr
  rw [List.getD_eq_getElem?_getD, ep]
  exact hw
def sp_worths_of_states (K : PySem.W.Frag) (C t : Addr) : Sp := fun vs H Q _ => ∃ (x : Addr) (m : MS) (b : Addr) (a : Int × Int) (q : Addr) (ps : List Int), vs = [.ref x, .ref b, .ref q] ∧ H t = some (.ctb lp_worths_of_states lq_worths_of_states) ∧ MachAt C H x m ∧ m.Good ∧ H b = some (.tup [.int a.1, .int a.2]) ∧ St1 m a ∧ H q = some (.lst (ps.map V.int)) ∧ (∀ n ∈ ps, Am n) ∧ ps.length ≤ 48 ∧
  ∀ r Ls H', Same H H' → H r = none → LayR m a Ls → Ls.length = ps.length + 1 → DsAt κS H' r Ls (fun i => wF (Wr m ps) (Ls.length - 1 - i) i) → Q (.ref r) H'
set_option maxHeartbeats 40000000 in
theorem ok_worths_of_states {P : Program} {w : World} {K : PySem.W.Frag} {mg : Str → Option Value} {base : Heap} {a : Adr} (tx : Txt K mg a) : FnOk P w K mg base CX0 12 a.f_worths_of_states a.d_worths_of_states ["machine", "state", "prices"] (sp_worths_of_states K a.c_Machine a.t_worths_of_states) := by
  have G_states_by_hour := ok_states_by_hour (P := P) (w := w) (base := base) tx
  have GL_worths_by_hour := fun base' : Heap => ok_worths_by_hour (P := P) (w := w) (base := base') tx
  refine tx.F_worths_of_states.okC tx.K_worths_of_states sc_worths_of_states (fun vs H Q E h => ?_) (fun A outer s H vs Q E hr h => ?_)
  · obtain ⟨x, m, b, st, q, ps, rfl, _⟩ := h
    rfl
  · obtain ⟨x, m, b, st, q, ps, rfl , gt, hm, hg, hb, hst, hq, ha, hl, k⟩ := h
    have hu := hu9 hr
    refine Z.root (Z.pss_cons (Z.ps_set (i := 3) sc_worths_of_states.nd rfl (Or.inl rfl) (Z.pe_callN (G_states_by_hour) (hr.mono (by decide)) (by rfl) tx.g_states_by_hour tx.F_states_by_hour.kp tx.b_states_by_hour .nil pass0 (Z.pa_c (Z.pv 0) (Z.pa_c (Z.pv 1) (Z.pa_c (Z.pe_callBN (rc := rLen K) call_lenG (by rfl) tx.z_len bt_len (Z.pa_c (Z.pv 2) Z.pa_nil)) Z.pa_nil)))))
      (Z.pss_one (Z.ps_ret (Z.pe_callL (psL := ["hour", "place"]) (N := ["hour", "place", "machine", "prices"]) (idx := [0, 2]) (sp := fun C => sp_worths_by_hour K C) (kc := 8) (GL_worths_by_hour) (hr.mono (by decide)) (by rfl) tx.g_worths_by_hour tx.F_worths_by_hour.kp tx.b_worths_by_hour (fun _ => rfl) (blk_sc (sc := defScope s_worths_of_states) (NX := ["machine", "state", "prices", "layers"]) rfl rfl rfl (by decide +kernel)) rfl rfl rfl rfl (fun _ _ _ _ us hl => match us, hl with | [_, _], _ => rfl) (Z.pe_palC (Z.pv 3) (Z.pe_palL (N := ["hour", "place", "machine", "prices"]) (n := 2) (idx := [0, 2]) rfl tx.K_worths_of_states.hd rfl rfl (blk_sc (sc := defScope s_worths_of_states) (NX := ["machine", "state", "prices", "layers"]) rfl rfl rfl (by decide +kernel)))) (fun _ _ _ _ _ _ _ _ hr hu => (Z.pe_callN (ok_hour_ways tx) (hr.mono (by decide)) (by rfl) tx.g_hour_ways tx.F_hour_ways.kp tx.b_hour_ways .nil pass0 (Z.pa_c (Z.pv 2) (Z.pa_c (Z.pv 1) (Z.pa_c (Z.pe_ixK (K' := K) (Z.pv 3) (Z.pv 0) (fun _ _ => rfl)) Z.pa_nil))))))))) ?_
    refine rd_start (σ := [some (.ref x), some (.ref b), some (.ref q), none]) rfl ?_
    walk_at "w"
    refine ⟨x, m, b, st, ps.length, by rw [List.length_map], hm, hg, hb, hst, by omega, fun la Ls H1 s1 nla hla hL lL => ?_⟩
    walk_at "w"
    refine ⟨s1 _ _ gt, fun f c' H3 Cc s3 hc hC => ?_⟩
    have s03 := s1.trans s3
    refine ⟨Int × Int, κS, la, f, Ls, Wr m ps, _, rfl, hla.same s3, layR_ok hg hst ps (by omega) hL, by omega, states_ok (K := K) (a := a) Cc f _ hC (hm.same s03) hg (s03 _ _ hq) ha (fun H' h b' p Q s' gq hp hsp => ?_), fun i qs y e1 e2 hy => ?_, fun r H4 s4 nr hd => ?_⟩
    · refine ⟨s' _ _ hc, rfl, ?_⟩
      refine rd_lam (σ := [some (.int (h : Int)), some (.ref b'), some (.ref x), some (.ref q)]) rfl ?_
      walk_at "w"
      exact hsp
    · exact ⟨by omega, (Rc.st hg hst (((hL.at_ i qs e1).2 y).mp hy)).1⟩
    · exact k r Ls H4 (s03.trans s4) (s03.free nr) hL lL hd
def sp_cheapest_run (K : PySem.W.Frag) (C t1 t2 : Addr) : Sp := fun vs H Q _ => ∃ (x : Addr) (m : MS) (b : Addr) (a : Int × Int) (q : Addr) (ps : List Int), vs = [.ref x, .ref b, .ref q] ∧ H t1 = some (.ctb lp_worths_of_states lq_worths_of_states) ∧ H t2 = some (.ctb lp_cheapest_run lq_cheapest_run) ∧ MachAt C H x m ∧ m.Good ∧ H b = some (.tup [.int a.1, .int a.2]) ∧ St1 m a ∧ H q = some (.lst (ps.map V.int)) ∧ (∀ n ∈ ps, Am n) ∧ ps.length ≤ 48 ∧
  ∀ T r H', Same H H' → H r = none → H' T = some (.tup [.int (rwF m ps a), .ref r]) → H' r = some (.lst ((rrF m ps a).map V.int)) → Q (.ref T) H'
set_option maxHeartbeats 40000000 in
theorem ok_cheapest_run {P : Program} {w : World} {K : PySem.W.Frag} {mg : Str → Option Value} {base : Heap} {a : Adr} (tx : Txt K mg a) : FnOk P w K mg base CX0 13 a.f_cheapest_run a.d_cheapest_run ["machine", "state", "prices"] (sp_cheapest_run K a.c_Machine a.t_worths_of_states a.t_cheapest_run) := by
  have G_worths_of_states := ok_worths_of_states (P := P) (w := w) (base := base) tx
  have GL_first_row := fun base' : Heap => ok_first_row (P := P) (w := w) (base := base') tx
  refine tx.F_cheapest_run.okC tx.K_cheapest_run sc_cheapest_run (fun vs H Q E h => ?_) (fun A outer s H vs Q E hr h => ?_)
  · obtain ⟨x, m, b, st, q, ps, rfl, _⟩ := h
    rfl
  · obtain ⟨x, m, b, st, q, ps, rfl , gt1, gt2, hm, hg, hb, hst, hq, ha, hl, k⟩ := h
    have hu := hu9 hr
    refine Z.root (Z.pss_cons (Z.ps_set (i := 3) sc_cheapest_run.nd rfl (Or.inl rfl) (Z.pe_callN (G_worths_of_states) (hr.mono (by decide)) (by rfl) tx.g_worths_of_states tx.F_worths_of_states.kp tx.b_worths_of_states .nil pass0 (Z.pa_c (Z.pv 0) (Z.pa_c (Z.pv 1) (Z.pa_c (Z.pv 2) Z.pa_nil)))))
      (Z.pss_cons (Z.ps_set (i := 4) sc_cheapest_run.nd rfl (Or.inl rfl) (Z.pe_callL (psL := ["hour", "place"]) (N := ["hour", "place", "machine", "prices"]) (idx := [0, 2]) (sp := fun C => sp_first_row K C) (kc := 8) (GL_first_row) (hr.mono (by decide)) (by rfl) tx.g_first_row tx.F_first_row.kp tx.b_first_row (fun _ => rfl) (blk_sc (sc := defScope s_cheapest_run) (NX := ["machine", "state", "prices", "worths", "run"]) rfl rfl rfl (by decide +kernel)) rfl rfl rfl rfl (fun _ _ _ _ us hl => match us, hl with | [_, _], _ => rfl) (Z.pe_palC (Z.pv 1) (Z.pe_palC (Z.pv 3) (Z.pe_palL (N := ["hour", "place", "machine", "prices"]) (n := 2) (idx := [0, 2]) rfl tx.K_cheapest_run.hd rfl rfl (blk_sc (sc := defScope s_cheapest_run) (NX := ["machine", "state", "prices", "worths", "run"]) rfl rfl rfl (by decide +kernel))))) (fun _ _ _ _ _ _ _ _ hr hu => (Z.pe_callN (ok_hour_ways tx) (hr.mono (by decide)) (by rfl) tx.g_hour_ways tx.F_hour_ways.kp tx.b_hour_ways .nil pass0 (Z.pa_c (Z.pv 2) (Z.pa_c (Z.pv 1) (Z.pa_c (Z.pe_ixK (K' := K) (Z.pv 3) (Z.pv 0) (fun _ _ => rfl)) Z.pa_nil)))))))
      (Z.pss_one (Z.ps_ret (Z.tup2 (Z.pe_dgetT hu (Z.pe_ixK (K' := K) (Z.pv 3) Z.pe_int (fun _ _ => rfl)) (Z.pv 1)) (Z.pv 4)))))) ?_
    refine rd_start (σ := [some (.ref x), some (.ref b), some (.ref q), none, none]) rfl ?_
    walk_at "w"
    refine ⟨x, m, b, st, q, ps, rfl, gt1, hm, hg, hb, hst, hq, ha, hl, fun lw Ls H1 s1 nlw hL lL hd => ?_⟩
    walk_at "w"
    refine ⟨s1 _ _ gt2, fun f c' H3 Cc s3 hc hC => ?_⟩
    have s03 := s1.trans s3
    have el0 : Ls[0]? = some Ls[0] := List.getElem?_eq_getElem (by omega)
    have in0 : st ∈ Ls[0] := ((hL.at_ 0 _ el0).2 st).mpr rfl
    refine ⟨Int × Int, κS, .ref b, st, Ls[0], lw, f, Ls, Wr m ps, _, rfl, ⟨b, rfl, s03 _ _ hb⟩, hd.same s3, el0, in0, layR_ok hg hst ps (by omega) hL, by omega, states_ok (K := K) (a := a) Cc f _ hC (hm.same s03) hg (s03 _ _ hq) ha (fun H' h b' p Q s' gq hp hsp => ?_), fun i qs y e1 e2 hy => ?_, fun r H4 s4 nr gr => ?_⟩
    · refine ⟨s' _ _ hc, rfl, ?_⟩
      refine rd_lam (σ := [some (.int (h : Int)), some (.ref b'), some (.ref x), some (.ref q)]) rfl ?_
      walk_at "w"
      exact hsp
    · exact ⟨by omega, (Rc.st hg hst (((hL.at_ i qs e1).2 y).mp hy)).1⟩
    · have s04 := s03.trans s4
      obtain ⟨ds, gds, lds, hds⟩ := (hd.same (s3.trans s4)).ex
      have ed : ds[0]? = some ds[0] := List.getElem?_eq_getElem (by omega)
      have h0 := hds 0 _ _ ed el0
      generalize ds[0] = d0 at ed h0
      have ix : atI (ds.map V.ref) 0 = some (.ref d0) := atI_nat (j := 0) (ref_at ed)
      walk_at "w"
      refine ⟨d0, _, rfl, κS.get (v := .ref b) (x := st) h0 ⟨b, rfl, s04 _ _ hb⟩ in0, ?_⟩
      walk_at "w"
      intro T nT
      obtain ⟨H5, i5, s5, g5⟩ := nw _ nT; rw [i5]
      walk_at "w"
      have e1 : Ls.length - 1 = ps.length := by omega
      rw [e1] at gr
      rw [Nat.sub_zero, e1] at g5
      exact k T r H5 (s04.trans s5) (s03.free nr) g5 (s5 _ _ gr)
def sp__law_price (K : PySem.W.Frag) : Sp := fun vs H Q _ => ∃ (p b : Addr) (x y M : Int), vs = [.ref p, .ref b, .int M] ∧ HandAt H p ∧ H b = some (.lst [.int x, .int y]) ∧ 1 ≤ y ∧ y ≤ 50000000000 ∧ Am M ∧
  ∀ (r : Int) H', Am r → HandAt H' p → Keep p H H' → SameQ p H H' → Q (.int r) H'
set_option maxHeartbeats 40000000 in
theorem ok__law_price {P : Program} {w : World} {K : PySem.W.Frag} {mg : Str → Option Value} {base : Heap} {a : Adr} (tx : Txt K mg a) : FnOk P w K mg base CX0 2 a.f__law_price a.d__law_price ["_law_hand", "_law_by", "_law_most"] (sp__law_price K) := by
  have G__law_draw := ok__law_draw (P := P) (w := w) (base := base) tx
  refine tx.F__law_price.ok sc__law_price (fun vs H Q E h => ?_) (fun cdv A outer s H vs Q E hr h => ?_)
  · obtain ⟨p, b, x, y, M, rfl, _⟩ := h
    rfl
  · obtain ⟨p, b, x, y, M, rfl , hh, hb, y0, y1, hM, k⟩ := h
    have hu := hu9 hr
    refine Z.root (Z.pss_one (Z.ps_ret (Z.pe_callBN (call_minG rfl) (by rfl) tx.z_min bt_min (Z.pa_c (Z.pe_callBN (call_maxG rfl) (by rfl) tx.z_max bt_max (Z.pa_c Z.pe_int (Z.pa_c (Z.pe_op op_sub (Z.pe_op op_addG (Z.pe_op op_mulG (Z.pe_ixK (K' := K) (Z.pv 1) Z.pe_int (fun _ _ => rfl)) (Z.pe_callN (G__law_draw) (hr.mono (by decide)) (by rfl) tx.g__law_draw tx.F__law_draw.kp tx.b__law_draw .nil pass0 (Z.pa_c (Z.pv 0) (Z.pa_c Z.pe_int Z.pa_nil)))) (Z.pe_callN (G__law_draw) (hr.mono (by decide)) (by rfl) tx.g__law_draw tx.F__law_draw.kp tx.b__law_draw .nil pass0 (Z.pa_c (Z.pv 0) (Z.pa_c Z.pe_int Z.pa_nil)))) Z.pe_int) Z.pa_nil))) (Z.pa_c (Z.pv 2) Z.pa_nil))))) ?_
    obtain ⟨m0, m1⟩ := hM
    have bp : b ≠ p := hh.nlen hb (by simp)
    refine rd_start (σ := [some (.ref p), some (.ref b), some (.int M)]) rfl ?_
    walk_at "w"
    refine ⟨p, _, rfl, hh, by decide, by decide, fun r1 H1 a1 b1 h1 k1 q1 => ?_⟩
    walk_at "w"
    refine ⟨p, _, rfl, h1, by decide, by decide, fun r2 H2 a2 b2 h2 k2 q2 => ?_⟩
    walk_at "w"
    exact k _ _ ⟨by omega, by omega⟩ h2 (k1.trans k2) (q1.trans q2)
section Mv
variable {α : Type}
def mvW (g : Wy α → Int) (ws : List (Wy α)) : List (Wy α) := ws.map fun w => (w.1, w.2.1, g w)
theorem mv_mem {g : Wy α → Int} {ws : List (Wy α)} {v : Wy α} : v ∈ mvW g ws ↔ ∃ w ∈ ws, v = (w.1, w.2.1, g w) := by
  unfold mvW
  rw [List.mem_map]
  exact ⟨fun ⟨w, h, e⟩ => ⟨w, h, e.symm⟩, fun ⟨w, h, e⟩ => ⟨w, h, e.symm⟩⟩
def sumB (δ : Nat → Int) : Nat → Nat → Int
  | 0, _ => 0
  | k + 1, i => δ i + sumB δ k (i + 1)
theorem wF_moved {W W' : Nat → α → List (Wy α)} {δ : Nat → Int} {L : Nat → α → Prop} {n : Nat} (hl : Lay W n L) (h0 : ∀ i, 0 ≤ δ i) (h : ∀ i x, ∃ g : Wy α → Int, W' i x = mvW g (W i x) ∧ ∀ w, w ∈ W i x → w.2.2 - δ i ≤ g w ∧ g w ≤ w.2.2) : ∀ (k i : Nat) (x : α), i + k ≤ n → L i x → wF W k i x - sumB δ k i ≤ wF W' k i x ∧ wF W' k i x ≤ wF W k i x
  | 0, _, _, _, _ => ⟨by show (0 : Int) - 0 ≤ 0; omega, Int.le_refl _⟩
  | k + 1, i, x, hk, hx => by
    obtain ⟨g, e, hg⟩ := h i x
    have ne := hl.ne i x (by omega) hx
    show leastW (wF W k (i + 1)) (W i x) - (δ i + sumB δ k (i + 1)) ≤ leastW (wF W' k (i + 1)) (W' i x) ∧ leastW (wF W' k (i + 1)) (W' i x) ≤ leastW (wF W k (i + 1)) (W i x)
    constructor
    · obtain ⟨v, hv, ev⟩ := leastW_mem (wF W' k (i + 1)) (ws := W' i x) (by rw [e]; unfold mvW; simpa using ne)
      rw [e] at hv
      obtain ⟨w, hw, rfl⟩ := mv_mem.mp hv
      have ih := (wF_moved hl h0 h k (i + 1) w.2.1 (by omega) (hl.on i x w (by omega) hx hw)).1
      have a := leastW_le (wF W k (i + 1)) hw
      have b := (hg w hw).1
      rw [← ev]
      show _ ≤ g w + wF W' k (i + 1) w.2.1
      omega
    · obtain ⟨w, hw, ew⟩ := leastW_mem (wF W k (i + 1)) ne
      have ih := (wF_moved hl h0 h k (i + 1) w.2.1 (by omega) (hl.on i x w (by omega) hx hw)).2
      have a := leastW_le (wF W' k (i + 1)) (ws := W' i x) (w := (w.1, w.2.1, g w)) (by rw [e]; exact mv_mem.mpr ⟨w, hw, rfl⟩)
      have b := (hg w hw).2
      have a' : leastW (wF W' k (i + 1)) (W' i x) ≤ g w + wF W' k (i + 1) w.2.1 := a
      omega
theorem least_lin {f f' : α → Int} {ws : List (Wy α)} {c d e : Int} (hc : 0 < c) (hf : ∀ w ∈ ws, f' w.2.1 = c * f w.2.1 + e) (ne : ws ≠ []) : leastW f' (mvW (fun w => c * w.2.2 + d) ws) = c * leastW f ws + (d + e) := by
  refine (leastW_eq (m := c * leastW f ws + (d + e)) ?_ fun v hv => ?_).symm
  · obtain ⟨w, hw, ew⟩ := leastW_mem f ne
    refine ⟨(w.1, w.2.1, c * w.2.2 + d), mv_mem.mpr ⟨w, hw, rfl⟩, ?_⟩
    show c * w.2.2 + d + f' w.2.1 = _
    rw [hf w hw, ← ew, Int.mul_add]
    omega
  · obtain ⟨w, hw, rfl⟩ := mv_mem.mp hv
    have a := leastW_le f hw
    have b := Int.mul_le_mul_of_nonneg_left a (Int.le_of_lt hc)
    show _ ≤ c * w.2.2 + d + f' w.2.1
    rw [hf w hw]
    rw [Int.mul_add] at b
    omega
theorem wF_lin {W W' : Nat → α → List (Wy α)} {c d : Int} {L : Nat → α → Prop} {n : Nat} (hl : Lay W n L) (hc : 0 < c) (h : ∀ i x, i < n → W' i x = mvW (fun w => c * w.2.2 + d) (W i x)) : ∀ (k i : Nat) (x : α), i + k ≤ n → L i x → wF W' k i x = c * wF W k i x + (k : Int) * d
  | 0, _, _, _, _ => by show (0 : Int) = c * 0 + 0 * d; simp
  | k + 1, i, x, hk, hx => by
    show leastW (wF W' k (i + 1)) (W' i x) = c * leastW (wF W k (i + 1)) (W i x) + ((k + 1 : Nat) : Int) * d
    rw [h i x (by omega), least_lin hc (fun w hw => wF_lin hl hc h k (i + 1) w.2.1 (by omega) (hl.on i x w (by omega) hx hw)) (hl.ne i x (by omega) hx)]
    rw [show ((k + 1 : Nat) : Int) * d = d + (k : Int) * d by rw [Int.natCast_add, Int.add_mul]; simp; omega]
theorem rowF_lin {W W' : Nat → α → List (Wy α)} {c d : Int} {L : Nat → α → Prop} {n : Nat} (hl : Lay W n L) (hc : 0 < c) (h : ∀ i x, i < n → W' i x = mvW (fun w => c * w.2.2 + d) (W i x)) : ∀ (k i : Nat) (x : α), i + k ≤ n → L i x → rowF W' k i x = rowF W k i x
  | 0, _, _, _, _ => rfl
  | k + 1, i, x, hk, hx => by
    have ne := hl.ne i x (by omega) hx
    have hf : ∀ w ∈ W i x, wF W' k (i + 1) w.2.1 = c * wF W k (i + 1) w.2.1 + (k : Int) * d := fun w hw => wF_lin hl hc h k (i + 1) w.2.1 (by omega) (hl.on i x w (by omega) hx hw)
    have e : firstW (wF W' k (i + 1)) (W' i x) = (firstW (wF W k (i + 1)) (W i x)).map fun w => (w.1, w.2.1, c * w.2.2 + d) := by
      unfold firstW
      rw [h i x (by omega), least_lin hc hf ne]
      unfold mvW
      rw [List.find?_map]
      congr 1
      refine find_congr fun w hw => ?_
      show decide (c * w.2.2 + d + wF W' k (i + 1) w.2.1 = c * leastW (wF W k (i + 1)) (W i x) + (d + (k : Int) * d)) = decide (w.2.2 + wF W k (i + 1) w.2.1 = leastW (wF W k (i + 1)) (W i x))
      rw [hf w hw]
      refine decide_eq_decide.mpr ⟨fun z => ?_, fun z => ?_⟩
      · have y : c * (w.2.2 + wF W k (i + 1) w.2.1) = c * leastW (wF W k (i + 1)) (W i x) := by rw [Int.mul_add]; omega
        exact Int.eq_of_mul_eq_mul_left (by omega) y
      · rw [← z, Int.mul_add]
        omega
    show (match firstW (wF W' k (i + 1)) (W' i x) with | none => [] | some w => w.1 :: rowF W' k (i + 1) w.2.1) = (match firstW (wF W k (i + 1)) (W i x) with | none => [] | some w => w.1 :: rowF W k (i + 1) w.2.1)
    rw [e]
    obtain ⟨w, e1, e2, _⟩ := firstW_some (wF W k (i + 1)) ne
    rw [e1]
    show w.1 :: rowF W' k (i + 1) w.2.1 = w.1 :: rowF W k (i + 1) w.2.1
    rw [rowF_lin hl hc h k (i + 1) w.2.1 (by omega) (hl.on i x w (by omega) hx e2)]
where
  find_congr {β : Type} {p q : β → Bool} : ∀ {l : List β}, (∀ x ∈ l, p x = q x) → l.find? p = l.find? q
    | [], _ => rfl
    | x :: l, h => by
      rw [List.find?_cons, List.find?_cons, h x (.head _)]
      cases q x with
      | true => rfl
      | false => exact find_congr fun y hy => h y (List.mem_cons_of_mem _ hy)
end Mv
theorem mod_nat {r : Int} {n : Nat} (h0 : 0 ≤ r) (hn : 0 < n) : ∃ j : Nat, j < n ∧ r % (n : Int) = (j : Int) := by
  have e1 := Int.emod_nonneg r (b := (n : Int)) (by omega)
  have e2 := Int.emod_lt_of_pos r (b := (n : Int)) (by omega)
  exact ⟨(r % (n : Int)).toNat, by omega, by omega⟩
def sp__law_prices (K : PySem.W.Frag) : Sp := fun vs H Q _ => ∃ (p s b : Addr) (m : MS) (x y : Int) (n : Nat), vs = [.ref p, .ref s, .ref b, .int (n : Int)] ∧ HandAt H p ∧ SpecAt H s m ∧ m.Good ∧ H b = some (.lst [.int x, .int y]) ∧ 1 ≤ y ∧ y ≤ 50000000000 ∧ n ≤ 48 ∧
  ∀ (q : Addr) (ps : List Int) (H' : Hp), H' q = some (.lst (ps.map V.int)) → ps.length = n → (∀ r ∈ ps, Am r) → H q = none → HandAt H' p → Keep p H H' → Q (.ref q) H'
set_option maxHeartbeats 40000000 in
theorem ok__law_prices {P : Program} {w : World} {K : PySem.W.Frag} {mg : Str → Option Value} {base : Heap} {a : Adr} (tx : Txt K mg a) : FnOk P w K mg base CX0 3 a.f__law_prices a.d__law_prices ["_law_hand", "_law_spec_here", "_law_by", "_law_hours"] (sp__law_prices K) := by
  have G__law_draw := ok__law_draw (P := P) (w := w) (base := base) tx
  have G__law_price := ok__law_price (P := P) (w := w) (base := base) tx
  refine tx.F__law_prices.ok sc__law_prices (fun vs H Q E h => ?_) (fun cdv A outer s H vs Q E hr h => ?_)
  · obtain ⟨p, s, b, m, x, y, n, rfl, _⟩ := h
    rfl
  · obtain ⟨p, s, b, m, x, y, n, rfl , hh, hs, hg, hb, y0, y1, hn, k⟩ := h
    have hu := hu9 hr
    refine Z.root (Z.pss_cons (Z.ps_set (i := 4) sc__law_prices.nd rfl (Or.inl rfl) (Z.pe_lst Z.pa_nil))
      (Z.pss_cons (Z.ps_set (i := 5) sc__law_prices.nd rfl (Or.inl rfl) (Z.pe_callN (G__law_price) (hr.mono (by decide)) (by rfl) tx.g__law_price tx.F__law_price.kp tx.b__law_price .nil pass0 (Z.pa_c (Z.pv 0) (Z.pa_c (Z.pv 2) (Z.pa_c (Z.pe_op op_pow Z.pe_int Z.pe_int) Z.pa_nil)))))
      (Z.pss_cons (Z.ps_for PassesOwn.never rfl (Z.pi_range1N (by rfl) tx.z_range (Z.pa_c (Z.pv 3) Z.pa_nil)) (Z.pg_name (i := 6) sc__law_prices.nd rfl (Or.inl rfl)) (Z.pss_cons (Z.ps_set (i := 7) sc__law_prices.nd rfl (Or.inl rfl) (Z.pe_callN (G__law_price) (hr.mono (by decide)) (by rfl) tx.g__law_price tx.F__law_price.kp tx.b__law_price .nil pass0 (Z.pa_c (Z.pv 0) (Z.pa_c (Z.pv 2) (Z.pa_c (Z.pe_op op_pow Z.pe_int Z.pe_int) Z.pa_nil)))))
      (Z.pss_cons (Z.ps_if (Z.pt_cmpR (r := rEqG K) (op_eqG hu) (Z.pe_callN (G__law_draw) (hr.mono (by decide)) (by rfl) tx.g__law_draw tx.F__law_draw.kp tx.b__law_draw .nil pass0 (Z.pa_c (Z.pv 0) (Z.pa_c Z.pe_int Z.pa_nil))) Z.pe_int (nomark _)) (Z.pss_one (Z.ps_set (i := 7) sc__law_prices.nd rfl (Or.inl rfl) (Z.pv 5))) Z.pss_nil)
      (Z.pss_cons (Z.ps_if (Z.pw_pt (Z.pw_and (Z.pt_cmpR (r := rNeE K) (op_neE hu) (Z.pe_ixK (K' := K) (Z.pv 1) Z.pe_int (fun _ _ => rfl)) (Z.pe_lst Z.pa_nil) (nomark _)) (Z.pw_and1 (Z.pt_cmpR (r := rEqG K) (op_eqG hu) (Z.pe_callN (G__law_draw) (hr.mono (by decide)) (by rfl) tx.g__law_draw tx.F__law_draw.kp tx.b__law_draw .nil pass0 (Z.pa_c (Z.pv 0) (Z.pa_c Z.pe_int Z.pa_nil))) Z.pe_int (nomark _))))) (Z.pss_one (Z.ps_set (i := 7) sc__law_prices.nd rfl (Or.inl rfl) (Z.pe_callBN (call_minG rfl) (by rfl) tx.z_min bt_min (Z.pa_c (Z.pe_op op_pow Z.pe_int Z.pe_int) (Z.pa_c (Z.pe_op op_addG (Z.pe_ixK (K' := K) (Z.pe_ixK (K' := K) (Z.pe_ixK (K' := K) (Z.pv 1) Z.pe_int (fun _ _ => rfl)) (Z.pe_op op_mod (Z.pe_callN (G__law_draw) (hr.mono (by decide)) (by rfl) tx.g__law_draw tx.F__law_draw.kp tx.b__law_draw .nil pass0 (Z.pa_c (Z.pv 0) (Z.pa_c Z.pe_int Z.pa_nil))) (Z.pe_callBN (rc := rLen K) call_lenG (by rfl) tx.z_len bt_len (Z.pa_c (Z.pe_ixK (K' := K) (Z.pv 1) Z.pe_int (fun _ _ => rfl)) Z.pa_nil))) (fun _ _ => rfl)) Z.pe_int (fun _ _ => rfl)) (Z.pe_callN (G__law_draw) (hr.mono (by decide)) (by rfl) tx.g__law_draw tx.F__law_draw.kp tx.b__law_draw .nil pass0 (Z.pa_c (Z.pv 0) (Z.pa_c Z.pe_int Z.pa_nil)))) Z.pa_nil))))) Z.pss_nil)
      (Z.pss_cons (Z.ps_if (Z.pt_cmpR (r := rEqG K) (op_eqG hu) (Z.pe_callN (G__law_draw) (hr.mono (by decide)) (by rfl) tx.g__law_draw tx.F__law_draw.kp tx.b__law_draw .nil pass0 (Z.pa_c (Z.pv 0) (Z.pa_c Z.pe_int Z.pa_nil))) Z.pe_int (nomark _)) (Z.pss_one (Z.ps_set (i := 7) sc__law_prices.nd rfl (Or.inl rfl) (Z.pe_op op_pow Z.pe_int Z.pe_int))) Z.pss_nil)
      (Z.pss_one (Z.ps_expr (Z.pe_appK (K' := K) (Z.pv 4) (Z.pa_c (Z.pv 7) Z.pa_nil)))))))))
      (Z.pss_one (Z.ps_ret (Z.pv 4)))))) ?_
    have bp : b ≠ p := hh.nlen hb (by simp)
    have e12 : (10 : Int) ^ (12 : Int).toNat = 1000000000000 := by decide
    refine rd_start (σ := [some (.ref p), some (.ref s), some (.ref b), some (.int (n : Int)), none, none, none, none]) rfl ?_
    walk_at "w"
    intro q nq
    obtain ⟨H1, i1, s1, g1⟩ := nw _ nq; rw [i1]
    have qp : q ≠ p := hh.nnew nq
    walk_at "w"
    rw [e12]
    refine ⟨p, b, x, y, _, rfl, hh.same s1, s1 _ _ hb, y0, y1, ⟨by decide, by decide⟩, fun bs H2 abs h2 k2 q2 => ?_⟩
    have g2 := k2 _ _ g1 qp
    have K2 : Keep p H H2 := s1.keep.trans k2
    have Q2 : SameQ p H H2 := (SameQ.of (s1 p)).trans q2
    walk_at "w"
    refine ⟨by omega, by omega, ?_⟩
    rw [Int.toNat_natCast]
    refine rf_range (n := n) (fun i σ' H' => ∃ (ps : List Int) (z6 z7 : Option V), σ' = [some (.ref p), some (.ref s), some (.ref b), some (.int (n : Int)), some (.ref q), some (.int bs), z6, z7] ∧ H' q = some (.lst (ps.map V.int)) ∧ ps.length = i ∧ (∀ r ∈ ps, Am r) ∧ Keep p H H' ∧ SameQ p H H')
      ⟨[], _, _, rfl, g2, rfl, (fun r h => by cases h), K2, Q2⟩ (fun i σ' H3 hi ⟨ps, z6, z7, e, g3, lps, aps, K3, Q3⟩ => ?_) (fun σ' H3 ⟨ps, z6, z7, e, g3, lps, aps, K3, Q3⟩ => ?_)
    · subst e
      have h3 := hh.of K3 Q3
      walk_at "w"
      rw [e12]
      refine ⟨p, b, x, y, _, rfl, h3, K3 _ _ hb bp, y0, y1, ⟨by decide, by decide⟩, fun pr H4 apr h4 k4 q4 => ?_⟩
      have g4 := k4 _ _ g3 qp
      repeat walk_at "st"
      refine rd_seqJ (fun σ' H' => ∃ pr : Int, Am pr ∧ σ' = [some (.ref p), some (.ref s), some (.ref b), some (.int (n : Int)), some (.ref q), some (.int bs), some (.int (0 + (i : Int))), some (.int pr)] ∧ Keep p H4 H' ∧ SameQ p H4 H') (fun N hN => ?_) (fun σ' H6 ⟨pr2, apr2, e, k5, q5⟩ => ?_)
      · walk_at "w"
        refine ⟨p, _, rfl, h4, by decide, by decide, fun r5 H5 a5 b5 h5 k5 q5 => ?_⟩
        walk_at "w"
        refine rd_dec (fun c => ?_) (fun c => ?_)
        · walk_at "w"
          exact hN _ _ ⟨bs, abs, rfl, k5, q5⟩
        · walk_at "w"
          exact hN _ _ ⟨pr, apr, rfl, k5, q5⟩
      subst e
      have K5 : Keep p H H6 := K3.trans (k4.trans k5)
      have Q5 : SameQ p H H6 := Q3.trans (q4.trans q5)
      have g5 := k5 _ _ g4 qp
      have h5 := hh.of K5 Q5
      have hs5 := hs.keep hh K5
      obtain ⟨pl, es, hpc⟩ := hs5.ex
      obtain ⟨qs, gpl, tpl⟩ := hpc.ex
      refine rd_seqJ (fun σ' H' => ∃ pr : Int, Am pr ∧ σ' = [some (.ref p), some (.ref s), some (.ref b), some (.int (n : Int)), some (.ref q), some (.int bs), some (.int (0 + (i : Int))), some (.int pr)] ∧ Keep p H6 H' ∧ SameQ p H6 H') (fun N hN => ?_) (fun σ' H7 ⟨pr3, apr3, e, k7, q7⟩ => ?_)
      · walk_at "w"
        intro l0 nl0
        obtain ⟨H7, i7, s7, g7⟩ := nw _ nl0; rw [i7]
        refine rd_neE (s7 _ _ gpl) g7 ?_
        walk_at "w"
        have h7 := h5.same s7
        cases qs with
        | nil =>
          repeat walk_at "gs"
          exact hN _ _ ⟨pr2, apr2, rfl, s7.keep, SameQ.of (s7 p)⟩
        | cons q0 qr =>
          have lqs := tpl.len
          have mpos : 0 < m.pieces.length := by rw [← lqs]; simp
          have lqm : ((q0 :: qr).map V.ref).length = m.pieces.length := by rw [List.length_map]; exact lqs
          have gpp : pl ≠ p := fun z => by
            obtain ⟨d', c', q', ms', hp', _⟩ := h5.ex
            rw [z, hp'] at gpl
            cases gpl
          repeat walk_at "gs"
          refine ⟨p, _, rfl, h7, by decide, by decide, fun r8 H8 a8 b8 h8 k8 q8 => ?_⟩
          have es8 := k8 _ _ (s7 _ _ es) (h7.nlen (s7 _ _ es) (by simp))
          have gpl8 := k8 _ _ (s7 _ _ gpl) gpp
          have K68 : Keep p H6 H8 := s7.keep.trans k8
          have Q68 : SameQ p H6 H8 := (SameQ.of (s7 p)).trans q8
          walk_at "w"
          refine rd_dec (fun c => ?_) (fun c => ?_)
          · walk_at "w"
            rw [e12]
            refine ⟨p, _, rfl, h8, by decide, by decide, fun r9 H9 a9 b9 h9 k9 q9 => ?_⟩
            have es9 := k9 _ _ es8 (h8.nlen es8 (by simp))
            have gpl9 := k9 _ _ gpl8 gpp
            obtain ⟨jk, hjk, ejk⟩ := mod_nat (n := m.pieces.length) a9 mpos
            have eqk : (q0 :: qr)[jk]? = some ((q0 :: qr)[jk]'(by rw [lqs]; exact hjk)) := List.getElem?_eq_getElem (by rw [lqs]; exact hjk)
            have erk : m.pieces[jk]? = some m.pieces[jk] := List.getElem?_eq_getElem hjk
            have gk6 := tpl.at_ jk _ _ eqk erk
            have pk := hg.pieces.pc m.pieces[jk] (List.getElem_mem hjk)
            generalize (q0 :: qr)[jk]'(by rw [lqs]; exact hjk) = qk at eqk gk6
            generalize m.pieces[jk] = ow at erk gk6 pk
            have ixk : atI ((q0 :: qr).map V.ref) (jk : Int) = some (.ref qk) := atI_nat (ref_at eqk)
            have gk9 : H9 qk = some (.tup [.int ow.1, .int ow.2]) := k9 _ _ (k8 _ _ (s7 _ _ gk6) fun z => h7.ntup _ (by rw [← z]; exact s7 _ _ gk6)) fun z => h8.ntup _ (by rw [← z]; exact k8 _ _ (s7 _ _ gk6) fun z => h7.ntup _ (by rw [← z]; exact s7 _ _ gk6))
            have hl0 : 0 < (m.pieces.length : Int) := by omega
            walk_at "w"
            rw [lqm, ejk]
            walk_at "w"
            refine ⟨p, _, rfl, h9, by decide, by decide, fun r10 H10 a10 b10 h10 k10 q10 => ?_⟩
            obtain ⟨_, _, u0, u1⟩ := pk
            walk_at "w"
            exact hN _ _ ⟨_, ⟨by omega, by omega⟩, rfl, K68.trans (k9.trans k10), Q68.trans (q9.trans q10)⟩
          · walk_at "w"
            exact hN _ _ ⟨pr2, apr2, rfl, K68, Q68⟩
      subst e
      have K7 := K5.trans k7
      have Q7 := Q5.trans q7
      have h7 := hh.of K7 Q7
      have g7 := k7 _ _ g5 qp
      refine rd_seqJ (fun σ' H' => ∃ pr : Int, Am pr ∧ σ' = [some (.ref p), some (.ref s), some (.ref b), some (.int (n : Int)), some (.ref q), some (.int bs), some (.int (0 + (i : Int))), some (.int pr)] ∧ Keep p H7 H' ∧ SameQ p H7 H') (fun N hN => ?_) (fun σ' H9 ⟨pr4, apr4, e, k8, q8⟩ => ?_)
      · walk_at "w"
        refine ⟨p, _, rfl, h7, by decide, by decide, fun r8 H8 a8 b8 h8 k8 q8 => ?_⟩
        walk_at "w"
        refine rd_dec (fun c => ?_) (fun c => ?_)
        · walk_at "w"
          rw [e12]
          walk_at "w"
          exact hN _ _ ⟨_, ⟨by decide, by decide⟩, rfl, k8, q8⟩
        · walk_at "w"
          exact hN _ _ ⟨pr3, apr3, rfl, k8, q8⟩
      subst e
      have K8 := K7.trans k8
      have Q8 := Q7.trans q8
      have g8 := k8 _ _ g7 qp
      walk_at "w"
      refine rd_tyL (SqL.of g8) ?_
      walk_at "w"
      refine rd_app (xs := ps.map V.int) g8 (Nat.lt_of_lt_of_le (by rw [List.length_map]; omega : (ps.map V.int).length < 1000) (sz_le (by decide))) ?_
      obtain ⟨H10, i10, k10, g10⟩ := wr H9 q _; rw [i10]
      walk_at "w"
      refine ⟨ps ++ [pr4], _, _, rfl, by rw [g10, List.map_append]; rfl, by rw [List.length_append, lps]; rfl, fun r hr => ?_, fun d o e nd => k10 _ _ (K8 _ _ e nd) (ne_none nq e), Q8.trans (SameQ.of fun o e => k10 _ _ e (Ne.symm qp))⟩
      rcases List.mem_append.mp hr with z | z
      · exact aps r z
      · rw [List.mem_singleton.mp z]; exact apr4
    · subst e
      walk_at "w"
      exact k q ps H3 g3 lps aps nq (hh.of K3 Q3) K3
theorem gn_mono {p q : Int} (h : p ≤ q) : ∀ {ps : List (Int × Int)}, (∀ t ∈ ps, 1 ≤ t.1) → gn p ps ≤ gn q ps
  | [], _ => Int.le_refl _
  | t :: ps, hp => by
    have a := gn_mono h (ps := ps) fun u hu => hp u (List.mem_cons_of_mem _ hu)
    have b := Int.mul_le_mul_of_nonneg_left (show max (p - t.2) 0 ≤ max (q - t.2) 0 by omega) (show 0 ≤ t.1 by have := hp t (.head _); omega)
    show t.1 * max (p - t.2) 0 + gn p ps ≤ t.1 * max (q - t.2) 0 + gn q ps
    omega
theorem gn_nought : ∀ {ps : List (Int × Int)}, (∀ t ∈ ps, 0 ≤ t.2) → gn 0 ps = 0
  | [], _ => rfl
  | t :: ps, hp => by
    show t.1 * max (0 - t.2) 0 + gn 0 ps = 0
    rw [gn_nought fun u hu => hp u (List.mem_cons_of_mem _ hu), show max (0 - t.2) 0 = 0 by have := hp t (.head _); omega]
    simp
theorem gn_times {p c : Int} (hc : 0 < c) : ∀ {ps : List (Int × Int)}, gn (p * c) (ps.map fun t => (t.1, t.2 * c)) = c * gn p ps
  | [] => by show (0 : Int) = c * 0; simp
  | t :: ps => by
    show t.1 * max (p * c - t.2 * c) 0 + gn (p * c) (ps.map fun t => (t.1, t.2 * c)) = c * (t.1 * max (p - t.2) 0 + gn p ps)
    rw [gn_times hc, show max (p * c - t.2 * c) 0 = max (p - t.2) 0 * c by
      rw [← Int.sub_mul]
      by_cases h : 0 ≤ p - t.2
      · have := Int.mul_nonneg h (Int.le_of_lt hc)
        rw [show max (p - t.2) 0 = p - t.2 by omega]
        omega
      · have := Int.mul_nonneg (show 0 ≤ -(p - t.2) by omega) (Int.le_of_lt hc)
        rw [Int.neg_mul] at this
        rw [show max (p - t.2) 0 = 0 by omega]
        omega, Int.mul_add]
    congr 1
    rw [← Int.mul_assoc, Int.mul_comm]
theorem gnT_mono {m : MS} (g : m.Good) {p q : Int} (h : p ≤ q) : gnT m p ≤ gnT m q := by
  unfold gnT
  have a := gn_mono h (ps := m.pieces) fun t ht => (g.pieces.pc t ht).1
  have b := Int.mul_le_mul_of_nonneg_right h g.least.1
  omega
theorem gnT_0 {m : MS} (g : m.Good) : gnT m 0 = 0 := by
  unfold gnT
  rw [gn_nought fun t ht => (g.pieces.pc t ht).2.2.1]
  simp
theorem rcst_one (m : MS) (o on : Int) (b : Bit on) : rcst m o [on] = m.begin_ * (if on = 1 ∧ o = 0 then 1 else 0) + (if on = 1 then m.run else m.rest) := by
  unfold rcst
  rw [show bgs o [on] 0 = if on = 1 ∧ o = 0 then [((0 : Nat) : Int)] else [] by show (if on = 1 ∧ o = 0 then [((0 : Nat) : Int)] else []) ++ [] = _; rw [List.append_nil]]
  rcases b with rfl | rfl
  · rw [if_neg (by omega), if_neg (by omega), if_neg (by omega)]
    simp
  · rw [if_pos (show (1 : Int) = 1 from rfl)]
    by_cases h : (1 : Int) = 1 ∧ o = 0
    · rw [if_pos h, if_pos h]
      simp
    · rw [if_neg h, if_neg h]
      simp
def drM (m : MS) (e : Int) : MS := { m with run := m.run + e, rest := m.rest + e }
def tmM (m : MS) (c : Int) : MS := { m with begin_ := m.begin_ * c, run := m.run * c, rest := m.rest * c, pieces := m.pieces.map fun t => (t.1, t.2 * c) }
theorem rwy_dear (m : MS) (e p : Int) (s : Int × Int) : rwy (drM m e) p s = mvW (fun w => 1 * w.2.2 + e) (rwy m p s) := by
  unfold rwy mvW
  rw [List.map_map]
  refine List.map_congr_left fun on hon => ?_
  have b : Bit on := by
    have := (List.mem_filter.mp hon).1
    simpa [Bit] using this
  show (on, aft m s.1 s.2 on, hw (drM m e) p s on) = (on, aft m s.1 s.2 on, 1 * hw m p s on + e)
  congr 2
  unfold hw hcst
  rw [rcst_one _ _ _ b, rcst_one _ _ _ b, show gnT (drM m e) p = gnT m p from rfl]
  show m.begin_ * _ + (if on = 1 then m.run + e else m.rest + e) - _ = _
  split <;> split <;> omega
theorem rwy_times (m : MS) {c : Int} (hc : 0 < c) (p : Int) (s : Int × Int) : rwy (tmM m c) (p * c) s = mvW (fun w => c * w.2.2 + 0) (rwy m p s) := by
  unfold rwy mvW
  rw [List.map_map]
  refine List.map_congr_left fun on hon => ?_
  have b : Bit on := by
    have := (List.mem_filter.mp hon).1
    simpa [Bit] using this
  show (on, aft m s.1 s.2 on, hw (tmM m c) (p * c) s on) = (on, aft m s.1 s.2 on, c * hw m p s on + 0)
  congr 2
  unfold hw hcst
  have eg : gnT (tmM m c) (p * c) = c * gnT m p := by
    show p * c * m.least + gn (p * c) (m.pieces.map fun t => (t.1, t.2 * c)) = c * (p * m.least + gn p m.pieces)
    rw [gn_times hc, Int.mul_add]
    congr 1
    rw [Int.mul_comm p c, Int.mul_assoc]
  rw [rcst_one _ _ _ b, rcst_one _ _ _ b, eg]
  show m.begin_ * c * _ + (if on = 1 then m.run * c else m.rest * c) - _ = _
  rcases b with rfl | rfl
  · rw [if_neg (by omega), if_neg (by omega), if_neg (by omega)]
    simp
    rw [Int.mul_comm]
  · rw [if_pos (show (1 : Int) = 1 from rfl), if_pos (show (1 : Int) = 1 from rfl), Int.mul_sub, Int.mul_add]
    by_cases h : (1 : Int) = 1 ∧ s.1 = 0
    · rw [if_pos h]
      simp
      rw [Int.mul_comm c m.begin_, Int.mul_comm c m.run]
    · rw [if_neg h]
      simp
      rw [Int.mul_comm c m.run]
theorem dear_F {m : MS} (g : m.Good) {a : Int × Int} (h : St1 m a) (ps : List Int) (e : Int) : rwF (drM m e) ps a = rwF m ps a + e * (ps.length : Int) ∧ rrF (drM m e) ps a = rrF m ps a := by
  have hl := lay_run g h ps ps.length
  have hw : ∀ i x, i < ps.length → Wr (drM m e) ps i x = mvW (fun w => 1 * w.2.2 + e) (Wr m ps i x) := fun i x _ => rwy_dear m e _ x
  refine ⟨?_, rowF_lin hl (by decide) hw ps.length 0 a (by omega) rfl⟩
  unfold rwF
  rw [wF_lin hl (by decide) hw ps.length 0 a (by omega) rfl, Int.one_mul, Int.mul_comm e]
theorem times_F {m : MS} (g : m.Good) {a : Int × Int} (h : St1 m a) (ps : List Int) {c : Int} (hc : 0 < c) : rwF (tmM m c) (ps.map fun p => p * c) a = rwF m ps a * c ∧ rrF (tmM m c) (ps.map fun p => p * c) a = rrF m ps a := by
  have hl := lay_run g h ps ps.length
  have hw : ∀ i x, i < ps.length → Wr (tmM m c) (ps.map fun p => p * c) i x = mvW (fun w => c * w.2.2 + 0) (Wr m ps i x) := fun i x hi => by
    unfold Wr
    rw [List.getD_eq_getElem?_getD, List.getD_eq_getElem?_getD, List.getElem?_map, List.getElem?_eq_getElem hi]
    exact rwy_times m hc _ x
  have el : (ps.map fun p => p * c).length = ps.length := List.length_map ..
  unfold rwF rrF
  rw [el]
  refine ⟨?_, rowF_lin hl hc hw ps.length 0 a (by omega) rfl⟩
  rw [wF_lin hl hc hw ps.length 0 a (by omega) rfl, Int.mul_zero, Int.add_zero, Int.mul_comm]
theorem sumB_one {j : Nat} {D : Int} : ∀ (k i : Nat), sumB (fun n => if n = j then D else 0) k i = if i ≤ j ∧ j < i + k then D else 0
  | 0, i => by
    show (0 : Int) = _
    rw [if_neg (by omega)]
  | k + 1, i => by
    show (if i = j then D else 0) + sumB _ k (i + 1) = _
    rw [sumB_one k (i + 1)]
    by_cases h : i = j
    · rw [if_pos h, if_neg (by omega), if_pos (by omega)]; omega
    · rw [if_neg h]
      by_cases h2 : i + 1 ≤ j ∧ j < i + 1 + k
      · rw [if_pos h2, if_pos (by omega)]; omega
      · rw [if_neg h2, if_neg (by omega)]; omega
theorem raised_F {m : MS} (g : m.Good) {a : Int × Int} (h : St1 m a) {ps : List Int} {j : Nat} {p q : Int} (hj : ps[j]? = some p) (hq : p ≤ q) : 0 ≤ rwF m ps a - rwF m (ps.set j q) a ∧ rwF m ps a - rwF m (ps.set j q) a ≤ gnT m q - gnT m p := by
  have hl := lay_run g h ps ps.length
  have jl : j < ps.length := (List.getElem?_eq_some_iff.mp hj).1
  have D0 := gnT_mono g hq
  obtain ⟨r1, r2⟩ := wF_moved (W := Wr m ps) (W' := Wr m (ps.set j q)) (δ := fun n => if n = j then gnT m q - gnT m p else 0) hl (fun i => by show 0 ≤ (if i = j then _ else _); split <;> omega) (fun i x => by
    by_cases e : i = j
    · subst e
      refine ⟨fun w => w.2.2 - w.1 * (gnT m q - gnT m p), ?_, fun w hw2 => ?_⟩
      · unfold Wr
        rw [List.getD_eq_getElem?_getD, List.getElem?_set_self jl, List.getD_eq_getElem?_getD, hj]
        show rwy m q x = mvW _ (rwy m p x)
        unfold rwy mvW
        rw [List.map_map]
        refine List.map_congr_left fun on _ => ?_
        show (on, aft m x.1 x.2 on, hw m q x on) = (on, aft m x.1 x.2 on, hw m p x on - on * (gnT m q - gnT m p))
        congr 2
        unfold hw
        rw [Int.mul_sub]
        omega
      · rw [if_pos rfl]
        obtain ⟨on, b, _, rfl⟩ := rwy_mem.mp hw2
        show hw m _ x on - _ ≤ hw m _ x on - on * _ ∧ hw m _ x on - on * _ ≤ hw m _ x on
        rcases b with rfl | rfl
        · rw [Int.zero_mul]; omega
        · rw [Int.one_mul]; omega
    · refine ⟨fun w => w.2.2, ?_, fun w _ => by rw [if_neg e]; show w.2.2 - 0 ≤ w.2.2 ∧ w.2.2 ≤ w.2.2; omega⟩
      unfold Wr
      rw [List.getD_eq_getElem?_getD, List.getElem?_set_ne (fun z => e z.symm), ← List.getD_eq_getElem?_getD]
      unfold mvW
      simp) ps.length 0 a (by omega) rfl
  rw [sumB_one, if_pos (by omega)] at r1
  unfold rwF
  rw [List.length_set]
  omega
theorem row_cost {m : MS} (g : m.Good) {ps : List Int} (hp : ∀ i, ps.getD i 0 = 0) : ∀ {row : List Int} {i : Nat} {s : Int × Int} {v : Int}, rowW (Wr m ps) i s row = some v → v = rcst m s.1 row ∧ Ok m s.1 s.2 row ∧ ∀ c ∈ row, Bit c
  | [], i, s, v, h => by
    cases h
    refine ⟨?_, trivial, fun c hc => by cases hc⟩
    show (0 : Int) = m.begin_ * ((([] : List Int).length : Nat) : Int) + m.run * (([] : List Int).count 1 : Nat) + m.rest * (([] : List Int).count 0 : Nat)
    simp
  | c :: r, i, s, v, h => by
    unfold rowW at h
    cases q : (Wr m ps i s).find? fun w => decide (w.1 = c) with
    | none => rw [q] at h; cases h
    | some w =>
      rw [q] at h
      obtain ⟨u, hu, ev⟩ := Option.map_eq_some_iff.mp h
      have hw' := List.mem_of_find?_eq_some q
      have wc : w.1 = c := of_decide_eq_true (List.find?_some (p := fun w : Wy (Int × Int) => decide (w.1 = c)) q)
      obtain ⟨on, b, may, rfl⟩ := rwy_mem.mp hw'
      have wc' : on = c := wc
      subst wc'
      obtain ⟨i1, i2, i3⟩ := row_cost g hp hu
      have i1' : u = rcst m (aft m s.1 s.2 on).1 r := i1
      rw [aft_fst b] at i1'
      refine ⟨?_, ⟨may, i2⟩, fun x hx => ?_⟩
      · have ev' : hw m (ps.getD i 0) s on + u = v := ev
        rw [hp i] at ev'
        have e1 := rcst_app (m := m) (xs := [on]) (ys := r) (o := s.1) (d := s.2) (fun n hn => by rw [List.mem_singleton.mp hn]; exact b)
        have e2 : (ed m s.1 s.2 [on]).1 = on := aft_fst b
        rw [e2] at e1
        show v = rcst m s.1 ([on] ++ r)
        rw [e1, ← i1', ← ev']
        unfold hw hcst
        rw [gnT_0 g]
        omega
      · rcases List.mem_cons.mp hx with rfl | hx
        · exact b
        · exact i3 x hx
theorem bare_F {m : MS} (g : m.Good) {a : Int × Int} (h : St1 m a) {ps : List Int} (hp : ∀ i, ps.getD i 0 = 0) : rcst m a.1 (rrF m ps a) = rwF m ps a ∧ flt m a.1 a.2 (rrF m ps a) 0 = .non ∧ (rrF m ps a).length = ps.length := by
  obtain ⟨r1, r2⟩ := rowF_ok (lay_run g h ps ps.length) (fun _ _ => rwy_rise _ _ _) ps.length 0 a (by omega) rfl
  obtain ⟨c1, c2, _⟩ := row_cost g hp r1
  exact ⟨c1.symm, flt_ok.mpr c2, r2⟩
def sp__law_times (K : PySem.W.Frag) : Sp := fun vs H Q _ => ∃ (s : Addr) (m : MS) (c : Int), vs = [.ref s, .int c] ∧ SpecAt H s m ∧ m.Good ∧ 0 < c ∧ c ≤ 10 ∧
  ∀ (s' : Addr) (H' : Hp), Same H H' → SpecAt H' s' (tmM m c) → Q (.ref s') H'
set_option maxHeartbeats 40000000 in
theorem ok__law_times {P : Program} {w : World} {K : PySem.W.Frag} {mg : Str → Option Value} {base : Heap} {a : Adr} (tx : Txt K mg a) : FnOk P w K mg base CX0 1 a.f__law_times a.d__law_times ["_law_spec_here", "_law_times_here"] (sp__law_times K) := by
  refine tx.F__law_times.ok sc__law_times (fun vs H Q E h => ?_) (fun cdv A outer s H vs Q E hr h => ?_)
  · obtain ⟨s, m, c, rfl, _⟩ := h
    rfl
  · obtain ⟨s, m, c, rfl , hs, hg, c0, c1, k⟩ := h
    have hu := hu9 hr
    refine Z.root (Z.pss_cons (Z.ps_setC (k := 2) (idx := [1]) (N := ["_law_amount", "_law_rate", "_law_times_here"]) (i := 2) sc__law_times.nd rfl (Or.inl rfl) (blk_sc (sc := defScope s__law_times) (NX := ["_law_spec_here", "_law_times_here", "_law_pieces"]) rfl rfl rfl (by decide +kernel)) rfl (Z.pi_listK (K' := K) (Z.pe_ixK (K' := K) (Z.pv 0) Z.pe_int (fun _ _ => rfl))) (fun _ _ _ _ => (Z.pg_tupK (K' := K) (n := 2) rfl (Z.pgs_cons (Z.pg_name (i := 0) (show (["_law_amount", "_law_rate", "_law_times_here"] : List Str).Nodup by decide +kernel) rfl (Or.inl rfl)) (Z.pgs_cons (Z.pg_name (i := 1) (show (["_law_amount", "_law_rate", "_law_times_here"] : List Str).Nodup by decide +kernel) rfl (Or.inl rfl)) Z.pgs_nil)))) (own_tup (owns_cons (by decide) (owns_cons (by decide) owns_nil))) (fun _ _ _ _ => Z.pts_nil) (fun _ _ _ _ => (Z.tup2 (Z.pv 0) (Z.pe_op op_mulG (Z.pv 1) (Z.pv 2)))))
      (Z.pss_one (Z.ps_ret (Z.pe_op op_addG (Z.pe_slice (rs := rSlG K) sl_G (Z.pv 0) Z.po_none (Z.po_some Z.pe_int)) (Z.lst5 (Z.pe_op op_mulG (Z.pe_ixK (K' := K) (Z.pv 0) Z.pe_int (fun _ _ => rfl)) (Z.pv 1)) (Z.pe_op op_mulG (Z.pe_ixK (K' := K) (Z.pv 0) Z.pe_int (fun _ _ => rfl)) (Z.pv 1)) (Z.pe_op op_mulG (Z.pe_ixK (K' := K) (Z.pv 0) Z.pe_int (fun _ _ => rfl)) (Z.pv 1)) (Z.pe_ixK (K' := K) (Z.pv 0) Z.pe_int (fun _ _ => rfl)) (Z.pv 2)))))) ?_
    obtain ⟨pl, e1, hpc⟩ := hs.ex
    obtain ⟨qs, gpl, tpl⟩ := hpc.ex
    have lqs := tpl.len
    have l4 := hg.pieces.len
    refine rd_start (σ := [some (.ref s), some (.int c), none]) rfl ?_
    walk_at "w"
    refine rd_li (SqL.of gpl) ?_
    refine comp_list (xs := qs.map V.ref) (fun j us H' => Same H H' ∧ ∃ ts : List Addr, us = ts.map V.ref ∧ RL (fun q t => H' q = some (.tup [.int t.1, .int t.2])) ts ((m.pieces.take j).map fun t => (t.1, t.2 * c))) ⟨Same.refl _, [], rfl, RL.nil⟩ (sz_le (by rw [List.length_map]; omega))
      (fun j us H' hj ⟨s', ts, e, r⟩ => ⟨SqL.of (s' _ _ gpl), by rw [e, List.length_map, r.len, List.length_map, List.length_take]; omega⟩) (fun j v us H' hv ⟨s', ts, e, r⟩ => ?_) (fun us H' ⟨s', ts, e, r⟩ => ?_)
    · rw [List.getElem?_map] at hv
      obtain ⟨q, eq, rfl⟩ := Option.map_eq_some_iff.mp hv
      have hj : j < m.pieces.length := by rw [← lqs]; exact (List.getElem?_eq_some_iff.mp eq).1
      have et : m.pieces[j]? = some m.pieces[j] := List.getElem?_eq_getElem hj
      have gq := tpl.at_ j q _ eq et
      generalize m.pieces[j] = t at et gq
      refine rd_gtup (SqT.of (s' _ _ gq)) rfl ?_
      walk_at "w"
      intro T nT
      obtain ⟨H2, i2, s2, g2⟩ := nw _ nT; rw [i2]
      refine ⟨s'.trans s2, ts ++ [T], by rw [e, List.map_append]; rfl, ?_⟩
      rw [take_sn et, List.map_append]
      exact RL.snoc (r.imp fun _ _ z => s2 _ _ z) g2
    rw [List.length_map, lqs, List.take_length] at r
    intro lp nlp
    obtain ⟨H2, i2, s2, g2⟩ := nw _ nlp; rw [i2]
    have S2 := s'.trans s2
    have e12 := S2 _ _ e1
    walk_at "w"
    refine rd_slL (SqL.of e12) fun p1 np1 => ?_
    rw [show (2 : Int) = ((2 : Nat) : Int) from rfl, cut_take]
    obtain ⟨H3, i3, s3, g3⟩ := nw _ np1; rw [i3]
    have e13 := s3 _ _ e12
    walk_at "w"
    intro p2 np2
    obtain ⟨H4, i4, s4, g4⟩ := nw _ np2; rw [i4]
    walk_at "w"
    refine rd_addL (s4 _ _ g3) g4 (sz_le (by simp)) ?_
    intro p3 np3
    obtain ⟨H5, i5, s5, g5⟩ := nw _ np3; rw [i5]
    have s25 := s3.trans (s4.trans s5)
    walk_at "w"
    refine k p3 H5 (S2.trans s25) ⟨lp, g5, ts, by rw [s25 _ _ g2, e], r.len, fun j q t a b => ?_⟩
    exact (s2.trans s25) _ _ (r.at_ j q t a b)
theorem drM_good {m : MS} (g : m.Good) {e : Int} (e0 : 0 ≤ e) (h1 : m.run + e ≤ 1000000000000) (h2 : m.rest + e ≤ 1000000000000) : (drM m e).Good := ⟨g.up, g.down, g.begin_, ⟨by have := g.run.1; show 0 ≤ m.run + e; omega, h1⟩, ⟨by have := g.rest.1; show 0 ≤ m.rest + e; omega, h2⟩, g.least, g.pieces⟩
theorem tmM_good {m : MS} (g : m.Good) {y c : Int} (b : MSB m y) (y1 : y ≤ 1000000000) (c0 : 0 < c) (c1 : c ≤ 10) : (tmM m c).Good := by
  obtain ⟨b1, b2, b3, b4⟩ := b
  have am : ∀ v : Int, 0 ≤ v → v ≤ 8 * y → Am (v * c) := fun v v0 v1 => by
    have a1 := Int.mul_nonneg v0 (Int.le_of_lt c0)
    have a2 := Int.mul_le_mul_of_nonneg_left c1 v0
    exact ⟨a1, by omega⟩
  refine ⟨g.up, g.down, am _ g.begin_.1 (by have := g.begin_.1; omega), am _ g.run.1 (by have := g.run.1; omega), am _ g.rest.1 (by have := g.rest.1; omega), g.least, ⟨by show (m.pieces.map _).length ≤ 4; rw [List.length_map]; exact g.pieces.len, fun t ht => ?_, fun j t u ht hu => ?_⟩⟩
  · obtain ⟨q, hq, rfl⟩ := List.mem_map.mp ht
    obtain ⟨z1, z2, z3⟩ := g.pieces.pc q hq
    exact ⟨z1, z2, am _ z3.1 (b4 q hq)⟩
  · have ht' : (m.pieces.map fun t => (t.1, t.2 * c))[j]? = some t := ht
    have hu' : (m.pieces.map fun t => (t.1, t.2 * c))[j + 1]? = some u := hu
    rw [List.getElem?_map] at ht' hu'
    obtain ⟨q, eq, rfl⟩ := Option.map_eq_some_iff.mp ht'
    obtain ⟨r, er, rfl⟩ := Option.map_eq_some_iff.mp hu'
    exact Int.mul_le_mul_of_nonneg_right (g.pieces.up j q r eq er) (Int.le_of_lt c0)
theorem set_cut {ps : List Int} {j : Nat} {v : Int} (h : j < ps.length) : (ps.take j).map V.int ++ [V.int v] ++ (ps.drop (j + 1)).map V.int = (ps.set j v).map V.int := by
  rw [List.set_eq_take_append_cons_drop, if_pos h, List.map_append, List.map_cons, List.append_assoc]
  rfl
theorem SmV.lpj {H : Hp} {j : Nat} {p q r u : Addr} {m : Int} {ns : List Int} (h1 : H p = some (.tup [.int m, .ref r])) (h2 : H q = some (.tup [.int m, .ref u])) (g1 : H r = some (.lst (ns.map V.int))) (g2 : H u = some (.lst (ns.map V.int))) (hl : ns.length ≤ 1000) : SmV H (j + 3) (.ref p) (.ref q) := by
  refine .inr (.inr (.inr (.inr ⟨p, q, _, _, rfl, rfl, .inl ⟨h1, h2⟩, rfl, by simp, fun i u v hu hv => ?_⟩)))
  match i, hu, hv with
  | 0, hu, hv => cases hu; cases hv; exact SmV.int m
  | 1, hu, hv =>
    cases hu
    cases hv
    refine .inr (.inr (.inr (.inr ⟨_, _, _, _, rfl, rfl, .inr ⟨g1, g2⟩, rfl, by rw [List.length_map]; omega, fun i u v hu hv => ?_⟩)))
    rw [hu] at hv
    cases hv
    obtain ⟨n, _, rfl⟩ := int_get hu
    exact SmV.int n
  | _ + 2, hu, _ => simp at hu
theorem rrF_len {m : MS} (g : m.Good) {a : Int × Int} (h : St1 m a) (ps : List Int) : (rrF m ps a).length = ps.length := (rowF_ok (lay_run g h ps ps.length) (fun _ _ => rwy_rise _ _ _) ps.length 0 a (by omega) rfl).2
def sp__law_one (K : PySem.W.Frag) (C t1 t2 : Addr) : Sp := fun vs H Q _ => ∃ (p s : Addr) (m : MS) (t : Addr) (a : Int × Int) (q : Addr) (ps : List Int) (y : Int), vs = [.ref p, .ref s, .ref t, .ref q] ∧ HandAt H p ∧ SpecAt H s m ∧ m.Good ∧ MSB m y ∧ y ≤ 1000000000 ∧ H t = some (.tup [.int a.1, .int a.2]) ∧ St1 m a ∧ H q = some (.lst (ps.map V.int)) ∧ q ≠ p ∧ (∀ n ∈ ps, 0 ≤ n ∧ n ≤ 100000000000) ∧ ps ≠ [] ∧ ps.length ≤ 48 ∧
  H t1 = some (.ctb lp_worths_of_states lq_worths_of_states) ∧ H t2 = some (.ctb lp_cheapest_run lq_cheapest_run) ∧ t1 ≠ p ∧ t2 ≠ p ∧ ∀ H', HandAt H' p → Keep p H H' → Q (.bl true) H'
set_option maxHeartbeats 40000000 in
theorem ok__law_one {P : Program} {w : World} {K : PySem.W.Frag} {mg : Str → Option Value} {base : Heap} {a : Adr} (tx : Txt K mg a) : FnOk P w K mg base CX0 14 a.f__law_one a.d__law_one ["_law_hand", "_law_spec_here", "_law_state_here", "_law_prices_here"] (sp__law_one K a.c_Machine a.t_worths_of_states a.t_cheapest_run) := by
  have G__law_draw := ok__law_draw (P := P) (w := w) (base := base) tx
  have G__law_gain := ok__law_gain (P := P) (w := w) (base := base) tx
  have G__law_machine := ok__law_machine (P := P) (w := w) (base := base) tx
  have G__law_same := ok__law_same (P := P) (w := w) (base := base) tx 3
  have G__law_times := ok__law_times (P := P) (w := w) (base := base) tx
  have G_cheapest_run := ok_cheapest_run (P := P) (w := w) (base := base) tx
  have G_run_cost := ok_run_cost (P := P) (w := w) (base := base) tx
  refine tx.F__law_one.ok sc__law_one (fun vs H Q E h => ?_) (fun cdv A outer s H vs Q E hr h => ?_)
  · obtain ⟨p, s, m, t, st, q, ps, y, rfl, _⟩ := h
    rfl
  · obtain ⟨p, s, m, t, st, q, ps, y, rfl , hh, hs, hg, hB, y1, ht, hst, hq, qp, hb, hne, hl, gt1, gt2, n1p, n2p, k⟩ := h
    have hu := hu9 hr
    refine Z.root (Z.pss_cons (Z.ps_set (i := 4) sc__law_one.nd rfl (Or.inl rfl) (Z.pe_callN (G__law_machine) (hr.mono (by decide)) (by rfl) tx.g__law_machine tx.F__law_machine.kp tx.b__law_machine .nil pass0 (Z.pa_c (Z.pv 1) Z.pa_nil)))
      (Z.pss_cons (Z.ps_asg (Z.pe_callN (G_cheapest_run) (hr.mono (by decide)) (by rfl) tx.g_cheapest_run tx.F_cheapest_run.kp tx.b_cheapest_run .nil pass0 (Z.pa_c (Z.pv 4) (Z.pa_c (Z.pv 2) (Z.pa_c (Z.pv 3) Z.pa_nil)))) (Z.pg_tupK (K' := K) (n := 2) rfl (Z.pgs_cons (Z.pg_name (i := 5) sc__law_one.nd rfl (Or.inl rfl)) (Z.pgs_cons (Z.pg_name (i := 6) sc__law_one.nd rfl (Or.inl rfl)) Z.pgs_nil))))
      (Z.pss_cons (Z.ps_set (i := 7) sc__law_one.nd rfl (Or.inl rfl) (Z.pe_op op_mod (Z.pe_callN (G__law_draw) (hr.mono (by decide)) (by rfl) tx.g__law_draw tx.F__law_draw.kp tx.b__law_draw .nil pass0 (Z.pa_c (Z.pv 0) (Z.pa_c Z.pe_int Z.pa_nil))) (Z.pe_callBN (rc := rLen K) call_lenG (by rfl) tx.z_len bt_len (Z.pa_c (Z.pv 3) Z.pa_nil))))
      (Z.pss_cons (Z.ps_set (i := 8) sc__law_one.nd rfl (Or.inl rfl) (Z.pe_op op_addG Z.pe_int (Z.pe_callN (G__law_draw) (hr.mono (by decide)) (by rfl) tx.g__law_draw tx.F__law_draw.kp tx.b__law_draw .nil pass0 (Z.pa_c (Z.pv 0) (Z.pa_c (Z.pe_op op_addG (Z.pe_op op_addG Z.pe_int (Z.pe_op op_mod (Z.pe_ixK (K' := K) (Z.pv 1) Z.pe_int (fun _ _ => rfl)) Z.pe_int)) Z.pe_int) Z.pa_nil)))))
      (Z.pss_cons (Z.ps_set (i := 9) sc__law_one.nd rfl (Or.inl rfl) (Z.pe_op op_addG (Z.pe_op op_addG (Z.pe_slice (rs := rSlG K) sl_G (Z.pv 3) Z.po_none (Z.po_some (Z.pv 7))) (Z.lst1 (Z.pe_op op_addG (Z.pe_ixK (K' := K) (Z.pv 3) (Z.pv 7) (fun _ _ => rfl)) (Z.pv 8)))) (Z.pe_slice (rs := rSlG K) sl_G (Z.pv 3) (Z.po_some (Z.pe_op op_addG (Z.pv 7) Z.pe_int)) Z.po_none)))
      (Z.pss_cons (Z.ps_set (i := 10) sc__law_one.nd rfl (Or.inl rfl) (Z.pe_op op_sub (Z.pv 5) (Z.pe_ixK (K' := K) (Z.pe_callN (G_cheapest_run) (hr.mono (by decide)) (by rfl) tx.g_cheapest_run tx.F_cheapest_run.kp tx.b_cheapest_run .nil pass0 (Z.pa_c (Z.pv 4) (Z.pa_c (Z.pv 2) (Z.pa_c (Z.pv 9) Z.pa_nil)))) Z.pe_int (fun _ _ => rfl))))
      (Z.pss_cons (Z.ps_if (Z.pt_not (Z.pt_chain op_le op_le Z.pe_int (Z.pv 10) (Z.pe_op op_sub (Z.pe_callN (G__law_gain) (hr.mono (by decide)) (by rfl) tx.g__law_gain tx.F__law_gain.kp tx.b__law_gain .nil pass0 (Z.pa_c (Z.pv 1) (Z.pa_c (Z.pe_ixK (K' := K) (Z.pv 9) (Z.pv 7) (fun _ _ => rfl)) Z.pa_nil))) (Z.pe_callN (G__law_gain) (hr.mono (by decide)) (by rfl) tx.g__law_gain tx.F__law_gain.kp tx.b__law_gain .nil pass0 (Z.pa_c (Z.pv 1) (Z.pa_c (Z.pe_ixK (K' := K) (Z.pv 3) (Z.pv 7) (fun _ _ => rfl)) Z.pa_nil)))))) (Z.pss_one (Z.ps_ret Z.pe_bl)) Z.pss_nil)
      (Z.pss_cons (Z.ps_set (i := 11) sc__law_one.nd rfl (Or.inl rfl) (Z.pe_op op_addG (Z.pe_op op_addG (Z.pe_slice (rs := rSlG K) sl_G (Z.pv 1) Z.po_none (Z.po_some Z.pe_int)) (Z.lst2 (Z.pe_op op_addG (Z.pe_ixK (K' := K) (Z.pv 1) Z.pe_int (fun _ _ => rfl)) (Z.pv 8)) (Z.pe_op op_addG (Z.pe_ixK (K' := K) (Z.pv 1) Z.pe_int (fun _ _ => rfl)) (Z.pv 8)))) (Z.pe_slice (rs := rSlG K) sl_G (Z.pv 1) (Z.po_some Z.pe_int) Z.po_none)))
      (Z.pss_cons (Z.ps_if (Z.pt_not (Z.pt_val (Z.pe_callN (G__law_same) (hr.mono (by decide)) (by rfl) tx.g__law_same tx.F__law_same.kp tx.b__law_same .nil pass0 (Z.pa_c (Z.pe_callN (G_cheapest_run) (hr.mono (by decide)) (by rfl) tx.g_cheapest_run tx.F_cheapest_run.kp tx.b_cheapest_run .nil pass0 (Z.pa_c (Z.pe_callN (G__law_machine) (hr.mono (by decide)) (by rfl) tx.g__law_machine tx.F__law_machine.kp tx.b__law_machine .nil pass0 (Z.pa_c (Z.pv 11) Z.pa_nil)) (Z.pa_c (Z.pv 2) (Z.pa_c (Z.pv 3) Z.pa_nil)))) (Z.pa_c (Z.tup2 (Z.pe_op op_addG (Z.pv 5) (Z.pe_op op_mulG (Z.pv 8) (Z.pe_callBN (rc := rLen K) call_lenG (by rfl) tx.z_len bt_len (Z.pa_c (Z.pv 3) Z.pa_nil)))) (Z.pv 6)) Z.pa_nil))))) (Z.pss_one (Z.ps_ret Z.pe_bl)) Z.pss_nil)
      (Z.pss_cons (Z.ps_set (i := 12) sc__law_one.nd rfl (Or.inr rfl) (Z.pe_op op_addG Z.pe_int (Z.pe_callN (G__law_draw) (hr.mono (by decide)) (by rfl) tx.g__law_draw tx.F__law_draw.kp tx.b__law_draw .nil pass0 (Z.pa_c (Z.pv 0) (Z.pa_c Z.pe_int Z.pa_nil)))))
      (Z.pss_cons (Z.ps_set (i := 13) sc__law_one.nd rfl (Or.inl rfl) (Z.pe_callN (G_cheapest_run) (hr.mono (by decide)) (by rfl) tx.g_cheapest_run tx.F_cheapest_run.kp tx.b_cheapest_run .nil pass0 (Z.pa_c (Z.pe_callN (G__law_machine) (hr.mono (by decide)) (by rfl) tx.g__law_machine tx.F__law_machine.kp tx.b__law_machine .nil pass0 (Z.pa_c (Z.pe_callN (G__law_times) (hr.mono (by decide)) (by rfl) tx.g__law_times tx.F__law_times.kp tx.b__law_times .nil pass0 (Z.pa_c (Z.pv 1) (Z.pa_c (Z.pv 12) Z.pa_nil))) Z.pa_nil)) (Z.pa_c (Z.pv 2) (Z.pa_c (Z.pe_comp (k := 1) (idx := [12]) (N := ["_law_price_here", "_law_times_here"]) (blk_sc (sc := defScope s__law_one) (NX := ["_law_hand", "_law_spec_here", "_law_state_here", "_law_prices_here", "_law_machine_here", "_law_worth", "_law_run", "_law_at", "_law_more", "_law_raised", "_law_fallen", "_law_dear", "_law_times_here", "_law_found", "_law_bare"]) rfl rfl rfl (by decide +kernel)) rfl (Z.pi_listK (K' := K) (Z.pv 3)) (fun _ _ _ _ => (Z.pg_name (i := 0) (show (["_law_price_here", "_law_times_here"] : List Str).Nodup by decide +kernel) rfl (Or.inl rfl))) (own_name (by decide)) (fun _ _ _ _ => Z.pts_nil) (fun _ _ _ _ => (Z.pe_op op_mulG (Z.pv 0) (Z.pv 1)))) Z.pa_nil)))))
      (Z.pss_cons (Z.ps_if (Z.pt_not (Z.pt_val (Z.pe_callN (G__law_same) (hr.mono (by decide)) (by rfl) tx.g__law_same tx.F__law_same.kp tx.b__law_same .nil pass0 (Z.pa_c (Z.pv 13) (Z.pa_c (Z.tup2 (Z.pe_op op_mulG (Z.pv 5) (Z.pv 12)) (Z.pv 6)) Z.pa_nil))))) (Z.pss_one (Z.ps_ret Z.pe_bl)) Z.pss_nil)
      (Z.pss_cons (Z.ps_set (i := 14) sc__law_one.nd rfl (Or.inl rfl) (Z.pe_callN (G_cheapest_run) (hr.mono (by decide)) (by rfl) tx.g_cheapest_run tx.F_cheapest_run.kp tx.b_cheapest_run .nil pass0 (Z.pa_c (Z.pv 4) (Z.pa_c (Z.pv 2) (Z.pa_c (Z.pe_comp (k := 1) (idx := []) (N := ["_law_price_here"]) (blk_sc (sc := defScope s__law_one) (NX := ["_law_hand", "_law_spec_here", "_law_state_here", "_law_prices_here", "_law_machine_here", "_law_worth", "_law_run", "_law_at", "_law_more", "_law_raised", "_law_fallen", "_law_dear", "_law_times_here", "_law_found", "_law_bare"]) rfl rfl rfl (by decide +kernel)) rfl (Z.pi_listK (K' := K) (Z.pv 3)) (fun _ _ _ _ => (Z.pg_name (i := 0) (show (["_law_price_here"] : List Str).Nodup by decide +kernel) rfl (Or.inl rfl))) (own_name (by decide)) (fun _ _ _ _ => Z.pts_nil) (fun _ _ _ _ => Z.pe_int)) Z.pa_nil)))))
      (Z.pss_one (Z.ps_ret (Z.pe_cmpR (r := rEqG K) (op_eqG hu) (Z.pe_callN (G_run_cost) (hr.mono (by decide)) (by rfl) tx.g_run_cost tx.F_run_cost.kp tx.b_run_cost .nil pass0 (Z.pa_c (Z.pv 4) (Z.pa_c (Z.pv 2) (Z.pa_c (Z.pe_ixK (K' := K) (Z.pv 14) Z.pe_int (fun _ _ => rfl)) Z.pa_nil)))) (Z.pe_ixK (K' := K) (Z.pv 14) Z.pe_int (fun _ _ => rfl)) (nomark _))))))))))))))))) ?_
    have ha : ∀ n ∈ ps, Am n := fun n hn => ⟨(hb n hn).1, by have := (hb n hn).2; omega⟩
    have pos : 0 < ps.length := List.length_pos_iff.mpr hne
    obtain ⟨b1, b2, b3, b4⟩ := hB
    obtain ⟨rst0, rst1⟩ := hg.rest
    obtain ⟨run0, run1⟩ := hg.run
    refine rd_start (σ := [some (.ref p), some (.ref s), some (.ref t), some (.ref q), none, none, none, none, none, none, none, none, none, none, none]) rfl ?_
    walk_at "w"
    refine ⟨s, m, rfl, hs, hg, fun x H1 hm s1 nx => ?_⟩
    walk_at "w"
    refine ⟨x, m, t, st, q, ps, rfl, s1 _ _ gt1, s1 _ _ gt2, hm, hg, s1 _ _ ht, hst, s1 _ _ hq, ha, hl, fun T r H2 s2 nr gT gr => ?_⟩
    have S2 := s1.trans s2
    have lr := rrF_len hg hst ps
    walk_at "w"
    refine rd_gtup (SqT.of gT) rfl ?_
    have h2 := hh.same S2
    have rp : r ≠ p := fun z => by
      obtain ⟨xs', e⟩ := hh.isL
      rw [z, s1 _ _ e] at nr
      cases nr
    walk_at "w"
    refine ⟨p, _, rfl, h2, by decide, by decide, fun r3 H3 a3 c3 h3 k3 _ => ?_⟩
    obtain ⟨j, hj, ej⟩ := mod_ix (ns := ps) a3 hne
    have hq2 := S2 _ _ hq
    have hq3 := k3 _ _ hq2 qp
    have hl0 : 0 < (ps.length : Int) := by omega
    have hs3 := (hs.same S2).keep h2 k3
    have hm3 := (hm.same s2).keep h2 k3
    have gr3 := k3 _ _ gr rp
    have ht3 : H3 t = some (.tup [.int st.1, .int st.2]) := k3 _ _ (S2 _ _ ht) fun z => h2.ntup _ (by rw [← z]; exact S2 _ _ ht)
    have gt13 := k3 _ _ (S2 _ _ gt1) n1p
    have gt23 := k3 _ _ (S2 _ _ gt2) n2p
    obtain ⟨pl3, es3, hpc3⟩ := hs3.ex
    walk_at "w"
    rw [List.length_map, ej]
    walk_at "w"
    have em := Int.emod_nonneg m.rest (b := 1000) (by decide)
    have em2 := Int.emod_lt_of_pos m.rest (b := 1000) (by decide)
    refine ⟨p, _, rfl, h3, by omega, by omega, fun r4 H4 a4 c4 h4 k4 _ => ?_⟩
    have hq4 := k4 _ _ hq3 qp
    have hs4 := hs3.keep h3 k4
    have hm4 := hm3.keep h3 k4
    have gr4 := k4 _ _ gr3 rp
    have ht4 : H4 t = some (.tup [.int st.1, .int st.2]) := k4 _ _ ht3 fun z => h3.ntup _ (by rw [← z]; exact ht3)
    have gt14 := k4 _ _ gt13 n1p
    have gt24 := k4 _ _ gt23 n2p
    have K4 : Keep p H H4 := S2.keep.trans (k3.trans k4)
    have eu : ps[j]? = some ps[j] := List.getElem?_eq_getElem hj
    obtain ⟨u0, u1⟩ := hb _ (List.getElem_mem hj)
    generalize ps[j] = u at eu u0 u1
    have ixu : atI (ps.map V.int) (j : Int) = some (.int u) := atI_nat (by rw [List.getElem?_map, eu]; rfl)
    obtain ⟨e, he⟩ : ∃ e : Int, e = 1 + r4 := ⟨_, rfl⟩
    have e0 : 1 ≤ e := by omega
    have e1 : e ≤ 1100 := by omega
    walk_at "w"
    rw [← he]
    refine rd_slL (SqL.of hq4) fun p1 np1 => ?_
    rw [cut_take, ← List.map_take]
    obtain ⟨H5, i5, s5, g5⟩ := nw _ np1; rw [i5]
    have hq5 := s5 _ _ hq4
    walk_at "w"
    intro p2 np2
    obtain ⟨H6, i6, s6, g6⟩ := nw _ np2; rw [i6]
    walk_at "w"
    refine rd_addL (xs := (ps.take j).map V.int) (zs := [.int (u + e)]) (s6 _ _ g5) g6 (sz_le (by rw [List.length_map, List.length_take]; simp; omega)) ?_
    intro p3 np3
    obtain ⟨H7, i7, s7, g7⟩ := nw _ np3; rw [i7]
    have hq7 := (s6.trans s7) _ _ hq5
    walk_at "w"
    refine rd_slL (SqL.of hq7) fun p4 np4 => ?_
    rw [show (j : Int) + 1 = ((j + 1 : Nat) : Int) by push_cast; rfl, cut_drop, ← List.map_drop]
    obtain ⟨H8, i8, s8, g8⟩ := nw _ np4; rw [i8]
    walk_at "w"
    refine rd_addL (xs := (ps.take j).map V.int ++ [.int (u + e)]) (zs := (ps.drop (j + 1)).map V.int) (s8 _ _ g7) g8 (sz_le (by rw [List.length_append, List.length_map, List.length_map, List.length_take, List.length_drop]; simp; omega)) ?_
    intro p5 np5
    rw [set_cut hj]
    obtain ⟨H9, i9, s9, g9⟩ := nw _ np5; rw [i9]
    have s49 := s5.trans (s6.trans (s7.trans (s8.trans s9)))
    have ha' : ∀ n ∈ ps.set j (u + e), Am n := fun n hn => by
      rcases List.mem_or_eq_of_mem_set hn with z | z
      · exact ha n z
      · rw [z]; exact ⟨by omega, by omega⟩
    walk_at "w"
    refine ⟨x, m, t, st, p5, ps.set j (u + e), rfl, s49 _ _ gt14, s49 _ _ gt24, hm4.same s49, hg, s49 _ _ ht4, hst, g9, ha', by rw [List.length_set]; exact hl, fun T2 r2 H10 s10 nr2 gT2 gr2 => ?_⟩
    have s410 := s49.trans s10
    obtain ⟨f0, f1⟩ := raised_F hg hst eu (show u ≤ u + e by omega)
    have g910 := s10 _ _ g9
    have hq10 := s410 _ _ hq4
    have ixu' : atI ((ps.set j (u + e)).map V.int) (j : Int) = some (.int (u + e)) := atI_nat (by rw [List.getElem?_map, List.getElem?_set_self hj]; rfl)
    walk_at "w"
    refine rd_dec (fun _ => ?_) (fun z => absurd f0 z)
    walk_at "w"
    refine ⟨s, m, u + e, rfl, hs4.same s410, hg, by omega, by omega, fun H11 s11 => ?_⟩
    have hq11 := s11 _ _ hq10
    walk_at "w"
    refine ⟨s, m, u, rfl, (hs4.same s410).same s11, hg, u0, by omega, fun H12 s12 => ?_⟩
    walk_at "w"
    refine rd_decN (fun z => absurd f1 z) (fun _ => ?_)
    have s412 := s410.trans (s11.trans s12)
    have hs12 := hs4.same s412
    obtain ⟨pl, es, hpc⟩ := hs12.ex
    walk_at "w"
    refine rd_slL (SqL.of es) fun p6 np6 => ?_
    rw [show (3 : Int) = ((3 : Nat) : Int) from rfl, cut_take]
    obtain ⟨H13, i13, s13, g13⟩ := nw _ np6; rw [i13]
    have es13 := s13 _ _ es
    walk_at "w"
    intro p7 np7
    obtain ⟨H14, i14, s14, g14⟩ := nw _ np7; rw [i14]
    walk_at "w"
    refine rd_addL (s14 _ _ g13) g14 (sz_le (by simp)) ?_
    intro p8 np8
    obtain ⟨H15, i15, s15, g15⟩ := nw _ np8; rw [i15]
    have es15 := (s14.trans s15) _ _ es13
    walk_at "w"
    refine rd_slL (SqL.of es15) fun p9 np9 => ?_
    rw [show (5 : Int) = ((5 : Nat) : Int) from rfl, cut_drop]
    obtain ⟨H16, i16, s16, g16⟩ := nw _ np9; rw [i16]
    walk_at "w"
    refine rd_addL (s16 _ _ g15) g16 (sz_le (by simp)) ?_
    intro p10 np10
    obtain ⟨H17, i17, s17, g17⟩ := nw _ np10; rw [i17]
    have s1217 := s13.trans (s14.trans (s15.trans (s16.trans s17)))
    have hsd : SpecAt H17 p10 (drM m e) := ⟨pl, g17, hpc.same s1217⟩
    have gd := drM_good hg (e := e) (by omega) (by omega) (by omega)
    have s417 := s412.trans s1217
    walk_at "w"
    refine ⟨p10, drM m e, rfl, hsd, gd, fun xd H18 hmd s18 nxd => ?_⟩
    have s418 := s417.trans s18
    walk_at "w"
    refine ⟨xd, drM m e, t, st, q, ps, rfl, s418 _ _ gt14, s418 _ _ gt24, hmd, gd, s418 _ _ ht4, hst, s418 _ _ hq4, ha, hl, fun T3 r5 H19 s19 nr5 gT3 gr5 => ?_⟩
    have s419 := s418.trans s19
    obtain ⟨d1, d2⟩ := dear_F hg hst ps e
    rw [d1] at gT3
    rw [d2] at gr5
    have hq19 := s419 _ _ hq4
    walk_at "w"
    rw [List.length_map]
    intro T4 nT4
    obtain ⟨H20, i20, s20, g20⟩ := nw _ nT4; rw [i20]
    have s420 := s419.trans s20
    walk_at "w"
    refine ⟨_, _, rfl, SmV.lpj (s20 _ _ gT3) g20 (s20 _ _ gr5) (s420 _ _ gr4) (by omega), fun H21 s21 => ?_⟩
    have s421 := s420.trans s21
    have h21 := h4.same s421
    repeat walk_at "gs"
    refine ⟨p, _, rfl, h21, by decide, by decide, fun r6 H22 a6 c6 h22 k22 _ => ?_⟩
    have K422 : Keep p H4 H22 := s421.keep.trans k22
    have hq22 := K422 _ _ hq4 qp
    have hs22 := hs4.keep h4 K422
    have hm22 := hm4.keep h4 K422
    have gr22 := K422 _ _ gr4 rp
    have ht22 : H22 t = some (.tup [.int st.1, .int st.2]) := K422 _ _ ht4 fun z => h4.ntup _ (by rw [← z]; exact ht4)
    have gt122 := K422 _ _ gt14 n1p
    have gt222 := K422 _ _ gt24 n2p
    obtain ⟨c, hc⟩ : ∃ c : Int, c = 2 + r6 := ⟨_, rfl⟩
    have c0 : 0 < c := by omega
    have c1 : c ≤ 10 := by omega
    walk_at "w"
    rw [← hc]
    refine ⟨s, m, c, rfl, hs22, hg, c0, c1, fun s' H23 s23 hst' => ?_⟩
    have gtm := tmM_good hg ⟨b1, b2, b3, b4⟩ y1 c0 c1
    walk_at "w"
    refine ⟨s', tmM m c, rfl, hst', gtm, fun xt H24 hmt s24 nxt => ?_⟩
    have s2224 := s23.trans s24
    have hq24 := s2224 _ _ hq22
    walk_at "w"
    refine rd_li (SqL.of hq24) ?_
    refine comp_list (xs := ps.map V.int) (fun j us H' => H' = H24 ∧ us = ((ps.take j).map fun n => n * c).map V.int) ⟨rfl, rfl⟩ (sz_le (by rw [List.length_map]; omega))
      (fun j us H' hj ⟨z0, z1⟩ => ⟨by rw [z0]; exact SqL.of hq24, by rw [z1, List.length_map, List.length_map, List.length_take]; omega⟩) (fun j v us H' hv ⟨z0, z1⟩ => ?_) (fun us H' ⟨z0, z1⟩ => ?_)
    · subst z0
      obtain ⟨n, en, rfl⟩ := int_get hv
      obtain ⟨n0, n1⟩ := hb n (List.mem_of_getElem? en)
      walk_at "w"
      refine ⟨rfl, ?_⟩
      rw [z1, take_sn en, List.map_append, List.map_append]
      rfl
    subst z0 z1
    rw [List.length_map, List.take_length]
    intro lm nlm
    obtain ⟨H25, i25, s25, g25⟩ := nw _ nlm; rw [i25]
    have s2225 := s2224.trans s25
    walk_at "w"
    refine ⟨xt, tmM m c, t, st, lm, ps.map fun n => n * c, rfl, s2225 _ _ gt122, s2225 _ _ gt222, hmt.same s25, gtm, s2225 _ _ ht22, hst, g25, fun n hn => ?_, by rw [List.length_map]; exact hl, fun T5 r7 H26 s26 nr7 gT5 gr7 => ?_⟩
    · obtain ⟨n', hn', rfl⟩ := List.mem_map.mp hn
      obtain ⟨n0, n1⟩ := hb n' hn'
      have z1 := Int.mul_nonneg n0 (Int.le_of_lt c0)
      have z2 := Int.mul_le_mul_of_nonneg_left c1 n0
      exact ⟨z1, by omega⟩
    obtain ⟨t1', t2'⟩ := times_F hg hst ps c0
    rw [t1'] at gT5
    rw [t2'] at gr7
    have s2226 := s2225.trans s26
    walk_at "w"
    intro T6 nT6
    obtain ⟨H27, i27, s27, g27⟩ := nw _ nT6; rw [i27]
    have s2227 := s2226.trans s27
    walk_at "w"
    refine ⟨_, _, rfl, SmV.lpj (s27 _ _ gT5) g27 (s27 _ _ gr7) (s2227 _ _ gr22) (by omega), fun H28 s28 => ?_⟩
    have s2228 := s2227.trans s28
    have hq28 := s2228 _ _ hq22
    repeat walk_at "gs"
    refine rd_li (SqL.of hq28) ?_
    refine comp_list (xs := ps.map V.int) (fun j us H' => H' = H28 ∧ us = (List.replicate j (0 : Int)).map V.int) ⟨rfl, rfl⟩ (sz_le (by rw [List.length_map]; omega))
      (fun j us H' hj ⟨z0, z1⟩ => ⟨by rw [z0]; exact SqL.of hq28, by rw [z1, List.length_map, List.length_replicate]; omega⟩) (fun j v us H' hv ⟨z0, z1⟩ => ?_) (fun us H' ⟨z0, z1⟩ => ?_)
    · subst z0
      walk_at "w"
      refine ⟨rfl, ?_⟩
      rw [z1, List.replicate_succ', List.map_append]
      rfl
    subst z0 z1
    rw [List.length_map]
    intro lz nlz
    obtain ⟨H29, i29, s29, g29⟩ := nw _ nlz; rw [i29]
    have s2229 := s2228.trans s29
    walk_at "w"
    refine ⟨x, m, t, st, lz, List.replicate ps.length 0, rfl, s2229 _ _ gt122, s2229 _ _ gt222, hm22.same s2229, hg, s2229 _ _ ht22, hst, g29, fun n hn => by rw [List.eq_of_mem_replicate hn]; exact ⟨by decide, by decide⟩, by rw [List.length_replicate]; exact hl, fun T7 r8 H30 s30 nr8 gT7 gr8 => ?_⟩
    have s2230 := s2229.trans s30
    obtain ⟨w1, w2, w3⟩ := bare_F hg hst (ps := List.replicate ps.length 0) (fun i => by
      rw [List.getD_eq_getElem?_getD, List.getElem?_replicate]
      split <;> rfl)
    rw [List.length_replicate] at w3
    walk_at "w"
    refine ⟨x, m, t, st.1, st.2, r8, rrF m (List.replicate ps.length 0) st, rfl, hm22.same s2230, hg, s2230 _ _ ht22, gr8, by omega, w2, fun H31 s31 => ?_⟩
    rw [w1]
    have gT31 := s31 _ _ gT7
    walk_at "w"
    rw [decide_eq_true rfl]
    exact k H31 ((h22.same s2230).same s31) (K4.trans (K422.trans (s2230.trans s31).keep))
def sp_law (K : PySem.W.Frag) (t1 t2 : Addr) : Sp := fun vs H Q _ => ∃ (a : Addr) (ns : List Int), vs = [.ref a] ∧ SqL K H a (ns.map V.int) ∧ ns.length ≤ 63 ∧ H t1 = some (.ctb lp_worths_of_states lq_worths_of_states) ∧ H t2 = some (.ctb lp_cheapest_run lq_cheapest_run) ∧ ∀ H', Same H H' → Q (.bl true) H'
set_option maxHeartbeats 40000000 in
theorem ok_law {P : Program} {w : World} {K : PySem.W.Frag} {mg : Str → Option Value} {base : Heap} {a : Adr} (tx : Txt K mg a) : FnOk P w K mg base CX0 15 a.f_law a.d_law ["_law_script"] (sp_law K a.t_worths_of_states a.t_cheapest_run) := by
  have G__law_draw := ok__law_draw (P := P) (w := w) (base := base) tx
  have G__law_factor := ok__law_factor (P := P) (w := w) (base := base) tx
  have G__law_one := ok__law_one (P := P) (w := w) (base := base) tx
  have G__law_open := ok__law_open (P := P) (w := w) (base := base) tx
  have G__law_prices := ok__law_prices (P := P) (w := w) (base := base) tx
  have G__law_spec := ok__law_spec (P := P) (w := w) (base := base) tx
  have G__law_state := ok__law_state (P := P) (w := w) (base := base) tx
  refine tx.F_law.ok sc_law (fun vs H Q E h => ?_) (fun cdv A outer s H vs Q E hr h => ?_)
  · obtain ⟨ad, ns, rfl, _⟩ := h
    rfl
  · obtain ⟨ad, ns, rfl , hS, hl, gt1, gt2, k⟩ := h
    have hu := hu9 hr
    refine Z.root (Z.pss_cons (Z.ps_set (i := 1) sc_law.nd rfl (Or.inl rfl) (Z.pe_callN (G__law_open) (hr.mono (by decide)) (by rfl) tx.g__law_open tx.F__law_open.kp tx.b__law_open .nil pass0 (Z.pa_c (Z.pv 0) (Z.pa_c Z.pe_int Z.pa_nil))))
      (Z.pss_cons (Z.ps_set (i := 2) sc_law.nd rfl (Or.inl rfl) (Z.lst2 (Z.pe_op op_addG (Z.pe_op op_mod (Z.pe_callN (G__law_factor) (hr.mono (by decide)) (by rfl) tx.g__law_factor tx.F__law_factor.kp tx.b__law_factor .nil pass0 (Z.pa_c (Z.pv 1) Z.pa_nil)) (Z.pe_op op_pow Z.pe_int Z.pe_int)) Z.pe_int) (Z.pe_op op_addG (Z.pe_op op_mod (Z.pe_callN (G__law_factor) (hr.mono (by decide)) (by rfl) tx.g__law_factor tx.F__law_factor.kp tx.b__law_factor .nil pass0 (Z.pa_c (Z.pv 1) Z.pa_nil)) (Z.pe_op op_pow Z.pe_int Z.pe_int)) Z.pe_int)))
      (Z.pss_cons (Z.ps_for PassesOwn.never rfl (Z.pi_range1N (by rfl) tx.z_range (Z.pa_c (Z.pe_callBN (call_maxG rfl) (by rfl) tx.z_max bt_max (Z.pa_c Z.pe_int (Z.pa_c (Z.pe_callBN (call_minG rfl) (by rfl) tx.z_min bt_min (Z.pa_c (Z.pe_callBN (rc := rLen K) call_lenG (by rfl) tx.z_len bt_len (Z.pa_c (Z.pv 0) Z.pa_nil)) (Z.pa_c Z.pe_int Z.pa_nil))) Z.pa_nil))) Z.pa_nil)) (Z.pg_name (i := 3) sc_law.nd rfl (Or.inl rfl)) (Z.pss_cons (Z.ps_set (i := 1) sc_law.nd rfl (Or.inl rfl) (Z.pe_callN (G__law_open) (hr.mono (by decide)) (by rfl) tx.g__law_open tx.F__law_open.kp tx.b__law_open .nil pass0 (Z.pa_c (Z.pv 0) (Z.pa_c (Z.pv 3) Z.pa_nil))))
      (Z.pss_cons (Z.ps_set (i := 4) sc_law.nd rfl (Or.inl rfl) (Z.pe_callN (G__law_spec) (hr.mono (by decide)) (by rfl) tx.g__law_spec tx.F__law_spec.kp tx.b__law_spec .nil pass0 (Z.pa_c (Z.pv 1) (Z.pa_c (Z.pv 2) (Z.pa_c (Z.pe_ixK (K' := K) (Z.lst2 Z.pe_int Z.pe_int) (Z.pe_op op_fdiv (Z.pe_callN (G__law_draw) (hr.mono (by decide)) (by rfl) tx.g__law_draw tx.F__law_draw.kp tx.b__law_draw .nil pass0 (Z.pa_c (Z.pv 1) (Z.pa_c Z.pe_int Z.pa_nil))) Z.pe_int) (fun _ _ => rfl)) Z.pa_nil)))))
      (Z.pss_cons (Z.ps_set (i := 5) sc_law.nd rfl (Or.inl rfl) (Z.pe_callN (G__law_state) (hr.mono (by decide)) (by rfl) tx.g__law_state tx.F__law_state.kp tx.b__law_state .nil pass0 (Z.pa_c (Z.pv 1) (Z.pa_c (Z.pv 4) Z.pa_nil))))
      (Z.pss_cons (Z.ps_set (i := 6) sc_law.nd rfl (Or.inl rfl) (Z.pe_callN (G__law_prices) (hr.mono (by decide)) (by rfl) tx.g__law_prices tx.F__law_prices.kp tx.b__law_prices .nil pass0 (Z.pa_c (Z.pv 1) (Z.pa_c (Z.pv 4) (Z.pa_c (Z.pv 2) (Z.pa_c (Z.pe_op op_addG Z.pe_int (Z.pe_callN (G__law_draw) (hr.mono (by decide)) (by rfl) tx.g__law_draw tx.F__law_draw.kp tx.b__law_draw .nil pass0 (Z.pa_c (Z.pv 1) (Z.pa_c Z.pe_int Z.pa_nil)))) Z.pa_nil))))))
      (Z.pss_cons (Z.ps_setC (k := 1) (idx := []) (N := ["_law_price_here"]) (i := 6) sc_law.nd rfl (Or.inl rfl) (blk_sc (sc := defScope s_law) (NX := ["_law_script", "_law_hand", "_law_by", "_law_place", "_law_spec_here", "_law_state_here", "_law_prices_here"]) rfl rfl rfl (by decide +kernel)) rfl (Z.pi_listK (K' := K) (Z.pv 6)) (fun _ _ _ _ => (Z.pg_name (i := 0) (show (["_law_price_here"] : List Str).Nodup by decide +kernel) rfl (Or.inl rfl))) (own_name (by decide)) (fun _ _ _ _ => Z.pts_nil) (fun _ _ _ _ => (Z.pe_callBN (call_minG rfl) (by rfl) tx.z_min bt_min (Z.pa_c (Z.pv 0) (Z.pa_c (Z.pe_op op_pow Z.pe_int Z.pe_int) Z.pa_nil)))))
      (Z.pss_one (Z.ps_if (Z.pt_not (Z.pt_val (Z.pe_callN (G__law_one) (hr.mono (by decide)) (by rfl) tx.g__law_one tx.F__law_one.kp tx.b__law_one .nil pass0 (Z.pa_c (Z.pv 1) (Z.pa_c (Z.pv 4) (Z.pa_c (Z.pv 5) (Z.pa_c (Z.pv 6) Z.pa_nil))))))) (Z.pss_one (Z.ps_ret Z.pe_bl)) Z.pss_nil))))))))
      (Z.pss_one (Z.ps_ret Z.pe_bl))))) ?_
    have e9 : (10 : Int) ^ (9 : Int).toNat = 1000000000 := by decide
    have e11 : (10 : Int) ^ (11 : Int).toNat = 100000000000 := by decide
    refine rd_start (σ := [some (.ref ad), none, none, none, none, none, none]) rfl ?_
    walk_at "w"
    refine ⟨ad, ns, _, rfl, hS, hl, by omega, fun p0 H1 s1 np0 hh0 => ?_⟩
    walk_at "w"
    refine ⟨p0, rfl, hh0, fun x' H2 x0' x1' h2 k2 _ => ?_⟩
    walk_at "w"
    rw [e9]
    walk_at "w"
    refine ⟨p0, rfl, h2, fun y' H3 y0' y1' h3 k3 _ => ?_⟩
    walk_at "w"
    rw [e9]
    walk_at "w"
    intro b nb
    obtain ⟨x, hx⟩ : ∃ x : Int, x = x' % 1000000000 + 1 := ⟨_, rfl⟩
    obtain ⟨y, hy⟩ : ∃ y : Int, y = y' % 1000000000 + 1 := ⟨_, rfl⟩
    have x0 : 1 ≤ x := by omega
    have x1 : x ≤ 1000000000 := by omega
    have y0 : 1 ≤ y := by omega
    have y1 : y ≤ 1000000000 := by omega
    rw [← hx, ← hy]
    obtain ⟨H4, i4, s4, gb⟩ := nw _ nb; rw [i4]
    have S4 : Same H H4 := (keep_fresh np0 s1 (k2.trans k3)).trans s4
    walk_at "w"
    refine ⟨by omega, by omega, ?_⟩
    refine rf_range (fun i σ' H' => Same H4 H' ∧ ∃ (z1 z3 z4 z5 z6 : Option V), σ' = [some (.ref ad), z1, some (.ref b), z3, z4, z5, z6]) ⟨Same.refl _, _, _, _, _, _, rfl⟩ (fun i σ' H' hi ⟨s0, z1, z3, z4, z5, z6, e⟩ => ?_) (fun σ' H' ⟨s0, z1, z3, z4, z5, z6, e⟩ => ?_)
    · subst e
      have S0 := S4.trans s0
      walk_at "w"
      refine ⟨ad, ns, _, rfl, Same.seq S0 hS, hl, by omega, fun p H5 s5 np hh => ?_⟩
      have npH4 : H4 p = none := s0.free np
      have S5 : Same H4 H5 := s0.trans s5
      have bp : b ≠ p := ne_none np (s0 _ _ gb)
      walk_at "w"
      intro l3 nl3
      obtain ⟨H6, i6, s6, g6⟩ := nw _ nl3; rw [i6]
      have l3p : l3 ≠ p := hh.nnew nl3
      walk_at "w"
      refine ⟨p, _, rfl, hh.same s6, by decide, by decide, fun r7 H7 a7 b7 h7 k7 _ => ?_⟩
      have g7 := k7 _ _ g6 l3p
      obtain ⟨n, hn, n0, n1⟩ : ∃ n : Int, atI [V.int 3, .int 12] (r7 / 3) = some (.int n) ∧ 1 ≤ n ∧ n ≤ 12 := by
        have : r7 / 3 = 0 ∨ r7 / 3 = 1 := by omega
        rcases this with e | e <;> rw [e]
        · exact ⟨3, rfl, by decide, by decide⟩
        · exact ⟨12, rfl, by decide, by decide⟩
      have K7 : Keep p H5 H7 := s6.keep.trans k7
      have gb7 : H7 b = some (.lst [.int x, .int y]) := K7 _ _ (S5 _ _ gb) bp
      walk_at "w"
      refine ⟨p, b, x, y, n, rfl, h7, gb7, x0, by omega, y0, by omega, n0, n1, fun s m H8 hs hg _ _ hB h8 k8 ns8 => ?_⟩
      walk_at "w"
      refine ⟨p, s, m, rfl, h8, hs, hg, fun t o d H10 ht hst h10 k10 => ?_⟩
      have hs10 := hs.keep h8 k10
      have gb10 : H10 b = some (.lst [.int x, .int y]) := k10 _ _ (k8 _ _ gb7 bp) bp
      walk_at "w"
      refine ⟨p, _, rfl, h10, by decide, by decide, fun r11 H11 a11 b11 h11 k11 _ => ?_⟩
      obtain ⟨nh, rfl⟩ := Int.eq_ofNat_of_zero_le a11
      have nh8 : nh < 24 := by omega
      have hs11 := hs10.keep h10 k11
      have gb11 := k11 _ _ gb10 bp
      have ht11 : H11 t = some (.tup [.int o, .int d]) := k11 _ _ ht fun z => h10.ntup _ (by rw [← z]; exact ht)
      walk_at "w"
      rw [show (1 : Int) + (nh : Int) = ((nh + 1 : Nat) : Int) by push_cast; omega]
      refine ⟨p, s, b, m, x, y, nh + 1, rfl, h11, hs11, hg, gb11, y0, by omega, by omega, fun q ps H12 hq lps aps nq h12 k12 => ?_⟩
      have hs12 := hs11.keep h11 k12
      have ht12 : H12 t = some (.tup [.int o, .int d]) := k12 _ _ ht11 fun z => h11.ntup _ (by rw [← z]; exact ht11)
      have K12 : Keep p H5 H12 := K7.trans (k8.trans (k10.trans (k11.trans k12)))
      have S12 : Same H4 H12 := keep_fresh npH4 S5 K12
      have st1 : St1 m (o, d) := hst
      walk_at "w"
      refine rd_li (SqL.of hq) ?_
      refine comp_list (xs := ps.map V.int) (fun j us H' => H' = H12 ∧ us = ((ps.take j).map fun n => min n 100000000000).map V.int) ⟨rfl, rfl⟩ (sz_le (by rw [List.length_map]; omega))
        (fun j us H' hj ⟨z0, z1⟩ => ⟨by rw [z0]; exact SqL.of hq, by rw [z1, List.length_map, List.length_map, List.length_take]; omega⟩) (fun j v us H' hv ⟨z0, z1⟩ => ?_) (fun us H' ⟨z0, z1⟩ => ?_)
      · subst z0
        obtain ⟨n, en, rfl⟩ := int_get hv
        walk_at "w"
        rw [e11]
        walk_at "w"
        refine ⟨rfl, ?_⟩
        rw [z1, take_sn en, List.map_append, List.map_append]
        rfl
      subst z0 z1
      rw [List.length_map, List.take_length]
      intro q2 nq2
      obtain ⟨H13, i13, s13, g13⟩ := nw _ nq2; rw [i13]
      have q2p : q2 ≠ p := h12.nnew nq2
      have S13 : Same H H13 := S4.trans (S12.trans s13)
      have npH : H p = none := S4.free npH4
      walk_at "w"
      refine ⟨p, s, m, t, (o, d), q2, ps.map fun n => min n 100000000000, y, rfl, h12.same s13, hs12.same s13, hg, hB, y1, s13 _ _ ht12, st1, g13, q2p, fun n hn => ?_, fun z => ?_, by rw [List.length_map]; omega, S13 _ _ gt1, S13 _ _ gt2, ne_none npH gt1, ne_none npH gt2, fun H14 h14 k14 => ?_⟩
      · obtain ⟨n', hn', rfl⟩ := List.mem_map.mp hn
        have := (aps n' hn').1
        exact ⟨by omega, by omega⟩
      · rw [List.map_eq_nil_iff.mp z] at lps
        simp at lps
      repeat walk_at "gs"
      exact ⟨keep_fresh npH4 (S12.trans s13) k14, _, _, _, _, _, rfl⟩
    · subst e
      walk_at "w"
      exact k _ (S4.trans s0)
end My
namespace My
open PySem L2
set_option maxHeartbeats 0 in
theorem all_mk {l : PySem.W.OpenLaw} {w : World} {K : PySem.W.Frag} {h : Heap} {mg : Str → Option Value} {fa : Addr} (X : K.In h) (G : h.Ns mainGlobals mg) (hfa : mg "law" = some (.ref fa))
    {C0 : Addr} {f0 : Addr} {od0 an0 : Option Addr} {sl0 : Array (Option Value)} {oc0 kV0 dc0 pm0 cd0 ct0 : Value} {f1 : Addr} {od1 an1 : Option Addr} {sl1 : Array (Option Value)} {oc1 kV1 dc1 pm1 cd1 ct1 : Value} {f2 : Addr} {od2 an2 : Option Addr} {sl2 : Array (Option Value)} {oc2 kV2 dc2 pm2 cd2 ct2 : Value} {f3 : Addr} {od3 an3 : Option Addr} {sl3 : Array (Option Value)} {oc3 kV3 dc3 pm3 cd3 ct3 : Value} {f4 : Addr} {od4 an4 : Option Addr} {sl4 : Array (Option Value)} {oc4 kV4 dc4 pm4 cd4 ct4 : Value} {f5 : Addr} {od5 an5 : Option Addr} {sl5 : Array (Option Value)} {oc5 kV5 dc5 pm5 cd5 ct5 : Value} {f6 : Addr} {od6 an6 : Option Addr} {sl6 : Array (Option Value)} {oc6 kV6 dc6 pm6 cd6 ct6 : Value} {f7 : Addr} {od7 an7 : Option Addr} {sl7 : Array (Option Value)} {oc7 kV7 dc7 pm7 cd7 ct7 : Value} {f8 : Addr} {od8 an8 : Option Addr} {sl8 : Array (Option Value)} {oc8 kV8 dc8 pm8 cd8 ct8 : Value} {f9 : Addr} {od9 an9 : Option Addr} {sl9 : Array (Option Value)} {oc9 kV9 dc9 pm9 cd9 ct9 : Value} {f10 : Addr} {od10 an10 : Option Addr} {sl10 : Array (Option Value)} {oc10 kV10 dc10 pm10 cd10 ct10 : Value} {f11 : Addr} {od11 an11 : Option Addr} {sl11 : Array (Option Value)} {oc11 kV11 dc11 pm11 cd11 ct11 : Value} {f12 : Addr} {od12 an12 : Option Addr} {sl12 : Array (Option Value)} {oc12 kV12 dc12 pm12 cd12 ct12 : Value} {f13 : Addr} {od13 an13 : Option Addr} {sl13 : Array (Option Value)} {oc13 kV13 dc13 pm13 cd13 ct13 : Value} {f14 : Addr} {od14 an14 : Option Addr} {sl14 : Array (Option Value)} {oc14 kV14 dc14 pm14 cd14 ct14 : Value} {f15 : Addr} {od15 an15 : Option Addr} {sl15 : Array (Option Value)} {oc15 kV15 dc15 pm15 cd15 ct15 : Value} {f16 : Addr} {od16 an16 : Option Addr} {sl16 : Array (Option Value)} {oc16 kV16 dc16 pm16 cd16 ct16 : Value} {f17 : Addr} {od17 an17 : Option Addr} {sl17 : Array (Option Value)} {oc17 kV17 dc17 pm17 cd17 ct17 : Value} {f18 : Addr} {od18 an18 : Option Addr} {sl18 : Array (Option Value)} {oc18 kV18 dc18 pm18 cd18 ct18 : Value} {f19 : Addr} {od19 an19 : Option Addr} {sl19 : Array (Option Value)} {oc19 kV19 dc19 pm19 cd19 ct19 : Value} {f20 : Addr} {od20 an20 : Option Addr} {sl20 : Array (Option Value)} {oc20 kV20 dc20 pm20 cd20 ct20 : Value} {f21 : Addr} {od21 an21 : Option Addr} {sl21 : Array (Option Value)} {oc21 kV21 dc21 pm21 cd21 ct21 : Value} {f22 : Addr} {od22 an22 : Option Addr} {sl22 : Array (Option Value)} {oc22 kV22 dc22 pm22 cd22 ct22 : Value} {f23 : Addr} {od23 an23 : Option Addr} {sl23 : Array (Option Value)} {oc23 kV23 dc23 pm23 cd23 ct23 : Value} {f24 : Addr} {od24 an24 : Option Addr} {sl24 : Array (Option Value)} {oc24 kV24 dc24 pm24 cd24 ct24 : Value} {f25 : Addr} {od25 an25 : Option Addr} {sl25 : Array (Option Value)} {oc25 kV25 dc25 pm25 cd25 ct25 : Value} {f26 : Addr} {od26 an26 : Option Addr} {sl26 : Array (Option Value)} {oc26 kV26 dc26 pm26 cd26 ct26 : Value} {f27 : Addr} {od27 an27 : Option Addr} {sl27 : Array (Option Value)} {oc27 kV27 dc27 pm27 cd27 ct27 : Value} {f28 : Addr} {od28 an28 : Option Addr} {sl28 : Array (Option Value)} {oc28 kV28 dc28 pm28 cd28 ct28 : Value} {f29 : Addr} {od29 an29 : Option Addr} {sl29 : Array (Option Value)} {oc29 kV29 dc29 pm29 cd29 ct29 : Value} {f30 : Addr} {od30 an30 : Option Addr} {sl30 : Array (Option Value)} {oc30 kV30 dc30 pm30 cd30 ct30 : Value} {f31 : Addr} {od31 an31 : Option Addr} {sl31 : Array (Option Value)} {oc31 kV31 dc31 pm31 ct31 : Value} {kc31 T31 : Addr} {tod31 : Option Addr} {tvs31 : Array Value} {tsl31 : Array (Option Value)} {f32 : Addr} {od32 an32 : Option Addr} {sl32 : Array (Option Value)} {oc32 kV32 dc32 pm32 ct32 : Value} {kc32 T32 : Addr} {tod32 : Option Addr} {tvs32 : Array Value} {tsl32 : Array (Option Value)} {f33 : Addr} {od33 an33 : Option Addr} {sl33 : Array (Option Value)} {oc33 kV33 dc33 pm33 cd33 ct33 : Value} {f34 : Addr} {od34 an34 : Option Addr} {sl34 : Array (Option Value)} {oc34 kV34 dc34 pm34 cd34 ct34 : Value} {f35 : Addr} {od35 an35 : Option Addr} {sl35 : Array (Option Value)} {oc35 kV35 dc35 pm35 cd35 ct35 : Value} {f36 : Addr} {od36 an36 : Option Addr} {sl36 : Array (Option Value)} {oc36 kV36 dc36 pm36 cd36 ct36 : Value} {f37 : Addr} {od37 an37 : Option Addr} {sl37 : Array (Option Value)} {oc37 kV37 dc37 pm37 cd37 ct37 : Value} {tk_LONGEST_STINT : Tok} {tk_MOST_PIECES : Tok}
    (aC0 : PySem.W.nsIn K mainGlobals "Machine" = some (some (.ref C0)))
    (a0 : PySem.W.nsIn K mainGlobals "_law_open" = some (some (.ref f0)))
    (l0 : K.lookup f0 = some ⟨oc0, od0, .func (PySem.W.fnOf "_law_open" "_law_open" (defArgs s__law_open) (defBody s__law_open) (defScope s__law_open) .none kV0 dc0 pm0 an0 cd0 ct0), sl0⟩)
    (c0 : PySem.W.codeIn K cd0 "_law_open" = true)
    (k0 : PySem.W.keepIn K (.ref f0) = true)
    (a1 : PySem.W.nsIn K mainGlobals "_law_draw" = some (some (.ref f1)))
    (l1 : K.lookup f1 = some ⟨oc1, od1, .func (PySem.W.fnOf "_law_draw" "_law_draw" (defArgs s__law_draw) (defBody s__law_draw) (defScope s__law_draw) .none kV1 dc1 pm1 an1 cd1 ct1), sl1⟩)
    (c1 : PySem.W.codeIn K cd1 "_law_draw" = true)
    (k1 : PySem.W.keepIn K (.ref f1) = true)
    (a2 : PySem.W.nsIn K mainGlobals "_law_far" = some (some (.ref f2)))
    (l2 : K.lookup f2 = some ⟨oc2, od2, .func (PySem.W.fnOf "_law_far" "_law_far" (defArgs s__law_far) (defBody s__law_far) (defScope s__law_far) .none kV2 dc2 pm2 an2 cd2 ct2), sl2⟩)
    (c2 : PySem.W.codeIn K cd2 "_law_far" = true)
    (k2 : PySem.W.keepIn K (.ref f2) = true)
    (a3 : PySem.W.nsIn K mainGlobals "_law_factor" = some (some (.ref f3)))
    (l3 : K.lookup f3 = some ⟨oc3, od3, .func (PySem.W.fnOf "_law_factor" "_law_factor" (defArgs s__law_factor) (defBody s__law_factor) (defScope s__law_factor) .none kV3 dc3 pm3 an3 cd3 ct3), sl3⟩)
    (c3 : PySem.W.codeIn K cd3 "_law_factor" = true)
    (k3 : PySem.W.keepIn K (.ref f3) = true)
    (a4 : PySem.W.nsIn K mainGlobals "is_whole" = some (some (.ref f4)))
    (l4 : K.lookup f4 = some ⟨oc4, od4, .func (PySem.W.fnOf "is_whole" "is_whole" (defArgs s_is_whole) (defBody s_is_whole) (defScope s_is_whole) .none kV4 dc4 pm4 an4 cd4 ct4), sl4⟩)
    (c4 : PySem.W.codeIn K cd4 "is_whole" = true)
    (k4 : PySem.W.keepIn K (.ref f4) = true)
    (a5 : PySem.W.nsIn K mainGlobals "is_amount" = some (some (.ref f5)))
    (l5 : K.lookup f5 = some ⟨oc5, od5, .func (PySem.W.fnOf "is_amount" "is_amount" (defArgs s_is_amount) (defBody s_is_amount) (defScope s_is_amount) .none kV5 dc5 pm5 an5 cd5 ct5), sl5⟩)
    (c5 : PySem.W.codeIn K cd5 "is_amount" = true)
    (k5 : PySem.W.keepIn K (.ref f5) = true)
    (a6 : PySem.W.nsIn K mainGlobals "is_span" = some (some (.ref f6)))
    (l6 : K.lookup f6 = some ⟨oc6, od6, .func (PySem.W.fnOf "is_span" "is_span" (defArgs s_is_span) (defBody s_is_span) (defScope s_is_span) .none kV6 dc6 pm6 an6 cd6 ct6), sl6⟩)
    (c6 : PySem.W.codeIn K cd6 "is_span" = true)
    (k6 : PySem.W.keepIn K (.ref f6) = true)
    (a7 : PySem.W.nsIn K mainGlobals "is_piece" = some (some (.ref f7)))
    (l7 : K.lookup f7 = some ⟨oc7, od7, .func (PySem.W.fnOf "is_piece" "is_piece" (defArgs s_is_piece) (defBody s_is_piece) (defScope s_is_piece) .none kV7 dc7 pm7 an7 cd7 ct7), sl7⟩)
    (c7 : PySem.W.codeIn K cd7 "is_piece" = true)
    (k7 : PySem.W.keepIn K (.ref f7) = true)
    (a8 : PySem.W.nsIn K mainGlobals "are_pieces" = some (some (.ref f8)))
    (l8 : K.lookup f8 = some ⟨oc8, od8, .func (PySem.W.fnOf "are_pieces" "are_pieces" (defArgs s_are_pieces) (defBody s_are_pieces) (defScope s_are_pieces) .none kV8 dc8 pm8 an8 cd8 ct8), sl8⟩)
    (c8 : PySem.W.codeIn K cd8 "are_pieces" = true)
    (k8 : PySem.W.keepIn K (.ref f8) = true)
    (a9 : PySem.W.findIn K (.ref C0) "__init__" = some (some (.ref f9)))
    (i9 : PySem.W.isFn K (.ref f9) = true)
    (l9 : K.lookup f9 = some ⟨oc9, od9, .func (PySem.W.fnOf "__init__" "Machine.__init__" (defArgs s_Machine_init) (defBody s_Machine_init) (defScope s_Machine_init) .none kV9 dc9 pm9 an9 cd9 ct9), sl9⟩)
    (c9 : PySem.W.codeIn K cd9 "Machine.__init__" = true)
    (k9 : PySem.W.keepIn K (.ref f9) = true)
    (a10 : PySem.W.nsIn K mainGlobals "_law_spec" = some (some (.ref f10)))
    (l10 : K.lookup f10 = some ⟨oc10, od10, .func (PySem.W.fnOf "_law_spec" "_law_spec" (defArgs s__law_spec) (defBody s__law_spec) (defScope s__law_spec) .none kV10 dc10 pm10 an10 cd10 ct10), sl10⟩)
    (c10 : PySem.W.codeIn K cd10 "_law_spec" = true)
    (k10 : PySem.W.keepIn K (.ref f10) = true)
    (a11 : PySem.W.nsIn K mainGlobals "_law_machine" = some (some (.ref f11)))
    (l11 : K.lookup f11 = some ⟨oc11, od11, .func (PySem.W.fnOf "_law_machine" "_law_machine" (defArgs s__law_machine) (defBody s__law_machine) (defScope s__law_machine) .none kV11 dc11 pm11 an11 cd11 ct11), sl11⟩)
    (c11 : PySem.W.codeIn K cd11 "_law_machine" = true)
    (k11 : PySem.W.keepIn K (.ref f11) = true)
    (a12 : PySem.W.nsIn K mainGlobals "_law_same" = some (some (.ref f12)))
    (l12 : K.lookup f12 = some ⟨oc12, od12, .func (PySem.W.fnOf "_law_same" "_law_same" (defArgs s__law_same) (defBody s__law_same) (defScope s__law_same) .none kV12 dc12 pm12 an12 cd12 ct12), sl12⟩)
    (c12 : PySem.W.codeIn K cd12 "_law_same" = true)
    (k12 : PySem.W.keepIn K (.ref f12) = true)
    (a13 : PySem.W.findIn K (.ref C0) "gain" = some (some (.ref f13)))
    (i13 : PySem.W.isFn K (.ref f13) = true)
    (l13 : K.lookup f13 = some ⟨oc13, od13, .func (PySem.W.fnOf "gain" "Machine.gain" (defArgs s_Machine_gain) (defBody s_Machine_gain) (defScope s_Machine_gain) .none kV13 dc13 pm13 an13 cd13 ct13), sl13⟩)
    (c13 : PySem.W.codeIn K cd13 "Machine.gain" = true)
    (k13 : PySem.W.keepIn K (.ref f13) = true)
    (a14 : PySem.W.nsIn K mainGlobals "_law_gain" = some (some (.ref f14)))
    (l14 : K.lookup f14 = some ⟨oc14, od14, .func (PySem.W.fnOf "_law_gain" "_law_gain" (defArgs s__law_gain) (defBody s__law_gain) (defScope s__law_gain) .none kV14 dc14 pm14 an14 cd14 ct14), sl14⟩)
    (c14 : PySem.W.codeIn K cd14 "_law_gain" = true)
    (k14 : PySem.W.keepIn K (.ref f14) = true)
    (a15 : PySem.W.nsIn K mainGlobals "may_be" = some (some (.ref f15)))
    (l15 : K.lookup f15 = some ⟨oc15, od15, .func (PySem.W.fnOf "may_be" "may_be" (defArgs s_may_be) (defBody s_may_be) (defScope s_may_be) .none kV15 dc15 pm15 an15 cd15 ct15), sl15⟩)
    (c15 : PySem.W.codeIn K cd15 "may_be" = true)
    (k15 : PySem.W.keepIn K (.ref f15) = true)
    (a16 : PySem.W.nsIn K mainGlobals "state_after" = some (some (.ref f16)))
    (l16 : K.lookup f16 = some ⟨oc16, od16, .func (PySem.W.fnOf "state_after" "state_after" (defArgs s_state_after) (defBody s_state_after) (defScope s_state_after) .none kV16 dc16 pm16 an16 cd16 ct16), sl16⟩)
    (c16 : PySem.W.codeIn K cd16 "state_after" = true)
    (k16 : PySem.W.keepIn K (.ref f16) = true)
    (a17 : PySem.W.nsIn K mainGlobals "_law_state" = some (some (.ref f17)))
    (l17 : K.lookup f17 = some ⟨oc17, od17, .func (PySem.W.fnOf "_law_state" "_law_state" (defArgs s__law_state) (defBody s__law_state) (defScope s__law_state) .none kV17 dc17 pm17 an17 cd17 ct17), sl17⟩)
    (c17 : PySem.W.codeIn K cd17 "_law_state" = true)
    (k17 : PySem.W.keepIn K (.ref f17) = true)
    (a18 : PySem.W.nsIn K mainGlobals "run_fault" = some (some (.ref f18)))
    (l18 : K.lookup f18 = some ⟨oc18, od18, .func (PySem.W.fnOf "run_fault" "run_fault" (defArgs s_run_fault) (defBody s_run_fault) (defScope s_run_fault) .none kV18 dc18 pm18 an18 cd18 ct18), sl18⟩)
    (c18 : PySem.W.codeIn K cd18 "run_fault" = true)
    (k18 : PySem.W.keepIn K (.ref f18) = true)
    (a19 : PySem.W.nsIn K mainGlobals "refuse_fault" = some (some (.ref f19)))
    (l19 : K.lookup f19 = some ⟨oc19, od19, .func (PySem.W.fnOf "refuse_fault" "refuse_fault" (defArgs s_refuse_fault) (defBody s_refuse_fault) (defScope s_refuse_fault) .none kV19 dc19 pm19 an19 cd19 ct19), sl19⟩)
    (c19 : PySem.W.codeIn K cd19 "refuse_fault" = true)
    (k19 : PySem.W.keepIn K (.ref f19) = true)
    (a20 : PySem.W.nsIn K mainGlobals "run_begins" = some (some (.ref f20)))
    (l20 : K.lookup f20 = some ⟨oc20, od20, .func (PySem.W.fnOf "run_begins" "run_begins" (defArgs s_run_begins) (defBody s_run_begins) (defScope s_run_begins) .none kV20 dc20 pm20 an20 cd20 ct20), sl20⟩)
    (c20 : PySem.W.codeIn K cd20 "run_begins" = true)
    (k20 : PySem.W.keepIn K (.ref f20) = true)
    (a21 : PySem.W.nsIn K mainGlobals "run_cost" = some (some (.ref f21)))
    (l21 : K.lookup f21 = some ⟨oc21, od21, .func (PySem.W.fnOf "run_cost" "run_cost" (defArgs s_run_cost) (defBody s_run_cost) (defScope s_run_cost) .none kV21 dc21 pm21 an21 cd21 ct21), sl21⟩)
    (c21 : PySem.W.codeIn K cd21 "run_cost" = true)
    (k21 : PySem.W.keepIn K (.ref f21) = true)
    (a22 : PySem.W.nsIn K mainGlobals "least_of" = some (some (.ref f22)))
    (l22 : K.lookup f22 = some ⟨oc22, od22, .func (PySem.W.fnOf "least_of" "least_of" (defArgs s_least_of) (defBody s_least_of) (defScope s_least_of) .none kV22 dc22 pm22 an22 cd22 ct22), sl22⟩)
    (c22 : PySem.W.codeIn K cd22 "least_of" = true)
    (k22 : PySem.W.keepIn K (.ref f22) = true)
    (a23 : PySem.W.nsIn K mainGlobals "worths_ahead" = some (some (.ref f23)))
    (l23 : K.lookup f23 = some ⟨oc23, od23, .func (PySem.W.fnOf "worths_ahead" "worths_ahead" (defArgs s_worths_ahead) (defBody s_worths_ahead) (defScope s_worths_ahead) .none kV23 dc23 pm23 an23 cd23 ct23), sl23⟩)
    (c23 : PySem.W.codeIn K cd23 "worths_ahead" = true)
    (k23 : PySem.W.keepIn K (.ref f23) = true)
    (a24 : PySem.W.nsIn K mainGlobals "worths_by_hour" = some (some (.ref f24)))
    (l24 : K.lookup f24 = some ⟨oc24, od24, .func (PySem.W.fnOf "worths_by_hour" "worths_by_hour" (defArgs s_worths_by_hour) (defBody s_worths_by_hour) (defScope s_worths_by_hour) .none kV24 dc24 pm24 an24 cd24 ct24), sl24⟩)
    (c24 : PySem.W.codeIn K cd24 "worths_by_hour" = true)
    (k24 : PySem.W.keepIn K (.ref f24) = true)
    (a25 : PySem.W.nsIn K mainGlobals "first_best" = some (some (.ref f25)))
    (l25 : K.lookup f25 = some ⟨oc25, od25, .func (PySem.W.fnOf "first_best" "first_best" (defArgs s_first_best) (defBody s_first_best) (defScope s_first_best) .none kV25 dc25 pm25 an25 cd25 ct25), sl25⟩)
    (c25 : PySem.W.codeIn K cd25 "first_best" = true)
    (k25 : PySem.W.keepIn K (.ref f25) = true)
    (a26 : PySem.W.nsIn K mainGlobals "first_row" = some (some (.ref f26)))
    (l26 : K.lookup f26 = some ⟨oc26, od26, .func (PySem.W.fnOf "first_row" "first_row" (defArgs s_first_row) (defBody s_first_row) (defScope s_first_row) .none kV26 dc26 pm26 an26 cd26 ct26), sl26⟩)
    (c26 : PySem.W.codeIn K cd26 "first_row" = true)
    (k26 : PySem.W.keepIn K (.ref f26) = true)
    (a27 : PySem.W.nsIn K mainGlobals "ways_one_on" = some (some (.ref f27)))
    (l27 : K.lookup f27 = some ⟨oc27, od27, .func (PySem.W.fnOf "ways_one_on" "ways_one_on" (defArgs s_ways_one_on) (defBody s_ways_one_on) (defScope s_ways_one_on) .none kV27 dc27 pm27 an27 cd27 ct27), sl27⟩)
    (c27 : PySem.W.codeIn K cd27 "ways_one_on" = true)
    (k27 : PySem.W.keepIn K (.ref f27) = true)
    (a28 : PySem.W.nsIn K mainGlobals "states_by_hour" = some (some (.ref f28)))
    (l28 : K.lookup f28 = some ⟨oc28, od28, .func (PySem.W.fnOf "states_by_hour" "states_by_hour" (defArgs s_states_by_hour) (defBody s_states_by_hour) (defScope s_states_by_hour) .none kV28 dc28 pm28 an28 cd28 ct28), sl28⟩)
    (c28 : PySem.W.codeIn K cd28 "states_by_hour" = true)
    (k28 : PySem.W.keepIn K (.ref f28) = true)
    (a29 : PySem.W.nsIn K mainGlobals "next_hours" = some (some (.ref f29)))
    (l29 : K.lookup f29 = some ⟨oc29, od29, .func (PySem.W.fnOf "next_hours" "next_hours" (defArgs s_next_hours) (defBody s_next_hours) (defScope s_next_hours) .none kV29 dc29 pm29 an29 cd29 ct29), sl29⟩)
    (c29 : PySem.W.codeIn K cd29 "next_hours" = true)
    (k29 : PySem.W.keepIn K (.ref f29) = true)
    (a30 : PySem.W.nsIn K mainGlobals "hour_ways" = some (some (.ref f30)))
    (l30 : K.lookup f30 = some ⟨oc30, od30, .func (PySem.W.fnOf "hour_ways" "hour_ways" (defArgs s_hour_ways) (defBody s_hour_ways) (defScope s_hour_ways) .none kV30 dc30 pm30 an30 cd30 ct30), sl30⟩)
    (c30 : PySem.W.codeIn K cd30 "hour_ways" = true)
    (k30 : PySem.W.keepIn K (.ref f30) = true)
    (a31 : PySem.W.nsIn K mainGlobals "worths_of_states" = some (some (.ref f31)))
    (l31 : K.lookup f31 = some ⟨oc31, od31, .func (PySem.W.fnOf "worths_of_states" "worths_of_states" (defArgs s_worths_of_states) (defBody s_worths_of_states) (defScope s_worths_of_states) .none kV31 dc31 pm31 an31 (.ref kc31) ct31), sl31⟩)
    (c31 : PySem.W.codeIn K (.ref kc31) "worths_of_states" = true)
    (tl31 : K.lookup kc31 = some ⟨.type "code", tod31, .fields tvs31, tsl31⟩)
    (tv31 : (tvs31[11]? : Option Value) = some (.ref T31))
    (th31 : PySem.W.codeHdIn K kc31 T31 = true)
    (k31 : PySem.W.keepIn K (.ref f31) = true)
    (a32 : PySem.W.nsIn K mainGlobals "cheapest_run" = some (some (.ref f32)))
    (l32 : K.lookup f32 = some ⟨oc32, od32, .func (PySem.W.fnOf "cheapest_run" "cheapest_run" (defArgs s_cheapest_run) (defBody s_cheapest_run) (defScope s_cheapest_run) .none kV32 dc32 pm32 an32 (.ref kc32) ct32), sl32⟩)
    (c32 : PySem.W.codeIn K (.ref kc32) "cheapest_run" = true)
    (tl32 : K.lookup kc32 = some ⟨.type "code", tod32, .fields tvs32, tsl32⟩)
    (tv32 : (tvs32[11]? : Option Value) = some (.ref T32))
    (th32 : PySem.W.codeHdIn K kc32 T32 = true)
    (k32 : PySem.W.keepIn K (.ref f32) = true)
    (a33 : PySem.W.nsIn K mainGlobals "_law_price" = some (some (.ref f33)))
    (l33 : K.lookup f33 = some ⟨oc33, od33, .func (PySem.W.fnOf "_law_price" "_law_price" (defArgs s__law_price) (defBody s__law_price) (defScope s__law_price) .none kV33 dc33 pm33 an33 cd33 ct33), sl33⟩)
    (c33 : PySem.W.codeIn K cd33 "_law_price" = true)
    (k33 : PySem.W.keepIn K (.ref f33) = true)
    (a34 : PySem.W.nsIn K mainGlobals "_law_prices" = some (some (.ref f34)))
    (l34 : K.lookup f34 = some ⟨oc34, od34, .func (PySem.W.fnOf "_law_prices" "_law_prices" (defArgs s__law_prices) (defBody s__law_prices) (defScope s__law_prices) .none kV34 dc34 pm34 an34 cd34 ct34), sl34⟩)
    (c34 : PySem.W.codeIn K cd34 "_law_prices" = true)
    (k34 : PySem.W.keepIn K (.ref f34) = true)
    (a35 : PySem.W.nsIn K mainGlobals "_law_times" = some (some (.ref f35)))
    (l35 : K.lookup f35 = some ⟨oc35, od35, .func (PySem.W.fnOf "_law_times" "_law_times" (defArgs s__law_times) (defBody s__law_times) (defScope s__law_times) .none kV35 dc35 pm35 an35 cd35 ct35), sl35⟩)
    (c35 : PySem.W.codeIn K cd35 "_law_times" = true)
    (k35 : PySem.W.keepIn K (.ref f35) = true)
    (a36 : PySem.W.nsIn K mainGlobals "_law_one" = some (some (.ref f36)))
    (l36 : K.lookup f36 = some ⟨oc36, od36, .func (PySem.W.fnOf "_law_one" "_law_one" (defArgs s__law_one) (defBody s__law_one) (defScope s__law_one) .none kV36 dc36 pm36 an36 cd36 ct36), sl36⟩)
    (c36 : PySem.W.codeIn K cd36 "_law_one" = true)
    (k36 : PySem.W.keepIn K (.ref f36) = true)
    (a37 : PySem.W.nsIn K mainGlobals "law" = some (some (.ref f37)))
    (l37 : K.lookup f37 = some ⟨oc37, od37, .func (PySem.W.fnOf "law" "law" (defArgs s_law) (defBody s_law) (defScope s_law) .none kV37 dc37 pm37 an37 cd37 ct37), sl37⟩)
    (c37 : PySem.W.codeIn K cd37 "law" = true)
    (k37 : PySem.W.keepIn K (.ref f37) = true)
    (pg0 : PySem.W.plainGet K C0 Str.empty = true)
    (hd0 : PySem.W.hasDictIn K C0 = true)
    (po0 : PySem.W.plainOver K C0 = true)
    (sa0 : PySem.W.findIn K (.ref C0) "__setattr__" = some (some (.builtin "object.__setattr__")))
    (mk0 : PySem.W.makesIn K C0 = true)
    (kc0 : PySem.W.keepIn K (.ref C0) = true)
    (n0_up : PySem.W.findIn K (.ref C0) "up" = some none)
    (n0_down : PySem.W.findIn K (.ref C0) "down" = some none)
    (n0_begin : PySem.W.findIn K (.ref C0) "begin" = some none)
    (n0_run : PySem.W.findIn K (.ref C0) "run" = some none)
    (n0_rest : PySem.W.findIn K (.ref C0) "rest" = some none)
    (n0_least : PySem.W.findIn K (.ref C0) "least" = some none)
    (n0_pieces : PySem.W.findIn K (.ref C0) "pieces" = some none)
    (z_abs : PySem.W.nsIn K mainGlobals "abs" = some none)
    (z_all : PySem.W.nsIn K mainGlobals "all" = some none)
    (z_bool : PySem.W.nsIn K mainGlobals "bool" = some none)
    (z_enumerate : PySem.W.nsIn K mainGlobals "enumerate" = some none)
    (z_int : PySem.W.nsIn K mainGlobals "int" = some none)
    (z_isinstance : PySem.W.nsIn K mainGlobals "isinstance" = some none)
    (z_len : PySem.W.nsIn K mainGlobals "len" = some none)
    (z_list : PySem.W.nsIn K mainGlobals "list" = some none)
    (z_max : PySem.W.nsIn K mainGlobals "max" = some none)
    (z_min : PySem.W.nsIn K mainGlobals "min" = some none)
    (z_range : PySem.W.nsIn K mainGlobals "range" = some none)
    (z_reversed : PySem.W.nsIn K mainGlobals "reversed" = some none)
    (z_sorted : PySem.W.nsIn K mainGlobals "sorted" = some none)
    (z_str : PySem.W.nsIn K mainGlobals "str" = some none)
    (z_sum : PySem.W.nsIn K mainGlobals "sum" = some none)
    (z_tuple : PySem.W.nsIn K mainGlobals "tuple" = some none)
    (v_LONGEST_STINT : PySem.W.nsIn K mainGlobals "LONGEST_STINT" = some (some (.int 12 tk_LONGEST_STINT)))
    (v_MOST_PIECES : PySem.W.nsIn K mainGlobals "MOST_PIECES" = some (some (.int 4 tk_MOST_PIECES))) :
    (∃ c, PySem.W.codeHdIn K c T31 = true) ∧ (∃ c, PySem.W.codeHdIn K c T32 = true) ∧ ∃ fd : FuncData, (∀ (s : Shared) (v : Value), BindsTo s fd ⟨[v], []⟩ [("_law_script", v)]) ∧ ∀ base : Heap, K.In base → base.Ns mainGlobals mg → FnOk l.prog w K mg base CX0 15 fa fd ["_law_script"] (sp_law K T31 T32) := by
  have e := hfa.symm.trans (PySem.W.mg_of X G a37)
  cases e
  have F0 := fun_mk (st := s__law_open) l0 c0 k0
  have b0 := F0.binds (ps := ["_law_script", "_law_place"]) fun _ _ _ _ _ _ us hl => match us, hl with | [_, _], _ => rfl
  have F1 := fun_mk (st := s__law_draw) l1 c1 k1
  have b1 := F1.binds (ps := ["_law_hand", "_law_many"]) fun _ _ _ _ _ _ us hl => match us, hl with | [_, _], _ => rfl
  have F2 := fun_mk (st := s__law_far) l2 c2 k2
  have b2 := F2.binds (ps := ["_law_hand", "_law_bound"]) fun _ _ _ _ _ _ us hl => match us, hl with | [_, _], _ => rfl
  have F3 := fun_mk (st := s__law_factor) l3 c3 k3
  have b3 := F3.binds (ps := ["_law_hand"]) fun _ _ _ _ _ _ us hl => match us, hl with | [_], _ => rfl
  have F4 := fun_mk (st := s_is_whole) l4 c4 k4
  have b4 := F4.binds (ps := ["thing"]) fun _ _ _ _ _ _ us hl => match us, hl with | [_], _ => rfl
  have F5 := fun_mk (st := s_is_amount) l5 c5 k5
  have b5 := F5.binds (ps := ["thing"]) fun _ _ _ _ _ _ us hl => match us, hl with | [_], _ => rfl
  have F6 := fun_mk (st := s_is_span) l6 c6 k6
  have b6 := F6.binds (ps := ["thing"]) fun _ _ _ _ _ _ us hl => match us, hl with | [_], _ => rfl
  have F7 := fun_mk (st := s_is_piece) l7 c7 k7
  have b7 := F7.binds (ps := ["thing"]) fun _ _ _ _ _ _ us hl => match us, hl with | [_], _ => rfl
  have F8 := fun_mk (st := s_are_pieces) l8 c8 k8
  have b8 := F8.binds (ps := ["thing"]) fun _ _ _ _ _ _ us hl => match us, hl with | [_], _ => rfl
  have F9 := fun_mk (st := s_Machine_init) l9 c9 k9
  have b9 := F9.binds (ps := ["self", "up", "down", "begin", "run", "rest", "least", "pieces"]) fun _ _ _ _ _ _ us hl => match us, hl with | [_, _, _, _, _, _, _, _], _ => rfl
  have F10 := fun_mk (st := s__law_spec) l10 c10 k10
  have b10 := F10.binds (ps := ["_law_hand", "_law_by", "_law_longest"]) fun _ _ _ _ _ _ us hl => match us, hl with | [_, _, _], _ => rfl
  have F11 := fun_mk (st := s__law_machine) l11 c11 k11
  have b11 := F11.binds (ps := ["_law_spec_here"]) fun _ _ _ _ _ _ us hl => match us, hl with | [_], _ => rfl
  have F12 := fun_mk (st := s__law_same) l12 c12 k12
  have b12 := F12.binds (ps := ["_law_one_here", "_law_due"]) fun _ _ _ _ _ _ us hl => match us, hl with | [_, _], _ => rfl
  have F13 := fun_mk (st := s_Machine_gain) l13 c13 k13
  have b13 := F13.binds (ps := ["self", "price"]) fun _ _ _ _ _ _ us hl => match us, hl with | [_, _], _ => rfl
  have F14 := fun_mk (st := s__law_gain) l14 c14 k14
  have b14 := F14.binds (ps := ["_law_spec_here", "_law_price_here"]) fun _ _ _ _ _ _ us hl => match us, hl with | [_, _], _ => rfl
  have F15 := fun_mk (st := s_may_be) l15 c15 k15
  have b15 := F15.binds (ps := ["machine", "state", "on"]) fun _ _ _ _ _ _ us hl => match us, hl with | [_, _, _], _ => rfl
  have F16 := fun_mk (st := s_state_after) l16 c16 k16
  have b16 := F16.binds (ps := ["machine", "state", "on"]) fun _ _ _ _ _ _ us hl => match us, hl with | [_, _, _], _ => rfl
  have F17 := fun_mk (st := s__law_state) l17 c17 k17
  have b17 := F17.binds (ps := ["_law_hand", "_law_spec_here"]) fun _ _ _ _ _ _ us hl => match us, hl with | [_, _], _ => rfl
  have F18 := fun_mk (st := s_run_fault) l18 c18 k18
  have b18 := F18.binds (ps := ["machine", "state", "run"]) fun _ _ _ _ _ _ us hl => match us, hl with | [_, _, _], _ => rfl
  have F19 := fun_mk (st := s_refuse_fault) l19 c19 k19
  have b19 := F19.binds (ps := ["machine", "state", "run"]) fun _ _ _ _ _ _ us hl => match us, hl with | [_, _, _], _ => rfl
  have F20 := fun_mk (st := s_run_begins) l20 c20 k20
  have b20 := F20.binds (ps := ["machine", "state", "run"]) fun _ _ _ _ _ _ us hl => match us, hl with | [_, _, _], _ => rfl
  have F21 := fun_mk (st := s_run_cost) l21 c21 k21
  have b21 := F21.binds (ps := ["machine", "state", "run"]) fun _ _ _ _ _ _ us hl => match us, hl with | [_, _, _], _ => rfl
  have F22 := fun_mk (st := s_least_of) l22 c22 k22
  have b22 := F22.binds (ps := ["ways", "behind"]) fun _ _ _ _ _ _ us hl => match us, hl with | [_, _], _ => rfl
  have F23 := fun_mk (st := s_worths_ahead) l23 c23 k23
  have b23 := F23.binds (ps := ["places", "hour", "behind", "ways_at"]) fun _ _ _ _ _ _ us hl => match us, hl with | [_, _, _, _], _ => rfl
  have F24 := fun_mk (st := s_worths_by_hour) l24 c24 k24
  have b24 := F24.binds (ps := ["layers", "ways_at"]) fun _ _ _ _ _ _ us hl => match us, hl with | [_, _], _ => rfl
  have F25 := fun_mk (st := s_first_best) l25 c25 k25
  have b25 := F25.binds (ps := ["ways", "behind"]) fun _ _ _ _ _ _ us hl => match us, hl with | [_, _], _ => rfl
  have F26 := fun_mk (st := s_first_row) l26 c26 k26
  have b26 := F26.binds (ps := ["place", "worths", "ways_at"]) fun _ _ _ _ _ _ us hl => match us, hl with | [_, _, _], _ => rfl
  have F27 := fun_mk (st := s_ways_one_on) l27 c27 k27
  have b27 := F27.binds (ps := ["machine", "ways"]) fun _ _ _ _ _ _ us hl => match us, hl with | [_, _], _ => rfl
  have F28 := fun_mk (st := s_states_by_hour) l28 c28 k28
  have b28 := F28.binds (ps := ["machine", "state", "hours"]) fun _ _ _ _ _ _ us hl => match us, hl with | [_, _, _], _ => rfl
  have F29 := fun_mk (st := s_next_hours) l29 c29 k29
  have b29 := F29.binds (ps := ["machine", "state"]) fun _ _ _ _ _ _ us hl => match us, hl with | [_, _], _ => rfl
  have F30 := fun_mk (st := s_hour_ways) l30 c30 k30
  have b30 := F30.binds (ps := ["machine", "state", "price"]) fun _ _ _ _ _ _ us hl => match us, hl with | [_, _, _], _ => rfl
  have F31 := fun_mk (st := s_worths_of_states) l31 c31 k31
  have b31 := F31.binds (ps := ["machine", "state", "prices"]) fun _ _ _ _ _ _ us hl => match us, hl with | [_, _, _], _ => rfl
  have F32 := fun_mk (st := s_cheapest_run) l32 c32 k32
  have b32 := F32.binds (ps := ["machine", "state", "prices"]) fun _ _ _ _ _ _ us hl => match us, hl with | [_, _, _], _ => rfl
  have F33 := fun_mk (st := s__law_price) l33 c33 k33
  have b33 := F33.binds (ps := ["_law_hand", "_law_by", "_law_most"]) fun _ _ _ _ _ _ us hl => match us, hl with | [_, _, _], _ => rfl
  have F34 := fun_mk (st := s__law_prices) l34 c34 k34
  have b34 := F34.binds (ps := ["_law_hand", "_law_spec_here", "_law_by", "_law_hours"]) fun _ _ _ _ _ _ us hl => match us, hl with | [_, _, _, _], _ => rfl
  have F35 := fun_mk (st := s__law_times) l35 c35 k35
  have b35 := F35.binds (ps := ["_law_spec_here", "_law_times_here"]) fun _ _ _ _ _ _ us hl => match us, hl with | [_, _], _ => rfl
  have F36 := fun_mk (st := s__law_one) l36 c36 k36
  have b36 := F36.binds (ps := ["_law_hand", "_law_spec_here", "_law_state_here", "_law_prices_here"]) fun _ _ _ _ _ _ us hl => match us, hl with | [_, _, _, _], _ => rfl
  have F37 := fun_mk (st := s_law) l37 c37 k37
  have b37 := F37.binds (ps := ["_law_script"]) fun _ _ _ _ _ _ us hl => match us, hl with | [_], _ => rfl
  have tx : Txt K mg { f__law_open := f0, d__law_open := _, f__law_draw := f1, d__law_draw := _, f__law_far := f2, d__law_far := _, f__law_factor := f3, d__law_factor := _, f_is_whole := f4, d_is_whole := _, f_is_amount := f5, d_is_amount := _, f_is_span := f6, d_is_span := _, f_is_piece := f7, d_is_piece := _, f_are_pieces := f8, d_are_pieces := _, f_Machine_init := f9, d_Machine_init := _, f__law_spec := f10, d__law_spec := _, f__law_machine := f11, d__law_machine := _, f__law_same := f12, d__law_same := _, f_Machine_gain := f13, d_Machine_gain := _, f__law_gain := f14, d__law_gain := _, f_may_be := f15, d_may_be := _, f_state_after := f16, d_state_after := _, f__law_state := f17, d__law_state := _, f_run_fault := f18, d_run_fault := _, f_refuse_fault := f19, d_refuse_fault := _, f_run_begins := f20, d_run_begins := _, f_run_cost := f21, d_run_cost := _, f_least_of := f22, d_least_of := _, f_worths_ahead := f23, d_worths_ahead := _, f_worths_by_hour := f24, d_worths_by_hour := _, f_first_best := f25, d_first_best := _, f_first_row := f26, d_first_row := _, f_ways_one_on := f27, d_ways_one_on := _, f_states_by_hour := f28, d_states_by_hour := _, f_next_hours := f29, d_next_hours := _, f_hour_ways := f30, d_hour_ways := _, f_worths_of_states := f31, d_worths_of_states := _, k_worths_of_states := kc31, t_worths_of_states := T31, f_cheapest_run := f32, d_cheapest_run := _, k_cheapest_run := kc32, t_cheapest_run := T32, f__law_price := f33, d__law_price := _, f__law_prices := f34, d__law_prices := _, f__law_times := f35, d__law_times := _, f__law_one := f36, d__law_one := _, f_law := fa, d_law := _, c_Machine := C0 } := { F__law_open := F0, b__law_open := b0, g__law_open := PySem.W.mg_of X G a0, F__law_draw := F1, b__law_draw := b1, g__law_draw := PySem.W.mg_of X G a1, F__law_far := F2, b__law_far := b2, g__law_far := PySem.W.mg_of X G a2, F__law_factor := F3, b__law_factor := b3, g__law_factor := PySem.W.mg_of X G a3, F_is_whole := F4, b_is_whole := b4, g_is_whole := PySem.W.mg_of X G a4, F_is_amount := F5, b_is_amount := b5, g_is_amount := PySem.W.mg_of X G a5, F_is_span := F6, b_is_span := b6, g_is_span := PySem.W.mg_of X G a6, F_is_piece := F7, b_is_piece := b7, g_is_piece := PySem.W.mg_of X G a7, F_are_pieces := F8, b_are_pieces := b8, g_are_pieces := PySem.W.mg_of X G a8, F_Machine_init := F9, b_Machine_init := b9, F__law_spec := F10, b__law_spec := b10, g__law_spec := PySem.W.mg_of X G a10, F__law_machine := F11, b__law_machine := b11, g__law_machine := PySem.W.mg_of X G a11, F__law_same := F12, b__law_same := b12, g__law_same := PySem.W.mg_of X G a12, F_Machine_gain := F13, b_Machine_gain := b13, F__law_gain := F14, b__law_gain := b14, g__law_gain := PySem.W.mg_of X G a14, F_may_be := F15, b_may_be := b15, g_may_be := PySem.W.mg_of X G a15, F_state_after := F16, b_state_after := b16, g_state_after := PySem.W.mg_of X G a16, F__law_state := F17, b__law_state := b17, g__law_state := PySem.W.mg_of X G a17, F_run_fault := F18, b_run_fault := b18, g_run_fault := PySem.W.mg_of X G a18, F_refuse_fault := F19, b_refuse_fault := b19, g_refuse_fault := PySem.W.mg_of X G a19, F_run_begins := F20, b_run_begins := b20, g_run_begins := PySem.W.mg_of X G a20, F_run_cost := F21, b_run_cost := b21, g_run_cost := PySem.W.mg_of X G a21, F_least_of := F22, b_least_of := b22, g_least_of := PySem.W.mg_of X G a22, F_worths_ahead := F23, b_worths_ahead := b23, g_worths_ahead := PySem.W.mg_of X G a23, F_worths_by_hour := F24, b_worths_by_hour := b24, g_worths_by_hour := PySem.W.mg_of X G a24, F_first_best := F25, b_first_best := b25, g_first_best := PySem.W.mg_of X G a25, F_first_row := F26, b_first_row := b26, g_first_row := PySem.W.mg_of X G a26, F_ways_one_on := F27, b_ways_one_on := b27, g_ways_one_on := PySem.W.mg_of X G a27, F_states_by_hour := F28, b_states_by_hour := b28, g_states_by_hour := PySem.W.mg_of X G a28, F_next_hours := F29, b_next_hours := b29, g_next_hours := PySem.W.mg_of X G a29, F_hour_ways := F30, b_hour_ways := b30, g_hour_ways := PySem.W.mg_of X G a30, F_worths_of_states := F31, b_worths_of_states := b31, K_worths_of_states := ⟨rfl, th31⟩, g_worths_of_states := PySem.W.mg_of X G a31, F_cheapest_run := F32, b_cheapest_run := b32, K_cheapest_run := ⟨rfl, th32⟩, g_cheapest_run := PySem.W.mg_of X G a32, F__law_price := F33, b__law_price := b33, g__law_price := PySem.W.mg_of X G a33, F__law_prices := F34, b__law_prices := b34, g__law_prices := PySem.W.mg_of X G a34, F__law_times := F35, b__law_times := b35, g__law_times := PySem.W.mg_of X G a35, F__law_one := F36, b__law_one := b36, g__law_one := PySem.W.mg_of X G a36, F_law := F37, b_law := b37, g_law := PySem.W.mg_of X G a37, C_Machine := ⟨pg0, hd0, po0, sa0⟩, g_Machine := PySem.W.mg_of X G aC0, M_Machine := ⟨mk0, a9, i9, kc0⟩, m_Machine_gain := ⟨a13, i13, k13⟩, n_Machine_up := n0_up, n_Machine_down := n0_down, n_Machine_begin := n0_begin, n_Machine_run := n0_run, n_Machine_rest := n0_rest, n_Machine_least := n0_least, n_Machine_pieces := n0_pieces, z_abs := PySem.W.mg_none_of X G z_abs, z_all := PySem.W.mg_none_of X G z_all, z_bool := PySem.W.mg_none_of X G z_bool, z_enumerate := PySem.W.mg_none_of X G z_enumerate, z_int := PySem.W.mg_none_of X G z_int, z_isinstance := PySem.W.mg_none_of X G z_isinstance, z_len := PySem.W.mg_none_of X G z_len, z_list := PySem.W.mg_none_of X G z_list, z_max := PySem.W.mg_none_of X G z_max, z_min := PySem.W.mg_none_of X G z_min, z_range := PySem.W.mg_none_of X G z_range, z_reversed := PySem.W.mg_none_of X G z_reversed, z_sorted := PySem.W.mg_none_of X G z_sorted, z_str := PySem.W.mg_none_of X G z_str, z_sum := PySem.W.mg_none_of X G z_sum, z_tuple := PySem.W.mg_none_of X G z_tuple, v_LONGEST_STINT := ⟨_, PySem.W.mg_of X G v_LONGEST_STINT⟩, v_MOST_PIECES := ⟨_, PySem.W.mg_of X G v_MOST_PIECES⟩ }
  exact ⟨⟨_, th31⟩, ⟨_, th32⟩, _, fun s v => .of_eq rfl, fun base _ _ => ok_law tx⟩
theorem walk {l : PySem.W.OpenLaw} {q : Program} {loose : List Str} {XP : (Str → Option Value) → Heap → Prop} {YP : World → Heap → Prop} {d : DefRec} {K : Params → PySem.W.Frag} {T31 T32 : Addr} (hn : l.most = some 63) (hdf : d.params.defaults = []) (hI : ∀ (w : World) (h : Heap), YP w h → (K w.params).In h)
    (F : ∀ (w : World) (mg : Str → Option Value) (fa : Addr) (h : Heap), (K w.params).In h → h.Ns mainGlobals mg → mg d.name = some (.ref fa) →
      (∃ c, PySem.W.codeHdIn (K w.params) c T31 = true) ∧ (∃ c, PySem.W.codeHdIn (K w.params) c T32 = true) ∧ ∃ fd : FuncData, (∀ (s : Shared) (u : Value), BindsTo s fd ⟨[u], []⟩ [("_law_script", u)]) ∧ ∀ base : Heap, (K w.params).In base → base.Ns mainGlobals mg → FnOk l.prog w (K w.params) mg base CX0 15 fa fd ["_law_script"] (sp_law (K w.params) T31 T32))
    (hN : decide ([T31, T32] : List Addr).Nodup = true) (hY : ∀ (w : World) (h : Heap), YP w h → ∀ t ∈ ([T31, T32] : List Addr), h.get? t = some { cls := .none, data := .fields #[] })
    (hK : ∀ w : World, (K w.params).lookup T31 = none ∧ (K w.params).lookup T32 = none) :
    PySem.W.WalkO q loose XP YP l.row.toRowW d [] (fun f vs => PySem.call f vs) := by
  refine L2.walk_ofT (tabs := [(T31, lp_worths_of_states, lq_worths_of_states), (T32, lp_cheapest_run, lq_cheapest_run)]) (n := 63) (k := 15) (x := "_law_script") (sp := fun w => sp_law (K w.params) T31 T32) hn (by decide) hdf ⟨rfl, by decide, by decide⟩ (of_decide_eq_true hN) (fun w h Y => ⟨hI w h Y, fun t ht => hY w h Y t.1 ?_⟩) (fun w t ht => ?_) (fun w mg fa h x1 x2 x3 => ?_) (fun _ _ a ns hl hT hS => ?_)
  · simp only [List.mem_cons, List.not_mem_nil, or_false] at ht
    rcases ht with rfl | rfl <;> simp
  · have hk := hK w
    simp only [List.mem_cons, List.not_mem_nil, or_false] at ht
    rcases ht with rfl | rfl
    · exact hk.1
    · exact hk.2
  · obtain ⟨c31, c32, rest⟩ := F w mg fa h x1 x2 x3
    refine ⟨fun t ht => ?_, rest⟩
    simp only [List.mem_cons, List.not_mem_nil, or_false] at ht
    rcases ht with rfl | rfl
    · exact c31
    · exact c32
  · exact ⟨a, ns, rfl, hS, hl, hT (T31, lp_worths_of_states, lq_worths_of_states) (by simp), hT (T32, lp_cheapest_run, lq_cheapest_run) (by simp), fun H' s' => ⟨rfl, s'⟩⟩
end My
open PySem PySem.W PyProof.Rows
set_option maxRecDepth 100000 in
set_option maxHeartbeats 0 in
theorem PySem.Challenge.cw_stintwise_k47_prices_raised_holds : PySem.Challenge.rw_stintwise_k47_prices_raised.Holds := by
  w_on; o_law; k_head; (case hw => w_witness2)
  k_fill
  refine' My.walk (l := PySem.Challenge.rw_stintwise_k47_prices_raised) rfl rfl (fun w h Y => PySem.W.km_in_of Y) ?F ?hN0 ?hY0 ?hK0
  case F =>
    intro w mg fa h KX G hmg
    refine' My.all_mk KX G hmg ?aC0 ?a0 ?l0 ?c0 ?k0 ?a1 ?l1 ?c1 ?k1 ?a2 ?l2 ?c2 ?k2 ?a3 ?l3 ?c3 ?k3 ?a4 ?l4 ?c4 ?k4 ?a5 ?l5 ?c5 ?k5 ?a6 ?l6 ?c6 ?k6 ?a7 ?l7 ?c7 ?k7 ?a8 ?l8 ?c8 ?k8 ?a9 ?i9 ?l9 ?c9 ?k9 ?a10 ?l10 ?c10 ?k10 ?a11 ?l11 ?c11 ?k11 ?a12 ?l12 ?c12 ?k12 ?a13 ?i13 ?l13 ?c13 ?k13 ?a14 ?l14 ?c14 ?k14 ?a15 ?l15 ?c15 ?k15 ?a16 ?l16 ?c16 ?k16 ?a17 ?l17 ?c17 ?k17 ?a18 ?l18 ?c18 ?k18 ?a19 ?l19 ?c19 ?k19 ?a20 ?l20 ?c20 ?k20 ?a21 ?l21 ?c21 ?k21 ?a22 ?l22 ?c22 ?k22 ?a23 ?l23 ?c23 ?k23 ?a24 ?l24 ?c24 ?k24 ?a25 ?l25 ?c25 ?k25 ?a26 ?l26 ?c26 ?k26 ?a27 ?l27 ?c27 ?k27 ?a28 ?l28 ?c28 ?k28 ?a29 ?l29 ?c29 ?k29 ?a30 ?l30 ?c30 ?k30 ?a31 ?l31 ?c31 ?tl31 ?tv31 ?th31 ?k31 ?a32 ?l32 ?c32 ?tl32 ?tv32 ?th32 ?k32 ?a33 ?l33 ?c33 ?k33 ?a34 ?l34 ?c34 ?k34 ?a35 ?l35 ?c35 ?k35 ?a36 ?l36 ?c36 ?k36 ?a37 ?l37 ?c37 ?k37 ?pg0 ?hd0 ?po0 ?sa0 ?mk0 ?kc0 ?n0_up ?n0_down ?n0_begin ?n0_run ?n0_rest ?n0_least ?n0_pieces ?z_abs ?z_all ?z_bool ?z_enumerate ?z_int ?z_isinstance ?z_len ?z_list ?z_max ?z_min ?z_range ?z_reversed ?z_sorted ?z_str ?z_sum ?z_tuple ?v_LONGEST_STINT ?v_MOST_PIECES
    (case aC0 => k_is); (case a0 => k_is); (case l0 => k_is); (case c0 => k_is); (case k0 => k_is); (case a1 => k_is); (case l1 => k_is); (case c1 => k_is)
    (case k1 => k_is); (case a2 => k_is); (case l2 => k_is); (case c2 => k_is); (case k2 => k_is); (case a3 => k_is); (case l3 => k_is); (case c3 => k_is)
    (case k3 => k_is); (case a4 => k_is); (case l4 => k_is); (case c4 => k_is); (case k4 => k_is); (case a5 => k_is); (case l5 => k_is); (case c5 => k_is)
    (case k5 => k_is); (case a6 => k_is); (case l6 => k_is); (case c6 => k_is); (case k6 => k_is); (case a7 => k_is); (case l7 => k_is); (case c7 => k_is)
    (case k7 => k_is); (case a8 => k_is); (case l8 => k_is); (case c8 => k_is); (case k8 => k_is); (case a9 => k_is); (case i9 => k_is); (case l9 => k_is)
    (case c9 => k_is); (case k9 => k_is); (case a10 => k_is); (case l10 => k_is); (case c10 => k_is); (case k10 => k_is); (case a11 => k_is); (case l11 => k_is)
    (case c11 => k_is); (case k11 => k_is); (case a12 => k_is); (case l12 => k_is); (case c12 => k_is); (case k12 => k_is); (case a13 => k_is); (case i13 => k_is)
    (case l13 => k_is); (case c13 => k_is); (case k13 => k_is); (case a14 => k_is); (case l14 => k_is); (case c14 => k_is); (case k14 => k_is); (case a15 => k_is)
    (case l15 => k_is); (case c15 => k_is); (case k15 => k_is); (case a16 => k_is); (case l16 => k_is); (case c16 => k_is); (case k16 => k_is); (case a17 => k_is)
    (case l17 => k_is); (case c17 => k_is); (case k17 => k_is); (case a18 => k_is); (case l18 => k_is); (case c18 => k_is); (case k18 => k_is); (case a19 => k_is)
    (case l19 => k_is); (case c19 => k_is); (case k19 => k_is); (case a20 => k_is); (case l20 => k_is); (case c20 => k_is); (case k20 => k_is); (case a21 => k_is)
    (case l21 => k_is); (case c21 => k_is); (case k21 => k_is); (case a22 => k_is); (case l22 => k_is); (case c22 => k_is); (case k22 => k_is); (case a23 => k_is)
    (case l23 => k_is); (case c23 => k_is); (case k23 => k_is); (case a24 => k_is); (case l24 => k_is); (case c24 => k_is); (case k24 => k_is); (case a25 => k_is)
    (case l25 => k_is); (case c25 => k_is); (case k25 => k_is); (case a26 => k_is); (case l26 => k_is); (case c26 => k_is); (case k26 => k_is); (case a27 => k_is)
    (case l27 => k_is); (case c27 => k_is); (case k27 => k_is); (case a28 => k_is); (case l28 => k_is); (case c28 => k_is); (case k28 => k_is); (case a29 => k_is)
    (case l29 => k_is); (case c29 => k_is); (case k29 => k_is); (case a30 => k_is); (case l30 => k_is); (case c30 => k_is); (case k30 => k_is); (case a31 => k_is)
    (case l31 => k_is); (case c31 => k_is); (case tl31 => k_is); (case tv31 => exact rfl); (case th31 => kernel_rfl); (case k31 => k_is); (case a32 => k_is); (case l32 => k_is)
    (case c32 => k_is); (case tl32 => k_is); (case tv32 => exact rfl); (case th32 => kernel_rfl); (case k32 => k_is); (case a33 => k_is); (case l33 => k_is); (case c33 => k_is)
    (case k33 => k_is); (case a34 => k_is); (case l34 => k_is); (case c34 => k_is); (case k34 => k_is); (case a35 => k_is); (case l35 => k_is); (case c35 => k_is)
    (case k35 => k_is); (case a36 => k_is); (case l36 => k_is); (case c36 => k_is); (case k36 => k_is); (case a37 => k_is); (case l37 => k_is); (case c37 => k_is)
    (case k37 => k_is); (case pg0 => k_is); (case hd0 => k_is); (case po0 => k_is); (case sa0 => k_is); (case mk0 => k_is); (case kc0 => k_is); (case n0_up => k_is)
    (case n0_down => k_is); (case n0_begin => k_is); (case n0_run => k_is); (case n0_rest => k_is); (case n0_least => k_is); (case n0_pieces => k_is); (case z_abs => k_is); (case z_all => k_is)
    (case z_bool => k_is); (case z_enumerate => k_is); (case z_int => k_is); (case z_isinstance => k_is); (case z_len => k_is); (case z_list => k_is); (case z_max => k_is); (case z_min => k_is)
    (case z_range => k_is); (case z_reversed => k_is); (case z_sorted => k_is); (case z_str => k_is); (case z_sum => k_is); (case z_tuple => k_is); (case v_LONGEST_STINT => k_is); (case v_MOST_PIECES => k_is)
  case hN0 => exact rfl
  case hY0 => exact fun w h Y t ht => PySem.W.km_tabs_of Y t (by revert t; decide)
  case hK0 => intro w; exact ⟨by kernel_rfl, by kernel_rfl⟩
