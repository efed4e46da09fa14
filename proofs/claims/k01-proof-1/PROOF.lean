import PyProof.Rows.All
import Wide.All
import OpenK.AllK
import Wide.FinOn
import PyProof.EqAt
import PyProof.EqKinds
import PyProof.TupleCall
import KE.BitLaws
import KE.KSortTupG
import KE.IntBitsLaws
import PyProof.ListRange
import PyProof.TupleOfSeq
import PyProof.ExcClass3
import PyProof.ExcInit
import PyProof.ExcBaseAll.ValueError
import OpenK.KMore
import OpenK.KMake
import PyProof.InstStore
import PyProof.RaisesMany
import OpenK.KGet
import PyProof.ExcArgsOwn
import PyProof.ExcAttrAll.ValueError
import PyProof.NsDelKeeps
import KE.KTryMore
import PyProof.EnumMake
import PyProof.Draws
import KE.KEqDict
import KE.KUnpackStar
import PyProof.SliceList
import PySem.Challenge.RW_signsteps_k01_kinds
set_option Elab.async false
set_option linter.all false
set_option maxRecDepth 100000
namespace L2
open PySem PySem.Spec PyProof.Rows
abbrev Key := Sum Int Str
def keyIs : Key → Value → Bool
  | .inl k, v => Value.isInt k v
  | .inr x, v => Value.isStrOf x v
def keyH (w : World) : Key → Int
  | .inl k => hashInt k
  | .inr x => hashStr w x
theorem keyIs_shape : ∀ {k : Key} {v : Value}, keyIs k v = true → (∃ i t, k = Sum.inl i ∧ v = Value.int i t) ∨ (∃ x t, k = Sum.inr x ∧ v = Value.str x t)
  | .inl i, v, h => by
    obtain ⟨t, e⟩ := Value.isInt_shape (k := i) (v := v) h
    exact .inl ⟨i, t, rfl, e⟩
  | .inr x, v, h => by
    obtain ⟨t, e⟩ := Value.isStrOf_shape (x := x) (v := v) h
    exact .inr ⟨x, t, rfl, e⟩
theorem keyIs_int (i : Int) (t : Tok) : keyIs (.inl i) (.int i t) = true := by simp [keyIs, Value.isInt]
theorem keyIs_str (x : Str) (t : Tok) : keyIs (.inr x) (.str x t) = true := by simp [keyIs, Value.isStrOf]
theorem key_ll (a b : Int) : decide ((Sum.inl a : Key) = Sum.inl b) = (a == b) := by
  by_cases e : a = b
  · subst e; simp
  · have h : ¬ (Sum.inl a : Key) = Sum.inl b := fun q => e (Sum.inl.inj q)
    rw [decide_eq_false h]
    exact (beq_eq_false_iff_ne.mpr e).symm
theorem key_rr (a b : Str) : decide ((Sum.inr a : Key) = Sum.inr b) = decide (a = b) := by
  by_cases e : a = b
  · subst e; simp
  · have h : ¬ (Sum.inr a : Key) = Sum.inr b := fun q => e (Sum.inr.inj q)
    rw [decide_eq_false h, decide_eq_false e]
theorem key_lr (a : Int) (b : Str) : decide ((Sum.inl a : Key) = Sum.inr b) = false := decide_eq_false (fun q => nomatch q)
theorem key_rl (a : Str) (b : Int) : decide ((Sum.inr a : Key) = Sum.inl b) = false := decide_eq_false (fun q => nomatch q)
def mixKind (prog : Program) (w : World) : PySem.KeyKind prog w Key where
  is := keyIs
  hash := keyH w
  inj := fun v a b ha hb => by
    rcases keyIs_shape ha with ⟨i, t, rfl, rfl⟩ | ⟨x, t, rfl, rfl⟩
    · rcases keyIs_shape hb with ⟨j, u, rfl, e⟩ | ⟨y, u, rfl, e⟩
      · injection e with e1 _; rw [e1]
      · exact nomatch e
    · rcases keyIs_shape hb with ⟨j, u, rfl, e⟩ | ⟨y, u, rfl, e⟩
      · exact nomatch e
      · injection e with e1 _; rw [e1]
  byValue := fun k v h => by
    rcases keyIs_shape h with ⟨i, t, rfl, rfl⟩ | ⟨x, t, rfl, rfl⟩ <;> rfl
  pyHash := fun hv h => by
    rcases keyIs_shape hv with ⟨i, t, rfl, rfl⟩ | ⟨x, t, rfl, rfl⟩
    · exact wpAny_pyHash_int h
    · exact wpAny_pyHash_str h
  eqBool := fun hu hv h => by
    rcases keyIs_shape hu with ⟨i, t, rfl, rfl⟩ | ⟨x, t, rfl, rfl⟩
    · rcases keyIs_shape hv with ⟨j, u, rfl, rfl⟩ | ⟨y, u, rfl, rfl⟩
      · rw [key_ll] at h; exact wpAny_eqBool_int h
      · rw [key_lr] at h; exact SeqAt.EqAt.int_str i t y u _ _ _ _ h
    · rcases keyIs_shape hv with ⟨j, u, rfl, rfl⟩ | ⟨y, u, rfl, rfl⟩
      · rw [key_rl] at h; exact SeqAt.EqAt.str_int x t j u _ _ _ _ h
      · rw [key_rr] at h; exact wpAny_eqBool_str h
  «strs» := fun k x t v h => by
    rcases keyIs_shape h with ⟨i, u, rfl, e⟩ | ⟨y, u, rfl, e⟩
    · exact nomatch e
    · injection e with e1 _
      subst e1
      cases v <;> rfl
theorem mixKind_int (prog : Program) (w : World) (i : Int) (t : Tok) : (mixKind prog w).is (.inl i) (.int i t) = true := keyIs_int i t
theorem mixKind_str (prog : Program) (w : World) (x : Str) (t : Tok) : (mixKind prog w).is (.inr x) (.str x t) = true := keyIs_str x t
end L2
namespace L2
open PySem PySem.Spec PyProof.Rows
inductive V where
  | non | bl (b : Bool) | int (i : Int) | str (x : Str) | byt (b : Array UInt8) | flt (b : UInt64) | ref (a : Addr) | ty (n : String)
  deriving DecidableEq
def RelV : V → Value → Prop
  | .non, u => u = Value.none
  | .bl b, u => u = Value.bool b
  | .int i, u => ∃ t, u = Value.int i t
  | .str x, u => ∃ t, u = Value.str x t
  | .byt b, u => ∃ t, u = Value.bytes b t
  | .flt b, u => ∃ t, u = Value.float b t
  | .ref a, u => u = Value.ref a
  | .ty n, u => u = Value.type n
abbrev Vals : List V → List Value → Prop := Paired RelV
theorem Vals.length {xs : List V} {us : List Value} (r : Vals xs us) : xs.length = us.length := Paired.length r
theorem Vals.get : ∀ {xs : List V} {us : List Value} {i : Nat} {x : V}, Vals xs us → xs[i]? = some x → ∃ u, us[i]? = some u ∧ RelV x u
  | _, _, _, _, .nil, e => by simp at e
  | _, _, 0, _, .cons r _, e => by simp at e; subst e; exact ⟨_, rfl, r⟩
  | _, _, i + 1, x, .cons _ t, e => by
    obtain ⟨u, h1, h2⟩ := Vals.get (i := i) (x := x) t (by simpa using e)
    exact ⟨u, by simpa using h1, h2⟩
theorem Vals.set {x : V} {u : Value} (r : RelV x u) : ∀ {xs : List V} {us : List Value} (i : Nat), Vals xs us → Vals (xs.set i x) (us.set i u)
  | _, _, _, .nil => .nil
  | _, _, 0, .cons _ t => .cons r t
  | _, _, i + 1, .cons q t => .cons q (Vals.set r i t)
theorem Vals.append : ∀ {xs ys : List V} {us ws : List Value}, Vals xs us → Vals ys ws → Vals (xs ++ ys) (us ++ ws)
  | _, _, _, _, .nil, s => s
  | _, _, _, _, .cons r t, s => .cons r (Vals.append t s)
theorem Vals.take : ∀ {xs : List V} {us : List Value} (n : Nat), Vals xs us → Vals (xs.take n) (us.take n)
  | _, _, 0, _ => .nil
  | _, _, _ + 1, .nil => .nil
  | _, _, n + 1, .cons r t => .cons r (Vals.take n t)
theorem Vals.drop : ∀ {xs : List V} {us : List Value} (n : Nat), Vals xs us → Vals (xs.drop n) (us.drop n)
  | _, _, 0, r => r
  | _, _, _ + 1, .nil => .nil
  | _, _, n + 1, .cons _ t => Vals.drop n t
theorem Vals.none_of : ∀ {xs : List V} {us : List Value} {i : Nat}, Vals xs us → xs[i]? = none → us[i]? = none := fun {xs us i} r e => by
  have h1 := r.length
  have h2 : xs.length ≤ i := List.getElem?_eq_none_iff.mp e
  exact List.getElem?_eq_none_iff.mpr (by omega)
def RelO : Option V → Option Value → Prop
  | some v, some u => RelV v u
  | none, none => True
  | _, _ => False
def KV {κ : Type} : List (κ × V) → List (κ × Value) → Prop := Paired fun (p : κ × V) (q : κ × Value) => p.1 = q.1 ∧ RelV p.2 q.2
def kV : Key → V
  | .inl i => .int i
  | .inr x => .str x
inductive HO where
  /-- a list -/
  | lst (xs : List V)
  /-- a tuple (never changes) -/
  | tup (xs : List V)
  /-- a dict whose keys are ints and texts; one whose keys are tuples of ints and texts (the empty one is both) -/
  | dK (kvs : List (Key × V)) | dT (kvs : List (List Key × V))
  /-- a set of ints: its members, its size -/
  | set (S : Int → Bool) (n : Nat)
  /-- an instance of the class at C, its dict at dx, its attributes -/
  | ins (C dx : Addr) (fs : List (Str × V))
  /-- the dict of the instance at x -/
  | own (x : Addr)
  /-- the dict of an exception -/
  | xd (fs : List (Str × V))
  /-- a bound method, f of x -/
  | met (f x : Addr)
  /-- a range object lo, lo + 1, .. below hi -/
  | rng (lo hi : Int)
  /-- a thing that is known to the object (the script; a dict while a loop walks it): read, never written while it is so -/
  | frz (o : Obj) (u : HO)
  /-- a code object's table -/
  | tbl (ps : Array Value)
  /-- any other thing, by what is true of its one object (a def of one's own: SetO a S n := HO.ext fun h => ..) -/
  | ext (φ : Heap → Prop)
abbrev Hp := Addr → Option HO
def upd (H : Hp) (a : Addr) (o : HO) : Hp := fun b => if b = a then some o else H b
theorem upd_same {H : Hp} {a : Addr} {o : HO} : upd H a o a = some o := by unfold upd; rw [if_pos rfl]
theorem upd_ne {H : Hp} {a b : Addr} {o : HO} (h : b ≠ a) : upd H a o b = H b := by unfold upd; rw [if_neg h]
theorem upd_upd {H : Hp} {a : Addr} {o u : HO} : upd (upd H a o) a u = upd H a u := by
  funext b; unfold upd; split <;> rfl
theorem ne_of {H : Hp} {a b : Addr} {o u : HO} (h : H a = some o) (h' : H b = some u) (d : o ≠ u) : a ≠ b := by
  intro e; subst e; rw [h] at h'; exact d (Option.some.inj h')
theorem ne_of_none {H : Hp} {a b : Addr} {o : HO} (h : H a = some o) (h' : H b = none) : a ≠ b := by
  intro e; subst e; rw [h] at h'; cases h'
def TupN (h : Heap) (a : Addr) (items : Array Value) : Prop := ∃ o, h.get? a = some o ∧ o.cls = .type "tuple" ∧ ∃ n, o.data = .seq items n ∧ o.dict = none
theorem TupN.tup {h : Heap} {a : Addr} {items : Array Value} (x : TupN h a items) : IsTup h a items := let ⟨o, h1, h2, n, h3, _⟩ := x; ⟨o, h1, h2, n, h3⟩
theorem TupN.lt {h : Heap} {a : Addr} {items : Array Value} (x : TupN h a items) : a < h.objs.size := x.tup.lt
theorem TupN.new (h : Heap) (items : Array Value) : TupN (h.push { cls := .type "tuple", data := .seq items }) h.objs.size items := ⟨_, Heap.get?_push_size _ rfl, rfl, _, rfl, rfl⟩
section
variable (P : Program) (w : World)
def ObjOk (H : Hp) (h : Heap) (a : Addr) : HO → Prop
  | .lst xs => xs.length ≤ sizeLine ∧ ∃ (its : List Value) (n : Nat), Vals xs its ∧ h.get? a = some { cls := .type "list", data := .seq its.toArray n }
  | .tup xs => xs.length ≤ sizeLine ∧ ∃ its : List Value, Vals xs its ∧ TupN h a its.toArray
  | .dK kvs => kvs.length ≤ sizeLine ∧ (a == sysModules) = false ∧ ∃ vs, KV kvs vs ∧ h.DictOf (mixKind P w) a vs
  | .dT kvs => kvs.length ≤ sizeLine ∧ (a == sysModules) = false ∧ ∃ xs : List (List Key × Addr × Value),
      Paired (fun (p : List Key × V) (q : List Key × Addr × Value) => p.1 = q.1 ∧ H q.2.1 = some (.tup (p.1.map kV)) ∧ RelV p.2 q.2.2) kvs xs ∧
      ∃ o es ep, h.get? a = some o ∧ o.ExactDict ∧ o.data = .dict es ep ∧ es.toList = xs.map (entryOfKey (tupleKind (mixKind P w))) ∧ (xs.map (·.1)).Nodup
  | .set S n => h.SetOf (intKind P w) a S n
  | .ins C dx fs => H dx = some (.own a) ∧ fs.length ≤ 1000 ∧ dx ≠ a ∧ h.get? a = some (PySem.W.instObj C dx) ∧
      ∃ mA, h.Ns1 dx mA ∧ (∀ f, RelO (fs.lookup f) (mA f)) ∧ PySem.Within mA (fs.map (·.1))
  | .own _ => ∃ o, h.get? a = some o
  | .xd fs => ∃ mA, h.Ns1 a mA ∧ ∀ f, RelO (fs.lookup f) (mA f)
  | .rng lo hi => ∃ t u v, h.get? a = some { cls := .type "range", data := .fields #[.int lo t, .int hi u, .int 1 v] }
  | .frz o u => h.get? a = some o ∧ ObjOk H h a u
  | .tbl ps => h.get? a = some { cls := .none, data := .fields ps }
  | .met f x => h.get? a = some (PySem.W.methodObj (.ref f) (.ref x))
  | .ext φ => φ h ∧ (∃ o, h.get? a = some o) ∧ ∀ h1 h2 : Heap, φ h1 → (∀ o, h1.get? a = some o → h2.get? a = some o) → φ h2
def HOk (H : Hp) (h : Heap) : Prop := ∀ a o, H a = some o → ObjOk P w H h a o
end
section
variable {P : Program} {w : World} {H H' : Hp} {h h' : Heap} {a : Addr} {o : HO}
theorem ObjOk.lt (x : ObjOk P w H h a o) : a < h.objs.size := by
  cases o with
  | lst xs => obtain ⟨_, _, _, _, e⟩ := x; exact Heap.lt_size e
  | tup xs => obtain ⟨_, _, _, p⟩ := x; exact p.lt
  | dK kvs => obtain ⟨_, _, _, _, o, _, _, e, _⟩ := x; exact Heap.lt_size e
  | dT kvs => obtain ⟨_, _, _, _, o, _, _, e, _⟩ := x; exact Heap.lt_size e
  | set S n => obtain ⟨o, _, _, _, e, _⟩ := x; exact Heap.lt_size e
  | ins C dx fs => obtain ⟨_, _, _, e, _⟩ := x; exact Heap.lt_size e
  | own y => obtain ⟨_, e⟩ := x; exact Heap.lt_size e
  | xd fs => obtain ⟨_, ⟨_, _, _, e, _⟩, _⟩ := x; exact Heap.lt_size e
  | rng lo hi => obtain ⟨_, _, _, e⟩ := x; exact Heap.lt_size e
  | frz ob u => obtain ⟨e, _⟩ := x; exact Heap.lt_size e
  | tbl ps => exact Heap.lt_size (show h.get? a = some _ from x)
  | met f y => exact Heap.lt_size (show h.get? a = some _ from x)
  | ext φ => obtain ⟨_, ⟨_, e⟩, _⟩ := x; exact Heap.lt_size e
theorem Paired.mapP {α β : Type} {F G : α → β → Prop} : ∀ {l₁ : List α} {l₂ : List β}, Paired F l₁ l₂ → (∀ a b, F a b → G a b) → Paired G l₁ l₂
  | _, _, .nil, _ => .nil
  | _, _, .cons r t, f => .cons (f _ _ r) (Paired.mapP t f)
theorem Paired.imp' {α β : Type} {F G : α → β → Prop} (f : ∀ a b, F a b → G a b) {l₁ : List α} {l₂ : List β} (r : Paired F l₁ l₂) : Paired G l₁ l₂ := Paired.mapP r f
theorem ObjOk.stay (x : ObjOk P w H h a o) (k : ∀ b u, (b = a ∨ H b = some (.own a)) → h.get? b = some u → h'.get? b = some u)
    (ho : ∀ b, H b = some (.own a) → H' b = some (.own a)) (ht : ∀ b xs, H b = some (.tup xs) → H' b = some (.tup xs)) : ObjOk P w H' h' a o := by
  induction o with
  | lst xs => obtain ⟨z, its, n, r, e⟩ := x; exact ⟨z, its, n, r, k _ _ (.inl rfl) e⟩
  | tup xs => obtain ⟨z, its, r, ob, e, c⟩ := x; exact ⟨z, its, r, ob, k _ _ (.inl rfl) e, c⟩
  | dK kvs => obtain ⟨z, y, vs, r, ob, es, ep, e, c⟩ := x; exact ⟨z, y, vs, r, ob, es, ep, k _ _ (.inl rfl) e, c⟩
  | dT kvs =>
    obtain ⟨z, y, xs, r, ob, es, ep, e, c⟩ := x
    exact ⟨z, y, xs, Paired.mapP r fun p q z => ⟨z.1, ht _ _ z.2.1, z.2.2⟩, ob, es, ep, k _ _ (.inl rfl) e, c⟩
  | set S n => obtain ⟨ob, es, ep, t, e, c⟩ := x; exact ⟨ob, es, ep, t, k _ _ (.inl rfl) e, c⟩
  | ins C dx fs =>
    obtain ⟨d, z, ne, e, mA, ⟨od, es, ep, e2, c⟩, r⟩ := x
    exact ⟨ho _ d, z, ne, k _ _ (.inl rfl) e, mA, ⟨od, es, ep, k _ _ (.inr d) e2, c⟩, r⟩
  | own y => obtain ⟨ob, e⟩ := x; exact ⟨ob, k _ _ (.inl rfl) e⟩
  | xd fs => obtain ⟨mA, ⟨od, es, ep, e, c⟩, r⟩ := x; exact ⟨mA, ⟨od, es, ep, k _ _ (.inl rfl) e, c⟩, r⟩
  | rng lo hi => obtain ⟨t, u, v, e⟩ := x; exact ⟨t, u, v, k _ _ (.inl rfl) e⟩
  | frz ob u ih => obtain ⟨e, q⟩ := x; exact ⟨k _ _ (.inl rfl) e, ih q⟩
  | tbl ps =>
    have e : h.get? a = some { cls := .none, data := .fields ps } := x
    show h'.get? a = some { cls := .none, data := .fields ps }
    exact k a _ (.inl rfl) e
  | met f y =>
    have e : h.get? a = some (PySem.W.methodObj (.ref f) (.ref y)) := x
    show h'.get? a = some (PySem.W.methodObj (.ref f) (.ref y))
    exact k a _ (.inl rfl) e
  | ext φ => obtain ⟨p, ⟨o, e⟩, st⟩ := x; exact ⟨st _ _ p fun o q => k _ _ (.inl rfl) q, ⟨o, k _ _ (.inl rfl) e⟩, st⟩
theorem HOk.lt (x : HOk P w H h) (e : H a = some o) : a < h.objs.size := (x a o e).lt
theorem HOk.fresh (x : HOk P w H h) (e : h.objs.size ≤ a) : H a = none := by
  cases q : H a with
  | none => rfl
  | some u => exact absurd (Nat.lt_of_lt_of_le (x.lt q) e) (Nat.lt_irrefl _)
theorem HOk.kept (x : HOk P w H h) (k : ∀ b u, h.get? b = some u → h'.get? b = some u) : HOk P w H h' := fun a o e =>
  (x a o e).stay (fun b u _ q => k b u q) (fun _ q => q) fun _ _ q => q
theorem HOk.laid (x : HOk P w H h) (k : ∀ b u, h.get? b = some u → h'.get? b = some u) (hp : h.objs.size ≤ a) (new : ObjOk P w (upd H a o) h' a o) : HOk P w (upd H a o) h' := fun b u e => by
  have hn := x.fresh hp
  by_cases hb : b = a
  · subst hb; rw [upd_same] at e; cases e; exact new
  · rw [upd_ne hb] at e
    exact (x b u e).stay (fun c v _ q => k c v q) (fun c q => by rw [upd_ne (ne_of_none q hn)]; exact q) fun c xs q => by rw [upd_ne (ne_of_none q hn)]; exact q
end
def Rd (H : Hp) (a : Addr) (u : HO) : Prop := H a = some u ∨ ∃ o, H a = some (.frz o u)
theorem Rd.of {H : Hp} {a : Addr} {u : HO} (h : H a = some u) : Rd H a u := .inl h
theorem Rd.ok {P : Program} {w : World} {H : Hp} {h : Heap} {a : Addr} {u : HO} (r : Rd H a u) (x : HOk P w H h) : ObjOk P w H h a u := by
  rcases r with r | ⟨o, r⟩
  · exact x a u r
  · obtain ⟨_, q⟩ := x a _ r
    exact q
def Mut : Option HO → Prop
  | some (.lst _) => True
  | some (.dK _) => True
  | some (.dT _) => True
  | some (.set _ _) => True
  | some (.ins _ _ _) => True
  | some (.ext _) => True
  | _ => False
section
variable {P : Program} {w : World} {H : Hp} {h h' : Heap} {x e : Addr} {o' : HO}
theorem HOk.write (ok : HOk P w H h) (mu : Mut (H x)) (he : e = x ∨ H e = some (.own x)) (k : ∀ b u, b ≠ e → h.get? b = some u → h'.get? b = some u) (heo : ∃ u, h'.get? e = some u)
    (new : ObjOk P w (upd H x o') h' x o') : HOk P w (upd H x o') h' := fun b u q => by
  have nown : ∀ c y, H c = some (.own y) → c ≠ x := fun c y r z => by subst z; rw [r] at mu; exact mu
  have ntup : ∀ c xs, H c = some (.tup xs) → c ≠ x := fun c xs r z => by subst z; rw [r] at mu; exact mu
  by_cases hb : b = x
  · subst hb; rw [upd_same] at q; cases q; exact new
  · rw [upd_ne hb] at q
    by_cases hbe : b = e
    · have q' : H b = some (.own x) := by
        rcases he with z | z
        · exact absurd (hbe.trans z) hb
        · rw [hbe]; exact z
      rw [q] at q'; cases q'
      obtain ⟨v, hv⟩ := heo
      exact ⟨v, by rw [hbe]; exact hv⟩
    · refine (ok b u q).stay (fun c v hc r => k c v ?_ r) (fun c r => by rw [upd_ne (nown c b r)]; exact r) fun c xs r => by rw [upd_ne (ntup c xs r)]; exact r
      rcases hc with rfl | hc
      · exact hbe
      · rintro rfl
        rcases he with z | z
        · exact nown c b hc z
        · rw [hc] at z; cases z; exact hb rfl
end
structure Un (fs ex : List Addr) (H H' : Hp) (h h' : Heap) : Prop where
  keep : ∀ b o, h.get? b = some o → H b = none → b ∉ fs → b ∉ ex → h'.get? b = some o
  slot : ∀ b o, h.get? b = some o → H b = none → b ∈ fs → b ∉ ex → ∃ sl, h'.get? b = some { o with slots := sl }
  free : ∀ b o, h.get? b = some o → H b = none → b ∉ ex → H' b = none
  there : ∀ b o, h.get? b = some o → b ∉ ex → ∃ o', h'.get? b = some o'
  tups : ∀ b xs, H b = some (.tup xs) → H' b = some (.tup xs)
  frzs : ∀ b o u, H b = some (.frz o u) → H' b = some (.frz o u)
  tbls : ∀ b ps, H b = some (.tbl ps) → ∃ more, H' b = some (.tbl (ps ++ more))
section
variable {fs fs' ex ex' : List Addr} {H H1 H2 : Hp} {h h1 h2 h' : Heap} {a x e : Addr} {o : HO}
theorem Un.any (u : Un fs ex H H1 h h1) {b : Addr} {ob : Obj} (q : h.get? b = some ob) (n : H b = none) (hx : b ∉ ex) : ∃ sl, h1.get? b = some { ob with slots := sl } := by
  by_cases hb : b ∈ fs
  · exact u.slot b ob q n hb hx
  · exact ⟨ob.slots, u.keep b ob q n hb hx⟩
theorem Un.trans (a : Un fs ex H H1 h h1) (b : Un fs ex H1 H2 h1 h2) : Un fs ex H H2 h h2 where
  keep := fun c ob q n hc hx => b.keep c ob (a.keep c ob q n hc hx) (a.free c ob q n hx) hc hx
  slot := fun c ob q n hc hx => by
    obtain ⟨sl, e1⟩ := a.slot c ob q n hc hx
    obtain ⟨sl', e2⟩ := b.slot c _ e1 (a.free c ob q n hx) hc hx
    exact ⟨sl', e2⟩
  free := fun c ob q n hx => by
    obtain ⟨o', e1⟩ := a.there c ob q hx
    exact b.free c o' e1 (a.free c ob q n hx) hx
  there := fun c ob q hx => by
    obtain ⟨o', e1⟩ := a.there c ob q hx
    exact b.there c o' e1 hx
  tups := fun c xs q => b.tups c xs (a.tups c xs q)
  frzs := fun c ob xs q => b.frzs c ob xs (a.frzs c ob xs q)
  tbls := fun c ps q => by
    obtain ⟨m1, e1⟩ := a.tbls c ps q
    obtain ⟨m2, e2⟩ := b.tbls c _ e1
    exact ⟨m1 ++ m2, by rw [e2, Array.append_assoc]⟩
theorem Un.kept (k : ∀ b u, h.get? b = some u → h'.get? b = some u) : Un fs ex H H h h' :=
  ⟨fun b ob q _ _ _ => k b ob q, fun b ob q _ _ _ => ⟨ob.slots, k b ob q⟩, fun _ _ _ n _ => n, fun b ob q _ => ⟨ob, k b ob q⟩, fun _ _ q => q, fun _ _ _ q => q, fun _ ps q => ⟨#[], by rw [q]; simp⟩⟩
theorem Un.refl : Un fs ex H H h h := Un.kept fun _ _ q => q
theorem Un.laid (k : ∀ b u, h.get? b = some u → h'.get? b = some u) (hp : h.objs.size ≤ a) (hn : H a = none) : Un fs ex H (upd H a o) h h' where
  keep := fun b u q _ _ _ => k b u q
  slot := fun b u q _ _ _ => ⟨u.slots, k b u q⟩
  free := fun b u q n _ => by rw [upd_ne (Nat.ne_of_lt (Nat.lt_of_lt_of_le (Heap.lt_size q) hp))]; exact n
  there := fun b u q _ => ⟨u, k b u q⟩
  tups := fun b xs q => by rw [upd_ne (ne_of_none q hn)]; exact q
  frzs := fun b u xs q => by rw [upd_ne (ne_of_none q hn)]; exact q
  tbls := fun b ps q => ⟨#[], by rw [upd_ne (ne_of_none q hn), q]; simp⟩
theorem Un.write (mu : Mut (H x)) (he : e = x ∨ H e = some (.own x)) (k : ∀ b u, b ≠ e → h.get? b = some u → h'.get? b = some u) (heo : ∃ u, h'.get? e = some u) : Un fs ex H (upd H x o) h h' := by
  have hx : ∀ b, H b = none → b ≠ x := fun b n z => by subst z; rw [n] at mu; exact mu
  have hb : ∀ b, H b = none → b ≠ e := fun b n z => by
    subst z
    rcases he with r | r
    · exact hx b n r
    · rw [n] at r; cases r
  have hm : ∀ b u, H b = some u → ¬ Mut (some u) → b ≠ x := fun b u q nm z => by subst z; rw [q] at mu; exact nm mu
  refine ⟨fun b u q n _ _ => k b u (hb b n) q, fun b u q n _ _ => ⟨u.slots, k b u (hb b n) q⟩, fun b u q n _ => by rw [upd_ne (hx b n)]; exact n, fun b u q _ => ?_,
    fun b xs q => by rw [upd_ne (hm b _ q fun z => z)]; exact q, fun b u xs q => by rw [upd_ne (hm b _ q fun z => z)]; exact q, fun b ps q => ⟨#[], by rw [upd_ne (hm b _ q fun z => z), q]; simp⟩⟩
  by_cases hbe : b = e
  · subst hbe; exact heo
  · exact ⟨u, k b u hbe q⟩
theorem Un.mono (u : Un fs ex H H1 h h1) (hs : ∀ b ∈ fs, b ∈ fs') (hx : ∀ b ∈ ex, b ∈ ex') : Un fs' ex' H H1 h h1 :=
  ⟨fun b ob q n hb he => u.keep b ob q n (fun z => hb (hs b z)) fun z => he (hx b z), fun _ _ q n _ he => u.any q n fun z => he (hx _ z), fun b ob q n he => u.free b ob q n fun z => he (hx b z), fun b ob q he => u.there b ob q fun z => he (hx b z), u.tups, u.frzs, u.tbls⟩
end
def trk (h : Heap) (H : Hp) : List Addr := (List.range h.objs.size).filter fun a => (H a).isSome
def hidT (h : Heap) (H : Hp) : Heap := PySem.W.hideAll h (trk h H)
theorem hidT_size (h : Heap) (H : Hp) : (hidT h H).objs.size = h.objs.size := PySem.W.hideAll_size _ _
theorem hidT_get {h : Heap} {H : Hp} {b : Addr} {o : Obj} (e : h.get? b = some o) (n : H b = none) : (hidT h H).get? b = some o :=
  PySem.W.hideAll_get _ e fun hm => by
    have q : (H b).isSome = true := (List.mem_filter.mp hm).2
    rw [n] at q; simp at q
theorem of_hidT {h : Heap} {H : Hp} {b : Addr} {o : Obj} (e : (hidT h H).get? b = some o) : h.get? b = some o ∧ H b = none := by
  have e' : h.get? b = some o := PySem.W.of_hideAll (trk h H) e
  refine ⟨e', ?_⟩
  cases q : H b with
  | none => rfl
  | some x =>
    have hm : b ∈ trk h H := List.mem_filter.mpr ⟨List.mem_range.mpr (Heap.lt_size e'), by simp [q]⟩
    have z : (hidT h H).get? b = none := PySem.W.hideAll_none (trk h H) hm
    rw [z] at e; cases e
def allNews (g h : Heap) (L : Addr) : List (Addr × Obj) := (List.range h.objs.size).filterMap fun a => if a = L ∨ (g.get? a).isSome = true then none else (h.get? a).map fun o => (a, o)
def rest (g h : Heap) (L d : Addr) : List (Addr × Obj) := (allNews g h L).filter fun p => decide (p.1 ≠ d)
end L2
namespace L2
open PySem PySem.Spec PyProof.Rows
structure Mod (K : PySem.W.Frag) (mg : Str → Option Value) (base : Heap) : Prop where
  kin : K.In base
  glob : base.Ns mainGlobals mg
  blt : ∃ mb, base.Ns builtinsNs mb ∧ ∀ x : Str, x ≠ "__name__" → mb x = bootBuiltins x
  nolimit : base.NoLimit
structure Cx where
  prog : Program
  w : World
  K : PySem.W.Frag
  mg : Str → Option Value
  base : Heap
  A : Around
  N : List Str
  s_0 : Shared
  H_0 : Hp
  env : Env
  outer : List Env
  stack : List Env
  ex : List Addr
  fn : Str → Bool
  calm : Bool
  pn : List (Addr × Obj)
  xe : Value → Shared → Prop
def frs (l : List Env) : List Addr := l.filterMap (·.frame)
abbrev Cx.fs (X : Cx) : List Addr := frs X.outer
def Vis (sc : Scope) (x : Str) : Prop := sc.names.lookup x = some .local ∨ sc.names.lookup x = some .cell ∨ sc.names.lookup x = some .free
def Loc (sc : Scope) (x : Str) : Prop := sc.names.lookup x = some .local ∨ sc.names.lookup x = some .cell
def Look (env : Env) (h : Heap) (m : Str → Option Value) (x : Str) (u : Value) : Prop :=
  (env.kindOf x = some .local ∧ m x = some u) ∨ ((env.kindOf x = some .cell ∨ env.kindOf x = some .free) ∧ ∃ c, env.cells.lookup x = some c ∧ h.IsCell c (some u))
structure Cx.Ok (X : Cx) : Prop where
  mod : Mod X.K X.mg X.base
  kind : X.env.scope.kind = .function
  glob : X.env.globals = mainGlobals
  blt : X.env.builtins = builtinsNs
  above : X.s_0.heap.objs.size ≤ X.env.locals
  inj : ∀ x y c, X.env.cells.lookup x = some c → X.env.cells.lookup y = some c → x = y
  has : ∀ x, (X.env.kindOf x = some .cell ∨ X.env.kindOf x = some .free) → ∃ c, X.env.cells.lookup x = some c
  cab : ∀ x c, X.fn x = true → X.env.cells.lookup x = some c → X.s_0.heap.objs.size ≤ c
  hd : X.calm = true → X.A.handled = none
  frames : X.A.frames = some X.stack
  stk : X.stack = X.outer ∨ (X.stack = X.env :: X.outer ∧ X.env.frame = some X.env.locals)
  exf : ∀ b ∈ X.ex, b ≠ X.env.locals ∧ ∀ x c, X.env.cells.lookup x = some c → c ≠ b
  bs : ∀ b o, X.base.get? b = some o → X.s_0.heap.get? b = some o ∧ X.H_0 b = none
  bsz : X.base.objs.size ≤ X.s_0.heap.objs.size
  noex : ∀ b o, X.base.get? b = some o → b ∉ X.ex
  exfs : ∀ b ∈ X.ex, b ∉ X.fs
  funs : X.s_0.heap.FunFrames X.base X.outer
  frf : ∀ b ∈ X.fs, X.H_0 b = none
structure Inv (X : Cx) (pins : List (Addr × Obj)) (σ : List (Option V)) (H : Hp) (s : Shared) : Prop where
  ok : X.Ok
  os : s.os = X.s_0.os
  bare : AllBare s.gens
  base : Un X.fs X.ex X.H_0 H X.s_0.heap s.heap
  loc : ∃ m, s.heap.Ns X.env.locals m ∧ ∀ (i : Nat) (x : Str) (v : V), X.N[i]? = some x → σ[i]? = some (some v) → Vis X.env.scope x → ∃ u, RelV v u ∧ Look X.env s.heap m x u
  cell : ∀ x c, X.env.cells.lookup x = some c → ∃ v, s.heap.IsCell c v
  free : H X.env.locals = none
  freeC : ∀ x c, X.env.cells.lookup x = some c → H c = none
  pin : ∀ p ∈ X.pn ++ pins, s.heap.get? p.1 = some p.2 ∧ H p.1 = none ∧ p.1 ≠ X.env.locals ∧ p.1 ∉ X.fs ∧ ∀ v, p.2.data ≠ .cell v
  hok : HOk X.prog X.w H s.heap
  len : σ.length = X.N.length
section
variable {X : Cx} {pins : List (Addr × Obj)} {σ : List (Option V)} {H H' : Hp} {s : Shared} {h' : Heap}
theorem Cx.Ok.nofr (ok : X.Ok) {b : Addr} {o : Obj} (e : X.base.get? b = some o) : b ∉ X.fs := fun hb => by
  have := (ok.funs.mem hb).1
  rw [e] at this; cases this
theorem Inv.bs (I : Inv X pins σ H s) : ∀ b o, X.base.get? b = some o → s.heap.get? b = some o ∧ H b = none := fun b o e =>
  ⟨I.base.keep b o (I.ok.bs b o e).1 (I.ok.bs b o e).2 (I.ok.nofr e) (I.ok.noex b o e), I.base.free b o (I.ok.bs b o e).1 (I.ok.bs b o e).2 (I.ok.noex b o e)⟩
theorem Inv.bk (I : Inv X pins σ H s) : ∀ b o, X.base.get? b = some o → s.heap.get? b = some o := fun b o e => (I.bs b o e).1
theorem Inv.mod (I : Inv X pins σ H s) : Mod X.K X.mg X.base := I.ok.mod
theorem Inv.kIn (I : Inv X pins σ H s) : X.K.In s.heap := I.ok.mod.kin.keeps I.bk
theorem Inv.nolimit (I : Inv X pins σ H s) : s.heap.NoLimit := I.ok.mod.nolimit.keeps I.bk
theorem Inv.fr (I : Inv X pins σ H s) : ∃ m, Fr X.base X.env.locals s.heap m :=
  let ⟨m, hn, _⟩ := I.loc
  ⟨m, hn, I.bk, Nat.le_trans I.ok.bsz I.ok.above⟩
theorem Inv.lt (I : Inv X pins σ H s) : X.env.locals < s.heap.objs.size := let ⟨_, hn, _⟩ := I.loc; hn.lt
theorem Inv.sz (I : Inv X pins σ H s) : X.s_0.heap.objs.size ≤ s.heap.objs.size := Nat.le_trans I.ok.above (Nat.le_of_lt I.lt)
theorem Inv.nofs (I : Inv X pins σ H s) {a : Addr} (h : s.heap.objs.size ≤ a) : a ∉ X.fs := fun hb => by
  obtain ⟨_, o, ho, _⟩ := I.ok.funs.mem hb
  exact absurd (Nat.lt_of_lt_of_le (Heap.lt_size ho) (Nat.le_trans I.sz h)) (Nat.lt_irrefl _)
theorem Inv.cne (I : Inv X pins σ H s) : ∀ x c, X.env.cells.lookup x = some c → c ≠ X.env.locals := fun x c e z => by
  obtain ⟨v, o, ho, hd⟩ := I.cell x c e
  obtain ⟨m, ⟨o', es, ep, ho', hd', _⟩, _⟩ := I.loc
  rw [z, ho'] at ho; cases ho; rw [hd'] at hd; cases hd
theorem Inv.funs (I : Inv X pins σ H s) : s.heap.FunFrames X.base X.outer := by
  have all : ∀ (l : List Env), (∀ b ∈ frs l, b ∈ X.fs) → X.s_0.heap.FunFrames X.base l → s.heap.FunFrames X.base l := by
    intro l
    induction l with
    | nil => intro _ _; trivial
    | cons env r ih =>
      intro hs hl
      obtain ⟨hk, ⟨L, o, hf, hn, ho, hd⟩, hr⟩ := hl
      have hL : L ∈ X.fs := hs L (by unfold frs; rw [List.filterMap_cons, hf]; exact List.mem_cons_self)
      obtain ⟨sl, e⟩ := I.base.slot L o ho (I.ok.frf L hL) hL fun z => I.ok.exfs L z hL
      exact ⟨hk, ⟨L, _, hf, hn, e, hd⟩, ih (fun b hb => hs b (by unfold frs; rw [List.filterMap_cons, hf]; exact List.mem_cons_of_mem _ hb)) hr⟩
  exact all X.outer (fun _ hb => hb) I.ok.funs
theorem Inv.stack (I : Inv X pins σ H s) : s.heap.FunFrames X.base X.stack := by
  rcases I.ok.stk with e | ⟨e, hf⟩
  · rw [e]; exact I.funs
  · rw [e]
    obtain ⟨m, hn, _⟩ := I.loc
    refine .cons (by rw [I.ok.kind]; decide) hf hn ?_ I.funs
    exact Heap.get?_none_of_le (Nat.le_trans I.ok.bsz I.ok.above)
theorem Inv.stkSub (I : Inv X pins σ H s) : ∀ b ∈ frs X.stack, b ∈ X.env.locals :: X.fs := fun b hb => by
  rcases I.ok.stk with e | ⟨e, hf⟩
  · rw [e] at hb; exact List.mem_cons_of_mem _ hb
  · rw [e] at hb
    unfold frs at hb
    rw [List.filterMap_cons, hf] at hb
    exact hb
theorem Inv.stkFree (I : Inv X pins σ H s) : ∀ b ∈ frs X.stack, H b = none := fun b hb => by
  rcases List.mem_cons.mp (I.stkSub b hb) with e | hb
  · rw [e]; exact I.free
  · obtain ⟨_, o, ho, _⟩ := I.ok.funs.mem hb
    exact I.base.free b o ho (I.ok.frf b hb) fun z => I.ok.exfs b z hb
theorem Inv.step {g' : Array GenState} {t' : Nat} {d' : Drawn} {ch : List Addr} (I : Inv X pins σ H s)
    (hch : ∀ b ∈ ch, (b ∈ X.ex ∨ X.s_0.heap.objs.size ≤ b) ∧ b ≠ X.env.locals ∧ (∀ x c, X.env.cells.lookup x = some c → c ≠ b) ∧ ∀ p ∈ X.pn ++ pins, p.1 ≠ b)
    (keep : ∀ b o, b ≠ X.env.locals → b ∉ X.fs → b ∉ ch → s.heap.get? b = some o → H b = none → h'.get? b = some o)
    (slot : ∀ b o, b ≠ X.env.locals → b ∈ X.fs → b ∉ ch → s.heap.get? b = some o → H b = none → ∃ sl, h'.get? b = some { o with slots := sl }) (free : ∀ b o, b ∉ ch → s.heap.get? b = some o → H b = none → H' b = none)
    (there : ∀ b o, b ∉ ch → s.heap.get? b = some o → ∃ o', h'.get? b = some o')
    (tups : ∀ b xs, H b = some (.tup xs) → H' b = some (.tup xs)) (frzs : ∀ b o u, H b = some (.frz o u) → H' b = some (.frz o u)) (tbls : ∀ b ps, H b = some (.tbl ps) → ∃ more, H' b = some (.tbl (ps ++ more)))
    (ns : ∀ m, s.heap.Ns X.env.locals m → h'.Ns X.env.locals m) (hok : HOk X.prog X.w H' h') (hg : AllBare g') :
    Inv X pins σ H' { s with heap := h', gens := g', drawn := d', toks := t' } := by
  have neL : ∀ b o, X.s_0.heap.get? b = some o → b ≠ X.env.locals := fun b o e => Nat.ne_of_lt (Nat.lt_of_lt_of_le (Heap.lt_size e) I.ok.above)
  have neC : ∀ b o, X.s_0.heap.get? b = some o → b ∉ X.ex → b ∉ ch := fun b o e hx hb => by
    rcases (hch b hb).1 with z | z
    · exact hx z
    · exact absurd (Nat.lt_of_lt_of_le (Heap.lt_size e) z) (Nat.lt_irrefl _)
  have cellK : ∀ x c, X.env.cells.lookup x = some c → ∀ v, s.heap.IsCell c v → h'.IsCell c v := fun x c e v ⟨o, ho, hd⟩ => by
    have nch : c ∉ ch := fun z => (hch c z).2.2.1 x c e rfl
    by_cases hc : c ∈ X.fs
    · obtain ⟨sl, q⟩ := slot c o (I.cne x c e) hc nch ho (I.freeC x c e)
      exact ⟨_, q, hd⟩
    · exact ⟨o, keep c o (I.cne x c e) hc nch ho (I.freeC x c e), hd⟩
  refine ⟨I.ok, I.os, hg, ⟨fun b o e n hb hx => ?_, fun b o e n hb hx => ?_, fun b o e n hx => ?_, fun b o e hx => ?_, fun b xs e => tups b xs (I.base.tups b xs e), fun b o xs e => frzs b o xs (I.base.frzs b o xs e), fun b ps e => ?_⟩, ?_, fun x c e => ?_, ?_, fun x c e => ?_, fun p hp => ?_, hok, I.len⟩
  · exact keep b o (neL b o e) hb (neC b o e hx) (I.base.keep b o e n hb hx) (I.base.free b o e n hx)
  · obtain ⟨sl, e1⟩ := I.base.slot b o e n hb hx
    obtain ⟨sl', e2⟩ := slot b _ (neL b o e) hb (neC b o e hx) e1 (I.base.free b o e n hx)
    exact ⟨sl', e2⟩
  · obtain ⟨o', e1⟩ := I.base.there b o e hx
    exact free b o' (neC b o e hx) e1 (I.base.free b o e n hx)
  · obtain ⟨o', e1⟩ := I.base.there b o e hx
    exact there b o' (neC b o e hx) e1
  · obtain ⟨m1, e1⟩ := I.base.tbls b ps e
    obtain ⟨m2, e2⟩ := tbls b _ e1
    exact ⟨m1 ++ m2, by rw [e2, Array.append_assoc]⟩
  · obtain ⟨m, hn, hl⟩ := I.loc
    refine ⟨m, ns m hn, fun i x v e1 e2 e3 => ?_⟩
    obtain ⟨u, r, l⟩ := hl i x v e1 e2 e3
    refine ⟨u, r, ?_⟩
    rcases l with l | ⟨k, c, e, z⟩
    · exact .inl l
    · exact .inr ⟨k, c, e, cellK x c e _ z⟩
  · obtain ⟨v, z⟩ := I.cell x c e
    exact ⟨v, cellK x c e v z⟩
  · obtain ⟨m, ⟨o, _, _, ho, _⟩, _⟩ := I.loc
    exact free _ o (fun z => (hch _ z).2.1 rfl) ho I.free
  · obtain ⟨v, o, ho, hd⟩ := I.cell x c e
    exact free c o (fun z => (hch c z).2.2.1 x c e rfl) ho (I.freeC x c e)
  · obtain ⟨e, n, ne, nf, d⟩ := I.pin p hp
    have nch : p.1 ∉ ch := fun z => (hch p.1 z).2.2.2 p hp rfl
    exact ⟨keep p.1 p.2 ne nf nch e n, free p.1 p.2 nch e n, ne, nf, d⟩
theorem Inv.un {t' : Nat} (I : Inv X pins σ H s) (u : Un X.fs [] H H' s.heap h') (hok : HOk X.prog X.w H' h') : Inv X pins σ H' { s with heap := h', toks := t' } := by
  obtain ⟨m, ⟨o, es, ep, ho, r⟩, _⟩ := id I.loc
  obtain ⟨sl, hL⟩ := u.any ho I.free (by simp)
  exact I.step (g' := s.gens) (d' := s.drawn) (ch := []) (fun _ z => nomatch z) (fun b o _ hb _ e n => u.keep b o e n hb (by simp)) (fun b o _ hb _ e n => u.slot b o e n hb (by simp)) (fun b o _ e n => u.free b o e n (by simp)) (fun b o _ e => u.there b o e (by simp)) u.tups u.frzs u.tbls (fun m' hm => by
    obtain ⟨o', es', ep', ho', r'⟩ := hm
    rw [ho] at ho'; cases ho'
    exact ⟨_, es', ep', hL, r'⟩) hok I.bare
theorem Inv.call {g' : Array GenState} {t' : Nat} {d' : Drawn} {ch : List Addr} (I : Inv X pins σ H s) (u : Un (frs X.stack) ch H H' s.heap h') (hok : HOk X.prog X.w H' h') (hg : AllBare g')
    (hch : ∀ b ∈ ch, (b ∈ X.ex ∨ X.s_0.heap.objs.size ≤ b) ∧ b ≠ X.env.locals ∧ (∀ x c, X.env.cells.lookup x = some c → c ≠ b) ∧ ∀ p ∈ X.pn ++ pins, p.1 ≠ b) :
    Inv X pins σ H' { s with heap := h', gens := g', drawn := d', toks := t' } := by
  obtain ⟨m, ⟨o, es, ep, ho, r⟩, _⟩ := id I.loc
  obtain ⟨sl, hL⟩ := u.any ho I.free fun z => (hch _ z).2.1 rfl
  exact I.step (ch := ch) hch (fun b o hL hb hc e n => u.keep b o e n (fun z => (List.mem_cons.mp (I.stkSub b z)).elim hL hb) hc) (fun b o _ _ hc e n => u.any e n hc) (fun b o hc e n => u.free b o e n hc) (fun b o hc e => u.there b o e hc) u.tups u.frzs u.tbls (fun m' hm => by
    obtain ⟨o', es', ep', ho', r'⟩ := hm
    rw [ho] at ho'; cases ho'
    exact ⟨_, es', ep', hL, r'⟩) hok hg
theorem Inv.turned {t' : Nat} {it : Addr} (I : Inv X pins σ H s) (k : ∀ b o, b ≠ it → s.heap.get? b = some o → h'.get? b = some o) (hn : H it = none) (hL : it ≠ X.env.locals)
    (h1 : it ∈ X.ex ∨ X.s_0.heap.objs.size ≤ it) (h2 : ∀ x c, X.env.cells.lookup x = some c → c ≠ it) (h3 : ∀ p ∈ X.pn ++ pins, p.1 ≠ it) : Inv X pins σ H { s with heap := h', toks := t' } := by
  have nit : ∀ b u, H b = some u → b ≠ it := fun b u e z => by rw [z, hn] at e; cases e
  refine I.step (g' := s.gens) (d' := s.drawn) (ch := [it]) (fun b hb => ?_) (fun b o _ _ hc e _ => k b o (fun z => hc (by simp [z])) e) (fun b o _ _ hc e _ => ⟨o.slots, k b o (fun z => hc (by simp [z])) e⟩) (fun _ _ _ _ n => n)
    (fun b o hc e => ⟨o, k b o (fun z => hc (by simp [z])) e⟩) (fun _ _ e => e) (fun _ _ _ e => e) (fun b ps e => ⟨#[], by rw [e]; simp⟩) (fun m hm => ?_) (fun b u e => ?_) I.bare
  · have e : b = it := by simpa using hb
    subst e
    exact ⟨h1, hL, h2, h3⟩
  · obtain ⟨o, es, ep, ho, r⟩ := hm
    exact ⟨o, es, ep, k _ o (Ne.symm hL) ho, r⟩
  · refine (I.hok b u e).stay (fun c v hc q => k c v ?_ q) (fun _ q => q) fun _ _ q => q
    rcases hc with z | z
    · rw [z]; exact nit b u e
    · exact nit c _ z
theorem Inv.tok (I : Inv X pins σ H s) (t : Nat) : Inv X pins σ H { s with toks := t } := I.un (h' := s.heap) (t' := t) Un.refl I.hok
theorem Inv.kept {t' : Nat} (I : Inv X pins σ H s) (k : ∀ b u, s.heap.get? b = some u → h'.get? b = some u) : Inv X pins σ H { s with heap := h', toks := t' } := I.un (Un.kept k) (I.hok.kept k)
theorem Inv.laid {a : Addr} {o : HO} {t' : Nat} (I : Inv X pins σ H s) (k : ∀ b u, s.heap.get? b = some u → h'.get? b = some u) (hp : s.heap.objs.size ≤ a) (new : ObjOk X.prog X.w (upd H a o) h' a o) :
    Inv X pins σ (upd H a o) { s with heap := h', toks := t' } := I.un (Un.laid k hp (I.hok.fresh hp)) (I.hok.laid k hp new)
theorem Inv.write {x e : Addr} {o : HO} {t' : Nat} (I : Inv X pins σ H s) (mu : Mut (H x)) (he : e = x ∨ H e = some (.own x)) (k : ∀ b u, b ≠ e → s.heap.get? b = some u → h'.get? b = some u) (heo : ∃ u, h'.get? e = some u)
    (new : ObjOk X.prog X.w (upd H x o) h' x o) : Inv X pins σ (upd H x o) { s with heap := h', toks := t' } := I.un (Un.write mu he k heo) (I.hok.write mu he k heo new)
theorem Inv.weak {σ' : List (Option V)} (I : Inv X pins σ H s) (hl : σ'.length = σ.length) (w : ∀ (i : Nat) v, σ'[i]? = some (some v) → σ[i]? = some (some v)) : Inv X pins σ' H s :=
  ⟨I.ok, I.os, I.bare, I.base, let ⟨m, hn, hl'⟩ := I.loc; ⟨m, hn, fun i x v e1 e2 e3 => hl' i x v e1 (w i v e2) e3⟩, I.cell, I.free, I.freeC, I.pin, I.hok, hl.trans I.len⟩
theorem Inv.pins_of {pins' : List (Addr × Obj)} (I : Inv X pins σ H s) (h : ∀ p ∈ pins', s.heap.get? p.1 = some p.2 ∧ H p.1 = none ∧ p.1 ≠ X.env.locals ∧ p.1 ∉ X.fs ∧ ∀ v, p.2.data ≠ .cell v) : Inv X pins' σ H s :=
  ⟨I.ok, I.os, I.bare, I.base, I.loc, I.cell, I.free, I.freeC, fun p hp => (List.mem_append.mp hp).elim (fun z => I.pin p (List.mem_append_left _ z)) (h p), I.hok, I.len⟩
theorem nodup_ix {N : List Str} (hN : N.Nodup) {i j : Nat} {x : Str} (a : N[i]? = some x) (b : N[j]? = some x) : i = j := by
  obtain ⟨h1, e1⟩ := List.getElem?_eq_some_iff.mp a
  obtain ⟨h2, e2⟩ := List.getElem?_eq_some_iff.mp b
  exact (List.getElem_inj hN).mp (e1.trans e2.symm)
theorem store_ok2 {M : Model} {A : Around} {E : Value → Shared → Prop} {i : Nat} {x : Str} {v : V} {u : Value} {Q : Unit → Shared → Prop} (I : Inv X pins σ H s) (hN : X.N.Nodup) (hi : X.N[i]? = some x) (hx : Loc X.env.scope x) (r : RelV v u)
    (h : ∀ s', Inv X pins (σ.set i (some v)) H s' → (∃ a, Heap.SameBut a s.heap s'.heap ∧ (a = X.env.locals ∨ X.env.cells.lookup x = some a)) → Q () s') (hf : X.fn x = true ∨ X.env.scope.names.lookup x = some .local := by first | exact .inl rfl | exact .inr rfl | assumption) : wpAny M A (storeName X.env x u) Q E s := by
  obtain ⟨m, hn, hl⟩ := id I.loc
  have hcls : (X.env.scope.kind == .class || (X.env.scope.kind == .module && X.env.locals != X.env.globals)) = false := by rw [I.ok.kind]; rfl
  have hiσ : i < σ.length := by rw [I.len]; exact (List.getElem?_eq_some_iff.mp hi).1
  have cne := I.cne
  have tracked : ∀ {a : Addr} {h' : Heap}, (∃ o, s.heap.get? a = some o ∧ H a = none) → Heap.SameBut a s.heap h' → HOk X.prog X.w H h' := fun {a h'} ha hs b ob e => by
    obtain ⟨_, _, hfree⟩ := ha
    refine (I.hok b ob e).stay (fun c w' hc q => (hs.2 c ?_).trans q) (fun _ q => q) fun _ _ q => q
    rintro rfl
    rcases hc with rfl | hc
    · rw [hfree] at e; cases e
    · rw [hfree] at hc; cases hc
  rcases hx with hk | hk
  · refine wpAny_storeName_local hk hn (fun h' hn' hs => ?_) hcls
    obtain ⟨oL, _, _, hoL, _⟩ := id hn
    refine h _ ⟨I.ok, I.os, I.bare, ⟨fun b o e n hb hx => ?_, fun b o e n hb hx => ?_, I.base.free, fun b o e hx => ?_, I.base.tups, I.base.frzs, I.base.tbls⟩, ⟨_, hn', fun j y v' e1 e2 e3 => ?_⟩, fun y c e => ?_, I.free, I.freeC, fun p hp => ?_, tracked ⟨oL, hoL, I.free⟩ hs, by simpa using I.len⟩ ⟨_, hs, .inl rfl⟩
    · exact (hs.2 b (Nat.ne_of_lt (Nat.lt_of_lt_of_le (Heap.lt_size e) I.ok.above))).trans (I.base.keep b o e n hb hx)
    · obtain ⟨sl, e1⟩ := I.base.slot b o e n hb hx
      exact ⟨sl, (hs.2 b (Nat.ne_of_lt (Nat.lt_of_lt_of_le (Heap.lt_size e) I.ok.above))).trans e1⟩
    · obtain ⟨o', e1⟩ := I.base.there b o e hx
      exact ⟨o', (hs.2 b (Nat.ne_of_lt (Nat.lt_of_lt_of_le (Heap.lt_size e) I.ok.above))).trans e1⟩
    · by_cases hj : j = i
      · subst hj
        rw [hi] at e1; cases e1
        rw [List.getElem?_set_self hiσ] at e2
        cases e2
        exact ⟨u, r, .inl ⟨hk, by simp⟩⟩
      · rw [List.getElem?_set_ne (Ne.symm hj)] at e2
        obtain ⟨u', r', q⟩ := hl j y v' e1 e2 e3
        refine ⟨u', r', ?_⟩
        rcases q with ⟨k, e⟩ | ⟨k, c, e, z⟩
        · refine .inl ⟨k, ?_⟩
          have : y ≠ x := fun e => hj (nodup_ix hN e1 (e ▸ hi))
          simp [this, e]
        · exact .inr ⟨k, c, e, z.sameBut hs (cne y c e)⟩
    · obtain ⟨w', z⟩ := I.cell y c e
      exact ⟨w', z.sameBut hs (cne y c e)⟩
    · obtain ⟨e, n, ne, nf, d⟩ := I.pin p hp
      exact ⟨(hs.2 p.1 ne).trans e, n, ne, nf, d⟩
  · have hfn : X.fn x = true := by
      rcases hf with z | z
      · exact z
      · rw [z] at hk; cases hk
    obtain ⟨c, hc⟩ := I.ok.has x (.inl hk)
    obtain ⟨w', z⟩ := I.cell x c hc
    refine wpAny_storeName_cell I.ok.kind hk hc z (fun h' hc' hs => ?_)
    obtain ⟨oc, hoc, hocd⟩ := id z
    refine h { s with heap := h' } ⟨I.ok, I.os, I.bare, ⟨fun b o e n hb hx => ?_, fun b o e n hb hx => ?_, I.base.free, fun b o e hx => ?_, I.base.tups, I.base.frzs, I.base.tbls⟩, ⟨m, hn.sameBut hs (Ne.symm (cne x c hc)), fun j y v' e1 e2 e3 => ?_⟩, fun y c' e => ?_, I.free, I.freeC, fun p hp => ?_, tracked ⟨oc, hoc, I.freeC x c hc⟩ hs, by simpa using I.len⟩ ⟨c, hs, .inr hc⟩
    · exact (hs.2 b (Nat.ne_of_lt (Nat.lt_of_lt_of_le (Heap.lt_size e) (I.ok.cab x c hfn hc)))).trans (I.base.keep b o e n hb hx)
    · obtain ⟨sl, e1⟩ := I.base.slot b o e n hb hx
      exact ⟨sl, (hs.2 b (Nat.ne_of_lt (Nat.lt_of_lt_of_le (Heap.lt_size e) (I.ok.cab x c hfn hc)))).trans e1⟩
    · obtain ⟨o', e1⟩ := I.base.there b o e hx
      exact ⟨o', (hs.2 b (Nat.ne_of_lt (Nat.lt_of_lt_of_le (Heap.lt_size e) (I.ok.cab x c hfn hc)))).trans e1⟩
    · by_cases hj : j = i
      · subst hj
        rw [hi] at e1; cases e1
        rw [List.getElem?_set_self hiσ] at e2
        cases e2
        exact ⟨u, r, .inr ⟨.inl hk, c, hc, hc'⟩⟩
      · rw [List.getElem?_set_ne (Ne.symm hj)] at e2
        obtain ⟨u', r', q⟩ := hl j y v' e1 e2 e3
        refine ⟨u', r', ?_⟩
        rcases q with q | ⟨k, c', e, z'⟩
        · exact .inl q
        · refine .inr ⟨k, c', e, z'.sameBut hs ?_⟩
          rintro rfl
          exact hj (nodup_ix hN e1 (I.ok.inj _ _ _ e hc ▸ hi))
    · by_cases hcc : c' = c
      · subst hcc; exact ⟨_, hc'⟩
      · obtain ⟨w2, z2⟩ := I.cell y c' e
        exact ⟨w2, z2.sameBut hs hcc⟩
    · obtain ⟨e, n, ne, nf, d⟩ := I.pin p hp
      refine ⟨(hs.2 p.1 ?_).trans e, n, ne, nf, d⟩
      intro q
      rw [q, hoc] at e
      have q' : oc = p.2 := Option.some.inj e
      exact d w' (by rw [← q']; exact hocd)
theorem store_ok {M : Model} {A : Around} {E : Value → Shared → Prop} {i : Nat} {x : Str} {v : V} {u : Value} {Q : Unit → Shared → Prop} (I : Inv X pins σ H s) (hN : X.N.Nodup) (hi : X.N[i]? = some x) (hx : Loc X.env.scope x) (r : RelV v u)
    (h : ∀ s', Inv X pins (σ.set i (some v)) H s' → Q () s') (hf : X.fn x = true ∨ X.env.scope.names.lookup x = some .local := by first | exact .inl rfl | exact .inr rfl | assumption) : wpAny M A (storeName X.env x u) Q E s :=
  store_ok2 I hN hi hx r (fun s' I' _ => h s' I') hf
theorem Inv.call' {s' : Shared} {ch : List Addr} (I : Inv X pins σ H s) (ho : s'.os = s.os) (u : Un (frs X.stack) ch H H' s.heap s'.heap) (hok : HOk X.prog X.w H' s'.heap) (hg : AllBare s'.gens)
    (hch : ∀ b ∈ ch, (b ∈ X.ex ∨ X.s_0.heap.objs.size ≤ b) ∧ b ≠ X.env.locals ∧ (∀ x c, X.env.cells.lookup x = some c → c ≠ b) ∧ ∀ p ∈ X.pn ++ pins, p.1 ≠ b) : Inv X pins σ H' s' := by
  obtain ⟨h', g', d', t', o'⟩ := s'
  have e : o' = s.os := ho
  subst e
  exact I.call (g' := g') (t' := t') (d' := d') u hok hg hch
end
abbrev XK := Value → Option Addr → Hp → Prop
abbrev St := List (Option V)
abbrev VK := V → Hp → Prop
abbrev TE := St → Hp → VK → Prop
abbrev TT := St → Hp → (Bool → Hp → Prop) → Prop
abbrev TA := St → Hp → (List V → Hp → Prop) → Prop
structure Ends where
  nx : St → Hp → Prop
  rt : VK
  bk : St → Hp → Prop := fun _ _ => False
  ct : St → Hp → Prop := fun _ _ => False
abbrev TS := Ends → St → Hp → Prop
def EP (X : Cx) (pins : List (Addr × Obj)) (σ : St) (Q : VK) (u : Value) (s' : Shared) : Prop := ∃ v H', Inv X pins σ H' s' ∧ RelV v u ∧ Q v H'
def TP (X : Cx) (pins : List (Addr × Obj)) (σ : St) (Q : Bool → Hp → Prop) (b : Bool) (s' : Shared) : Prop := ∃ H', Inv X pins σ H' s' ∧ Q b H'
def AP (X : Cx) (pins : List (Addr × Obj)) (σ : St) (Q : List V → Hp → Prop) (us : List Value) (s' : Shared) : Prop := ∃ vs H', Inv X pins σ H' s' ∧ Vals vs us ∧ Q vs H'
def SP (X : Cx) (pins : List (Addr × Obj)) (D : Ends) (f : Flow) (s' : Shared) : Prop :=
  match f with
  | .next => ∃ σ' H', Inv X pins σ' H' s' ∧ D.nx σ' H'
  | .brk => ∃ σ' H', Inv X pins σ' H' s' ∧ D.bk σ' H'
  | .cont => ∃ σ' H', Inv X pins σ' H' s' ∧ D.ct σ' H'
  | .ret u => ∃ v σ' H', Inv X pins σ' H' s' ∧ RelV v u ∧ D.rt v H'
def PE (X : Cx) (e : Expr) (t : TE) : Prop :=
  ∀ (pins : List (Addr × Obj)) (s : Shared) (σ : St) (H : Hp) (Q : VK), Inv X pins σ H s → t σ H Q → wpAny (model X.prog X.w) X.A (eval e X.env) (EP X pins σ Q) X.xe s
def PT (X : Cx) (e : Expr) (t : TT) : Prop :=
  ∀ (pins : List (Addr × Obj)) (s : Shared) (σ : St) (H : Hp) (Q : Bool → Hp → Prop), Inv X pins σ H s → t σ H Q → wpAny (model X.prog X.w) X.A (isTrue e X.env (eval e X.env)) (TP X pins σ Q) X.xe s
def PW (X : Cx) (e : Expr) (t : TT) : Prop :=
  ∀ (whole : Sem Value) (pins : List (Addr × Obj)) (s : Shared) (σ : St) (H : Hp) (Q : Bool → Hp → Prop), Inv X pins σ H s → t σ H Q → wpAny (model X.prog X.w) X.A (isTrue e X.env whole) (TP X pins σ Q) X.xe s
theorem PW.pt {X : Cx} {e : Expr} {t : TT} (h : PW X e t) : PT X e t := h _
def PA (X : Cx) (es : List Expr) (t : TA) : Prop :=
  ∀ (pos : Pos) (pins : List (Addr × Obj)) (s : Shared) (σ : St) (H : Hp) (Q : List V → Hp → Prop), Inv X pins σ H s → t σ H Q → wpAny (model X.prog X.w) X.A (spliced (backTo pos (starEach es X.env))) (AP X pins σ Q) X.xe s
def PS (X : Cx) (st : Stmt) (t : TS) : Prop :=
  ∀ (pins : List (Addr × Obj)) (s : Shared) (σ : St) (H : Hp) (D : Ends), Inv X pins σ H s → t D σ H → wpAny (model X.prog X.w) X.A (exec st X.env) (SP X pins D) X.xe s
def PSs (X : Cx) (st : List Stmt) (t : TS) : Prop :=
  ∀ (pins : List (Addr × Obj)) (s : Shared) (σ : St) (H : Hp) (D : Ends), Inv X pins σ H s → t D σ H → wpAny (model X.prog X.w) X.A (execs st X.env) (SP X pins D) X.xe s
theorem thn {α : Type} {t : Sem α} {Q Q' : α → Shared → Prop} {M : Model} {A : Around} {E : Value → Shared → Prop} {s : Shared} (h : wpAny M A t Q E s) (hQ : ∀ a s, Q a s → Q' a s) : wpAny M A t Q' E s := wpAny_mono h hQ fun _ _ x => x
end L2
namespace L2
open PySem PySem.Spec PyProof.Rows
section
variable {X : Cx}
def tVar (i : Nat) : TE := fun σ H Q => ∃ v, σ[i]? = some (some v) ∧ Q v H
def tC (v : V) : TE := fun _ H Q => Q v H
theorem pe_var {i : Nat} {x : Str} {pos : Pos} (hN : X.N[i]? = some x) (hv : Vis X.env.scope x) (hd : (x == ("__debug__" : Str)) = false := by decide) (hcd : (x == ("__classdict__" : Str)) = false := by decide) : PE X (.Name x pos) (tVar i) := by
  intro pins s σ H Q I h
  obtain ⟨v, e, h⟩ := h
  obtain ⟨m, hn, hl⟩ := I.loc
  obtain ⟨u, r, l⟩ := hl i x v hN e hv
  have fin : EP X pins σ Q u s := ⟨v, H, I, r, h⟩
  rcases l with ⟨hk, hm⟩ | ⟨hk, c, hc, hcell⟩
  · exact wpAny_Name (wpAny_loadName_local I.ok.kind hk hn hm fin) hd
  · rcases hk with hk | hk
    · exact wpAny_Name (wpAny_loadName_cell I.ok.kind hk hc hcell fin) hd
    · exact wpAny_Name (wpAny_loadName_free I.ok.kind hk hc hcell fin hcd) hd
theorem pe_int {i j pos} : PE X (.Constant (.int i) j pos) (tC (.int i)) := fun _ _ _ H _ I h => wpAny_Constant_int ⟨.int i, H, I.tok _, ⟨_, rfl⟩, h⟩
theorem pe_bl {b j pos} : PE X (.Constant (.bool b) j pos) (tC (.bl b)) := fun _ _ _ H _ I h => Constant_bool ⟨.bl b, H, I, rfl, h⟩
theorem pe_non {j pos} : PE X (.Constant .none j pos) (tC .non) := fun _ _ _ H _ I h => Constant_none ⟨.non, H, I, rfl, h⟩
theorem pe_str {x j pos} : PE X (.Constant (.str x) j pos) (tC (.str x)) := fun _ _ _ H _ I h => Calls.Constant_str ⟨.str x, H, I.tok _, ⟨_, rfl⟩, h⟩
def Gl (X : Cx) (x : Str) : Prop := X.env.kindOf x = some .globalImplicit
theorem ld_glob {E : Value → Shared → Prop} {pins : List (Addr × Obj)} {s : Shared} {σ : St} {H : Hp} {x : Str} {u : Value} {pos : Pos} {Q : Value → Shared → Prop} (I : Inv X pins σ H s) (hg : Gl X x) (hm : X.mg x = some u) (h : Q u s)
    (hd : (x == ("__debug__" : Str)) = false := by decide) : wpAny (model X.prog X.w) X.A (eval (.Name x pos) X.env) Q E s :=
  Calls.Name_function_global I.ok.kind hg (Calls.loadGlobal_global (by rw [I.ok.glob]; exact I.mod.glob.keeps I.bk) hm h) hd
theorem ld_blt {E : Value → Shared → Prop} {pins : List (Addr × Obj)} {s : Shared} {σ : St} {H : Hp} {x : Str} {u : Value} {pos : Pos} {Q : Value → Shared → Prop} (I : Inv X pins σ H s) (hg : Gl X x) (hm : X.mg x = none) (hv : bootBuiltins x = some u) (h : Q u s)
    (hn : x ≠ "__name__" := by decide) (hd : (x == ("__debug__" : Str)) = false := by decide) : wpAny (model X.prog X.w) X.A (eval (.Name x pos) X.env) Q E s := by
  obtain ⟨mb, h1, h2⟩ := I.mod.blt
  exact Calls.Name_function_global I.ok.kind hg (Calls.loadGlobal_builtin (by rw [I.ok.glob]; exact I.mod.glob.keeps I.bk) hm (by rw [I.ok.blt]; exact h1.keeps I.bk) ((h2 x hn).trans hv) h) hd
theorem pe_glob {x : Str} {v : V} {u : Value} {pos : Pos} (hg : Gl X x) (hm : X.mg x = some u) (r : RelV v u) (hd : (x == ("__debug__" : Str)) = false := by decide) : PE X (.Name x pos) (tC v) :=
  fun _ _ _ H _ I h => ld_glob I hg hm ⟨v, H, I, r, h⟩ hd
theorem pe_bltn {x : Str} {v : V} {u : Value} {pos : Pos} (hg : Gl X x) (hm : X.mg x = none) (hv : bootBuiltins x = some u) (r : RelV v u) (hn : x ≠ "__name__" := by decide) (hd : (x == ("__debug__" : Str)) = false := by decide) : PE X (.Name x pos) (tC v) :=
  fun _ _ _ H _ I h => ld_blt I hg hm hv ⟨v, H, I, r, h⟩ hn hd
variable {a b : Expr} {ta tb : TE} {pos : Pos}
def tB (t : TE) : TT := fun σ H Q => t σ H fun x H1 => ∃ c, x = .bl c ∧ Q c H1
theorem pt_val {e : Expr} {t : TE} (h : PE X e t) (he : ∀ whole, isTrue e X.env whole = (do let v ← whole; standAt e.pos; holding [v] (truthy v)) := by intro _; rfl) : PT X e (tB t) := by
  intro pins s σ H Q I hw
  refine isTrue_plain (thn (h pins s σ H _ I hw) fun v s1 ⟨x, H1, I1, r1, q1⟩ => ?_) (he _)
  obtain ⟨d, rfl, q⟩ := q1
  cases r1
  exact wpAny_truthy_bool ⟨H1, I1, q⟩
variable {tA tB' : TT} {rest : List Expr}
def tAnd (t u : TT) : TT := fun σ H Q => t σ H fun c H1 => if c = true then u σ H1 Q else Q false H1
def tOr (t u : TT) : TT := fun σ H Q => t σ H fun c H1 => if c = true then Q true H1 else u σ H1 Q
def tNot (t : TT) : TT := fun σ H Q => t σ H fun c H1 => Q (!c) H1
theorem pw_or1 (ha : PT X a tA) : PW X (.BoolOp .Or [a] pos) tA := by
  intro wh pins s σ H Q I h
  refine isTrue_or (thn (ha pins s σ H Q I h) fun c s1 e => ?_)
  cases c with
  | false => exact isTrue_or_nil e
  | true => exact e
theorem pw_and (ha : PT X a tA) (hb : PW X (.BoolOp .And (b :: rest) pos) tB') : PW X (.BoolOp .And (a :: b :: rest) pos) (tAnd tA tB') := by
  intro wh pins s σ H Q I h
  refine isTrue_and (thn (ha pins s σ H _ I h) fun c s1 ⟨H1, I1, q1⟩ => ?_)
  cases c with
  | true => exact hb wh pins s1 σ H1 Q I1 q1
  | false => exact ⟨H1, I1, q1⟩
theorem pw_or (ha : PT X a tA) (hb : PW X (.BoolOp .Or (b :: rest) pos) tB') : PW X (.BoolOp .Or (a :: b :: rest) pos) (tOr tA tB') := by
  intro wh pins s σ H Q I h
  refine isTrue_or (thn (ha pins s σ H _ I h) fun c s1 ⟨H1, I1, q1⟩ => ?_)
  cases c with
  | true => exact ⟨H1, I1, q1⟩
  | false => exact hb wh pins s1 σ H1 Q I1 q1
theorem pt_not (ha : PT X a tA) : PT X (.UnaryOp .Not a pos) (tNot tA) := by
  intro pins s σ H Q I h
  exact isTrue_not (ha pins s σ H (fun c H1 => Q (!c) H1) I h)
def tAndV (ta tb : TE) : TE := fun σ H Q => ta σ H fun x H1 => ∃ c, x = .bl c ∧ if c = true then tb σ H1 Q else Q (.bl false) H1
def tOrV (ta tb : TE) : TE := fun σ H Q => ta σ H fun x H1 => ∃ c, x = .bl c ∧ if c = true then Q (.bl true) H1 else tb σ H1 Q
def tNotV (ta : TE) : TE := fun σ H Q => ta σ H fun x H1 => ∃ c, x = .bl c ∧ Q (.bl (!c)) H1
theorem pe_one {op} {t : TE} (h : PE X a t) : PE X (.BoolOp op [a] pos) t := fun pins s σ H Q I hw => BoolOp_one (h pins s σ H Q I hw)
theorem pe_and (ha : PE X a ta) (hb : PE X (.BoolOp .And (b :: rest) pos) tb) : PE X (.BoolOp .And (a :: b :: rest) pos) (tAndV ta tb) := by
  intro pins s σ H Q I h
  refine BoolOp_and (thn (ha pins s σ H _ I h) fun v s1 ⟨x, H1, I1, r1, q1⟩ => ?_)
  obtain ⟨c, rfl, q1⟩ := q1
  cases r1
  refine wpAny_truthy_bool ?_
  cases c with
  | true => exact hb pins s1 σ H1 Q I1 q1
  | false => exact ⟨.bl false, H1, I1, rfl, q1⟩
theorem pe_or (ha : PE X a ta) (hb : PE X (.BoolOp .Or (b :: rest) pos) tb) : PE X (.BoolOp .Or (a :: b :: rest) pos) (tOrV ta tb) := by
  intro pins s σ H Q I h
  refine BoolOp_or (thn (ha pins s σ H _ I h) fun v s1 ⟨x, H1, I1, r1, q1⟩ => ?_)
  obtain ⟨c, rfl, q1⟩ := q1
  cases r1
  refine wpAny_truthy_bool ?_
  cases c with
  | false => exact hb pins s1 σ H1 Q I1 q1
  | true => exact ⟨.bl true, H1, I1, rfl, q1⟩
theorem pe_not (ha : PE X a ta) : PE X (.UnaryOp .Not a pos) (tNotV ta) := by
  intro pins s σ H Q I h
  refine UnaryOp_ (thn (ha pins s σ H _ I h) fun v s1 ⟨x, H1, I1, r1, q1⟩ => ?_)
  obtain ⟨c, rfl, q1⟩ := q1
  cases r1
  exact not_of (wpAny_truthy_bool ⟨.bl (!c), H1, I1, rfl, q1⟩)
end
end L2
namespace L2
open PySem PySem.Spec PyProof.Rows
def SqL (K : PySem.W.Frag) (H : Hp) (a : Addr) (xs : List V) : Prop :=
  Rd H a (.lst xs) ∨
    ∃ (o : Obj) (its : Array Value) (n : Nat), K.lookup a = some o ∧ o.cls = .type "list" ∧ o.dict = none ∧ o.data = .seq its n ∧ its.size ≤ sizeLine ∧ Vals xs its.toList
def SqT (K : PySem.W.Frag) (H : Hp) (a : Addr) (xs : List V) : Prop :=
  Rd H a (.tup xs) ∨
    ∃ (o : Obj) (its : Array Value) (n : Nat), K.lookup a = some o ∧ o.cls = .type "tuple" ∧ o.data = .seq its n ∧ its.size ≤ sizeLine ∧ Vals xs its.toList
def absV : Value → Option V
  | .none => some .non
  | .bool b => some (.bl b)
  | .int i _ => some (.int i)
  | .str x _ => some (.str x)
  | .bytes b _ => some (.byt b)
  | .float b _ => some (.flt b)
  | .ref a => some (.ref a)
  | .type n => some (.ty n)
  | _ => none
theorem RelV.abs {x : V} {u : Value} (r : RelV x u) : absV u = some x := by
  cases x with
  | non => cases r; rfl
  | bl _ => cases r; rfl
  | int _ => obtain ⟨t, rfl⟩ := r; rfl
  | str _ => obtain ⟨t, rfl⟩ := r; rfl
  | byt _ => obtain ⟨t, rfl⟩ := r; rfl
  | flt _ => obtain ⟨t, rfl⟩ := r; rfl
  | ref _ => cases r; rfl
  | ty _ => cases r; rfl
theorem RelV.inj {x y : V} {u : Value} (r : RelV x u) (q : RelV y u) : x = y := Option.some.inj (r.abs.symm.trans q.abs)
theorem Vals.inj : ∀ {xs ys : List V} {us : List Value}, Vals xs us → Vals ys us → xs = ys
  | _, _, _, .nil, .nil => rfl
  | _, _, _, .cons r t, .cons r' t' => by rw [r.inj r', Vals.inj t t']
section
variable {X : Cx} {pins : List (Addr × Obj)} {σ : St} {H : Hp} {s : Shared} {a : Addr} {xs ys : List V}
theorem SqL.of {K : PySem.W.Frag} (h : H a = some (.lst xs)) : SqL K H a xs := .inl (.inl h)
theorem SqT.of {K : PySem.W.Frag} (h : H a = some (.tup xs)) : SqT K H a xs := .inl (.inl h)
theorem Inv.list (I : Inv X pins σ H s) (h : SqL X.K H a xs) : ∃ its : List Value, Vals xs its ∧ PlainL s.heap a its.toArray ∧ xs.length ≤ sizeLine := by
  rcases h with h | ⟨o, its, n, hk, hc, hd, hs, hz, r⟩
  · obtain ⟨z, its, n, r, e⟩ := h.ok I.hok
    exact ⟨its, r, ⟨_, n, e, rfl, rfl, rfl⟩, z⟩
  · refine ⟨its.toList, r, ⟨o, n, I.kIn a o hk, hc, hd, by simpa using hs⟩, ?_⟩
    have e := r.length
    simp only [Array.length_toList] at e
    omega
theorem Inv.tuple (I : Inv X pins σ H s) (h : SqT X.K H a xs) : ∃ its : List Value, Vals xs its ∧ IsTup s.heap a its.toArray ∧ xs.length ≤ sizeLine := by
  rcases h with h | ⟨o, its, n, hk, hc, hs, hz, r⟩
  · obtain ⟨z, its, r, p⟩ := h.ok I.hok
    exact ⟨its, r, p.tup, z⟩
  · refine ⟨its.toList, r, ⟨o, I.kIn a o hk, hc, n, by simpa using hs⟩, ?_⟩
    have e := r.length
    simp only [Array.length_toList] at e
    omega
theorem Inv.list_inj (I : Inv X pins σ H s) (h : SqL X.K H a xs) (h' : SqL X.K H a ys) : xs = ys := by
  obtain ⟨its, r, ⟨o, n, e, _, _, d⟩, _⟩ := I.list h
  obtain ⟨its', r', ⟨o', n', e', _, _, d'⟩, _⟩ := I.list h'
  rw [e] at e'; cases e'
  rw [d] at d'
  injection d' with d1 _
  have : its = its' := by simpa using congrArg Array.toList d1
  subst this
  exact r.inj r'
theorem Inv.tuple_inj (I : Inv X pins σ H s) (h : SqT X.K H a xs) (h' : SqT X.K H a ys) : xs = ys := by
  obtain ⟨its, r, ⟨o, e, _, n, d⟩, _⟩ := I.tuple h
  obtain ⟨its', r', ⟨o', e', _, n', d'⟩, _⟩ := I.tuple h'
  rw [e] at e'; cases e'
  rw [d] at d'
  injection d' with d1 _
  have : its = its' := by simpa using congrArg Array.toList d1
  subst this
  exact r.inj r'
end
abbrev Cx.wish (X : Cx) (E : Value → Shared → Prop) : Cx := { X with xe := E }
abbrev Cx.nox (X : Cx) : Cx := X.wish fun _ _ => False
theorem Cx.Ok.wish {X : Cx} (ok : X.Ok) (E : Value → Shared → Prop) : (X.wish E).Ok :=
  ⟨ok.mod, ok.kind, ok.glob, ok.blt, ok.above, ok.inj, ok.has, ok.cab, ok.hd, ok.frames, ok.stk, ok.exf, ok.bs, ok.bsz, ok.noex, ok.exfs, ok.funs, ok.frf⟩
theorem Cx.Ok.unwish {X : Cx} {E : Value → Shared → Prop} (ok : (X.wish E).Ok) : X.Ok :=
  ⟨ok.mod, ok.kind, ok.glob, ok.blt, ok.above, ok.inj, ok.has, ok.cab, ok.hd, ok.frames, ok.stk, ok.exf, ok.bs, ok.bsz, ok.noex, ok.exfs, ok.funs, ok.frf⟩
section
variable {X : Cx} {pins : List (Addr × Obj)} {σ : St} {H : Hp} {s : Shared} {E : Value → Shared → Prop}
theorem Inv.wish (I : Inv X pins σ H s) (E : Value → Shared → Prop) : Inv (X.wish E) pins σ H s := ⟨I.ok.wish E, I.os, I.bare, I.base, I.loc, I.cell, I.free, I.freeC, I.pin, I.hok, I.len⟩
theorem Inv.unwish (I : Inv (X.wish E) pins σ H s) : Inv X pins σ H s := ⟨I.ok.unwish, I.os, I.bare, I.base, I.loc, I.cell, I.free, I.freeC, I.pin, I.hok, I.len⟩
theorem SP.unwish {D : Ends} {f : Flow} {s' : Shared} (h : SP (X.wish E) pins D f s') : SP X pins D f s' := by
  cases f with
  | next => obtain ⟨σ', H', I, q⟩ := h; exact ⟨σ', H', I.unwish, q⟩
  | brk => obtain ⟨σ', H', I, q⟩ := h; exact ⟨σ', H', I.unwish, q⟩
  | cont => obtain ⟨σ', H', I, q⟩ := h; exact ⟨σ', H', I.unwish, q⟩
  | ret u => obtain ⟨v, σ', H', I, r, q⟩ := h; exact ⟨v, σ', H', I.unwish, r, q⟩
theorem PE.nox {e : Expr} {t : TE} (h : PE X.nox e t) : PE X e t := fun pins s σ H Q I hw =>
  wpAny_mono (h pins s σ H Q (I.wish _) hw) (fun _ _ ⟨v, H', I', r, q⟩ => ⟨v, H', I'.unwish, r, q⟩) fun _ _ z => False.elim z
theorem PT.nox {e : Expr} {t : TT} (h : PT X.nox e t) : PT X e t := fun pins s σ H Q I hw =>
  wpAny_mono (h pins s σ H Q (I.wish _) hw) (fun _ _ ⟨H', I', q⟩ => ⟨H', I'.unwish, q⟩) fun _ _ z => False.elim z
theorem PSs.nox {st : List Stmt} {t : TS} (h : PSs X.nox st t) : PSs X st t := fun pins s σ H D I hw =>
  wpAny_mono (h pins s σ H D (I.wish _) hw) (fun _ _ q => q.unwish) fun _ _ z => False.elim z
end
section
variable {X : Cx} {st : Stmt} {rest : List Stmt} {t u : TS} {e : Expr} {te : TE} {pos : Pos}
def tNext : TS := fun D σ H => D.nx σ H
def tSeq (t u : TS) : TS := fun D σ H => t { D with nx := u D } σ H
theorem pss_nil : PSs X [] tNext := fun _ _ σ H _ I h => wpAny_execs_nil ⟨σ, H, I, h⟩
theorem pss_cons (h1 : PS X st t) (h2 : PSs X rest u) : PSs X (st :: rest) (tSeq t u) := by
  intro pins s σ H D I h
  refine wpAny_execs_cons (thn (h1 pins s σ H { D with nx := u D } I h) fun f s1 q => ?_)
  cases f with
  | next =>
    obtain ⟨σ', H', I', q⟩ := q
    exact h2 pins s1 σ' H' D I' q
  | ret v => exact q
  | brk => exact q
  | cont => exact q
theorem pss_one (h1 : PS X st t) : PSs X [st] t := by
  intro pins s σ H D I h
  refine wpAny_execs_cons (thn (h1 pins s σ H D I h) fun f s1 q => ?_)
  cases f with
  | next => exact wpAny_execs_nil q
  | ret v => exact q
  | brk => exact q
  | cont => exact q
def tBreak : TS := fun D σ H => D.bk σ H
def tCont : TS := fun D σ H => D.ct σ H
theorem ps_break : PS X (.Break pos) tBreak := fun _ _ σ H _ I h => wpAny_Break ⟨σ, H, I, h⟩
theorem ps_continue : PS X (.Continue pos) tCont := fun _ _ σ H _ I h => wpAny_Continue ⟨σ, H, I, h⟩
theorem Inv.quiet {pins : List (Addr × Obj)} {σ : St} {H : Hp} {s : Shared} (I : Inv X pins σ H s) : interactive X.env = false := by simp [interactive, I.ok.kind]
theorem ps_doc {x j pos pos'} : PS X (.Expr (.Constant (.str x) j pos) pos') tNext := fun _ s σ H _ I h => wpAny_Expr (Calls.Constant_str (show SP X _ _ .next { s with toks := s.toks + 1 } from ⟨σ, H, I.tok _, h⟩)) I.quiet
def tDrop (te : TE) : TS := fun D σ H => te σ H fun _ H1 => D.nx σ H1
theorem ps_expr (he : PE X e te) (hs : swapsWith e none pos.line X.env = pure false := by rfl) : PS X (.Expr e pos) (tDrop te) := by
  intro pins s σ H D I h
  exact wpAny_Expr_any (thn (he pins s σ H _ I h) fun v s1 ⟨x, H1, I1, r1, q1⟩ => ⟨σ, H1, I1, q1⟩) I.quiet hs
def tRet (te : TE) : TS := fun D σ H => te σ H D.rt
theorem ps_ret (he : PE X e te) : PS X (.Return (some e) pos) (tRet te) := by
  intro pins s σ H D I h
  exact wpAny_Return_some (thn (he pins s σ H _ I h) fun v s1 ⟨x, H1, I1, r1, q1⟩ => ⟨x, σ, H1, I1, r1, q1⟩)
def tIfS (c : TT) (t u : TS) : TS := fun D σ H => c σ H fun b H1 => if b = true then t D σ H1 else u D σ H1
theorem ps_if {c : Expr} {a b : List Stmt} {tc : TT} (hc : PT X c tc) (ha : PSs X a t) (hb : PSs X b u) : PS X (.If c a b pos) (tIfS tc t u) := by
  intro pins s σ H D I h
  refine wpAny_If (thn (hc pins s σ H _ I h) fun d s1 ⟨H1, I1, q1⟩ => ?_)
  cases d with
  | true => exact ha pins s1 σ H1 D I1 q1
  | false => exact hb pins s1 σ H1 D I1 q1
def tNever : TS := fun _ _ _ => False
theorem ps_never : PS X st tNever := fun _ _ _ _ _ _ h => h.elim
theorem pss_never {sts : List Stmt} : PSs X sts tNever := fun _ _ _ _ _ _ h => h.elim
end
abbrev TG := V → St → Hp → (St → Hp → Prop) → Prop
abbrev TGs := List V → St → Hp → (St → Hp → Prop) → Prop
def PG (X : Cx) (target : Expr) (t : TG) : Prop :=
  ∀ (pins : List (Addr × Obj)) (s : Shared) (σ : St) (H : Hp) (v : V) (u : Value) (Q : St → Hp → Prop), Inv X pins σ H s → RelV v u → t v σ H Q →
    wpAny (model X.prog X.w) X.A (assign target X.env u) (fun _ s' => ∃ σ' H', Inv X pins σ' H' s' ∧ Q σ' H') X.xe s
def PGs (X : Cx) (ts : List Expr) (t : TGs) : Prop :=
  ∀ (pins : List (Addr × Obj)) (s : Shared) (σ : St) (H : Hp) (vs : List V) (us : List Value) (Q : St → Hp → Prop), Inv X pins σ H s → Vals vs us → t vs σ H Q →
    wpAny (model X.prog X.w) X.A (assignInOrder ((assignEach ts X.env).map (·.2)) us) (fun _ s' => ∃ σ' H', Inv X pins σ' H' s' ∧ Q σ' H') X.xe s
abbrev TSet := V → V → V → Hp → (Hp → Prop) → Prop
def PSet (X : Cx) (t : TSet) : Prop :=
  ∀ (pins : List (Addr × Obj)) (s : Shared) (σ : St) (H : Hp) (o i v : V) (ov iv u : Value) (Q : Hp → Prop), Inv X pins σ H s → RelV o ov → RelV i iv → RelV v u → t o i v H Q →
    wpAny (model X.prog X.w) X.A (setItem ov iv u) (fun _ s' => ∃ H', Inv X pins σ H' s' ∧ Q H') X.xe s
abbrev TIp := V → V → Hp → VK → Prop
def PIp (X : Cx) (op : Operator) (t : TIp) : Prop :=
  ∀ (pins : List (Addr × Obj)) (s : Shared) (σ : St) (H : Hp) (x y : V) (v u : Value) (Q : VK), Inv X pins σ H s → RelV x v → RelV y u → t x y H Q →
    wpAny (model X.prog X.w) X.A (inplaceOp op v u) (EP X pins σ Q) X.xe s
section
variable {X : Cx} {pos : Pos}
def gName (i : Nat) : TG := fun v σ H Q => Q (σ.set i (some v)) H
theorem pg_name {i : Nat} {x : Str} (hN : X.N.Nodup) (hi : X.N[i]? = some x) (hx : Loc X.env.scope x) (hf : X.fn x = true ∨ X.env.scope.names.lookup x = some .local := by first | exact .inl rfl | exact .inr rfl | assumption) : PG X (.Name x pos) (gName i) := by
  intro pins s σ H v u Q I r h
  exact wpAny_assign_Name (store_ok I hN hi hx r (fun s' I' => ⟨_, H, I', h⟩) hf)
def gNil : TGs := fun vs σ H Q => vs = [] ∧ Q σ H
def gCons (t : TG) (u : TGs) : TGs := fun vs σ H Q => ∃ v r, vs = v :: r ∧ t v σ H fun σ' H' => u r σ' H' Q
theorem pgs_nil : PGs X [] gNil := by
  intro pins s σ H vs us Q I r h
  obtain ⟨e, h⟩ := h
  subst e
  cases r
  exact assignInOrder_nil ⟨σ, H, I, h⟩
theorem pgs_cons {e : Expr} {es : List Expr} {t : TG} {u : TGs} (h1 : PG X e t) (h2 : PGs X es u)
    (hs : (assignEach (e :: es) X.env).map (·.2) = assign e X.env :: (assignEach es X.env).map (·.2) := by rfl) : PGs X (e :: es) (gCons t u) := by
  intro pins s σ H vs us Q I r h
  obtain ⟨v, vr, e1, h⟩ := h
  subst e1
  cases r with
  | cons r rr =>
    rw [hs]
    refine assignInOrder_cons (thn (h1 pins s σ H _ _ _ I r h) fun _ s1 ⟨σ1, H1, I1, q1⟩ => ?_)
    exact h2 pins s1 σ1 H1 _ _ Q I1 rr q1
def gTup (K : PySem.W.Frag) (n : Nat) (t : TGs) : TG := fun v σ H Q => ∃ a xs, v = .ref a ∧ SqT K H a xs ∧ xs.length = n ∧ t xs σ H Q
theorem pg_tup {es : List Expr} {k : Nat} {t : TGs} {n : Nat} (hc : X.calm = true) (h : PGs X es t)
    (hn : (assignEach es X.env).length = n := by rfl) (hst : (assignEach es X.env).findIdx? (·.1) = none := by rfl) : PG X (.Tuple es k pos) (gTup X.K n t) := by
  intro pins s σ H v u Q I r hw
  obtain ⟨a, xs, e1, hq, hl, hw⟩ := hw
  subst e1
  cases r
  obtain ⟨its, rv, ht, hz⟩ := I.tuple hq
  refine assign_Tuple_tuple (I.ok.hd hc) ht (by simp [hn, ← hl, rv.length]) hst fun h' hx => ?_
  have I1 : Inv X pins σ H { s with heap := h' } := I.kept (t' := s.toks) fun b o e => hx b o (Nat.ne_of_lt (Heap.lt_size e)) e
  exact h pins _ σ H xs _ Q I1 (by simpa using rv) hw
def gSub (to ti : TE) (t : TSet) : TG := fun v σ H Q => to σ H fun o H1 => ti σ H1 fun i H2 => t o i v H2 fun H3 => Q σ H3
theorem pg_sub {o i : Expr} {to ti : TE} {t : TSet} (ho : PE X o to) (hi : PE X i ti) (hs : PSet X t)
    (ha : ∀ v, assign (.Subscript o i pos) X.env v = (do
      let ov ← holding [v] (eval o X.env)
      let iv ← holding [v, ov] (eval i X.env)
      standAt pos
      holding [v, ov, iv] (setItem ov iv v)
      release [v, ov, iv] []) := by intro _; rfl) : PG X (.Subscript o i pos) (gSub to ti t) := by
  intro pins s σ H v u Q I r h
  rw [ha]
  refine wpAny_bind (wpAny_holding (thn (ho pins s σ H _ I h) fun ov s1 ⟨x, H1, I1, r1, q1⟩ => ?_))
  refine wpAny_bind (wpAny_holding (thn (hi pins s1 σ H1 _ I1 q1) fun iv s2 ⟨y, H2, I2, r2, q2⟩ => ?_))
  refine wpAny_bind (wpAny_standAt (wpAny_bind (wpAny_holding (thn (hs pins s2 σ H2 x y v ov iv u _ I2 r1 r2 r q2) fun _ s3 ⟨H3, I3, q3⟩ => ?_))))
  exact wpAny_release ⟨σ, H3, I3, q3⟩
def tAsg (te : TE) (g : TG) : TS := fun D σ H => te σ H fun x H1 => g x σ H1 D.nx
theorem ps_asg {tg e : Expr} {te : TE} {g : TG} (he : PE X e te) (hg : PG X tg g) (hs : swapsWithSole [tg] e pos.line X.env = pure false := by rfl) (hw : swappedStores [tg] e X.env = pure none := by rfl)
    (h1 : (assignEach [tg] X.env).map (·.2) = [assign tg X.env] := by rfl) : PS X (.Assign [tg] e pos) (tAsg te g) := by
  intro pins s σ H D I h
  refine wpAny_Assign_stores (thn (he pins s σ H _ I h) fun v s1 ⟨x, H1, I1, r1, q1⟩ => ?_) hs hw
  rw [h1]
  exact thn (hg pins s1 σ H1 x v _ I1 r1 q1) fun _ s2 q => q
theorem ps_set {i : Nat} {x : Str} {e : Expr} {te : TE} {pos' : Pos} (hN : X.N.Nodup) (hi : X.N[i]? = some x) (hx : Loc X.env.scope x) (he : PE X e te) (hs : swapsWith e (some (.Name x pos')) pos.line X.env = pure false := by rfl) (hf : X.fn x = true ∨ X.env.scope.names.lookup x = some .local := by first | exact .inl rfl | exact .inr rfl | assumption) :
    PS X (.Assign [.Name x pos'] e pos) (tAsg te (gName i)) := by
  intro pins s σ H D I h
  refine wpAny_Assign_Name (thn (he pins s σ H _ I h) fun v s1 ⟨y, H1, I1, r1, q1⟩ => ?_) hs
  exact store_ok I1 hN hi hx r1 (fun s2 I2 => ⟨_, H1, I2, q1⟩) hf
def tPar (i j : Nat) (ta : TA) : TS := fun D σ H => ta σ H fun vs H1 => ∃ v w, vs = [v, w] ∧ D.nx ((σ.set i (some v)).set j (some w)) H1
theorem ps_par {i j : Nat} {x y : Str} {a b : Expr} {ta : TA} {px py pt : Pos} {kt k2 pt2} (hc : X.calm = true) (hN : X.N.Nodup) (hi : X.N[i]? = some x) (hj : X.N[j]? = some y) (hij : i ≠ j)
    (hx : X.env.scope.names.lookup x = some .local) (hy : X.env.scope.names.lookup y = some .local) (ha : PA X [a, b] ta)
    (hw : swappedStores [.Tuple [.Name x px, .Name y py] kt pt] (.Tuple [a, b] k2 pt2) X.env = pure (some [x, y]))
    (hs : swapsWithSole [.Tuple [.Name x px, .Name y py] kt pt] (.Tuple [a, b] k2 pt2) pos.line X.env = pure false := by rfl) :
    PS X (.Assign [.Tuple [.Name x px, .Name y py] kt pt] (.Tuple [a, b] k2 pt2) pos) (tPar i j ta) := by
  intro pins s σ H D I h
  rw [exec_Assign_arm]
  refine wpAny_bind (wpAny_standAt ?_)
  rw [hs]
  refine wpAny_bind (wpAny_pure ?_)
  rw [if_neg (by decide)]
  refine wpAny_bind (Tuple_ (thn (ha _ pins s σ H _ I h) fun us s1 ⟨vs, H1, I1, r1, q1⟩ => ?_))
  obtain ⟨v, w, e1, q1⟩ := q1
  subst e1
  obtain ⟨u1, u2, rfl, rv, rw'⟩ : ∃ u1 u2, us = [u1, u2] ∧ RelV v u1 ∧ RelV w u2 := by
    cases r1 with
    | cons p q =>
      cases q with
      | cons p' q' =>
        cases q'
        exact ⟨_, _, rfl, p, p'⟩
  refine wpAny_newObj_type ?_ (by show 2 ≤ sizeLine; decide)
  have I2 : Inv X pins σ H1 { s1 with heap := s1.heap.push { cls := .type "tuple", data := .seq [u1, u2].toArray } } := I1.kept (t' := s1.toks) fun b o e => Heap.get?_push_of_some _ e
  rw [hw]
  refine wpAny_bind (wpAny_pure ?_)
  show wpAny (model X.prog X.w) X.A (do rule "assign.swapped-stores"; let items ← unpackItems (.ref s1.heap.objs.size) 2 none; assignInOrder [fun v => bindName X.env y v, fun v => bindName X.env x v] items.reverse; pure Flow.next) _ _ _
  refine wpAny_bind (wpAny_rule (wpAny_bind (unpackItems_tuple (items := #[u1, u2]) (I.ok.hd hc) (IsTup.new s1.heap _) fun h' hx' => ?_)))
  have I3 := I2.kept (h' := h') (t' := s1.toks) fun b o e => hx' b o (Nat.ne_of_lt (Heap.lt_size e)) e
  show wpAny _ _ (assignInOrder [fun v => bindName X.env y v, fun v => bindName X.env x v] [u2, u1] >>= fun _ => pure Flow.next) _ _ _
  refine wpAny_bind (assignInOrder_cons (wpAny_bindName (store_ok I3 hN hj (.inl hy) rw' (fun s2 I4 => ?_) (.inr hy))))
  refine assignInOrder_cons (wpAny_bindName (store_ok I4 hN hi (.inl hx) rv (fun s3 I5 => assignInOrder_nil (wpAny_pure ?_)) (.inr hx)))
  rw [List.set_comm _ _ (Ne.symm hij)] at I5
  exact ⟨_, H1, I5, q1⟩
end
section
variable {X : Cx} {pos : Pos}
def tWhile (c : TT) (tb : TS) : TS := fun D σ H => ∃ W : Nat → St → Hp → Prop, (∃ m, W m σ H) ∧ ∀ m σ H, W m σ H →
  c σ H fun b H1 => if b = true then ∃ N : St → Hp → Prop, (∀ σ' H', N σ' H' → ∃ m', m' < m ∧ W m' σ' H') ∧ tb { D with nx := N, ct := N, bk := D.nx } σ H1 else D.nx σ H1
theorem ps_while {c : Expr} {body : List Stmt} {tc : TT} {tb : TS} (hp : PassesOwn (model X.prog X.w) X.A X.env X.xe) (hc : PT X c tc) (hb : PSs X body tb) : PS X (.While c body [] pos) (tWhile tc tb) := by
  intro pins s σ H D I h
  obtain ⟨W, ⟨m0, w0⟩, turn⟩ := h
  refine wpAny_While (codeAny_whileLoop (fun n s' => ∃ σ' H', Inv X pins σ' H' s' ∧ W n σ' H') ?_ m0 ⟨σ, H, I, w0⟩)
  rintro n s1 ⟨σ1, H1, I1, w1⟩
  refine wpAny_passesOwn hp (thn (hc pins s1 σ1 H1 _ I1 (turn n σ1 H1 w1)) fun b s2 ⟨H2, I2, q2⟩ => ?_)
  cases b with
  | true =>
    obtain ⟨N, hN, q2⟩ := q2
    rw [if_pos rfl]
    refine wpAny_passesOwn hp (thn (hb pins s2 σ1 H2 _ I2 q2) fun f s3 q3 => ?_)
    cases f with
    | next =>
      obtain ⟨σ3, H3, I3, n3⟩ := q3
      obtain ⟨m', hm, w3⟩ := hN σ3 H3 n3
      exact ⟨m', hm, σ3, H3, I3, w3⟩
    | cont =>
      obtain ⟨σ3, H3, I3, n3⟩ := q3
      obtain ⟨m', hm, w3⟩ := hN σ3 H3 n3
      exact ⟨m', hm, σ3, H3, I3, w3⟩
    | brk => exact q3
    | ret v => exact q3
  | false =>
    rw [if_neg Bool.false_ne_true]
    exact wpAny_execs_nil ⟨σ1, H2, I2, q2⟩
end
structure It where
  go : Nat → Hp → Prop
  yld : Nat → Hp → V → Hp → Prop
  stop : Nat → Hp → Prop
def FpOk (X : Cx) (pins : List (Addr × Obj)) (H : Hp) (b : Addr) : Prop :=
  H b = none ∧ b ≠ X.env.locals ∧ b ∉ X.fs ∧ (b ∈ X.ex ∨ X.s_0.heap.objs.size ≤ b) ∧ (∀ x c, X.env.cells.lookup x = some c → c ≠ b) ∧ ∀ p ∈ X.pn ++ pins, p.1 ≠ b
theorem Inv.fpOk {X : Cx} {pins : List (Addr × Obj)} {σ : St} {H H' : Hp} {s : Shared} {b : Addr} (I : Inv X pins σ H s) (hb : s.heap.objs.size ≤ b) (hn : H' b = none) : FpOk X pins H' b := by
  refine ⟨hn, Nat.ne_of_gt (Nat.lt_of_lt_of_le I.lt hb), I.nofs hb, .inr (Nat.le_trans I.sz hb), fun x c e z => ?_, fun p hp z => ?_⟩
  · obtain ⟨v, q⟩ := I.cell x c e
    exact absurd (Nat.lt_of_lt_of_le q.lt (by rw [z]; exact hb)) (Nat.lt_irrefl _)
  · exact absurd (Nat.lt_of_lt_of_le (Heap.lt_size (I.pin p hp).1) (by rw [z]; exact hb)) (Nat.lt_irrefl _)
structure Turn (P : Program) (w : World) (K : PySem.W.Frag) (tg : Expr) (J : It) (fp : List Addr) (it : Addr) (tn : Nat → Heap → Prop) : Prop where
  mem : it ∈ fp
  obj : ∀ i h, tn i h → ∀ b ∈ fp, ∃ o, h.get? b = some o ∧ ∀ v, o.data ≠ .cell v
  keep : ∀ i h h', tn i h → (∀ b ∈ fp, ∀ o, h.get? b = some o → h'.get? b = some o) → tn i h'
  item : ∀ (X : Cx), X.prog = P → X.w = w → X.K = K → X.calm = true → ∀ (i : Nat) (pins : List (Addr × Obj)) (s : Shared) (σ : St) (H : Hp) (E : Value → Shared → Prop), Inv X pins σ H s → (∀ b ∈ fp, FpOk X pins H b) → tn i s.heap → J.go i H →
    wpAny (model P w) X.A (pyNext (.ref it)) (fun r s1 => ∃ u, r = some u ∧
      wpAny (model P w) X.A (letOwnedTupleGo tg (.ref it) u) (fun _ s2 => ∃ x H', Inv X pins σ H' s2 ∧ RelV x u ∧ J.yld i H x H' ∧ tn (i + 1) s2.heap ∧ ∀ b ∈ fp, H' b = none) E s1) E s
  done : ∀ (X : Cx), X.prog = P → X.w = w → X.K = K → X.calm = true → ∀ (i : Nat) (pins : List (Addr × Obj)) (s : Shared) (σ : St) (H : Hp) (E : Value → Shared → Prop), Inv X pins σ H s → (∀ b ∈ fp, FpOk X pins H b) → tn i s.heap → J.stop i H →
    wpAny (model P w) X.A (pyNext (.ref it)) (fun r s1 => r = none ∧ Inv X pins σ H s1) E s
  self : ∀ (A : Around) (i : Nat) (s : Shared) (Q : Value → Shared → Prop) (E : Value → Shared → Prop), tn i s.heap → Q (.ref it) s → wpAny (model P w) A (pyIter (.ref it)) Q E s
abbrev TI := St → Hp → (It → Hp → Prop) → Prop
def PIE (X : Cx) (pins : List (Addr × Obj)) (σ : St) (tg : Expr) (R : It → Hp → Prop) (itv : Value) (s2 : Shared) : Prop :=
  ∃ (it : Addr) (fp : List Addr) (tn : Nat → Heap → Prop) (J : It) (H' : Hp), itv = .ref it ∧ Inv X pins σ H' s2 ∧ Turn X.prog X.w X.K tg J fp it tn ∧ tn 0 s2.heap ∧ (∀ b ∈ fp, FpOk X pins H' b) ∧ R J H'
def PI (X : Cx) (tg iter : Expr) (wi : TI) : Prop :=
  ∀ (pins : List (Addr × Obj)) (s : Shared) (σ : St) (H : Hp) (R : It → Hp → Prop), Inv X pins σ H s → wi σ H R →
    wpAny (model X.prog X.w) X.A (eval iter X.env) (fun v s1 => wpAny (model X.prog X.w) X.A (pyIter v) (PIE X pins σ tg R) X.xe s1) X.xe s
theorem go_of {M : Model} {A : Around} {E : Value → Shared → Prop} {s : Shared} {tg : Expr} {it : Addr} {u : Value} {o : Obj} {n : String} {vs : Array Value} {Q : Unit → Shared → Prop} (ho : s.heap.get? it = some o) (hc : o.cls = .type n) (hd : o.data = .fields vs)
    (hn : ["enumerate", "zip", "dict_itemiterator", "dict_reverseitemiterator", "odict_iterator", "itertools.zip_longest", "itertools.pairwise"].contains n = false) (hQ : Q () s) : wpAny M A (letOwnedTupleGo tg (.ref it) u) Q E s := by
  unfold letOwnedTupleGo
  cases tg <;> first
    | exact wpAny_pure hQ
    | (cases u <;> first
        | exact wpAny_pure hQ
        | (refine wpAny_bind (wpAny_load ho ?_)
           rw [hc, hd]
           show wpAny M A (if (["enumerate", "zip", "dict_itemiterator", "dict_reverseitemiterator", "odict_iterator", "itertools.zip_longest", "itertools.pairwise"].contains n && vs[0]? == some (rawInt _)) = true then _ else _) Q E s
           rw [if_neg (by intro h; rw [hn, Bool.false_and] at h; cases h)]
           exact wpAny_pure hQ))
def Itl (K : PySem.W.Frag) (a : Addr) : It :=
  ⟨fun i H => ∃ xs x, SqL K H a xs ∧ xs[i]? = some x, fun i H x H' => H' = H ∧ ∀ xs, SqL K H a xs → xs[i]? = some x, fun i H => ∃ xs, SqL K H a xs ∧ xs.length ≤ i⟩
def Itt (K : PySem.W.Frag) (a : Addr) : It :=
  ⟨fun i H => ∃ xs x, SqT K H a xs ∧ xs[i]? = some x, fun i H x H' => H' = H ∧ ∀ xs, SqT K H a xs → xs[i]? = some x, fun i H => ∃ xs, SqT K H a xs ∧ xs.length ≤ i⟩
def Itr (lo : Int) (n : Nat) : It := ⟨fun i _ => i < n, fun i H x H' => H' = H ∧ x = .int (lo + i), fun i _ => n ≤ i⟩
theorem turn_list {P : Program} {w : World} {K : PySem.W.Frag} {tg : Expr} (a it : Addr) : Turn P w K tg (Itl K a) [it] it (fun i h => h.IsListIter it a i) where
  mem := by simp
  obj := fun i h st b hb => by
    have e : b = it := by simpa using hb
    subst e
    obtain ⟨o, e, c, d⟩ := st
    exact ⟨o, e, fun v z => by rw [d] at z; cases z⟩
  keep := fun i h h' st k => st.at fun o e => k it (by simp) o e
  item := by
    intro X hP hw hK hc i pins s σ H E I hf st hg
    subst hP hw hK
    obtain ⟨xs, x, hq, hx⟩ := hg
    obtain ⟨its, rv, p, hz⟩ := I.list hq
    obtain ⟨u, hu, ru⟩ := rv.get hx
    obtain ⟨f0, f1, f2, f3, f4, f5⟩ := hf it (by simp)
    refine wpAny_pyNext_list_item st p.isList (x := u) (by simpa using hu) fun h' st' sb => ?_
    have I1 : Inv X pins σ H { s with heap := h' } := I.turned (t' := s.toks) (fun b o hb e => (sb.2 b hb).trans e) f0 f1 f3 f4 f5
    obtain ⟨o, e, c, d⟩ := id st'
    exact ⟨u, rfl, go_of (s := { s with heap := h' }) e c d (by decide) ⟨x, H, I1, ru, ⟨rfl, fun ys hy => by rw [I.list_inj hy hq]; exact hx⟩, st', fun b hb => (hf b hb).1⟩⟩
  done := by
    intro X hP hw hK hc i pins s σ H E I hf st hg
    subst hP hw hK
    obtain ⟨xs, hq, hx⟩ := hg
    obtain ⟨its, rv, p, hz⟩ := I.list hq
    obtain ⟨f0, f1, f2, f3, f4, f5⟩ := hf it (by simp)
    have hl := rv.length
    exact wpAny_pyNext_list_end (I.ok.hd hc) st p.isList (by simp; omega) fun h' eb => ⟨rfl, I.turned (t' := s.toks) (fun b o hb e => eb b o hb e) f0 f1 f3 f4 f5⟩
  self := fun _ _ _ _ _ st h => wpAny_pyIter_listiter st h
theorem turn_tuple {P : Program} {w : World} {K : PySem.W.Frag} {tg : Expr} (a it : Addr) : Turn P w K tg (Itt K a) [it] it (fun i h => h.IsTupleIter it a i) where
  mem := by simp
  obj := fun i h st b hb => by
    have e : b = it := by simpa using hb
    subst e
    obtain ⟨o, e, c, d⟩ := st
    exact ⟨o, e, fun v z => by rw [d] at z; cases z⟩
  keep := fun i h h' st k => st.at fun o e => k it (by simp) o e
  item := by
    intro X hP hw hK hc i pins s σ H E I hf st hg
    subst hP hw hK
    obtain ⟨xs, x, hq, hx⟩ := hg
    obtain ⟨its, rv, p, hz⟩ := I.tuple hq
    obtain ⟨u, hu, ru⟩ := rv.get hx
    obtain ⟨f0, f1, f2, f3, f4, f5⟩ := hf it (by simp)
    refine wpAny_pyNext_tuple_item st (show s.heap.IsTuple a its.toArray from p) (x := u) (by simpa using hu) fun h' st' sb => ?_
    have I1 : Inv X pins σ H { s with heap := h' } := I.turned (t' := s.toks) (fun b o hb e => (sb.2 b hb).trans e) f0 f1 f3 f4 f5
    obtain ⟨o, e, c, d⟩ := id st'
    exact ⟨u, rfl, go_of (s := { s with heap := h' }) e c d (by decide) ⟨x, H, I1, ru, ⟨rfl, fun ys hy => by rw [I.tuple_inj hy hq]; exact hx⟩, st', fun b hb => (hf b hb).1⟩⟩
  done := by
    intro X hP hw hK hc i pins s σ H E I hf st hg
    subst hP hw hK
    obtain ⟨xs, hq, hx⟩ := hg
    obtain ⟨its, rv, p, hz⟩ := I.tuple hq
    obtain ⟨f0, f1, f2, f3, f4, f5⟩ := hf it (by simp)
    have hl := rv.length
    exact wpAny_pyNext_tuple_end (I.ok.hd hc) st (show s.heap.IsTuple a its.toArray from p) (by simp; omega) fun h' eb => ⟨rfl, I.turned (t' := s.toks) (fun b o hb e => eb b o hb e) f0 f1 f3 f4 f5⟩
  self := fun _ _ _ _ _ st h => wpAny_pyIter_tupleiter st h
theorem turn_range {P : Program} {w : World} {K : PySem.W.Frag} {tg : Expr} (it : Addr) (lo : Int) (n : Nat) : Turn P w K tg (Itr lo n) [it] it (fun i h => IsRangeIter h it (lo + (i : Nat) * 1) ((n : Int) - (i : Nat)) 1) where
  mem := by simp
  obj := fun i h st b hb => by
    have e : b = it := by simpa using hb
    subst e
    exact ⟨_, st, fun v z => by
      have z' : Data.fields _ = Data.cell v := z
      cases z'⟩
  keep := fun i h h' st k => k it (by simp) _ st
  item := by
    intro X hP hw hK hc i pins s σ H E I hf st hg
    subst hP hw hK
    obtain ⟨f0, f1, f2, f3, f4, f5⟩ := hf it (by simp)
    have W := Walks.range (prog := X.prog) (w := X.w) (I.ok.hd hc) it lo 1 n
    refine W.item i s _ _ hg st fun v h' tk hv st' kk => ?_
    obtain ⟨t, rfl⟩ := hv
    have I1 : Inv X pins σ H { s with heap := h', toks := tk } := I.turned (fun b o hb e => kk b o (by simpa using hb) e) f0 f1 f3 f4 f5
    refine ⟨_, rfl, go_of (s := { s with heap := h', toks := tk }) (n := "range_iterator") st' rfl rfl (by decide) ⟨.int (lo + i), H, I1, ⟨t, ?_⟩, ⟨rfl, rfl⟩, st', fun b hb => (hf b hb).1⟩⟩
    rw [Int.mul_one]
  done := by
    intro X hP hw hK hc i pins s σ H E I hf st hg
    subst hP hw hK
    obtain ⟨f0, f1, f2, f3, f4, f5⟩ := hf it (by simp)
    exact wpAny_pyNext_range_end (I.ok.hd hc) st (by have : n ≤ i := hg; omega) fun h' eb => ⟨rfl, I.turned (t' := s.toks) (fun b o hb e => eb b o hb e) f0 f1 f3 f4 f5⟩
  self := fun _ _ _ _ _ st h => wpAny_pyIter_rangeiter st h
end L2
namespace L2
open PySem PySem.Spec PyProof.Rows
section
variable {X : Cx} {tg : Expr}
def iList (K : PySem.W.Frag) (tl : TE) : TI := fun σ H R => tl σ H fun x H1 => ∃ a, x = .ref a ∧ (∃ xs, SqL K H1 a xs) ∧ R (Itl K a) H1
def iTup (K : PySem.W.Frag) (tl : TE) : TI := fun σ H R => tl σ H fun x H1 => ∃ a, x = .ref a ∧ (∃ xs, SqT K H1 a xs) ∧ R (Itt K a) H1
theorem pi_list {l : Expr} {tl : TE} (hl : PE X l tl) : PI X tg l (iList X.K tl) := by
  intro pins s σ H R I h
  refine thn (hl pins s σ H _ I h) fun v s1 ⟨x, H1, I1, r1, q1⟩ => ?_
  obtain ⟨a, e, ⟨xs, hq⟩, q⟩ := q1
  subst e
  cases r1
  obtain ⟨its, rv, p, hz⟩ := I1.list hq
  refine wpAny_pyIter_list p.isList ?_
  refine ⟨s1.heap.objs.size, [s1.heap.objs.size], _, _, H1, rfl, I1.kept (t' := s1.toks) fun b o e => Heap.get?_push_of_some _ e, turn_list a _, ⟨_, Heap.get?_push_size _ rfl, rfl, rfl⟩, fun b hb => ?_, q⟩
  have e : b = s1.heap.objs.size := by simpa using hb
  subst e
  exact I1.fpOk (Nat.le_refl _) (I1.hok.fresh (Nat.le_refl _))
theorem pi_tup {l : Expr} {tl : TE} (hl : PE X l tl) : PI X tg l (iTup X.K tl) := by
  intro pins s σ H R I h
  refine thn (hl pins s σ H _ I h) fun v s1 ⟨x, H1, I1, r1, q1⟩ => ?_
  obtain ⟨a, e, ⟨xs, hq⟩, q⟩ := q1
  subst e
  cases r1
  obtain ⟨its, rv, p, hz⟩ := I1.tuple hq
  refine wpAny_pyIter_tuple (show s1.heap.IsTuple a its.toArray from p) ?_
  refine ⟨s1.heap.objs.size, [s1.heap.objs.size], _, _, H1, rfl, I1.kept (t' := s1.toks) fun b o e => Heap.get?_push_of_some _ e, turn_tuple a _, ⟨_, Heap.get?_push_size _ rfl, rfl, rfl⟩, fun b hb => ?_, q⟩
  have e : b = s1.heap.objs.size := by simpa using hb
  subst e
  exact I1.fpOk (Nat.le_refl _) (I1.hok.fresh (Nat.le_refl _))
theorem range_it {pins : List (Addr × Obj)} {σ : St} {H : Hp} {s : Shared} {R : It → Hp → Prop} {E : Value → Shared → Prop} {lo hi : Int} {t u v : Tok} {tk : Nat} (I : Inv X pins σ H s) (h1 : -(2 ^ 62) ≤ lo) (h2 : lo < 2 ^ 62) (h3 : -(2 ^ 62) ≤ hi) (h4 : hi < 2 ^ 62)
    (q : R (Itr lo (hi - lo).toNat) H) : wpAny (model X.prog X.w) X.A (pyIter (.ref s.heap.objs.size)) (PIE X pins σ tg R) E { s with heap := s.heap.push { cls := .type "range", data := .fields #[.int lo t, .int hi u, .int 1 v] }, toks := tk } := by
  refine wpAny_pyIter_range (IsRange.new ..) (small_one h1 h2 h3 h4) ?_
  have I1 : Inv X pins σ H { s with heap := s.heap.push { cls := .type "range", data := .fields #[.int lo t, .int hi u, .int 1 v] }, toks := tk } := I.kept fun b o e => Heap.get?_push_of_some _ e
  refine ⟨(s.heap.push { cls := .type "range", data := .fields #[.int lo t, .int hi u, .int 1 v] }).objs.size, [(s.heap.push { cls := .type "range", data := .fields #[.int lo t, .int hi u, .int 1 v] }).objs.size], _, _, H, rfl,
    I1.kept (t' := tk) fun b o e => Heap.get?_push_of_some _ e, turn_range _ lo (hi - lo).toNat, ?_, fun b hb => ?_, q⟩
  · have e1 : lo + ((0 : Nat) : Int) * 1 = lo := by simp
    have e2 : (((hi - lo).toNat : Nat) : Int) - ((0 : Nat) : Int) = Builtin.Range.rangeSize lo hi 1 := by rw [rangeSize_one]; split <;> omega
    show IsRangeIter _ _ (lo + ((0 : Nat) : Int) * 1) ((((hi - lo).toNat : Nat) : Int) - ((0 : Nat) : Int)) 1
    rw [e1, e2]
    exact Heap.get?_push_size _ rfl
  · have e : b = (s.heap.push { cls := .type "range", data := .fields #[.int lo t, .int hi u, .int 1 v] }).objs.size := by simpa using hb
    subst e
    exact I1.fpOk (Nat.le_refl _) (I1.hok.fresh (Nat.le_refl _))
def iRng1 (ta : TA) : TI := fun σ H R => ta σ H fun vs H1 => ∃ j : Int, vs = [.int j] ∧ -(2 ^ 62) ≤ j ∧ j < 2 ^ 62 ∧ R (Itr 0 j.toNat) H1
theorem pi_range1 {a : Expr} {ta : TA} {p pos : Pos} (hg : Gl X "range") (hm : X.mg "range" = none) (ha : PA X [a] ta) (hs : starEach [a] X.env = [(false, eval a X.env)] := by rfl) : PI X tg (.Call (.Name "range" p) [a] [] pos) (iRng1 ta) := by
  intro pins s σ H R I h
  refine Call_ (ld_blt I hg hm boot_range (PyProof.Rows.callWith_type1 (thn (ha pos pins s σ H _ I h) fun us s1 ⟨vs, H1, I1, r1, q1⟩ => ?_) hs rfl))
  obtain ⟨j, e, q1, q2, q⟩ := q1
  subst e
  cases r1 with
  | cons r rr =>
    cases rr
    obtain ⟨t, rfl⟩ := r
    exact call_range_1 (range_it I1 (by omega) (by omega) q1 q2 (by simpa using q))
def tFor (wi : TI) (g : TG) (tb : TS) : TS := fun D σ H => wi σ H fun J H1 => ∃ W : Nat → Nat → St → Hp → Prop, (∃ m, W 0 m σ H1) ∧ ∀ i m σ H, W i m σ H →
  (J.stop i H ∧ D.nx σ H) ∨ (J.go i H ∧ ∃ N : St → Hp → Prop, (∀ σ' H', N σ' H' → ∃ m', m' < m ∧ W (i + 1) m' σ' H') ∧ ∀ x H', J.yld i H x H' → g x σ H' fun σ2 H2 => tb { D with nx := N, ct := N, bk := D.nx } σ2 H2)
def pinsAt (fp : List Addr) (h : Heap) : List (Addr × Obj) := fp.filterMap fun b => (h.get? b).map fun o => (b, o)
theorem mem_pinsAt {fp : List Addr} {h : Heap} {b : Addr} {o : Obj} (hb : b ∈ fp) (e : h.get? b = some o) : (b, o) ∈ pinsAt fp h := List.mem_filterMap.mpr ⟨b, hb, by rw [e]; rfl⟩
theorem of_pinsAt {fp : List Addr} {h : Heap} {p : Addr × Obj} (hp : p ∈ pinsAt fp h) : p.1 ∈ fp ∧ h.get? p.1 = some p.2 := by
  obtain ⟨b, hb, e⟩ := List.mem_filterMap.mp hp
  cases q : h.get? b with
  | none => rw [q] at e; cases e
  | some o =>
    rw [q] at e
    have e' : (b, o) = p := Option.some.inj e
    subst e'
    exact ⟨hb, q⟩
theorem Inv.pinned {pins : List (Addr × Obj)} {σ : St} {H : Hp} {s : Shared} {fp : List Addr} (I : Inv X pins σ H s) (hf : ∀ b ∈ fp, FpOk X pins H b) (ho : ∀ b ∈ fp, ∃ o, s.heap.get? b = some o ∧ ∀ v, o.data ≠ .cell v) : Inv X (pins ++ pinsAt fp s.heap) σ H s :=
  I.pins_of fun p hp => (List.mem_append.mp hp).elim (fun z => I.pin p (List.mem_append_right _ z)) fun z => by
    obtain ⟨hb, e⟩ := of_pinsAt z
    obtain ⟨f0, f1, f2, _⟩ := hf p.1 hb
    obtain ⟨o, e', d⟩ := ho p.1 hb
    rw [e] at e'; cases e'
    exact ⟨e, f0, f1, f2, d⟩
theorem Inv.unpinned {pins pl : List (Addr × Obj)} {σ : St} {H : Hp} {s : Shared} (I : Inv X (pins ++ pl) σ H s) : Inv X pins σ H s := I.pins_of fun p hp => I.pin p (List.mem_append_right _ (List.mem_append_left _ hp))
theorem ps_for {iter : Expr} {body : List Stmt} {wi : TI} {g : TG} {tb : TS} {pos : Pos} (hp : PassesOwn (model X.prog X.w) X.A X.env X.xe) (hc : X.calm = true) (hi : PI X tg iter wi) (hg : PG X tg g) (hb : PSs X body tb)
    (hs : ∀ x, foldedSetIterable iter X.env x = pure x := by intro _; rfl) : PS X (.For tg iter body [] pos) (tFor wi g tb) := by
  intro pins s σ H D I h
  refine wpAny_For (thn (hi pins s σ H _ I h) fun v s1 h1 => thn h1 fun itv s2 h2 => ?_) hs
  obtain ⟨it, fp, tn, J, H2, e, I2, T, st2, f2, W, ⟨m0, w0⟩, turn⟩ := h2
  subst e
  -- what stays true of the iterator's objects through the loop
  have stat : ∀ {H' : Hp}, (∀ b ∈ fp, H' b = none) → ∀ b ∈ fp, FpOk X pins H' b := fun hn b hb => ⟨hn b hb, (f2 b hb).2⟩
  refine codeAny_forLoop_any (fun n s' => ∃ i σ' H', Inv X pins σ' H' s' ∧ tn i s'.heap ∧ (∀ b ∈ fp, H' b = none) ∧ W i n σ' H') ?_ m0 ⟨0, σ, H2, I2, st2, fun b hb => (f2 b hb).1, w0⟩
  rintro n s3 ⟨i, σ3, H3, I3, st3, fr3, w3⟩
  rcases turn i n σ3 H3 w3 with ⟨stop, qn⟩ | ⟨go, N, hN, step⟩
  · refine wpAny_passesOwn hp (thn (T.done X rfl rfl rfl hc i pins s3 σ3 H3 X.xe I3 (stat fr3) st3 stop) fun r s4 ⟨hr, I4⟩ => ?_)
    subst hr
    exact wpAny_execs_nil ⟨σ3, H3, I4, qn⟩
  · refine wpAny_passesOwn hp (thn (T.item X rfl rfl rfl hc i pins s3 σ3 H3 X.xe I3 (stat fr3) st3 go) fun r s4 ⟨u, hr, h4⟩ => ?_)
    subst hr
    refine wpAny_passesOwn hp (thn h4 fun _ s5 ⟨x, H5, I5, r5, y5, st5, fr5⟩ => ?_)
    have I5' := I5.pinned (stat fr5) (T.obj _ _ st5)
    refine wpAny_passesOwn hp (thn (hg _ s5 σ3 H5 x u _ I5' r5 (step x H5 y5)) fun _ s6 ⟨σ6, H6, I6, q6⟩ => ?_)
    refine wpAny_passesOwn hp (thn (hb _ s6 σ6 H6 _ I6 q6) fun f s7 q7 => ?_)
    have again : ∀ {σ7 : St} {H7 : Hp}, Inv X (pins ++ pinsAt fp s5.heap) σ7 H7 s7 → N σ7 H7 → ∃ m, m < n ∧ ∃ i σ' H', Inv X pins σ' H' s7 ∧ tn i s7.heap ∧ (∀ b ∈ fp, H' b = none) ∧ W i m σ' H' := fun {σ7 H7} I7 n7 => by
      obtain ⟨m', hm, w7⟩ := hN σ7 H7 n7
      refine ⟨m', hm, i + 1, σ7, H7, I7.unpinned, T.keep _ _ _ st5 fun b hb o e => (I7.pin (b, o) (List.mem_append_right _ (List.mem_append_right _ (mem_pinsAt hb e)))).1, fun b hb => ?_, w7⟩
      obtain ⟨o, e, d⟩ := T.obj _ _ st5 b hb
      exact (I7.pin (b, o) (List.mem_append_right _ (List.mem_append_right _ (mem_pinsAt hb e)))).2.1
    cases f with
    | next => obtain ⟨σ7, H7, I7, n7⟩ := q7; exact again I7 n7
    | cont => obtain ⟨σ7, H7, I7, n7⟩ := q7; exact again I7 n7
    | brk => obtain ⟨σ7, H7, I7, q7⟩ := q7; exact ⟨σ7, H7, I7.unpinned, q7⟩
    | ret v => obtain ⟨x7, σ7, H7, I7, r7, q7⟩ := q7; exact ⟨x7, σ7, H7, I7.unpinned, r7, q7⟩
end
end L2
namespace L2
open PySem PySem.Spec PyProof.Rows
abbrev R2 := V → V → Hp → VK → Prop
def OpR (X : Cx) (f : Value → Value → Sem Value) (r : R2) : Prop :=
  ∀ (pins : List (Addr × Obj)) (s : Shared) (σ : St) (H : Hp) (x y : V) (v u : Value) (Q : VK), Inv X pins σ H s → RelV x v → RelV y u → r x y H Q →
    wpAny (model X.prog X.w) X.A (f v u) (EP X pins σ Q) X.xe s
def UnR (X : Cx) (f : Value → Sem Value) (r : V → Hp → VK → Prop) : Prop :=
  ∀ (pins : List (Addr × Obj)) (s : Shared) (σ : St) (H : Hp) (x : V) (v : Value) (Q : VK), Inv X pins σ H s → RelV x v → r x H Q →
    wpAny (model X.prog X.w) X.A (f v) (EP X pins σ Q) X.xe s
def CallR (X : Cx) (f : Value) (r : List V → Hp → VK → Prop) : Prop :=
  ∀ (pins : List (Addr × Obj)) (s : Shared) (σ : St) (H : Hp) (xs : List V) (us : List Value) (Q : VK), Inv X pins σ H s → Vals xs us → r xs H Q →
    wpAny (model X.prog X.w) X.A (call f us) (EP X pins σ Q) X.xe s
def TruR (X : Cx) (r : V → Hp → (Bool → Hp → Prop) → Prop) : Prop :=
  ∀ (pins : List (Addr × Obj)) (s : Shared) (σ : St) (H : Hp) (x : V) (v : Value) (Q : Bool → Hp → Prop), Inv X pins σ H s → RelV x v → r x H Q →
    wpAny (model X.prog X.w) X.A (truthy v) (TP X pins σ Q) X.xe s
def tOp (r : R2) (ta tb : TE) : TE := fun σ H Q => ta σ H fun x H1 => tb σ H1 fun y H2 => r x y H2 Q
def tUn (r : V → Hp → VK → Prop) (ta : TE) : TE := fun σ H Q => ta σ H fun x H1 => r x H1 Q
def rI (C : Int → Int → Prop) (g : Int → Int → V) : R2 := fun x y H Q => ∃ i j, x = .int i ∧ y = .int j ∧ C i j ∧ Q (g i j) H
def rI0 (g : Int → Int → V) : R2 := fun x y H Q => ∃ i j, x = .int i ∧ y = .int j ∧ Q (g i j) H
def rU (g : Int → V) : V → Hp → VK → Prop := fun x H Q => ∃ i, x = .int i ∧ Q (g i) H
section
variable {X : Cx} {a b c : Expr} {ta tb tc : TE} {pos : Pos}
theorem binT (ha : PE X a ta) (hb : PE X b tb) {pins : List (Addr × Obj)} {s : Shared} {σ : St} {H : Hp} {R : V → V → Hp → Prop} (I : Inv X pins σ H s)
    (h : ta σ H fun x H1 => tb σ H1 fun y H2 => R x y H2) {Q : Value → Shared → Prop} {f : Value → Value → Sem Value}
    (hf : ∀ v u s2 x y H2, Inv X pins σ H2 s2 → RelV x v → RelV y u → R x y H2 → wpAny (model X.prog X.w) X.A (f v u) Q X.xe s2) :
    wpAny (model X.prog X.w) X.A (eval a X.env) (fun v s₁ => wpAny (model X.prog X.w) X.A (eval b X.env) (fun u s₂ => wpAny (model X.prog X.w) X.A (f v u) Q X.xe s₂) X.xe s₁) X.xe s := by
  refine thn (ha pins s σ H _ I h) fun v s1 ⟨x, H1, I1, r1, q1⟩ => ?_
  refine thn (hb pins s1 σ H1 _ I1 q1) fun u s2 ⟨y, H2, I2, r2, q2⟩ => ?_
  exact hf v u s2 x y H2 I2 r1 r2 q2
theorem pe_op {op : Operator} {r : R2} (ho : OpR X (binaryOp op) r) (ha : PE X a ta) (hb : PE X b tb) : PE X (.BinOp a op b pos) (tOp r ta tb) := by
  intro pins s σ H Q I h
  exact wpAny_BinOp (binT ha hb I h fun v u s2 x y H2 I2 rx ry q => ho pins s2 σ H2 x y v u Q I2 rx ry q)
theorem pe_un {op : UnaryOp} {r : V → Hp → VK → Prop} (ho : UnR X (unaryOp op) r) (ha : PE X a ta) : PE X (.UnaryOp op a pos) (tUn r ta) := by
  intro pins s σ H Q I h
  exact UnaryOp_ (thn (ha pins s σ H _ I h) fun v s1 ⟨x, H1, I1, r1, q1⟩ => ho pins s1 σ H1 x v Q I1 r1 q1)
theorem opI {f : Value → Value → Sem Value} {C : Int → Int → Prop} {g : Int → Int → Int}
    (rule : ∀ (i j : Int) (t u : Tok) (s : Shared) (Q : Value → Shared → Prop) (E : Value → Shared → Prop), C i j → Q (.int (g i j) s.toks) { s with toks := s.toks + 1 } → wpAny (model X.prog X.w) X.A (f (.int i t) (.int j u)) Q E s) :
    OpR X f (rI C fun i j => .int (g i j)) := by
  intro pins s σ H x y v u Q I rx ry h
  obtain ⟨i, j, rfl, rfl, hc, q⟩ := h
  obtain ⟨t, rfl⟩ := rx
  obtain ⟨t', rfl⟩ := ry
  exact rule i j t t' s _ _ hc ⟨.int (g i j), H, I.tok _, ⟨_, rfl⟩, q⟩
theorem opI0 {f : Value → Value → Sem Value} {g : Int → Int → Int}
    (rule : ∀ (i j : Int) (t u : Tok) (s : Shared) (Q : Value → Shared → Prop) (E : Value → Shared → Prop), Q (.int (g i j) s.toks) { s with toks := s.toks + 1 } → wpAny (model X.prog X.w) X.A (f (.int i t) (.int j u)) Q E s) :
    OpR X f (rI0 fun i j => .int (g i j)) := by
  intro pins s σ H x y v u Q I rx ry h
  obtain ⟨i, j, rfl, rfl, q⟩ := h
  obtain ⟨t, rfl⟩ := rx
  obtain ⟨t', rfl⟩ := ry
  exact rule i j t t' s _ _ ⟨.int (g i j), H, I.tok _, ⟨_, rfl⟩, q⟩
theorem opB0 {f : Value → Value → Sem Value} {g : Int → Int → Bool}
    (rule : ∀ (i j : Int) (t u : Tok) (s : Shared) (Q : Value → Shared → Prop) (E : Value → Shared → Prop), Q (.bool (g i j)) s → wpAny (model X.prog X.w) X.A (f (.int i t) (.int j u)) Q E s) :
    OpR X f (rI0 fun i j => .bl (g i j)) := by
  intro pins s σ H x y v u Q I rx ry h
  obtain ⟨i, j, rfl, rfl, q⟩ := h
  obtain ⟨t, rfl⟩ := rx
  obtain ⟨t', rfl⟩ := ry
  exact rule i j t t' s _ _ ⟨.bl (g i j), H, I, rfl, q⟩
def CPow (i j : Int) : Prop := 0 ≤ j ∧ j ≤ 1000000 ∧ i.natAbs < 2 ^ 64
def CMul (i j : Int) : Prop := (-(2 ^ 64) < i ∧ i < 2 ^ 64) ∨ (-(2 ^ 64) < j ∧ j < 2 ^ 64)
theorem CMul.ok {i j : Int} (h : CMul i j) : IntMulOk i j := by
  rcases h with ⟨h1, h2⟩ | ⟨h1, h2⟩
  · exact .of_left (intBits_le_64 h1 h2)
  · exact .of_right (intBits_le_64 h1 h2)
theorem op_add : OpR X (binaryOp .Add) (rI0 fun i j => .int (i + j)) := opI0 fun _ _ _ _ _ _ _ q => add_int q
theorem op_sub : OpR X (binaryOp .Sub) (rI0 fun i j => .int (i - j)) := opI0 fun _ _ _ _ _ _ _ q => sub_int q
theorem op_modN : OpR X (binaryOp .Mod) (rI (fun _ j => j ≠ 0) fun i j => .int (i.fmod j)) := opI fun _ _ _ _ _ _ _ hc q => mod_int' hc q
theorem op_pow : OpR X (binaryOp .Pow) (rI CPow fun i j => .int (i ^ j.toNat)) := opI fun _ _ _ _ _ _ _ hc q => pow_int_small hc.1 hc.2.1 hc.2.2 q
theorem unI {f : Value → Sem Value} {g : Int → Int}
    (rule : ∀ (i : Int) (t : Tok) (s : Shared) (Q : Value → Shared → Prop) (E : Value → Shared → Prop), Q (.int (g i) s.toks) { s with toks := s.toks + 1 } → wpAny (model X.prog X.w) X.A (f (.int i t)) Q E s) :
    UnR X f (rU fun i => .int (g i)) := by
  intro pins s σ H x v Q I rx h
  obtain ⟨i, rfl, q⟩ := h
  obtain ⟨t, rfl⟩ := rx
  exact rule i t s _ _ ⟨.int (g i), H, I.tok _, ⟨_, rfl⟩, q⟩
theorem un_neg : UnR X (unaryOp .USub) (rU fun i => .int (-i)) := unI fun _ _ _ _ _ q => neg_int q
end
section
variable {X : Cx} {a b c : Expr} {ta tb tc : TE} {pos : Pos}
theorem fin_bl {pins : List (Addr × Obj)} {σ : St} {H : Hp} {s : Shared} {Q : VK} {k k' : Bool} (I : Inv X pins σ H s) (q : Q (.bl k) H) (e : k = k') : EP X pins σ Q (.bool k') s := by
  subst e
  exact ⟨.bl k, H, I, rfl, q⟩
theorem op_le : OpR X (compareOp .LtE) (rI0 fun i j => .bl (decide (i ≤ j))) := opB0 fun _ _ _ _ _ _ _ q => le_int q
theorem op_gt : OpR X (compareOp .Gt) (rI0 fun i j => .bl (decide (j < i))) := opB0 fun _ _ _ _ _ _ _ q => gt_int q
theorem op_ge : OpR X (compareOp .GtE) (rI0 fun i j => .bl (decide (j ≤ i))) := opB0 fun _ _ _ _ _ _ _ q => ge_int q
theorem op_isN : OpR X (compareOp .Is) (fun x y H Q => y = .non ∧ Q (.bl (decide (x = .non))) H) := by
  intro pins s σ H x y v u Q I rx ry h
  obtain ⟨rfl, q⟩ := h
  cases ry
  refine is_none_gen (fin_bl I q ?_)
  cases x <;> first
    | (cases rx; rfl)
    | (obtain ⟨t, rfl⟩ := rx; rfl)
theorem OpR.or {f : Value → Value → Sem Value} {r r' : R2} (h : OpR X f r) (h' : OpR X f r') : OpR X f (fun x y H Q => r x y H Q ∨ r' x y H Q) := by
  intro pins s σ H x y v u Q I rx ry q
  rcases q with q | q
  · exact h pins s σ H x y v u Q I rx ry q
  · exact h' pins s σ H x y v u Q I rx ry q
theorem nomark (b : Expr) {op : CmpOp} (h : op ≠ .In := by decide) (h2 : op ≠ .NotIn := by decide) : behindInMarks op b = false := by
  have e1 : (op == CmpOp.In) = false := by cases op <;> first | rfl | exact absurd rfl h
  have e2 : (op == CmpOp.NotIn) = false := by cases op <;> first | rfl | exact absurd rfl h2
  cases b <;> simp [behindInMarks, e1, e2]
theorem pe_cmpR {op : CmpOp} {r : R2} (ho : OpR X (compareOp op) r) (ha : PE X a ta) (hb : PE X b tb) (hm : behindInMarks op b = false) : PE X (.Compare a [op] [b] pos) (tOp r ta tb) := by
  intro pins s σ H Q I h
  exact wpAny_Compare1 (binT ha hb I h fun v u s2 x y H2 I2 rx ry q => ho pins s2 σ H2 x y v u Q I2 rx ry q) hm
def tTest (t : TE) : TT := fun σ H Q => t σ H fun x H' => ∃ k, x = .bl k ∧ Q k H'
theorem pt_cmpR {op : CmpOp} {r : R2} (ho : OpR X (compareOp op) r) (ha : PE X a ta) (hb : PE X b tb) (hm : behindInMarks op b = false) : PT X (.Compare a [op] [b] pos) (tTest (tOp r ta tb)) := by
  intro pins s σ H Q I h
  refine wpAny_isTrue_Compare1 (thn (ha pins s σ H _ I h) fun v s1 ⟨x, H1, I1, r1, q1⟩ => thn (hb pins s1 σ H1 _ I1 q1) fun u s2 ⟨y, H2, I2, r2, q2⟩ =>
    thn (ho pins s2 σ H2 x y v u _ I2 r1 r2 q2) fun c s3 ⟨z, H3, I3, r3, k, e, q3⟩ => ?_) hm
  subst e
  cases r3
  exact wpAny_truthy_bool ⟨H3, I3, q3⟩
def tChain (r r' : R2) (ta tb tc : TE) : TE := fun σ H Q => ta σ H fun x H1 => tb σ H1 fun y H2 => r x y H2 fun z H3 => ∃ k, z = .bl k ∧
  (if k = true then tc σ H3 fun w' H4 => r' y w' H4 Q else Q (.bl false) H3)
theorem pe_chain {op op' : CmpOp} {r r' : R2} (ho : OpR X (compareOp op) r) (ho' : OpR X (compareOp op') r') (ha : PE X a ta) (hb : PE X b tb) (hc : PE X c tc)
    (hm : lastMarks [op, op'] [b, c] = false := by with_unfolding_all rfl) : PE X (.Compare a [op, op'] [b, c] pos) (tChain r r' ta tb tc) := by
  intro pins s σ H Q I h
  refine Compare_chain (thn (ha pins s σ H _ I h) fun v s1 ⟨x, H1, I1, r1, q1⟩ => chain_link (thn (hb pins s1 σ H1 _ I1 q1) fun u s2 ⟨y, H2, I2, r2, q2⟩ =>
    thn (ho pins s2 σ H2 x y v u _ I2 r1 r2 q2) fun d s3 ⟨z, H3, I3, r3, k, e, q3⟩ => ?_)) hm
  subst e
  cases r3
  refine wpAny_truthy_bool ?_
  cases k with
  | false => exact ite_ff ⟨.bl false, H3, I3, rfl, q3⟩
  | true => exact ite_tt (chain_last (thn (hc pins s3 σ H3 _ I3 q3) fun w' s4 ⟨z', H4, I4, r4, q4⟩ => ho' pins s4 σ H4 y z' u w' Q I4 r2 r4 q4))
theorem pt_chain {op op' : CmpOp} {r r' : R2} (ho : OpR X (compareOp op) r) (ho' : OpR X (compareOp op') r') (ha : PE X a ta) (hb : PE X b tb) (hc : PE X c tc)
    (hm : lastMarks [op, op'] [b, c] = false := by with_unfolding_all rfl) : PT X (.Compare a [op, op'] [b, c] pos) (tTest (tChain r r' ta tb tc)) := by
  intro pins s σ H Q I h
  refine isTrue_chain (thn (ha pins s σ H _ I h) fun v s1 ⟨x, H1, I1, r1, q1⟩ => test_link (thn (hb pins s1 σ H1 _ I1 q1) fun u s2 ⟨y, H2, I2, r2, q2⟩ =>
    thn (ho pins s2 σ H2 x y v u _ I2 r1 r2 q2) fun d s3 ⟨z, H3, I3, r3, k, e, q3⟩ => ?_)) hm
  subst e
  cases r3
  refine wpAny_truthy_bool ?_
  cases k with
  | false =>
    obtain ⟨k', e', q'⟩ := q3
    cases e'
    exact ite_ff ⟨H3, I3, q'⟩
  | true =>
    refine ite_tt (test_last (thn (hc pins s3 σ H3 _ I3 q3) fun w' s4 ⟨z', H4, I4, r4, q4⟩ => thn (ho' pins s4 σ H4 y z' u w' _ I4 r2 r4 q4) fun d' s5 ⟨z2, H5, I5, r5, k2, e2, q5⟩ => ?_))
    subst e2
    cases r5
    exact wpAny_truthy_bool ⟨H5, I5, q5⟩
def TruV (K : PySem.W.Frag) (x : V) (H : Hp) (k : Bool) : Prop :=
  match x with
  | .non => k = false
  | .bl b => k = b
  | .int i => k = (i != 0)
  | .str y => y.length ≤ sizeLine ∧ k = ((y.length : Int) != 0)
  | .byt y => y.size ≤ sizeLine ∧ k = ((y.size : Int) != 0)
  | .ref p => (∃ xs, SqL K H p xs ∧ k = !xs.isEmpty) ∨ (∃ xs, SqT K H p xs ∧ k = !xs.isEmpty) ∨ ∃ kvs, H p = some (.dK kvs) ∧ k = !kvs.isEmpty
  | _ => False
theorem isEmpty_kv {κ : Type} {kvs : List (κ × V)} {vs : List (κ × Value)} (r : KV kvs vs) : (!vs.isEmpty) = !kvs.isEmpty := by
  cases r <;> rfl
theorem isEmpty_of {xs : List V} {its : List Value} (r : Vals xs its) : (!its.toArray.isEmpty) = !xs.isEmpty := by
  cases r <;> simp
theorem line63 : (sizeLine : Nat) < 2 ^ 63 := by rw [sizeLine_eq]; decide
theorem tru_ok : TruR X (fun x H Q => ∃ k, TruV X.K x H k ∧ Q k H) := by
  intro pins s σ H x v Q I rx h
  obtain ⟨k, e, q⟩ := h
  have hl := line63
  have hs : sizeLine = 16777216 := sizeLine_eq
  cases x with
  | non =>
    cases rx
    have e' : k = false := e
    subst e'
    exact truthy_none ⟨H, I, q⟩
  | bl b =>
    cases rx
    have e' : k = b := e
    subst e'
    exact wpAny_truthy_bool ⟨H, I, q⟩
  | int i =>
    obtain ⟨t, rfl⟩ := rx
    have e' : k = (i != 0) := e
    subst e'
    exact PySem.P.truthy_int ⟨H, I, q⟩
  | str y =>
    obtain ⟨t, rfl⟩ := rx
    obtain ⟨hy, e'⟩ : y.length ≤ sizeLine ∧ k = ((y.length : Int) != 0) := e
    subst e'
    exact PySem.P.truthy_str (by omega) ⟨H, I.tok _, q⟩
  | byt y =>
    obtain ⟨t, rfl⟩ := rx
    obtain ⟨hy, e'⟩ : y.size ≤ sizeLine ∧ k = ((y.size : Int) != 0) := e
    subst e'
    exact PySem.W.truthy_bytes (by omega) ⟨H, I.tok _, q⟩
  | ref p =>
    cases rx
    have e' : (∃ xs, SqL X.K H p xs ∧ k = !xs.isEmpty) ∨ (∃ xs, SqT X.K H p xs ∧ k = !xs.isEmpty) ∨ ∃ kvs, H p = some (.dK kvs) ∧ k = !kvs.isEmpty := e
    rcases e' with ⟨xs, hx, e'⟩ | ⟨xs, hx, e'⟩ | ⟨kvs, hx, e'⟩
    · subst e'
      obtain ⟨its, r, pl, hz⟩ := I.list hx
      have hlen := r.length
      exact wpAny_truthy_list pl.isList (by simp only [List.size_toArray]; omega) ⟨H, I.tok _, by rw [isEmpty_of r]; exact q⟩
    · subst e'
      obtain ⟨its, r, pl, hz⟩ := I.tuple hx
      have hlen := r.length
      exact truthy_tuple pl (by simp only [List.size_toArray]; omega) ⟨H, I.tok _, by rw [isEmpty_of r]; exact q⟩
    · subst e'
      obtain ⟨hz, hS, vs, r, m⟩ : kvs.length ≤ sizeLine ∧ (p == sysModules) = false ∧ ∃ vs, KV kvs vs ∧ s.heap.DictOf (mixKind X.prog X.w) p vs := I.hok p _ hx
      have hlen : kvs.length = vs.length := Paired.length r
      exact wpAny_truthy_dict hS m (by omega) ⟨H, I.tok _, by rw [isEmpty_kv r]; exact q⟩
  | _ => exact (show False from e).elim
theorem pt_truth (ha : PE X a ta) (he : ∀ whole, isTrue a X.env whole = (do let v ← whole; standAt a.pos; holding [v] (truthy v))) :
    PT X a (fun σ H Q => ta σ H fun x H' => ∃ k, TruV X.K x H' k ∧ Q k H') := by
  intro pins s σ H Q I h
  exact isTrue_plain (thn (ha pins s σ H _ I h) fun v s1 ⟨x, H1, I1, r1, q1⟩ => tru_ok pins s1 σ H1 x v Q I1 r1 q1) (he _)
theorem op_add_str : OpR X (binaryOp .Add) (fun x y H Q => ∃ i j, x = .str i ∧ y = .str j ∧ i.length + j.length ≤ sizeLine ∧ Q (.str (i ++ j)) H) := by
  intro pins s σ H x y v u Q I rx ry h
  obtain ⟨i, j, rfl, rfl, hz, q⟩ := h
  obtain ⟨t, rfl⟩ := rx
  obtain ⟨t', rfl⟩ := ry
  exact add_str (fun t' tk => ⟨.str (i ++ j), H, I.tok _, ⟨_, rfl⟩, q⟩) hz
theorem vals1 {x : V} {us : List Value} (r : Vals [x] us) : ∃ u, us = [u] ∧ RelV x u := by
  cases r with
  | cons r1 r2 => cases r2; exact ⟨_, rfl, r1⟩
end
end L2
namespace L2
open PySem PySem.Spec PyProof.Rows
structure ObjM (h : Heap) (x dx C : Addr) (mA : Str → Option Value) : Prop where
  obj : h.get? x = some (PySem.W.instObj C dx)
  ns : h.Ns1 dx mA
  ne : dx ≠ x
theorem lookIn_ns {h : Heap} {dx : Addr} {mA : Str → Option Value} (n : h.Ns1 dx mA) : ∃ od, h.get? dx = some od ∧ ∀ name, PySem.W.lookIn name od = some (mA name) := by
  obtain ⟨o, es, ep, ho, hd, hk, _, hm⟩ := n
  refine ⟨o, ho, fun name => ?_⟩
  have e := hm name
  unfold nsFind findBy at e
  rw [← Array.find?_toList] at e
  unfold PySem.W.lookIn
  rw [hd]
  dsimp only
  split
  · rename_i y q
    rw [q] at e
    exact congrArg some e
  · rename_i q
    rw [q] at e
    have a : es.toList.any (·.refKey) = false := by
      rw [List.any_eq_false]
      intro y hy
      obtain ⟨z, t, hkey⟩ := hk y (Array.mem_toList_iff.mp hy)
      simp [DictEntry.refKey, hkey]
    have a' : ¬ es.toList.any (·.refKey) = true := by rw [a]; exact Bool.false_ne_true
    rw [if_neg a']
    exact congrArg some e
theorem ObjM.look {h : Heap} {x dx C : Addr} {mA : Str → Option Value} (I : ObjM h x dx C mA) : ∃ od, PySem.W.InstAt h x (PySem.W.instObj C dx) C (some od) ∧ ∀ name, PySem.W.lookIn name od = some (mA name) :=
  let ⟨od, ho, hl⟩ := lookIn_ns I.ns
  ⟨od, ⟨I.obj, rfl, rfl, ho⟩, hl⟩
section
variable {prog : Program} {w : World} {A : Around} {E : Value → Shared → Prop} {s : Shared} {K : PySem.W.Frag} {x dx C f : Addr} {mA : Str → Option Value} {name : Str} {v : Value}
theorem get_map {expr : Bool} {Q : Value → Shared → Prop} (X : K.In s.heap) (I : ObjM s.heap x dx C mA) (hg : PySem.W.plainGet K C name = true) (hh : PySem.W.hasDictIn K C = true)
    (ha : PySem.W.findIn K (.ref C) name = some none) (hv : mA name = some v) (hv' : PySem.W.handedIn v = true) (h : Q v { s with toks := s.toks + 1 }) :
    wpAny (model prog w) A (getAttr (.ref x) name expr) Q E s := by
  obtain ⟨od, J, hl⟩ := I.look
  exact PySem.W.get_value X J (PySem.W.plainGet_of hg).1 (PySem.W.findObj_own hh ha rfl (by rw [hl, hv])) hv' h
theorem set_map {ns : List Str} {Q : Unit → Shared → Prop} (X : K.In s.heap) (I : ObjM s.heap x dx C mA)
    (hs : PySem.W.findIn K (.ref C) "__setattr__" = some (some (.builtin "object.__setattr__"))) (hp : PySem.W.plainOver K C = true) (ht : PySem.W.takerIn K C name = some none) (hh : PySem.W.hasDictIn K C = true)
    (hw : PySem.Within mA ns) (hsz : ns.length ≤ sizeLine)
    (h : ∀ h', ObjM h' x dx C (fun y => if y = name then some v else mA y) → Heap.SameBut dx s.heap h' → Q () { s with heap := h', toks := s.toks + 2 }) :
    wpAny (model prog w) A (setAttr (.ref x) name v) Q E s := by
  obtain ⟨od, J, hl⟩ := I.look
  refine PySem.W.set_plain X J hs (PySem.W.osa_open (s := { s with toks := s.toks + 1 }) (r := none) X J hp ht fun b => ?_)
  obtain ⟨cd, hc, hd'⟩ := PySem.W.any_some hh
  have hx : s.heap.get? x = some ⟨.ref C, some dx, .plain, #[]⟩ := I.obj
  refine wpAny_bind (wpAny_pure (wpAny_bind (wpAny_bind (wpAny_loadPart hx (wpAny_bind (PySem.W.Looks.here (s := { s with toks := s.toks + 1 }) (PySem.W.looks_clsIn X hc) ?_))))))
  rw [hd']
  refine wpAny_pure (a := some dx) (wpAny_bind (wpAny_pure (wpAny_bind ?_)))
  refine wpAny_nsSet1 (s := { s with toks := s.toks + 1 }) I.ns fun h' hn2 hs2 => ?_
  obtain ⟨oD, esD, epD, hoD, hdD, hcD⟩ := hn2.count (PySem.Within.cons name v hw)
  refine wpAny_bind (wpAny_lookBehind hoD (by rw [hdD]; exact pastItsLine_dict (Nat.le_trans hcD (by rw [List.length_cons]; omega))) ?_)
  exact wpAny_pure (h _ ⟨(hs2.2 _ (Ne.symm I.ne)).trans I.obj, hn2, I.ne⟩ hs2)
theorem make_map {R : Result → Shared → Prop} {vs : List Value} {kw : List (Str × Value)} (X : K.In s.heap) (hm : PySem.W.makesIn K C = true)
    (hi : PySem.W.findIn K (.ref C) "__init__" = some (some (.ref f))) (hf : PySem.W.typeIn K (.ref f) = some (.type "function"))
    (h : codeAny (model prog w) (A.under (.builtin "type.__call__" ⟨.ref C :: vs, kw⟩)) (.call (.ref f) ⟨.ref (s.heap.objs.size + 1) :: vs, kw⟩) (PySem.W.InitBack (s.heap.objs.size + 1) R)
      { s with heap := (s.heap.push PySem.W.emptyDict).push (PySem.W.instObj C s.heap.objs.size) }) :
    codeAny (model prog w) A (.call (.ref C) ⟨vs, kw⟩) R s := by
  obtain ⟨hh, g, d, t, os⟩ := s
  exact PySem.W.make_core (PySem.W.makes_of X hm) (PySem.W.looks_findIn X hi) (fun self => PySem.W.bind_fn X self hf) (.inl rfl) h
end
def putF (f : Str) (v : V) : List (Str × V) → List (Str × V)
  | [] => [(f, v)]
  | (g, x) :: r => if g = f then (g, v) :: r else (g, x) :: putF f v r
theorem lookup_putF (f g : Str) (v : V) : ∀ fs : List (Str × V), (putF f v fs).lookup g = if g = f then some v else fs.lookup g
  | [] => by
    show List.lookup g [(f, v)] = _
    by_cases h : g = f
    · have hb : (g == f) = true := beq_iff_eq.mpr h
      simp only [List.lookup, hb, if_pos h]
    · have hb : (g == f) = false := beq_eq_false_iff_ne.mpr h
      simp only [List.lookup, hb, if_neg h]
  | (k, x) :: r => by
    have ih := lookup_putF f g v r
    rw [show putF f v ((k, x) :: r) = (if k = f then (k, v) :: r else (k, x) :: putF f v r) from rfl]
    by_cases hk : k = f
    · rw [if_pos hk]
      by_cases h : g = k
      · have hb : (g == k) = true := beq_iff_eq.mpr h
        simp only [List.lookup, hb, if_pos (h.trans hk)]
      · have hb : (g == k) = false := beq_eq_false_iff_ne.mpr h
        simp only [List.lookup, hb, if_neg (fun e : g = f => h (e.trans hk.symm))]
    · rw [if_neg hk]
      by_cases h : g = k
      · have hb : (g == k) = true := beq_iff_eq.mpr h
        simp only [List.lookup, hb, if_neg (fun e : g = f => hk (h.symm.trans e))]
      · have hb : (g == k) = false := beq_eq_false_iff_ne.mpr h
        simp only [List.lookup, hb]
        exact ih
theorem keys_putF (f : Str) (v : V) : ∀ fs : List (Str × V), f ∈ (putF f v fs).map (·.1) ∧ ∀ g, g ∈ fs.map (·.1) → g ∈ (putF f v fs).map (·.1)
  | [] => ⟨by simp [putF], fun g h => by simp at h⟩
  | (k, x) :: r => by
    obtain ⟨i1, i2⟩ := keys_putF f v r
    rw [show putF f v ((k, x) :: r) = (if k = f then (k, v) :: r else (k, x) :: putF f v r) from rfl]
    by_cases hk : k = f
    · rw [if_pos hk]
      subst hk
      exact ⟨by simp, fun g h => by simpa using h⟩
    · rw [if_neg hk]
      refine ⟨?_, fun g h => ?_⟩
      · rw [List.map_cons]
        exact List.mem_cons_of_mem _ i1
      · rw [List.map_cons] at h ⊢
        rcases List.mem_cons.mp h with e | e
        · exact List.mem_cons.mpr (.inl e)
        · exact List.mem_cons_of_mem _ (i2 g e)
theorem length_putF (f : Str) (v : V) : ∀ fs : List (Str × V), (putF f v fs).length ≤ fs.length + 1
  | [] => by simp [putF]
  | (k, x) :: r => by
    have ih := length_putF f v r
    rw [show putF f v ((k, x) :: r) = (if k = f then (k, v) :: r else (k, x) :: putF f v r) from rfl]
    by_cases hk : k = f
    · rw [if_pos hk, List.length_cons, List.length_cons]; omega
    · rw [if_neg hk, List.length_cons, List.length_cons]; omega
theorem RelO.some_of {v : V} {o : Option Value} (r : RelO (some v) o) : ∃ u, o = some u ∧ RelV v u := by
  cases o with
  | none => exact (show False from r).elim
  | some u => exact ⟨u, rfl, r⟩
theorem RelO.none_of {o : Option Value} (r : RelO none o) : o = none := by
  cases o with
  | none => rfl
  | some u => exact (show False from r).elim
theorem handed_of {v : V} {u : Value} (r : RelV v u) : PySem.W.handedIn u = true := by
  cases v with
  | non => cases (show u = Value.none from r); rfl
  | bl b => cases (show u = Value.bool b from r); rfl
  | int i => obtain ⟨t, e⟩ := (show ∃ t, u = Value.int i t from r); cases e; rfl
  | str x => obtain ⟨t, e⟩ := (show ∃ t, u = Value.str x t from r); cases e; rfl
  | byt b => obtain ⟨t, e⟩ := (show ∃ t, u = Value.bytes b t from r); cases e; rfl
  | flt b => obtain ⟨t, e⟩ := (show ∃ t, u = Value.float b t from r); cases e; rfl
  | ref a => cases (show u = Value.ref a from r); rfl
  | ty n => cases (show u = Value.type n from r); rfl
section
variable {P : Program} {w : World} {H H' : Hp} {h h' : Heap} {a C dx : Addr} {fs fs' : List (Str × V)}
theorem ins_get (hok : HOk P w H h) (e : H a = some (.ins C dx fs)) : ∃ mA, ObjM h a dx C mA ∧ (∀ f, RelO (fs.lookup f) (mA f)) ∧ PySem.Within mA (fs.map (·.1)) ∧ fs.length ≤ 1000 ∧ H dx = some (.own a) := by
  obtain ⟨d, z, ne, ob, mA, n, r, q⟩ := (show ObjOk P w H h a (.ins C dx fs) from hok a _ e)
  exact ⟨mA, ⟨ob, n, ne⟩, r, q, z, d⟩
end
structure Cls (K : PySem.W.Frag) (C : Addr) : Prop where
  pg : PySem.W.plainGet K C Str.empty = true
  hd : PySem.W.hasDictIn K C = true
  po : PySem.W.plainOver K C = true
  sa : PySem.W.findIn K (.ref C) "__setattr__" = some (some (.builtin "object.__setattr__"))
theorem Cls.get {K : PySem.W.Frag} {C : Addr} (c : Cls K C) (f : Str) : PySem.W.plainGet K C f = true := c.pg
def NoAttr (K : PySem.W.Frag) (C : Addr) (f : Str) : Prop := PySem.W.findIn K (.ref C) f = some none
theorem NoAttr.taker {K : PySem.W.Frag} {C : Addr} {f : Str} (n : NoAttr K C f) : PySem.W.takerIn K C f = some none := by
  unfold PySem.W.takerIn
  rw [show PySem.W.findIn K (.ref C) f = some none from n]
  rfl
structure Con (K : PySem.W.Frag) (C : Addr) (f : Str) (v : V) (u : Value) : Prop where
  at_ : PySem.W.findIn K (.ref C) f = some (some u)
  rel : RelV v u
  get : PySem.W.specialIn K u "__get__" = some none
  cp : PySem.W.copiedNames.contains f = false
structure Meth (K : PySem.W.Frag) (C : Addr) (m : Str) (f : Addr) : Prop where
  at_ : PySem.W.findIn K (.ref C) m = some (some (.ref f))
  fn : PySem.W.isFn K (.ref f) = true
  kp : PySem.W.keepIn K (.ref f) = true
section
variable {X : Cx} {pins : List (Addr × Obj)} {σ : St} {H : Hp} {s : Shared} {a C dx : Addr} {fs : List (Str × V)} {f : Str} {v : V} {A : Around} {E : Value → Shared → Prop}
theorem getattr_ok {b : Bool} {Q : Value → Shared → Prop} (I : Inv X pins σ H s) (e : H a = some (.ins C dx fs)) (c : Cls X.K C) (n : NoAttr X.K C f) (l : fs.lookup f = some v)
    (h : ∀ u s', Inv X pins σ H s' → RelV v u → Q u s') : wpAny (model X.prog X.w) A (getAttr (.ref a) f b) Q E s := by
  obtain ⟨mA, O, r, _, _, _⟩ := ins_get I.hok e
  obtain ⟨u, hu, ru⟩ := RelO.some_of (v := v) (o := mA f) (by rw [← l]; exact r f)
  exact get_map I.kIn O (c.get f) c.hd n hu (handed_of ru) (h u _ (I.tok _) ru)
theorem setattr_ok {y : V} {u : Value} {Q : Unit → Shared → Prop} (I : Inv X pins σ H s) (e : H a = some (.ins C dx fs)) (c : Cls X.K C) (n : NoAttr X.K C f) (hl : fs.length < 1000) (ry : RelV y u)
    (h : ∀ s', Inv X pins σ (upd H a (.ins C dx (putF f y fs))) s' → Q () s') : wpAny (model X.prog X.w) A (setAttr (.ref a) f u) Q E s := by
  obtain ⟨mA, O, r, wi, _, ho⟩ := ins_get I.hok e
  have hz : (fs.map (·.1)).length ≤ sizeLine := by rw [List.length_map, sizeLine_eq]; omega
  refine set_map I.kIn O c.sa c.po n.taker c.hd wi hz fun h' O' sb => h _ ?_
  have hd : ∃ o, h'.get? dx = some o := let ⟨o, _, _, e', _⟩ := O'.ns; ⟨o, e'⟩
  refine I.write (x := a) (e := dx) (by rw [e]; exact True.intro) (.inr ho) (fun b q hb z => (sb.2 b hb).trans z) hd ?_
  refine ⟨by rw [upd_ne O.ne]; exact ho, ?_, O.ne, O'.obj, _, O'.ns, fun g => ?_, fun g hg => ?_⟩
  · have := length_putF f y fs; omega
  · show RelO ((putF f y fs).lookup g) (if g = f then some u else mA g)
    rw [lookup_putF]
    by_cases q : g = f
    · rw [if_pos q, if_pos q]; exact ry
    · rw [if_neg q, if_neg q]; exact r g
  · by_cases q : g = f
    · rw [q]; exact (keys_putF f y fs).1
    · refine (keys_putF f y fs).2 g (wi g fun z => hg ?_)
      show (if g = f then some u else mA g) = none
      rw [if_neg q]; exact z
theorem Inv.made (I : Inv X pins σ H s) : Inv X pins σ (upd (upd H s.heap.objs.size (.own (s.heap.objs.size + 1))) (s.heap.objs.size + 1) (.ins C s.heap.objs.size []))
    { s with heap := (s.heap.push PySem.W.emptyDict).push (PySem.W.instObj C s.heap.objs.size) } := by
  have e1 : (s.heap.push PySem.W.emptyDict).get? s.heap.objs.size = some PySem.W.emptyDict := Heap.get?_push_size s.heap rfl
  have e2 : ((s.heap.push PySem.W.emptyDict).push (PySem.W.instObj C s.heap.objs.size)).get? (s.heap.objs.size + 1) = some (PySem.W.instObj C s.heap.objs.size) := by
    have := Heap.get?_push_size (s.heap.push PySem.W.emptyDict) (o := PySem.W.instObj C s.heap.objs.size) rfl
    rwa [Heap.size_push] at this
  have e3 : (s.heap.push PySem.W.emptyDict).Ns s.heap.objs.size (fun _ => none) := ⟨PySem.W.emptyDict, #[], _, e1, rfl, (fun e he => absurd he (by simp)), fun _ => rfl⟩
  have I1 := I.laid (a := s.heap.objs.size) (o := .own (s.heap.objs.size + 1)) (h' := s.heap.push PySem.W.emptyDict) (t' := s.toks) (fun b u q => Heap.get?_push_of_some _ q) (Nat.le_refl _) ⟨_, e1⟩
  refine I1.laid (a := s.heap.objs.size + 1) (o := .ins C s.heap.objs.size []) (t' := s.toks) (fun b u q => Heap.get?_push_of_some _ q) (Nat.le_of_eq (Heap.size_push _ _)) ?_
  have ne : s.heap.objs.size ≠ s.heap.objs.size + 1 := Nat.ne_of_lt (Nat.lt_succ_self _)
  refine ⟨by rw [upd_ne ne, upd_same], Nat.zero_le _, ne, e2, fun _ => none, (Heap.Ns1.of_empty e3).at fun o q => Heap.get?_push_of_some _ q, fun _ => True.intro, fun y hy => absurd rfl hy⟩
theorem attr_of {prog : Program} {w : World} {env : Env} {e : Expr} {f : Str} {pos : Pos} {s : Shared} {Q : Value → Shared → Prop} (hb : attributeBase e f env (eval e env) = eval e env)
    (h : wpAny (model prog w) A (eval e env) (fun o s₁ => wpAny (model prog w) A (getAttr o f true) Q E s₁) E s) : wpAny (model prog w) A (eval (.Attribute e f pos) env) Q E s :=
  Attribute_any_ h (by rw [arm_eval_Attribute, hb])
end
def tFld (K : PySem.W.Frag) (ta : TE) (f : Str) : TE := fun σ H Q => ta σ H fun x H1 => ∃ a C dx fs v, x = .ref a ∧ H1 a = some (.ins C dx fs) ∧ Cls K C ∧ NoAttr K C f ∧ fs.lookup f = some v ∧ Q v H1
def sFld (K : PySem.W.Frag) (ta tv : TE) (f : Str) : TS := fun D σ H => tv σ H fun y H1 => ta σ H1 fun x H2 => ∃ a C dx fs, x = .ref a ∧ H2 a = some (.ins C dx fs) ∧ Cls K C ∧ NoAttr K C f ∧ fs.length < 1000 ∧
  D.nx σ (upd H2 a (.ins C dx (putF f y fs)))
section
variable {X : Cx} {o e value : Expr} {f : Str} {pos pos' tpos : Pos} {ta tv : TE}
theorem pe_fld (he : PE X e ta) (hb : attributeBase e f X.env (eval e X.env) = eval e X.env) : PE X (.Attribute e f pos) (tFld X.K ta f) := by
  intro pins s σ H Q I h
  refine attr_of hb (thn (he pins s σ H _ I h) fun u s1 ⟨x, H1, I1, rx, a, C, dx, fs, v, ex, ea, c, n, l, q⟩ => ?_)
  subst ex
  obtain rfl : u = Value.ref a := rx
  exact getattr_ok I1 ea c n l fun u' s2 I2 ru => ⟨v, H1, I2, ru, q⟩
theorem ps_fld (ha : PE X o ta) (hv : PE X value tv) (hs : swapsWith value (some (.Attribute o f pos')) pos.line X.env = pure false) : PS X (.Assign [.Attribute o f pos'] value pos) (sFld X.K ta tv f) := by
  intro pins s σ H D I h
  refine plainObj_wpAny_Assign_Attribute (thn (hv pins s σ H _ I h) fun u s1 ⟨y, H1, I1, ry, q⟩ => thn (ha pins s1 σ H1 _ I1 q) fun ov s2 ⟨x, H2, I2, rx, a, C, dx, fs, ex, ea, c, n, l, q2⟩ => ?_) hs
  subst ex
  obtain rfl : ov = Value.ref a := rx
  exact setattr_ok I2 ea c n l ry fun s3 I3 => ⟨σ, _, I3, q2⟩
end
section
variable {X : Cx} {pins : List (Addr × Obj)} {σ : St} {H : Hp} {s : Shared} {A : Around} {E : Value → Shared → Prop} {Q : Value → Shared → Prop} {c : Value} {b : Bool}
inductive TyOf (K : PySem.W.Frag) (H : Hp) : V → Value → Prop where
  | non : TyOf K H .non (.type "NoneType")
  | bl (x : Bool) : TyOf K H (.bl x) (.type "bool")
  | int (i : Int) : TyOf K H (.int i) (.type "int")
  | str (x : Str) : TyOf K H (.str x) (.type "str")
  | flt (x : UInt64) : TyOf K H (.flt x) (.type "float")
  | lst {a : Addr} {xs : List V} (e : H a = some (.lst xs)) : TyOf K H (.ref a) (.type "list")
  | frz {a : Addr} {o : Obj} {xs : List V} (e : H a = some (.frz o (.lst xs))) : TyOf K H (.ref a) (.type "list")
  | tup {a : Addr} {xs : List V} (e : H a = some (.tup xs)) : TyOf K H (.ref a) (.type "tuple")
  | dK {a : Addr} {kvs : List (Key × V)} (e : H a = some (.dK kvs)) : TyOf K H (.ref a) (.type "dict")
  | dT {a : Addr} {kvs : List (List Key × V)} (e : H a = some (.dT kvs)) : TyOf K H (.ref a) (.type "dict")
  | ins {a C dx : Addr} {fs : List (Str × V)} (e : H a = some (.ins C dx fs)) (cl : Cls K C) (ha : PySem.W.findIn K (.ref C) "__class__" = some (some (.builtin "object.__class__")))
      (hn : PySem.W.specialIn K (.builtin "object.__class__") "__get__" = some (some (.builtin "getset_descriptor.__get__"))) (htk : PySem.W.takesIn K (.builtin "object.__class__") = some true)
      (hm : PySem.W.mroIn K C (.type "object") = some true) : TyOf K H (.ref a) (.ref C)
theorem isinst_ok {x : V} {u t : Value} (I : Inv X pins σ H s) (rx : RelV x u) (ty : TyOf X.K H x t) (e : PySem.W.kitOne X.K t c = some b) (h : ∀ tk, Q (.bool b) { s with toks := tk }) :
    wpAny (model X.prog X.w) A (call (.builtin "isinstance") [u, c]) Q E s := by
  cases ty with
  | non => cases (show u = Value.none from rx); exact PySem.W.kia_one PySem.W.kitx_none I.kIn True.intro e (fun z => nomatch z) h
  | bl y => cases (show u = Value.bool y from rx); exact PySem.W.kia_one PySem.W.kitx_bool I.kIn True.intro e (fun z => nomatch z) h
  | int i => obtain ⟨t, q⟩ := (show ∃ t, u = Value.int i t from rx); cases q; exact PySem.W.kia_one PySem.W.kitx_int I.kIn True.intro e (fun z => nomatch z) h
  | str y => obtain ⟨t, q⟩ := (show ∃ t, u = Value.str y t from rx); cases q; exact PySem.W.kia_one PySem.W.kitx_str I.kIn True.intro e (fun z => nomatch z) h
  | flt y => obtain ⟨t, q⟩ := (show ∃ t, u = Value.float y t from rx); cases q; exact PySem.W.kia_one PySem.W.kitx_float I.kIn True.intro e (fun z => nomatch z) h
  | @lst a xs ea =>
    cases (show u = Value.ref a from rx)
    obtain ⟨_, _, n, _, h1⟩ := (show ObjOk X.prog X.w H s.heap a (.lst xs) from I.hok a _ ea)
    exact PySem.W.kia_one PySem.W.kitx_list I.kIn ⟨_, h1, rfl⟩ e (fun z => nomatch z) h
  | @frz a ob xs ea =>
    cases (show u = Value.ref a from rx)
    obtain ⟨_, _, _, n, _, h1⟩ := (show ObjOk X.prog X.w H s.heap a (.frz ob (.lst xs)) from I.hok a _ ea)
    exact PySem.W.kia_one PySem.W.kitx_list I.kIn ⟨_, h1, rfl⟩ e (fun z => nomatch z) h
  | @tup a xs ea =>
    cases (show u = Value.ref a from rx)
    obtain ⟨_, _, _, p⟩ := (show ObjOk X.prog X.w H s.heap a (.tup xs) from I.hok a _ ea)
    obtain ⟨o, h1, h2, _⟩ := p
    exact PySem.W.kia_one PySem.W.kitx_tuple I.kIn ⟨o, h1, h2⟩ e (fun z => nomatch z) h
  | @dK a kvs ea =>
    cases (show u = Value.ref a from rx)
    obtain ⟨_, _, vs, _, p⟩ := (show ObjOk X.prog X.w H s.heap a (.dK kvs) from I.hok a _ ea)
    obtain ⟨o, es, ep, h1, h2, _⟩ := p
    exact PySem.W.kia_one PySem.W.kitx_dict I.kIn ⟨o, h1, h2.1⟩ e (fun z => nomatch z) h
  | @dT a kvs ea =>
    cases (show u = Value.ref a from rx)
    obtain ⟨_, _, xs, _, o, es, ep, h1, h2, _⟩ := (show ObjOk X.prog X.w H s.heap a (.dT kvs) from I.hok a _ ea)
    exact PySem.W.kia_one PySem.W.kitx_dict I.kIn ⟨o, h1, h2.1⟩ e (fun z => nomatch z) h
  | @ins a C dx fs ea cl ha hn htk hm =>
    cases (show u = Value.ref a from rx)
    obtain ⟨mA, O, _⟩ := ins_get I.hok ea
    obtain ⟨od, J, _⟩ := O.look
    exact PySem.W.kia_one (PySem.W.kitx_own (cl.get _) cl.hd ha hn htk hm) I.kIn J e (fun z => nomatch z) h
end
end L2
namespace L2
open PySem PySem.Spec PyProof.Rows
structure Room (k : Nat) (A : Around) : Prop where
  hd : A.handled = none
  dp : A.depth + 3 * k + 5 < recursionLimit
  un : A.units + 16 * k + 200 < cLine
theorem Room.mono {j k : Nat} {A : Around} (r : Room k A) (h : j ≤ k) : Room j A := ⟨r.hd, by have := r.dp; omega, by have := r.un; omega⟩
theorem Room.deeper {k : Nat} {A : Around} (r : Room (k + 1) A) (env : Env) : Room k (A.deeper env) :=
  ⟨r.hd, by have := r.dp; show A.depth + 1 + 3 * k + 5 < _; omega, by have := r.un; show A.units + 3 + 16 * k + 200 < _; omega⟩
theorem Room.in1 {k : Nat} {A : Around} (r : Room (k + 1) A) : Room k A.in1 :=
  ⟨r.hd, by have := r.dp; show A.depth + 3 * k + 5 < _; omega, by have := r.un; show A.units + 1 + 16 * k + 200 < _; omega⟩
theorem make_depth {A : Around} {C : Addr} {us : List Value} {kw : List (Str × Value)} : (A.under (.builtin "type.__call__" ⟨.ref C :: us, kw⟩)).depth = A.depth + 1 := by
  first | rfl | simp [Around.under, Code.weight, Code.isCreation, Code.isGuard, Code.isCaller, Code.frames, Code.isFrame, guardIds]
theorem make_units {A : Around} {C : Addr} {us : List Value} {kw : List (Str × Value)} : (A.under (.builtin "type.__call__" ⟨.ref C :: us, kw⟩)).units = A.units + 1 := by
  first | rfl | simp [Around.under, Code.cUnits, Code.frames, Code.isFrame]
theorem Room.make {k : Nat} {A : Around} (r : Room (k + 1) A) (C : Addr) (us : List Value) (kw : List (Str × Value)) : Room k (A.under (.builtin "type.__call__" ⟨.ref C :: us, kw⟩)) :=
  ⟨r.hd, by have := r.dp; rw [make_depth]; omega, by have := r.un; rw [make_units]; omega⟩
theorem Room.depth {k : Nat} {A : Around} (r : Room k A) : A.depth < recursionLimit := by have := r.dp; omega
theorem Room.units {k : Nat} {A : Around} (r : Room k A) : A.units + 64 < cLine := by have := r.un; omega
def tNil : TA := fun _ H Q => Q [] H
def tCons (ta : TE) (tr : TA) : TA := fun σ H Q => ta σ H fun x H1 => tr σ H1 fun xs H2 => Q (x :: xs) H2
section
variable {X : Cx} {e : Expr} {es : List Expr} {te : TE} {t : TA} {pos : Pos}
theorem pa_nil : PA X [] tNil := fun _ _ _ _ H Q I h => Calls.spliced_nil ⟨[], H, I, .nil, h⟩
theorem pa_cons (ha : PE X e te) (hr : PA X es t) (hs : starEach (e :: es) X.env = (false, eval e X.env) :: starEach es X.env := by rfl) : PA X (e :: es) (tCons te t) := by
  intro pos pins s σ H Q I h
  rw [hs]
  show wpAny _ _ (spliced ((false, eval e X.env) :: backTo pos (starEach es X.env))) _ _ s
  refine Calls.spliced_cons (thn (ha pins s σ H _ I h) fun u s1 ⟨x, H1, I1, r1, q1⟩ => ?_)
  exact thn (hr pos pins s1 σ H1 _ I1 q1) fun us s2 ⟨xs, H2, I2, r2, q2⟩ => ⟨x :: xs, H2, I2, .cons r1 r2, q2⟩
def tTup (t : TA) : TE := fun σ H Q => t σ H fun xs H1 => xs.length ≤ sizeLine ∧ ∀ p, H1 p = none → Q (.ref p) (upd H1 p (.tup xs))
def tLst (t : TA) : TE := fun σ H Q => t σ H fun xs H1 => xs.length ≤ sizeLine ∧ ∀ p, H1 p = none → Q (.ref p) (upd H1 p (.lst xs))
theorem pe_tup {x1} (h : PA X es t) : PE X (.Tuple es x1 pos) (tTup t) := by
  intro pins s σ H Q I hq
  refine wpAny_Tuple_spliced (thn (h pos pins s σ H _ I hq) fun us s1 ⟨xs, H1, I1, r, z, q⟩ => ⟨by rw [← r.length]; exact z, ?_⟩)
  have hf : H1 s1.heap.objs.size = none := I1.hok.fresh (Nat.le_refl _)
  refine ⟨.ref s1.heap.objs.size, upd H1 s1.heap.objs.size (.tup xs), I1.laid (t' := s1.toks) (fun b u e => Heap.get?_push_of_some _ e) (Nat.le_refl _) ?_, rfl, q _ hf⟩
  exact ⟨z, us, r, ⟨_, Heap.get?_push_size _ rfl, rfl, _, rfl, rfl⟩⟩
theorem pe_lst (h : PA X es t) : PE X (.List es pos) (tLst t) := by
  intro pins s σ H Q I hq
  refine wpAny_List_spliced (thn (h pos pins s σ H _ I hq) fun us s1 ⟨xs, H1, I1, r, z, q⟩ => ⟨by rw [← r.length]; exact z, ?_⟩)
  have hf : H1 s1.heap.objs.size = none := I1.hok.fresh (Nat.le_refl _)
  refine ⟨.ref s1.heap.objs.size, upd H1 s1.heap.objs.size (.lst xs), I1.laid (t' := s1.toks) (fun b u e => Heap.get?_push_of_some _ e) (Nat.le_refl _) ?_, rfl, q _ hf⟩
  exact ⟨z, us, 0, r, Heap.get?_push_size _ rfl⟩
end
abbrev Sp := List V → Hp → VK → XK → Prop
abbrev CXT := List Env → Hp → Shared → XK → Value → Shared → Prop
structure Env0 (P : Program) (w : World) (K : PySem.W.Frag) (mg : Str → Option Value) (base : Heap) (A : Around) (outer : List Env) (s : Shared) (H : Hp) : Prop where
  frames : A.frames = some outer
  mod : Mod K mg base
  bs : ∀ b o, base.get? b = some o → s.heap.get? b = some o ∧ H b = none
  bsz : base.objs.size ≤ s.heap.objs.size
  funs : s.heap.FunFrames base outer
  frf : ∀ b ∈ frs outer, H b = none
  hok : HOk P w H s.heap
  bare : AllBare s.gens
def CE (outer : List Env) (P : Program) (w : World) (H : Hp) (s : Shared) (Q : VK) (u : Value) (s' : Shared) : Prop :=
  ∃ v H', s'.os = s.os ∧ AllBare s'.gens ∧ Un (frs outer) [] H H' s.heap s'.heap ∧ HOk P w H' s'.heap ∧ RelV v u ∧ Q v H'
def CR (CX : CXT) (outer : List Env) (P : Program) (w : World) (H : Hp) (s : Shared) (Q : VK) (E : XK) (r : Result) (s' : Shared) : Prop :=
  match r with
  | .ok (.ret u) => CE outer P w H s Q u s'
  | .ok _ => False
  | .error e => CX outer H s E e s'
structure FnOk (P : Program) (w : World) (K : PySem.W.Frag) (mg : Str → Option Value) (base : Heap) (CX : CXT) (k : Nat) (f : Addr) (fd : FuncData) (ps : List Str) (sp : Sp) : Prop where
  len : ∀ vs H Q E, sp vs H Q E → vs.length = ps.length
  run : ∀ (A : Around) (outer : List Env) (s : Shared) (H : Hp) (args : Args) (us : List Value) (vs : List V) (Q : VK) (E : XK), Room k A → Env0 P w K mg base A outer s H → BindsTo s fd args (ps.zip us) → Vals vs us → sp vs H Q E →
    codeAny (model P w) A (.call (.ref f) args) (CR CX outer P w H s Q E) s
theorem FnOk.mono {P : Program} {w : World} {K : PySem.W.Frag} {mg : Str → Option Value} {base : Heap} {CX : CXT} {j k : Nat} {f : Addr} {fd : FuncData} {ps : List Str} {sp : Sp} (F : FnOk P w K mg base CX j f fd ps sp) (h : j ≤ k) :
    FnOk P w K mg base CX k f fd ps sp := ⟨F.len, fun A outer s H args us vs Q E hr => F.run A outer s H args us vs Q E (hr.mono h)⟩
theorem FnOk.imp {P : Program} {w : World} {K : PySem.W.Frag} {mg : Str → Option Value} {base : Heap} {CX : CXT} {k : Nat} {f : Addr} {fd : FuncData} {ps : List Str} {sp sp' : Sp} (F : FnOk P w K mg base CX k f fd ps sp)
    (h : ∀ vs H Q E, sp' vs H Q E → sp vs H Q E) : FnOk P w K mg base CX k f fd ps sp' :=
  ⟨fun vs H Q E q => F.len vs H Q E (h _ _ _ _ q), fun A outer s H args us vs Q E hr he hb hv hs => F.run A outer s H args us vs Q E hr he hb hv (h _ _ _ _ hs)⟩
theorem Env0.make {P : Program} {w : World} {K : PySem.W.Frag} {mg : Str → Option Value} {base : Heap} {A : Around} {outer : List Env} {s : Shared} {H : Hp} (e : Env0 P w K mg base A outer s H) (C : Addr) (us : List Value) (kw : List (Str × Value)) :
    Env0 P w K mg base (A.under (.builtin "type.__call__" ⟨.ref C :: us, kw⟩)) outer s H := ⟨by first | exact e.frames | (simpa [Around.under, Code.envs, Code.isFrame, pushEnvs] using e.frames), e.mod, e.bs, e.bsz, e.funs, e.frf, e.hok, e.bare⟩
theorem Env0.in1 {P : Program} {w : World} {K : PySem.W.Frag} {mg : Str → Option Value} {base : Heap} {A : Around} {outer : List Env} {s : Shared} {H : Hp} (e : Env0 P w K mg base A outer s H) :
    Env0 P w K mg base A.in1 outer s H := ⟨e.frames, e.mod, e.bs, e.bsz, e.funs, e.frf, e.hok, e.bare⟩
section
variable {X : Cx} {pins : List (Addr × Obj)} {σ : St} {H : Hp} {s s' : Shared}
theorem Inv.env0 (I : Inv X pins σ H s) : Env0 X.prog X.w X.K X.mg X.base X.A X.stack s H :=
  ⟨I.ok.frames, I.ok.mod, I.bs, Nat.le_trans I.ok.bsz I.sz, I.stack, I.stkFree, I.hok, I.bare⟩
theorem Inv.after {Q : VK} {u : Value} (I : Inv X pins σ H s) (h : CE X.stack X.prog X.w H s Q u s') : EP X pins σ Q u s' := by
  obtain ⟨v, H', os, bare, un, hok, r, q⟩ := h
  obtain ⟨hh, g, d, t, os'⟩ := s'
  obtain rfl : os' = s.os := os
  exact ⟨v, H', I.call (h' := hh) (g' := g) (d' := d) (t' := t) (ch := []) un hok bare (fun b z => absurd z (by simp)), r, q⟩
end
def tCall (sp : Sp) (dvs : List V) (E : XK) (t : TA) : TE := fun σ H Q => t σ H fun vs H1 => sp (vs ++ dvs) H1 Q E
def tMake (C : Addr) (sp : Sp) (dvs : List V) (E : XK) (t : TA) : TE := fun σ H Q => t σ H fun vs H1 => ∀ x dx, H1 x = none → H1 dx = none → dx ≠ x →
  sp (.ref x :: (vs ++ dvs)) (upd (upd H1 dx (.own x)) x (.ins C dx [])) (fun v H2 => v = .non ∧ Q (.ref x) H2) E
def Binds (K : PySem.W.Frag) (fd : FuncData) (ps : List Str) (ds : List Value) : Prop :=
  ∀ (s : Shared) (us : List Value), K.In s.heap → (us ++ ds).length = ps.length → BindsTo s fd ⟨us, []⟩ (ps.zip (us ++ ds))
theorem Binds.all {K : PySem.W.Frag} {fd : FuncData} {ps : List Str} (h : ∀ us : List Value, us.length = ps.length → bindArgs fd ⟨us, []⟩ = pure (ps.zip us)) : Binds K fd ps [] := fun s us _ hl => by
  rw [List.append_nil] at hl ⊢
  exact .of_eq (h us hl)
def Passes (CX : CXT) (X : Cx) (E : XK) : Prop := ∀ (pins : List (Addr × Obj)) (σ : St) (H : Hp) (s : Shared) (e : Value) (s' : Shared), Inv X pins σ H s → CX X.stack H s E e s' → X.xe e s'
section
variable {X : Cx} {CX : CXT} {k : Nat} {f C : Addr} {fd : FuncData} {ps : List Str} {sp : Sp} {dvs : List V} {ds : List Value} {E : XK} {x m : Str} {p pos apos : Pos} {e o : Expr} {es : List Expr} {ta : TE} {t : TA}
theorem run_fn {pins : List (Addr × Obj)} {σ : St} {H : Hp} {s : Shared} {Q : VK} {us : List Value} {vs : List V} (F : FnOk X.prog X.w X.K X.mg X.base CX k f fd ps sp) (hr : Room k X.A) (hb : Binds X.K fd ps ds) (hd : Vals dvs ds) (hx : Passes CX X E)
    (I : Inv X pins σ H s) (r : Vals vs us) (h : sp (vs ++ dvs) H Q E) : wpAny (model X.prog X.w) X.A (call (.ref f) us) (EP X pins σ Q) X.xe s := by
  have r2 : Vals (vs ++ dvs) (us ++ ds) := r.append hd
  have hl : (us ++ ds).length = ps.length := by rw [← r2.length]; exact F.len _ _ _ _ h
  refine wpAny_call (codeAny_mono (F.run X.A X.stack s H ⟨us, []⟩ (us ++ ds) (vs ++ dvs) Q E hr I.env0 (hb s us I.kIn hl) r2 h) fun r s' hq => ?_)
  cases r with
  | error e => exact hx pins σ H s e s' I hq
  | ok fl =>
    cases fl with
    | ret u => exact I.after hq
    | next => exact False.elim hq
    | brk => exact False.elim hq
    | cont => exact False.elim hq
theorem pe_call (F : FnOk X.prog X.w X.K X.mg X.base CX k f fd ps sp) (hr : Room k X.A) (hg : Gl X x) (hm : X.mg x = some (.ref f)) (hk : PySem.W.keepIn X.K (.ref f) = true) (hb : Binds X.K fd ps ds) (hd : Vals dvs ds) (hx : Passes CX X E)
    (ha : PA X (e :: es) t) (hdb : (x == ("__debug__" : Str)) = false := by decide) (he : starEach (e :: es) X.env = (false, eval e X.env) :: starEach es X.env := by rfl) (hpl : (backTo pos (starEach es X.env)).any (·.1) = false := by rfl) :
    PE X (.Call (.Name x p) (e :: es) [] pos) (tCall sp dvs E t) := by
  intro pins s σ H Q I h
  refine wpAny_Call_Name_kw (ld_glob I hg hm ?_ hdb)
  refine PySem.W.callWith_K (h₀ := X.base) I.ok.mod.kin hk (thn (ha pos pins s σ H _ I h) fun us s1 ⟨vs, H1, I1, r, q⟩ => ⟨I1.kIn, ?_⟩) he hpl
  exact run_fn F hr hb hd hx I1 r q
structure Mk (K : PySem.W.Frag) (C f : Addr) : Prop where
  makes : PySem.W.makesIn K C = true
  init : PySem.W.findIn K (.ref C) "__init__" = some (some (.ref f))
  fn : PySem.W.isFn K (.ref f) = true
  kp : PySem.W.keepIn K (.ref C) = true
theorem run_make {pins : List (Addr × Obj)} {σ : St} {H : Hp} {s : Shared} {Q : VK} {us : List Value} {vs : List V} (M : Mk X.K C f) (F : FnOk X.prog X.w X.K X.mg X.base CX k f fd ps sp) (hr : Room (k + 1) X.A) (hb : Binds X.K fd ps ds) (hd : Vals dvs ds)
    (hx : Passes CX X E) (I : Inv X pins σ H s) (r : Vals vs us)
    (h : ∀ x dx, H x = none → H dx = none → dx ≠ x → sp (.ref x :: (vs ++ dvs)) (upd (upd H dx (.own x)) x (.ins C dx [])) (fun v H2 => v = .non ∧ Q (.ref x) H2) E) :
    wpAny (model X.prog X.w) X.A (call (.ref C) us) (EP X pins σ Q) X.xe s := by
  have hq := h (s.heap.objs.size + 1) s.heap.objs.size (I.hok.fresh (Nat.le_succ _)) (I.hok.fresh (Nat.le_refl _)) (Nat.ne_of_lt (Nat.lt_succ_self _))
  have I2 := Inv.made (C := C) I
  have r2 : Vals (V.ref (s.heap.objs.size + 1) :: (vs ++ dvs)) (Value.ref (s.heap.objs.size + 1) :: (us ++ ds)) := .cons rfl (r.append hd)
  have hl : (Value.ref (s.heap.objs.size + 1) :: us ++ ds).length = ps.length := by
    have e := r2.length
    rw [F.len _ _ _ _ hq] at e
    exact e.symm
  refine wpAny_call (make_map (f := f) I.kIn M.makes M.init (beq_iff_eq.mp M.fn) (codeAny_mono (F.run _ X.stack _ _ ⟨Value.ref (s.heap.objs.size + 1) :: us, []⟩ (Value.ref (s.heap.objs.size + 1) :: (us ++ ds)) _ _ E (hr.make C us [])
    (I2.env0.make C us []) (hb _ (Value.ref (s.heap.objs.size + 1) :: us) I2.kIn hl) r2 hq) fun r s' hq' => ?_))
  cases r with
  | error e => exact hx pins σ _ _ e s' I2 hq'
  | ok fl =>
    cases fl with
    | ret u =>
      obtain ⟨v, H', I3, rv, ev, q3⟩ := I2.after hq'
      subst ev
      exact ⟨rv, ⟨V.ref (s.heap.objs.size + 1), H', I3, rfl, q3⟩⟩
    | next => exact False.elim hq'
    | brk => exact False.elim hq'
    | cont => exact False.elim hq'
theorem pe_make (M : Mk X.K C f) (F : FnOk X.prog X.w X.K X.mg X.base CX k f fd ps sp) (hr : Room (k + 1) X.A) (hg : Gl X x) (hm : X.mg x = some (.ref C)) (hb : Binds X.K fd ps ds) (hd : Vals dvs ds) (hx : Passes CX X E)
    (ha : PA X (e :: es) t) (hdb : (x == ("__debug__" : Str)) = false := by decide) (he : starEach (e :: es) X.env = (false, eval e X.env) :: starEach es X.env := by rfl) (hpl : (backTo pos (starEach es X.env)).any (·.1) = false := by rfl) :
    PE X (.Call (.Name x p) (e :: es) [] pos) (tMake C sp dvs E t) := by
  intro pins s σ H Q I h
  refine wpAny_Call_Name_kw (ld_glob I hg hm ?_ hdb)
  refine PySem.W.callWith_K (h₀ := X.base) I.ok.mod.kin M.kp (thn (ha pos pins s σ H _ I h) fun us s1 ⟨vs, H1, I1, r, q⟩ => ⟨I1.kIn, ?_⟩) he hpl
  exact run_make M F hr hb hd hx I1 r q
end
section
variable {X : Cx} {CX : CXT} {k : Nat} {f C : Addr} {fd : FuncData} {ps ks : List Str} {sp : Sp} {E : XK} {x m : Str} {p pos apos kpos : Pos} {e o : Expr} {es : List Expr} {kws : List Keyword} {te ta : TE} {t tk : TA} {nm : Option Str}
structure KBinds (K : PySem.W.Frag) (fd : FuncData) (ps ks : List Str) (g : List Value → List Value → List Value) (gV : List V → List V → List V) : Prop where
  to : ∀ (s : Shared) (us ws : List Value), K.In s.heap → (g us ws).length = ps.length → BindsTo s fd ⟨us, ks.zip ws⟩ (ps.zip (g us ws))
  rel : ∀ {vs : List V} {us : List Value} {zs : List V} {ws : List Value}, Vals vs us → Vals zs ws → Vals (gV vs zs) (g us ws)
variable {g : List Value → List Value → List Value} {gV : List V → List V → List V}
end
structure FnScope (N P : List Str) (sc : Scope) : Prop where
  kind : sc.kind = .function
  co : sc.isCoroutine = false
  gen : sc.isGenerator = false
  nd : N.Nodup
  pre : N.take P.length = P
  par : ∀ x ∈ P, sc.names.lookup x = some .local ∨ sc.names.lookup x = some .cell
  nofree : ∀ y ∈ sc.names, y.2 ≠ .free
theorem bindL_out {kindOf : Str → Option NameKind} {x : Str} : ∀ {binds : List (Str × Value)} {m : Str → Option Value}, (∀ v, (x, v) ∉ binds) → bindL kindOf binds m x = m x
  | [], _, _ => rfl
  | (n, v) :: r, m, h => by
    unfold bindL
    rw [bindL_out fun w hw => h w (List.mem_cons_of_mem _ hw)]
    split
    · have : x ≠ n := by rintro rfl; exact h v List.mem_cons_self
      simp [this]
    · rfl
theorem bindC_out {kindOf : Str → Option NameKind} {x : Str} : ∀ {binds : List (Str × Value)} {m : Str → Option Value}, (∀ v, (x, v) ∉ binds) → bindC kindOf binds m x = m x
  | [], _, _ => rfl
  | (n, v) :: r, m, h => by
    unfold bindC
    rw [bindC_out fun w hw => h w (List.mem_cons_of_mem _ hw)]
    split
    · rfl
    · have : x ≠ n := by rintro rfl; exact h v List.mem_cons_self
      simp [this]
theorem bindL_get {kindOf : Str → Option NameKind} {x : Str} {v : Value} : ∀ {P : List Str} {vs : List Value} {i : Nat} {m : Str → Option Value}, P.Nodup → P[i]? = some x → vs[i]? = some v → kindOf x = some .local →
    bindL kindOf (P.zip vs) m x = some v
  | [], _, _, _, _, h, _, _ => by simp at h
  | _ :: _, [], _, _, _, _, h, _ => by simp at h
  | p :: P, w :: vs, 0, m, nd, h1, h2, hk => by
    simp at h1 h2; subst h1; subst h2
    show bindL kindOf ((p, w) :: P.zip vs) m p = _
    unfold bindL
    rw [bindL_out fun v hv => (List.nodup_cons.mp nd).1 (List.of_mem_zip hv).1, if_pos hk]
    simp
  | p :: P, w :: vs, i + 1, m, nd, h1, h2, hk => by
    show bindL kindOf ((p, w) :: P.zip vs) m x = _
    unfold bindL
    exact bindL_get (i := i) (List.nodup_cons.mp nd).2 (by simpa using h1) (by simpa using h2) hk
theorem bindC_get {kindOf : Str → Option NameKind} {x : Str} {v : Value} : ∀ {P : List Str} {vs : List Value} {i : Nat} {m : Str → Option Value}, P.Nodup → P[i]? = some x → vs[i]? = some v → kindOf x ≠ some .local →
    bindC kindOf (P.zip vs) m x = some v
  | [], _, _, _, _, h, _, _ => by simp at h
  | _ :: _, [], _, _, _, _, h, _ => by simp at h
  | p :: P, w :: vs, 0, m, nd, h1, h2, hk => by
    simp at h1 h2; subst h1; subst h2
    show bindC kindOf ((p, w) :: P.zip vs) m p = _
    unfold bindC
    rw [bindC_out fun v hv => (List.nodup_cons.mp nd).1 (List.of_mem_zip hv).1, if_neg hk]
    simp
  | p :: P, w :: vs, i + 1, m, nd, h1, h2, hk => by
    show bindC kindOf ((p, w) :: P.zip vs) m x = _
    unfold bindC
    exact bindC_get (i := i) (List.nodup_cons.mp nd).2 (by simpa using h1) (by simpa using h2) hk
def start (N : List Str) (vs : List V) : St := vs.map some ++ List.replicate (N.length - vs.length) none
def cxOf (CX : CXT) (P : Program) (w : World) (K : PySem.W.Frag) (mg : Str → Option Value) (base : Heap) (N : List Str) (qual : Str) (scope : Scope) (f : Addr) (cd : Value) (A : Around) (outer : List Env) (s : Shared) (H : Hp) (E : XK) : Cx where
  prog := P
  w := w
  K := K
  mg := mg
  base := base
  A := A.deeper (envOfC qual scope s.heap.objs.size f cd)
  N := N
  s_0 := s
  H_0 := H
  env := envOfC qual scope s.heap.objs.size f cd
  outer := outer
  stack := envOfC qual scope s.heap.objs.size f cd :: outer
  ex := []
  calm := true
  fn := fun _ => true
  pn := []
  xe := fun e s' => wpAny (model P w) (A.deeper (envOfC qual scope s.heap.objs.size f cd)) (leaving (envOfC qual scope s.heap.objs.size f cd) e) (fun _ s'' => CX outer H s E e s'') (fun e' s'' => CX outer H s E e' s'') s'
theorem cell_has {sc : Scope} {n : Nat} {x : Str} (h : sc.names.lookup x = some .cell) : ∃ c, (cellsFrom n sc.names []).lookup x = some c := by
  have q := PySem.W.cellsFrom_some sc.names n [] (.inl h)
  exact Option.isSome_iff_exists.mp q
theorem inv_start {CX : CXT} {P : Program} {w : World} {K : PySem.W.Frag} {mg : Str → Option Value} {base : Heap} {N ps : List Str} {qual : Str} {scope : Scope} {f : Addr} {cd : Value} {A : Around} {outer : List Env} {s s1 : Shared} {H : Hp} {E : XK} {us : List Value} {vs : List V}
    (S : FnScope N ps scope) (hd : A.handled = none) (e0 : Env0 P w K mg base A outer s H) (hl : vs.length = ps.length) (r : Vals vs us)
    (x : InCallC s s.heap.objs.size (bindL (envOfC qual scope s.heap.objs.size f cd).kindOf (ps.zip us) fun _ => none) (cellsFrom (s.heap.objs.size + 1) scope.names []) (bindC (envOfC qual scope s.heap.objs.size f cd).kindOf (ps.zip us) fun _ => none) s1) :
    Inv (cxOf CX P w K mg base N qual scope f cd A outer s H E) [] (start N vs) H s1 := by
  have hpl : ps.length ≤ N.length := by have := congrArg List.length S.pre; rw [List.length_take] at this; omega
  obtain ⟨h1, tk, rfl, hk⟩ := x.done
  have noA : ∀ b : Addr, b ∉ (cxOf CX P w K mg base N qual scope f cd A outer s H E).ex := fun b z => absurd (show b ∈ ([] : List Addr) from z) (by simp)
  refine ⟨⟨e0.mod, S.kind, rfl, rfl, Nat.le_refl _, fun y z c h1 h2 => ?_, fun y hy => ?_, fun y c _ h => ?_, fun _ => hd, Around.frames_deeper e0.frames, .inr ⟨rfl, rfl⟩, fun b z => absurd z (noA b), e0.bs, e0.bsz, fun b _ _ => noA b, fun b z => absurd z (noA b), e0.funs, e0.frf⟩,
    rfl, e0.bare, Un.kept hk, ⟨_, x.toInCall.ns, fun i y v h1 h2 h3 => ?_⟩, fun y c h => ⟨_, x.cell y c h⟩, e0.hok.fresh (Nat.le_refl _), fun y c h => ?_, fun p hp => absurd (show p ∈ ([] : List (Addr × Obj)) from hp) (by simp), e0.hok.kept hk, ?_⟩
  · exact name_of_addr x.apart (PySem.mem_of_lookup h1) (PySem.mem_of_lookup h2)
  · have hy : scope.names.lookup y = some .cell ∨ scope.names.lookup y = some .free := hy
    rcases hy with hy | hy
    · exact cell_has hy
    · exact absurd rfl (S.nofree _ (PySem.mem_of_lookup hy))
  · exact Nat.le_of_lt (x.above y c (PySem.mem_of_lookup h))
  · have hi : i < vs.length := by
      unfold start at h2
      by_cases hi : i < vs.length
      · exact hi
      · rw [List.getElem?_append_right (by simpa using hi)] at h2
        rw [List.getElem?_replicate] at h2
        split at h2 <;> cases h2
    have ha : vs[i]? = some v := by
      unfold start at h2
      rw [List.getElem?_append_left (by simpa using hi), List.getElem?_map] at h2
      cases e : vs[i]? with
      | none => rw [e] at h2; cases h2
      | some a => rw [e] at h2; cases h2; rfl
    obtain ⟨u, hu, rv⟩ := r.get ha
    have hp : ps[i]? = some y := by
      rw [← S.pre, List.getElem?_take_of_lt (by omega)]; exact h1
    have ndP : ps.Nodup := by rw [← S.pre]; exact S.nd.sublist (List.take_sublist _ _)
    refine ⟨u, rv, ?_⟩
    rcases S.par y (List.mem_of_getElem? hp) with k | k
    · exact .inl ⟨k, bindL_get ndP hp hu k⟩
    · obtain ⟨c, e⟩ := cell_has (n := s.heap.objs.size + 1) k
      refine .inr ⟨.inl k, c, e, ?_⟩
      have q := x.cell y c e
      rw [bindC_get ndP hp hu (by show scope.names.lookup y ≠ _; rw [k]; decide)] at q
      exact q
  · exact e0.hok.fresh (Nat.le_of_lt (x.above y c (PySem.mem_of_lookup h)))
  · unfold start
    show _ = N.length
    rw [List.length_append, List.length_map, List.length_replicate]
    omega
theorem fn_of {CX : CXT} {P : Program} {w : World} {K : PySem.W.Frag} {mg : Str → Option Value} {base : Heap} {k : Nat} {f : Addr} {name qual : Str} {params : Arguments} {body : List Stmt} {scope : Scope} {dV kV doc pm cdv ct oc : Value} {an od : Option Addr}
    {osl : Array (Option Value)} {N ps : List Str} {sp : Sp} (lk : K.lookup f = some ⟨oc, od, .func (PySem.W.fnOf name qual params body scope dV kV doc pm an cdv ct), osl⟩) (hcd : PySem.W.codeIn K cdv qual = true) (S : FnScope N ps scope)
    (len : ∀ vs H Q E, sp vs H Q E → vs.length = ps.length)
    (hbody : ∀ (A : Around) (outer : List Env) (s : Shared) (H : Hp) (vs : List V) (Q : VK) (E : XK), Room k (A.deeper (envOfC qual scope s.heap.objs.size f cdv)) → sp vs H Q E →
      ∃ t, PSs (cxOf CX P w K mg base N qual scope f cdv A outer s H E) body t ∧ t { nx := fun _ H' => Q .non H', rt := Q } (start N vs) H) :
    FnOk P w K mg base CX (k + 1) f (PySem.W.fnOf name qual params body scope dV kV doc pm an cdv ct) ps sp := by
  refine ⟨len, fun A outer s H args us vs Q E hr e0 hb r hsp => ?_⟩
  have hl := len _ _ _ _ hsp
  have KX : K.In s.heap := e0.mod.kin.keeps fun b o e => (e0.bs b o e).1
  have lim : s.heap.NoLimit := e0.mod.nolimit.keeps fun b o e => (e0.bs b o e).1
  have hkind : ∀ y ∈ ps.zip us, scope.names.lookup y.1 = some .local ∨ (scope.names.lookup y.1 = some .cell ∧ ((cellsFrom (s.heap.objs.size + 1) scope.names []).lookup y.1).isSome = true) := fun ⟨n, v⟩ hy => by
    rcases S.par n (List.of_mem_zip hy).1 with q | q
    · exact .inl q
    · exact .inr ⟨q, PySem.W.cellsFrom_some _ _ _ (.inl q)⟩
  refine codeAny_call_function hr.depth (KX _ _ lk) rfl S.co S.gen rfl (PySem.W.codeRec_of KX hcd) (hb _ _ _ _ ?_)
  refine wpAny_newFunctionEnv_cells S.kind hkind fun env he s1 x => ?_
  subst he
  refine ⟨lim.keeps x.toInCall.keep, codeAny_func ?_⟩
  obtain ⟨t, ht, hq⟩ := hbody A outer s H vs Q E (hr.deeper _) hsp
  have I : Inv (cxOf CX P w K mg base N qual scope f cdv A outer s H E) [] (start N vs) H s1 := inv_start S hr.hd e0 hl r x
  refine wpAny_mono (ht [] s1 (start N vs) H _ I hq) (fun fl s' hs => ?_) fun e s' hs => hs
  have fin : ∀ {σ' : St} {H' : Hp} {v : V} {u : Value}, Inv (cxOf CX P w K mg base N qual scope f cdv A outer s H E) [] σ' H' s' → RelV v u → Q v H' → CE outer P w H s Q u s' :=
    fun {σ' H' v u} J rv q => ⟨v, H', J.os, J.bare, J.base, J.hok, rv, q⟩
  cases fl with
  | ret u =>
    obtain ⟨v, σ', H', J, rv, q⟩ := hs
    exact fin J rv q
  | next =>
    obtain ⟨σ', H', J, q⟩ := hs
    exact fin (v := V.non) (u := Value.none) J rfl q
  | brk =>
    obtain ⟨_, _, _, q⟩ := hs
    exact False.elim q
  | cont =>
    obtain ⟨_, _, _, q⟩ := hs
    exact False.elim q
end L2
namespace L2
open PySem PySem.Spec PyProof.Rows
section
variable {X : Cx} {x : Str} {p pos : Pos} {e : Expr} {es : List Expr} {t : TA} {id T : String} {r : List V → Hp → VK → Prop}
def tCB (r : List V → Hp → VK → Prop) (t : TA) : TE := fun σ H Q => t σ H fun vs H1 => r vs H1 Q
theorem pe_callB (hc : CallR X (.builtin id) r) (hg : Gl X x) (hm : X.mg x = none) (hv : bootBuiltins x = some (.builtin id)) (ha : PA X (e :: es) t) (hn : x ≠ "__name__" := by decide) (hdb : (x == ("__debug__" : Str)) = false := by decide)
    (he : starEach (e :: es) X.env = (false, eval e X.env) :: starEach es X.env := by rfl) (hpl : (backTo pos (starEach es X.env)).any (·.1) = false := by rfl) : PE X (.Call (.Name x p) (e :: es) [] pos) (tCB r t) := by
  intro pins s σ H Q I h
  refine wpAny_Call_Name_kw (ld_blt I hg hm hv ?_ hn hdb)
  exact PyProof.Rows.callWith_builtin1 (thn (ha pos pins s σ H _ I h) fun us s1 ⟨vs, H1, I1, r1, q1⟩ => hc pins s1 σ H1 vs us Q I1 r1 q1) he hpl
theorem pe_callTy (hc : CallR X (.type T) r) (hg : Gl X x) (hm : X.mg x = none) (hv : bootBuiltins x = some (.type T)) (ha : PA X (e :: es) t) (hn : x ≠ "__name__" := by decide) (hdb : (x == ("__debug__" : Str)) = false := by decide)
    (he : starEach (e :: es) X.env = (false, eval e X.env) :: starEach es X.env := by rfl) (hpl : (backTo pos (starEach es X.env)).any (·.1) = false := by rfl) : PE X (.Call (.Name x p) (e :: es) [] pos) (tCB r t) := by
  intro pins s σ H Q I h
  refine wpAny_Call_Name_kw (ld_blt I hg hm hv ?_ hn hdb)
  exact PyProof.Rows.callWith_type1 (thn (ha pos pins s σ H _ I h) fun us s1 ⟨vs, H1, I1, r1, q1⟩ => hc pins s1 σ H1 vs us Q I1 r1 q1) he hpl
end
end L2
namespace HT
open PySem PyProof.Rows
def lexLt : List Int → List Int → Bool
  | [], [] => false
  | [], _ :: _ => true
  | _ :: _, [] => false
  | x :: xs, y :: ys => if x = y then lexLt xs ys else decide (x < y)
theorem lexLt_cons (x y : Int) (xs ys : List Int) : lexLt (x :: xs) (y :: ys) = if x = y then lexLt xs ys else decide (x < y) := rfl
section
open PySem.SeqAt
open PySem.AutoSeq1 (wpAny_loadPart')
open PySem.MeetsSeq PySem.MeetsSeq2 PySem.MeetsSeq3
end
section
variable {prog : Program} {w : World} {A : Around} {E : Value → Shared → Prop} {s : Shared}
theorem cat_tup {t b : Addr} {vs ws : List Value} {Q : Value → Shared → Prop} (ht : IsTup s.heap t vs.toArray) (hb : IsTup s.heap b ws.toArray) (hv : vs ≠ [])
    (h1 : ws = [] → Q (.ref t) s) (h2 : ws ≠ [] → Q (.ref s.heap.objs.size) { s with heap := s.heap.push { cls := .type "tuple", data := .seq (vs ++ ws).toArray } })
    (hsz : vs.length + ws.length ≤ sizeLine) : wpAny (model prog w) A (binaryOp .Add (.ref t) (.ref b)) Q E s := by
  obtain ⟨⟨cls, dd, data, sl⟩, ho, hc, n, hd⟩ := id ht
  obtain ⟨⟨cls2, dd2, data2, sl2⟩, ho2, hc2, n2, hd2⟩ := id hb
  simp only at hc hd hc2 hd2
  subst hc hd hc2 hd2
  have e : vs.toArray ++ ws.toArray = (vs ++ ws).toArray := by simp
  by_cases hw : ws = []
  · exact concat_meets ⟨_, ho, rfl⟩ ⟨_, ho2, rfl⟩ noFill_tuple_add seq_tuple_add PySem.F.slot_tuple_add PySem.F.entry_tuple_add (PySem.F.args_tuple_add_2 _ _)
      (tuple_addW1 t b vs.toArray ws.toArray n n2 dd dd2 sl sl2 (by simpa using hv) (by simp [hw])) ⟨ho, ho2, h1 hw⟩
  · refine concat_meets ⟨_, ho, rfl⟩ ⟨_, ho2, rfl⟩ noFill_tuple_add seq_tuple_add PySem.F.slot_tuple_add PySem.F.entry_tuple_add (PySem.F.args_tuple_add_2 _ _)
      (tuple_addW2 t b vs.toArray ws.toArray n n2 dd dd2 sl sl2 (by simpa using hv) (by simpa using hw) (by rw [List.size_toArray, List.size_toArray]; exact hsz)) ⟨ho, ho2, ?_⟩
    rw [e]
    exact h2 hw
def sIx (n d : Nat) : Option Int → Nat
  | none => d
  | some v => if v < 0 then (v + (n : Int)).toNat else min v.toNat n
theorem sIx_le (n d : Nat) (hd : d ≤ n) (o : Option Int) : sIx n d o ≤ n := by
  cases o with
  | none => exact hd
  | some v =>
    show (if v < 0 then (v + (n : Int)).toNat else min v.toNat n) ≤ n
    by_cases hv : v < 0
    · rw [if_pos hv]; omega
    · rw [if_neg hv]; exact Nat.min_le_right _ _
theorem clip_eq (v : Int) (n d : Nat) : (if v < 0 then max (v + (n : Int)) 0 else min v (n : Int)) = ((sIx n d (some v) : Nat) : Int) := by
  show (if v < 0 then max (v + (n : Int)) 0 else min v (n : Int)) = (((if v < 0 then (v + (n : Int)).toNat else min v.toNat n) : Nat) : Int)
  by_cases hv : v < 0
  · simp only [if_pos hv]; omega
  · simp only [if_neg hv]; omega
theorem adjust_gen (lo hi : Option Int) (n : Nat) : Builtin.Slice.sliceAdjust lo hi 1 (n : Int) = (((sIx n 0 lo : Nat) : Int), ((sIx n n hi : Nat) : Int)) := by
  have h1 : ¬ ((1 : Int) < 0) := by omega
  unfold Builtin.Slice.sliceAdjust
  simp only [h1, if_false]
  refine Prod.ext ?_ ?_
  · cases lo with
    | none => rfl
    | some v => exact clip_eq v n 0
  · cases hi with
    | none => rfl
    | some v => exact clip_eq v n n
theorem places_gen (i j : Nat) : Builtin.Slice.slicePlaces (i : Int) (j : Int) 1 = j - i := by
  unfold Builtin.Slice.slicePlaces
  have h1 : (1 : Int) > 0 := by omega
  simp only [h1, if_true, Int.ediv_one]
  split <;> omega
theorem slicePart_ {v : Value} {o : Option Int} {Q : Option Int → Shared → Prop} (p : IsPart v o) (h : Q o s) : wpAny (model prog w) A (Builtin.Slice.slicePartIndex v) Q E s := by
  cases p with
  | none => exact slicePart_none h
  | int i t => exact slicePart_int h
theorem sliceApplied_gen {sl : Addr} {vl vu : Value} {lo hi : Option Int} {n : Nat} {Q : Int × Int × Nat → Shared → Prop} (hs : s.heap.IsSliceOf sl vl vu .none) (pl : IsPart vl lo) (pu : IsPart vu hi)
    (h : Q (((sIx n 0 lo : Nat) : Int), 1, sIx n n hi - sIx n 0 lo) s) : wpAny (model prog w) A (Builtin.Slice.sliceApplied (.ref sl) (pure (n : Int))) Q E s := by
  obtain ⟨os, hos, hcs, hds⟩ := id hs
  unfold Builtin.Slice.sliceApplied Builtin.Slice.sliceFields
  refine wpAny_bind (wpAny_bind (wpAny_field hos hds (x := vl) rfl (wpAny_bind (wpAny_field hos hds (x := vu) rfl (wpAny_bind (wpAny_field hos hds (x := .none) rfl (wpAny_pure ?_)))))))
  refine wpAny_bind (slicePart_none ?_)
  show wpAny _ _ (if ((1 : Int) == 0) = true then _ else _) _ _ s
  rw [if_neg (by decide)]
  refine wpAny_bind (slicePart_ pl (wpAny_bind (slicePart_ pu (wpAny_bind (wpAny_pure ?_)))))
  show wpAny _ _ (match Builtin.Slice.sliceAdjust lo hi 1 (n : Int) with | (lo, hi) => pure (lo, (1 : Int), Builtin.Slice.slicePlaces lo hi 1)) _ _ s
  rw [adjust_gen lo hi n]
  show wpAny _ _ (pure (((sIx n 0 lo : Nat) : Int), (1 : Int), Builtin.Slice.slicePlaces ((sIx n 0 lo : Nat) : Int) ((sIx n n hi : Nat) : Int) 1)) _ _ s
  rw [places_gen]
  exact wpAny_pure h
theorem pick_gen (xs : Array Value) (i k : Nat) : ((List.range k).filterMap fun (m : Nat) => xs[((i : Int) + (m : Int) * 1).toNat]?).toArray = ((xs.toList.drop i).take k).toArray := by
  have e : (fun (m : Nat) => xs[((i : Int) + (m : Int) * 1).toNat]?) = fun m => xs[i + m]? := by
    funext m
    have : ((i : Int) + (m : Int) * 1).toNat = i + m := by omega
    rw [this]
  rw [e]
  have := pick_run xs i k
  rw [List.filterMap_map] at this
  have e2 : ((fun x => xs[x]?) ∘ fun x => i + x) = fun m => xs[i + m]? := rfl
  rw [e2] at this
  rw [this]
theorem getItem_tuple_cut {t sl : Addr} {items : Array Value} {vl vu : Value} {lo hi : Option Int} {Q : Value → Shared → Prop} (ht : IsTup s.heap t items) (hs : s.heap.IsSliceOf sl vl vu .none) (pl : IsPart vl lo) (pu : IsPart vu hi)
    (hw : ¬ (sIx items.size 0 lo = 0 ∧ sIx items.size items.size hi = items.size))
    (h : Q (.ref s.heap.objs.size) { s with heap := s.heap.push { cls := .type "tuple", data := .seq ((items.toList.drop (sIx items.size 0 lo)).take (sIx items.size items.size hi - sIx items.size 0 lo)).toArray } })
    (hsz : items.size ≤ sizeLine) : wpAny (model prog w) A (getItem (.ref t) (.ref sl)) Q E s := by
  have htake : sizeOk (.seq ((items.toList.drop (sIx items.size 0 lo)).take (sIx items.size items.size hi - sIx items.size 0 lo)).toArray) := by
    show ((items.toList.drop (sIx items.size 0 lo)).take (sIx items.size items.size hi - sIx items.size 0 lo)).toArray.size ≤ sizeLine
    rw [List.size_toArray, List.length_take, List.length_drop, Array.length_toList]
    omega
  have hj : sIx items.size items.size hi ≤ items.size := sIx_le _ _ (Nat.le_refl _) hi
  obtain ⟨os, hos, hcs, hds⟩ := id hs
  have hTs : s.TypeIs (.ref sl) "slice" := ⟨os, hos, hcs⟩
  unfold getItem
  try with_reducible refine wpAny_holding ?_
  first | refine wpAny_bind (wpAny_pure ?_) | skip
  refine wpAny_bind (wpAny_sequenceKey ht.typeIs (by decide) ?_)
  refine wpAny_bind (wpAny_callSpecial?_slot (name := Str.ofString "__getitem__") ht.typeIs PyProof.Rows.slot_tuple_getitem
    (wpAny_call_entry PyProof.Rows.slot_tuple_getitem ht.typeIs entry_tuple_getitem ?_ (args_tuple_getitem _ _)))
  show wpAny _ _ (Builtin.Tuple.tupleItemsOf (.ref t) >>= _) _ _ s
  refine wpAny_bind (tupleItemsOf_ ht ?_)
  refine wpAny_bind (wpAny_typeOf hTs ?_)
  rw [if_pos (by decide)]
  refine wpAny_bind (sliceApplied_gen hs pl pu ?_)
  have hno : ¬ ((((sIx items.size 0 lo : Nat) : Int) == 0 && (1 : Int) == 1 && (sIx items.size items.size hi - sIx items.size 0 lo) == items.size) = true) := by
    intro q
    rw [Bool.and_eq_true, Bool.and_eq_true] at q
    have q1 : ((sIx items.size 0 lo : Nat) : Int) = 0 := eq_of_beq q.1.1
    have q2 : sIx items.size items.size hi - sIx items.size 0 lo = items.size := eq_of_beq q.2
    exact hw ⟨by omega, by omega⟩
  show wpAny _ _ (if (((sIx items.size 0 lo : Nat) : Int) == 0 && (1 : Int) == 1 && (sIx items.size items.size hi - sIx items.size 0 lo) == items.size) = true then _ else _) _ _ s
  rw [if_neg hno, pick_gen]
  first
    | exact wpAny_bind (m := Builtin.Tuple.tupleExact _) (wpAny_newObj_type (wpAny_pure ⟨_, rfl, wpAny_pure h⟩) htake)
    | exact wpAny_bind (m := Builtin.Tuple.tupleExact _) (wpAny_newObj_type (wpAny_bind (wpAny_pure (wpAny_pure ⟨_, rfl, wpAny_pure h⟩))) htake)
    | exact wpAny_bind (wpAny_bind (m := Builtin.Tuple.tupleExact _) (wpAny_newObj_type (wpAny_pure (wpAny_pure ⟨_, rfl, wpAny_pure h⟩)) htake))
    | exact wpAny_bind (wpAny_bind (m := Builtin.Tuple.tupleExact _) (wpAny_newObj_type (wpAny_pure ⟨_, rfl, wpAny_pure h⟩) htake))
end
end HT
namespace L2
open PySem PySem.Spec PyProof.Rows
abbrev TO := St → Hp → (Option Int → Hp → Prop) → Prop
def PO (X : Cx) (e : Option Expr) (t : TO) : Prop :=
  ∀ (pins : List (Addr × Obj)) (s : Shared) (σ : St) (H : Hp) (Q : Option Int → Hp → Prop), Inv X pins σ H s → t σ H Q →
    wpAny (model X.prog X.w) X.A (evalPart e X.env) (fun u s' => ∃ o H', Inv X pins σ H' s' ∧ IsPart u o ∧ Q o H') X.xe s
def tNoPart : TO := fun _ H Q => Q none H
def tPart (t : TE) : TO := fun σ H Q => t σ H fun x H1 => ∃ i, x = .int i ∧ Q (some i) H1
section
variable {X : Cx} {e : Expr} {te : TE} {lo hi : Option Expr} {tl th : TO} {pos p2 : Pos}
theorem po_none : PO X none tNoPart := by
  intro pins s σ H Q I h
  rw [evalPart_none]
  exact wpAny_pure ⟨none, H, I, .none, h⟩
theorem po_some (h : PE X e te) : PO X (some e) (tPart te) := by
  intro pins s σ H Q I hw
  rw [evalPart_some]
  refine thn (h pins s σ H _ I hw) fun u s1 ⟨x, H1, I1, r1, q1⟩ => ?_
  obtain ⟨i, rfl, q⟩ := q1
  obtain ⟨t, rfl⟩ := r1
  exact ⟨some i, H1, I1, .int i t, q⟩
def SlR (X : Cx) (r : V → Option Int → Option Int → Hp → VK → Prop) : Prop :=
  ∀ (pins : List (Addr × Obj)) (s : Shared) (σ : St) (H : Hp) (x : V) (v vl vu : Value) (lo hi : Option Int) (sl : Addr) (Q : VK), Inv X pins σ H s → RelV x v → s.heap.IsSliceOf sl vl vu .none → IsPart vl lo → IsPart vu hi → r x lo hi H Q →
    ∃ T id, typeLookup (.type T) "__getitem__" = pure (some (.builtin id)) ∧ s.TypeIs v T ∧ wpAny (model X.prog X.w) X.A (getItem v (.ref sl)) (EP X pins σ Q) X.xe s
theorem SlR.or {r r' : V → Option Int → Option Int → Hp → VK → Prop} (h : SlR X r) (h' : SlR X r') : SlR X (fun x lo hi H Q => r x lo hi H Q ∨ r' x lo hi H Q) := by
  intro pins s σ H x v vl vu lo hi sl Q I rx hs pl pu q
  rcases q with q | q
  · exact h pins s σ H x v vl vu lo hi sl Q I rx hs pl pu q
  · exact h' pins s σ H x v vl vu lo hi sl Q I rx hs pl pu q
def tSl (r : V → Option Int → Option Int → Hp → VK → Prop) (te : TE) (tl th : TO) : TE := fun σ H Q => te σ H fun x H1 => tl σ H1 fun l H2 => th σ H2 fun u H3 => r x l u H3 Q
theorem pe_slice {r : V → Option Int → Option Int → Hp → VK → Prop} (hr : SlR X r) (he : PE X e te) (hl : PO X lo tl) (hu : PO X hi th) : PE X (.Subscript e (.Slice lo hi none p2) pos) (tSl r te tl th) := by
  intro pins s σ H Q I h
  refine Subscript_ (thn (he pins s σ H _ I h) fun v s1 ⟨x, H1, I1, r1, q1⟩ => ?_)
  refine wpAny_Slice (thn (hl pins s1 σ H1 _ I1 q1) fun vl s2 ⟨l, H2, I2, pl, q2⟩ => thn (hu pins s2 σ H2 _ I2 q2) fun vu s3 ⟨u, H3, I3, pu, q3⟩ => ?_)
  rw [evalPart_none]
  refine wpAny_pure ?_
  have I4 : Inv X pins σ H3 { s3 with heap := s3.heap.push { cls := .type "slice", data := .fields #[vl, vu, .none] } } := I3.kept (t' := s3.toks) fun b ob q => Heap.get?_push_of_some _ q
  obtain ⟨T, id, hT, ht, hg⟩ := hr pins { s3 with heap := s3.heap.push { cls := .type "slice", data := .fields #[vl, vu, .none] } } σ H3 x v vl vu l u s3.heap.objs.size Q I4 r1 (Heap.IsSliceOf.new ..) pl pu q3
  show wpAny (model X.prog X.w) X.A (subscriptTail e (.Slice lo hi none p2) v (.ref s3.heap.objs.size)) (EP X pins σ Q) X.xe { s3 with heap := s3.heap.push { cls := .type "slice", data := .fields #[vl, vu, .none] } }
  exact tail_any (ops := [.ref s3.heap.objs.size, v]) ht hT hg (by with_unfolding_all rfl)
def cutV (xs : List V) (lo hi : Option Int) : List V := (xs.drop (HT.sIx xs.length 0 lo)).take (HT.sIx xs.length xs.length hi - HT.sIx xs.length 0 lo)
theorem cutV_length (xs : List V) (lo hi : Option Int) : (cutV xs lo hi).length ≤ xs.length := by
  unfold cutV
  rw [List.length_take, List.length_drop]
  omega
def rSlT (K : PySem.W.Frag) : V → Option Int → Option Int → Hp → VK → Prop := fun x lo hi H Q => ∃ a xs, x = .ref a ∧ SqT K H a xs ∧
  ¬ (HT.sIx xs.length 0 lo = 0 ∧ HT.sIx xs.length xs.length hi = xs.length) ∧ ∀ p, H p = none → Q (.ref p) (upd H p (.tup (cutV xs lo hi)))
theorem sl_tup : SlR X (rSlT X.K) := by
  intro pins s σ H x v vl vu lo hi sl Q I rx hs pl pu h
  obtain ⟨a, xs, rfl, hx, hw, q⟩ := h
  cases rx
  obtain ⟨its, r, ht, hz⟩ := I.tuple hx
  have hlen : its.toArray.size = xs.length := by rw [List.size_toArray]; exact r.length.symm
  refine ⟨"tuple", _, PyProof.Rows.slot_tuple_getitem.lookup, ht.typeIs, ?_⟩
  refine HT.getItem_tuple_cut ht hs pl pu (by rw [hlen]; exact hw) ?_ (by rw [hlen]; exact hz)
  rw [hlen]
  refine ⟨.ref s.heap.objs.size, _, I.laid (t' := s.toks) (o := .tup (cutV xs lo hi)) (fun b ob q => Heap.get?_push_of_some _ q) (Nat.le_refl _) ?_, rfl, q _ (I.hok.fresh (Nat.le_refl _))⟩
  exact ⟨Nat.le_trans (cutV_length xs lo hi) hz, _, (r.drop (HT.sIx xs.length 0 lo)).take (HT.sIx xs.length xs.length hi - HT.sIx xs.length 0 lo), TupN.new _ _⟩
def rCatT (K : PySem.W.Frag) : R2 := fun x y H Q => ∃ a b xs ys, x = .ref a ∧ y = .ref b ∧ SqT K H a xs ∧ SqT K H b ys ∧ xs ≠ [] ∧ xs.length + ys.length ≤ sizeLine ∧
  (ys = [] → Q (.ref a) H) ∧ (ys ≠ [] → ∀ p, H p = none → Q (.ref p) (upd H p (.tup (xs ++ ys))))
theorem Vals.nil_iff {xs : List V} {us : List Value} (r : Vals xs us) : us = [] ↔ xs = [] := by
  cases r with
  | nil => simp
  | cons _ _ => simp
theorem op_catT : OpR X (binaryOp .Add) (rCatT X.K) := by
  intro pins s σ H x y v u Q I rx ry h
  obtain ⟨a, b, xs, ys, rfl, rfl, ha, hb, hx, hz, q1, q2⟩ := h
  cases rx
  cases ry
  obtain ⟨its, r1, p1, _⟩ := I.tuple ha
  obtain ⟨its2, r2, p2, _⟩ := I.tuple hb
  refine HT.cat_tup p1 p2 (fun z => hx (r1.nil_iff.mp z)) (fun z => ⟨.ref a, H, I, rfl, q1 (r2.nil_iff.mp z)⟩) (fun z => ?_) (by rw [← r1.length, ← r2.length]; exact hz)
  refine ⟨.ref s.heap.objs.size, _, I.laid (t' := s.toks) (o := .tup (xs ++ ys)) (fun b ob q => Heap.get?_push_of_some _ q) (Nat.le_refl _) ?_, rfl, q2 (fun w => z (r2.nil_iff.mpr w)) _ (I.hok.fresh (Nat.le_refl _))⟩
  exact ⟨by rw [List.length_append]; exact hz, _, r1.append r2, TupN.new _ _⟩
end
end L2
namespace L2
open PySem PySem.Spec PyProof.Rows
def ixN (n : Nat) (i : Int) : Option Nat := if 0 ≤ i then (if i < n then some i.toNat else none) else if -(n : Int) ≤ i then some (i + n).toNat else none
def atI {α : Type} (xs : List α) (i : Int) : Option α := (ixN xs.length i).bind fun j => xs[j]?
theorem ixN_seq {n : Nat} {i : Int} {j : Nat} (h : ixN n i = some j) : seqIndex? i n = some j ∧ j < n ∧ -(n : Int) ≤ i ∧ i < n := by
  unfold ixN at h
  by_cases h0 : 0 ≤ i
  · rw [if_pos h0] at h
    by_cases h1 : i < n
    · rw [if_pos h1] at h
      have e : i.toNat = j := Option.some.inj h
      exact ⟨by rw [seqIndex_of h0 h1, e], by omega, by omega, h1⟩
    · rw [if_neg h1] at h; cases h
  · rw [if_neg h0] at h
    by_cases h1 : -(n : Int) ≤ i
    · rw [if_pos h1] at h
      have e : (i + n).toNat = j := Option.some.inj h
      exact ⟨by rw [seqIndex_neg (by omega) h1, e], by omega, h1, by omega⟩
    · rw [if_neg h1] at h; cases h
theorem atI_get {α : Type} {xs : List α} {i : Int} {v : α} (h : atI xs i = some v) : ∃ j, seqIndex? i xs.length = some j ∧ xs[j]? = some v ∧ j < xs.length ∧ -(xs.length : Int) ≤ i ∧ i < xs.length := by
  unfold atI at h
  cases e : ixN xs.length i with
  | none => rw [e] at h; cases h
  | some j =>
    rw [e] at h
    obtain ⟨h1, h2, h3, h4⟩ := ixN_seq e
    exact ⟨j, h1, h, h2, h3, h4⟩
theorem atI_nat {α : Type} {xs : List α} {j : Nat} {v : α} (h : xs[j]? = some v) : atI xs (j : Int) = some v := by
  have hj : j < xs.length := (List.getElem?_eq_some_iff.mp h).1
  have e : ixN xs.length (j : Int) = some j := by
    unfold ixN
    rw [if_pos (by omega), if_pos (by omega)]; simp
  unfold atI; rw [e]; exact h
def PlainIx (b : Expr) : Prop := ∀ o i, subscripted b false o i = operate [o, i] (getItem o i)
def IxR (X : Cx) (r : R2) : Prop :=
  ∀ (value slice : Expr) (pins : List (Addr × Obj)) (s : Shared) (σ : St) (H : Hp) (x y : V) (v u : Value) (Q : VK), Inv X pins σ H s → RelV x v → RelV y u → r x y H Q →
    subscripted slice false v u = operate [v, u] (getItem v u) → wpAny (model X.prog X.w) X.A (subscriptTail value slice v u) (EP X pins σ Q) X.xe s
def MtR (X : Cx) (id : String) (r : V → List V → Hp → VK → Prop) : Prop :=
  ∀ (pins : List (Addr × Obj)) (s : Shared) (σ : St) (H : Hp) (x : V) (xs : List V) (v : Value) (us : List Value) (Q : VK), Inv X pins σ H s → RelV x v → Vals xs us → r x xs H Q →
    wpAny (model X.prog X.w) X.A (call (.builtin id) (v :: us)) (EP X pins σ Q) X.xe s
section
variable {X : Cx} {a b : Expr} {ta tb : TE} {pos : Pos}
theorem IxR.or {r r' : R2} (h : IxR X r) (h' : IxR X r') : IxR X (fun x y H Q => r x y H Q ∨ r' x y H Q) := by
  intro value slice pins s σ H x y v u Q I rx ry q hs
  rcases q with q | q
  · exact h value slice pins s σ H x y v u Q I rx ry q hs
  · exact h' value slice pins s σ H x y v u Q I rx ry q hs
theorem MtR.or {id : String} {r r' : V → List V → Hp → VK → Prop} (h : MtR X id r) (h' : MtR X id r') : MtR X id (fun x xs H Q => r x xs H Q ∨ r' x xs H Q) := by
  intro pins s σ H x xs v us Q I rx rs q
  rcases q with q | q
  · exact h pins s σ H x xs v us Q I rx rs q
  · exact h' pins s σ H x xs v us Q I rx rs q
theorem pe_ix {r : R2} (hr : IxR X r) (ha : PE X a ta) (hb : PE X b tb) (hs : PlainIx b) : PE X (.Subscript a b pos) (tOp r ta tb) := by
  intro pins s σ H Q I h
  exact Subscript_ (binT ha hb I h fun v u s2 x y H2 I2 rx ry q => hr a b pins s2 σ H2 x y v u Q I2 rx ry q (hs _ _))
def rIxL (K : PySem.W.Frag) : R2 := fun x y H Q => ∃ p xs i v, x = .ref p ∧ y = .int i ∧ SqL K H p xs ∧ atI xs i = some v ∧ Q v H
def rIxT (K : PySem.W.Frag) : R2 := fun x y H Q => ∃ p xs i v, x = .ref p ∧ y = .int i ∧ SqT K H p xs ∧ atI xs i = some v ∧ Q v H
def rIxS : R2 := fun x y H Q => ∃ z i c, x = .str z ∧ y = .int i ∧ z.length ≤ sizeLine ∧ atI z.cps.toList i = some c ∧ Q (.str ⟨#[c]⟩) H
theorem ix_list : IxR X (rIxL X.K) := by
  intro value slice pins s σ H x y v u Q I rx ry h hs
  obtain ⟨p, xs, i, z, rfl, rfl, hq, he, q⟩ := h
  cases rx
  obtain ⟨t, rfl⟩ := ry
  obtain ⟨its, r, pl, hz⟩ := I.list hq
  obtain ⟨j, h1, h2, h3, h4, h5⟩ := atI_get he
  obtain ⟨w, ew, rw'⟩ := r.get h2
  have hl := r.length
  have hn := line63
  have fin : EP X pins σ Q w s := ⟨z, H, I, rw', q⟩
  by_cases h0 : 0 ≤ i
  · have hj : i.toNat = j := by
      rw [seqIndex_of h0 h5] at h1
      exact Option.some.inj h1
    exact item_listR pl.isList h0 (by omega) (by rw [hj]; simpa using ew) fin hs
  · have hj : (i + (its.toArray.size : Int)).toNat = j := by
      rw [seqIndex_neg (by omega) h4] at h1
      rw [List.size_toArray, ← hl]
      exact Option.some.inj h1
    exact subscriptTail_builtinR (x := w) pl.isList.typeIs slot_list_getitem.lookup
      (wpAny_getItem_list_neg (Q := fun r s' => r = w ∧ EP X pins σ Q r s') pl.isList (by omega) (by rw [List.size_toArray] <;> omega) (by omega) (by rw [hj]; simpa using ew) ⟨rfl, fin⟩) hs
theorem ix_tup : IxR X (rIxT X.K) := by
  intro value slice pins s σ H x y v u Q I rx ry h hs
  obtain ⟨p, xs, i, z, rfl, rfl, hq, he, q⟩ := h
  cases rx
  obtain ⟨t, rfl⟩ := ry
  obtain ⟨its, r, pl, hz⟩ := I.tuple hq
  obtain ⟨j, h1, h2, h3, h4, h5⟩ := atI_get he
  obtain ⟨w, ew, rw'⟩ := r.get h2
  have hl := r.length
  have hn := line63
  have fin : EP X pins σ Q w s := ⟨z, H, I, rw', q⟩
  exact subscriptTail_builtinR (x := w) pl.typeIs slot_tuple_getitem.lookup
    (getItem_tuple (j := j) (Q := fun r s' => r = w ∧ EP X pins σ Q r s') pl (by omega) (by omega) (by rw [List.size_toArray, ← hl]; exact h1) (by simpa using ew) ⟨rfl, fin⟩) hs
theorem ix_str : IxR X rIxS := by
  intro value slice pins s σ H x y v u Q I rx ry h hs
  obtain ⟨z, i, c, rfl, rfl, hz, he, q⟩ := h
  obtain ⟨t, rfl⟩ := rx
  obtain ⟨t', rfl⟩ := ry
  obtain ⟨j, h1, h2, h3, h4, h5⟩ := atI_get he
  have hl : z.cps.toList.length = z.length := by simp [Str.length]
  rw [hl] at h1 h4 h5
  have hn := line63
  exact tail_any (typeIs_str s z t) slot_str_getitem.lookup (getItem_str (c := c) (by
    have e1 : decide (i < -(2 ^ 63 : Int)) = false := decide_eq_false (by omega)
    have e2 : decide (i ≥ 2 ^ 63) = false := decide_eq_false (by omega)
    rw [e1, e2, Bool.or_false]) (by rw [h1]; simpa using h2) ⟨.str ⟨#[c]⟩, H, I.tok _, ⟨_, rfl⟩, q⟩) hs
def rIx (K : PySem.W.Frag) : R2 := fun x y H Q => rIxL K x y H Q ∨ rIxT K x y H Q ∨ rIxS x y H Q
theorem ix_seq : IxR X (rIx X.K) := ix_list.or (ix_tup.or ix_str)
theorem mapSeq_set (its : List Value) (n j : Nat) (u : Value) : Obj.mapSeq (·.setIfInBounds j u) { cls := .type "list", data := .seq its.toArray n } = { cls := .type "list", data := .seq (its.set j u).toArray n } := by
  simp [Obj.mapSeq]
theorem Inv.lst {pins : List (Addr × Obj)} {σ : St} {H : Hp} {s : Shared} {p : Addr} {xs : List V} (I : Inv X pins σ H s) (h : H p = some (.lst xs)) :
    ∃ (its : List Value) (n : Nat), Vals xs its ∧ s.heap.get? p = some { cls := .type "list", data := .seq its.toArray n } ∧ xs.length ≤ sizeLine := by
  obtain ⟨z, its, n, r, e⟩ := I.hok p _ h
  exact ⟨its, n, r, e, z⟩
theorem Inv.lstUpd {pins : List (Addr × Obj)} {σ : St} {H : Hp} {s : Shared} {p : Addr} {xs ys : List V} {its its' : List Value} {n n' : Nat} {f : Obj → Obj} (I : Inv X pins σ H s) (h : H p = some (.lst xs))
    (ho : s.heap.get? p = some { cls := .type "list", data := .seq its.toArray n }) (hf : f { cls := .type "list", data := .seq its.toArray n } = { cls := .type "list", data := .seq its'.toArray n' }) (r : Vals ys its') (hz : ys.length ≤ sizeLine) (t : Nat) :
    Inv X pins σ (upd H p (.lst ys)) { s with heap := s.heap.update p f, toks := t } := by
  have e : (s.heap.update p f).get? p = some { cls := .type "list", data := .seq its'.toArray n' } := by
    rw [Heap.get?_update_self f ho (by rw [hf] <;> rfl), hf]
  refine I.write (x := p) (e := p) (by rw [h]; trivial) (.inl rfl) (fun b u hb q => (Heap.get?_update_other _ _ (Ne.symm hb)).trans q) ⟨_, e⟩ ?_
  exact ⟨hz, its', n', r, e⟩
def rSetL : V → V → V → Hp → (Hp → Prop) → Prop := fun o i v H Q => ∃ p xs k j, o = .ref p ∧ i = .int k ∧ H p = some (.lst xs) ∧ ixN xs.length k = some j ∧ Q (upd H p (.lst (xs.set j v)))
theorem set_list : PSet X rSetL := by
  intro pins s σ H o i v ov iv u Q I ro ri rv h
  obtain ⟨p, xs, k, j, rfl, rfl, hp, hj, q⟩ := h
  cases ro
  obtain ⟨t, rfl⟩ := ri
  obtain ⟨its, n, r, ho, hz⟩ := I.lst hp
  obtain ⟨h1, h2, h3, h4⟩ := ixN_seq hj
  have hl := r.length
  have hn := line63
  have I' : Inv X pins σ (upd H p (.lst (xs.set j v))) { s with heap := s.heap.update p (Obj.mapSeq (·.setIfInBounds j u)) } :=
    I.lstUpd hp ho (mapSeq_set its n j u) (r.set rv j) (by rw [List.length_set]; exact hz) s.toks
  by_cases h0 : 0 ≤ k
  · have hk : k.toNat = j := by
      rw [seqIndex_of h0 h4] at h1
      exact Option.some.inj h1
    exact PySem.W.ki_setAt ho h0 (by omega) (by rw [List.size_toArray, ← hl]; exact h4) (by rw [hk]; exact ⟨_, I', q⟩)
  · have hk : (k + (its.toArray.size : Int)).toNat = j := by
      rw [seqIndex_neg (by omega) h3] at h1
      rw [List.size_toArray, ← hl]
      exact Option.some.inj h1
    exact PySem.W.ki_setBack ho (by omega) (by rw [List.size_toArray, ← hl]; exact h3) (by omega) (by rw [hk]; exact ⟨_, I', q⟩)
theorem slice_bounds (lo hi : Option Int) (n : Nat) : (sliceBounds lo hi none n).1 = ((HT.sIx n 0 lo : Nat) : Int) ∧ (sliceBounds lo hi none n).2.1 = ((HT.sIx n n hi : Nat) : Int) ∧ (sliceBounds lo hi none n).2.2 = 1 := by
  refine ⟨?_, ?_, rfl⟩
  · cases lo with
    | none => simp [sliceBounds, HT.sIx]
    | some i =>
      simp only [sliceBounds, HT.sIx, Option.getD_none, show (1 : Int) > 0 by decide, if_true]
      by_cases h : i < 0
      · simp only [h, if_true] <;> omega
      · simp only [h, if_false] <;> omega
  · cases hi with
    | none => simp [sliceBounds, HT.sIx]
    | some i =>
      simp only [sliceBounds, HT.sIx, Option.getD_none, show (1 : Int) > 0 by decide, if_true]
      by_cases h : i < 0
      · simp only [h, if_true] <;> omega
      · simp only [h, if_false] <;> omega
theorem slicePick_cut (its : List Value) (lo hi : Option Int) : slicePick its.toArray lo hi none = ((its.drop (HT.sIx its.length 0 lo)).take (HT.sIx its.length its.length hi - HT.sIx its.length 0 lo)).toArray := by
  obtain ⟨h1, h2, h3⟩ := slice_bounds lo hi its.toArray.size
  unfold slicePick
  rw [h1, h2, h3]
  simp only [sliceRange_one, pick_run, List.size_toArray] <;> rfl
def rSlL (K : PySem.W.Frag) : V → Option Int → Option Int → Hp → VK → Prop := fun x lo hi H Q => ∃ a xs, x = .ref a ∧ SqL K H a xs ∧ ∀ p, H p = none → Q (.ref p) (upd H p (.lst (cutV xs lo hi)))
theorem sl_list : SlR X (rSlL X.K) := by
  intro pins s σ H x v vl vu lo hi sl Q I rx hs pl pu h
  obtain ⟨a, xs, rfl, hx, q⟩ := h
  cases rx
  obtain ⟨its, r, ht, hz⟩ := I.list hx
  have hlen := r.length
  refine ⟨"list", _, slot_list_getitem.lookup, ht.isList.typeIs, ?_⟩
  refine wpAny_getItem_list_slice ht.isList hs pl pu .none (by simp) ?_ (by rw [List.size_toArray] <;> omega)
  rw [slicePick_cut, ← hlen]
  refine ⟨.ref s.heap.objs.size, _, I.laid (t' := s.toks) (o := .lst (cutV xs lo hi)) (fun b ob q => Heap.get?_push_of_some _ q) (Nat.le_refl _) ?_, rfl, q _ (I.hok.fresh (Nat.le_refl _))⟩
  exact ⟨Nat.le_trans (cutV_length xs lo hi) hz, _, 0, (r.drop (HT.sIx xs.length 0 lo)).take (HT.sIx xs.length xs.length hi - HT.sIx xs.length 0 lo), Heap.get?_push_size _ rfl⟩
def flatV : V → Bool
  | .non => true
  | .bl _ => true
  | .int _ => true
  | .str _ => true
  | _ => false
def eqV : V → V → Bool
  | .non, .non => true
  | .bl a, .bl b => a == b
  | .bl a, .int b => (if a then 1 else 0) == b
  | .int a, .bl b => a == (if b then 1 else 0)
  | .int a, .int b => a == b
  | .str a, .str b => a == b
  | _, _ => false
theorem eqAt_V {A : Around} {s : Shared} {y x : V} {u v : Value} (ry : RelV y u) (rx : RelV x v) (fy : flatV y = true) (fx : flatV x = true) : SeqAt.EqAt A s u v (eqV y x) := by
  cases y with
  | non =>
    cases ry
    cases x with
    | non => cases rx; exact SeqAt.EqAt.same _
    | bl b => cases rx; exact SeqAt.EqAt.none_bool b
    | int b => obtain ⟨t, rfl⟩ := rx; exact SeqAt.EqAt.none_int b t
    | str b => obtain ⟨t, rfl⟩ := rx; exact SeqAt.EqAt.none_str b t
    | _ => exact absurd (show false = true from fx) Bool.false_ne_true
  | bl a =>
    cases ry
    cases x with
    | non => cases rx; exact SeqAt.EqAt.bool_none a
    | bl b => cases rx; exact SeqAt.EqAt.bool_bool a b
    | int b => obtain ⟨t, rfl⟩ := rx; exact SeqAt.EqAt.bool_int a b t
    | str b => obtain ⟨t, rfl⟩ := rx; exact SeqAt.EqAt.bool_str a b t
    | _ => exact absurd (show false = true from fx) Bool.false_ne_true
  | int a =>
    obtain ⟨t', rfl⟩ := ry
    cases x with
    | non => cases rx; exact SeqAt.EqAt.int_none a t'
    | bl b => cases rx; exact SeqAt.EqAt.int_bool a t' b
    | int b => obtain ⟨t, rfl⟩ := rx; exact SeqAt.EqAt.int_int a t' b t
    | str b => obtain ⟨t, rfl⟩ := rx; exact SeqAt.EqAt.int_str a t' b t
    | _ => exact absurd (show false = true from fx) Bool.false_ne_true
  | str a =>
    obtain ⟨t', rfl⟩ := ry
    cases x with
    | non => cases rx; exact SeqAt.EqAt.str_none a t'
    | bl b => cases rx; exact SeqAt.EqAt.str_bool a t' b
    | int b => obtain ⟨t, rfl⟩ := rx; exact SeqAt.EqAt.str_int a t' b t
    | str b => obtain ⟨t, rfl⟩ := rx; exact SeqAt.EqAt.str_str a t' b t
    | _ => exact absurd (show false = true from fx) Bool.false_ne_true
  | _ => exact absurd (show false = true from fy) Bool.false_ne_true
def eqU (x : V) (u : Value) : Bool := match u with
  | .none => eqV .non x
  | .bool b => eqV (.bl b) x
  | .int i _ => eqV (.int i) x
  | .str z _ => eqV (.str z) x
  | _ => false
theorem eqU_of {x y : V} {u : Value} (r : RelV y u) (f : flatV y = true) : eqU x u = eqV y x := by
  cases y with
  | non => cases r; rfl
  | bl b => cases r; rfl
  | int i => obtain ⟨t, rfl⟩ := r; rfl
  | str z => obtain ⟨t, rfl⟩ := r; rfl
  | _ => exact absurd (show false = true from f) Bool.false_ne_true
theorem any_eqU {x : V} : ∀ {xs : List V} {us : List Value}, Vals xs us → xs.all flatV = true → us.any (eqU x) = xs.any fun y => eqV y x
  | _, _, .nil, _ => rfl
  | y :: xs, u :: us, .cons r t, f => by
    rw [List.all_cons, Bool.and_eq_true] at f
    rw [List.any_cons, List.any_cons, eqU_of r f.1, any_eqU t f.2]
theorem mem_eqAt {A : Around} {s : Shared} {x : V} {v : Value} (rx : RelV x v) (fx : flatV x = true) : ∀ {xs : List V} {us : List Value}, Vals xs us → xs.all flatV = true → ∀ u ∈ us, SeqAt.EqAt A s u v (eqU x u)
  | _, _, .nil, _ => fun u hu => by cases hu
  | y :: xs, u :: us, .cons r t, f => fun u' hu => by
    rw [List.all_cons, Bool.and_eq_true] at f
    rcases List.mem_cons.mp hu with rfl | hu
    · rw [eqU_of r f.1]; exact eqAt_V r rx f.1 fx
    · exact mem_eqAt rx fx t f.2 u' hu
def inV (x : V) (xs : List V) : Bool := xs.any fun y => eqV y x
def rIn (K : PySem.W.Frag) (neg : Bool) : R2 := fun x y H Q => ∃ p xs, y = .ref p ∧ (SqL K H p xs ∨ SqT K H p xs) ∧ flatV x = true ∧ xs.all flatV = true ∧ Q (.bl (if neg then !inV x xs else inV x xs)) H
theorem op_notIn_seq : OpR X (compareOp .NotIn) (rIn X.K true) := by
  intro pins s σ H x y v u Q I rx ry h
  obtain ⟨p, xs, rfl, hq, fx, fs, q⟩ := h
  cases ry
  rcases hq with hq | hq
  · obtain ⟨its, r, pl, hz⟩ := I.list hq
    refine SeqAt.notIn_listAt (eqU x) pl.isList (fun w hw => mem_eqAt rx fx r fs w (by simpa using hw)) ⟨.bl _, H, I, rfl, ?_⟩
    rw [show its.toArray.any (eqU x) = its.any (eqU x) by simp, any_eqU r fs]
    exact q
  · obtain ⟨its, r, pl, hz⟩ := I.tuple hq
    refine SeqAt.notIn_tupleAt (eqU x) pl (fun w hw => mem_eqAt rx fx r fs w (by simpa using hw)) ⟨.bl _, H, I, rfl, ?_⟩
    rw [show its.toArray.any (eqU x) = its.any (eqU x) by simp, any_eqU r fs]
    exact q
theorem call_len_seq : CallR X (.builtin "len") (fun xs H Q => ∃ p ys, xs = [.ref p] ∧ (SqL X.K H p ys ∨ SqT X.K H p ys) ∧ Q (.int ys.length) H) := by
  intro pins s σ H xs us Q I r h
  obtain ⟨p, ys, rfl, hq, q⟩ := h
  obtain ⟨u, rfl, rx⟩ := vals1 r
  cases rx
  have hn := line63
  rcases hq with hq | hq
  · obtain ⟨its, r', pl, hz⟩ := I.list hq
    have hlen := r'.length
    exact Calls.call_len_list pl.isList (by simp only [List.size_toArray] <;> omega) ⟨.int ys.length, H, I.tok _, ⟨s.toks + 1, by rw [List.size_toArray, hlen]⟩, q⟩
  · obtain ⟨its, r', pl, hz⟩ := I.tuple hq
    have hlen := r'.length
    exact len_tuple pl (by simp only [List.size_toArray] <;> omega) ⟨.int ys.length, H, I.tok _, ⟨s.toks + 1, by rw [List.size_toArray, hlen]⟩, q⟩
theorem call_len_str : CallR X (.builtin "len") (fun xs H Q => ∃ z, xs = [.str z] ∧ z.length ≤ sizeLine ∧ Q (.int z.length) H) := by
  intro pins s σ H xs us Q I r h
  obtain ⟨z, rfl, hz, q⟩ := h
  obtain ⟨u, rfl, t, rfl⟩ := vals1 r
  have hn := line63
  exact len_str (by omega) ⟨.int z.length, H, I.tok _, ⟨_, rfl⟩, q⟩
theorem CallR.or {f : Value} {r r' : List V → Hp → VK → Prop} (h : CallR X f r) (h' : CallR X f r') : CallR X f (fun xs H Q => r xs H Q ∨ r' xs H Q) := by
  intro pins s σ H xs us Q I rs q
  rcases q with q | q
  · exact h pins s σ H xs us Q I rs q
  · exact h' pins s σ H xs us Q I rs q
theorem call_list_of : CallR X (.type "list") (fun xs H Q => ∃ p ys, xs = [.ref p] ∧ (SqL X.K H p ys ∨ SqT X.K H p ys) ∧ ∀ l, H l = none → Q (.ref l) (upd H l (.lst ys))) := by
  intro pins s σ H xs us Q I r h
  obtain ⟨p, ys, rfl, hq, q⟩ := h
  obtain ⟨u, rfl, rx⟩ := vals1 r
  cases rx
  have fin : ∀ (its : List Value), Vals ys its → ys.length ≤ sizeLine → ∀ (h' : Heap) (c' : Nat), (∀ b o', s.heap.get? b = some o' → h'.get? b = some o') →
      h'.get? s.heap.objs.size = some { cls := .type "list", dict := none, data := .seq its.toArray c', slots := #[] } → EP X pins σ Q (.ref s.heap.objs.size) { s with heap := h' } := fun its r' hz h' c' kp e =>
    ⟨.ref s.heap.objs.size, _, I.laid (t' := s.toks) kp (Nat.le_refl _) (show ObjOk X.prog X.w _ h' _ (.lst ys) from ⟨hz, its, c', r', e⟩), rfl, q _ (I.hok.fresh (Nat.le_refl _))⟩
  rcases hq with hq | hq
  · obtain ⟨its, r', pl, hz⟩ := I.list hq
    have hlen := r'.length
    obtain ⟨o, ho, hc, n, hd⟩ := pl.isList
    exact call_list_seq p (.inl rfl) ho hc hd (fun h' c' kp e => fin its r' hz h' c' kp e) (by simp only [List.size_toArray] <;> omega)
  · obtain ⟨its, r', pl, hz⟩ := I.tuple hq
    have hlen := r'.length
    obtain ⟨o, ho, hc, n, hd⟩ := pl
    exact call_list_seq p (.inr rfl) ho hc hd (fun h' c' kp e => fin its r' hz h' c' kp e) (by simp only [List.size_toArray] <;> omega)
theorem call_tuple_of : CallR X (.type "tuple") (fun xs H Q => ∃ p ys, xs = [.ref p] ∧ ((SqL X.K H p ys ∧ ∀ l, H l = none → Q (.ref l) (upd H l (.tup ys))) ∨ (SqT X.K H p ys ∧ Q (.ref p) H))) := by
  intro pins s σ H xs us Q I r h
  obtain ⟨p, ys, rfl, h⟩ := h
  obtain ⟨u, rfl, rx⟩ := vals1 r
  cases rx
  rcases h with ⟨hq, q⟩ | ⟨hq, q⟩
  · obtain ⟨its, r', pl, hz⟩ := I.list hq
    have hlen := r'.length
    refine call_tuple_list pl.isList (fun h' kp => ?_) (by simp only [List.size_toArray] <;> omega)
    have I1 : Inv X pins σ H { s with heap := h' } := I.kept (t' := s.toks) kp
    have I2 : Inv X pins σ (upd H h'.objs.size (.tup ys)) { s with heap := h'.push { cls := .type "tuple", data := .seq its.toArray } } :=
      I1.laid (t' := s.toks) (fun b o e => Heap.get?_push_of_some _ e) (Nat.le_refl _) (show ObjOk X.prog X.w _ _ _ (.tup ys) from ⟨hz, its, r', TupN.new _ _⟩)
    exact ⟨.ref h'.objs.size, _, I2, rfl, q _ (I1.hok.fresh (Nat.le_refl _))⟩
  · obtain ⟨its, r', pl, hz⟩ := I.tuple hq
    exact call_tuple_same pl ⟨.ref p, H, I, rfl, q⟩
def tyV (K : PySem.W.Frag) (T : String) (x : V) (H : Hp) : Prop := match x with
  | .str _ => T = "str"
  | .int _ => T = "int"
  | .ref p => (T = "list" ∧ ∃ xs, SqL K H p xs) ∨ (T = "tuple" ∧ ∃ o, K.lookup p = some o ∧ o.cls = .type "tuple" ∧ o.dict = none) ∨
      (T = "dict" ∧ ((∃ kvs, H p = some (.dK kvs)) ∨ ∃ kvs, H p = some (.dT kvs))) ∨ (T = "set" ∧ ∃ S n, H p = some (.set S n))
  | _ => False
theorem tyV_is {pins : List (Addr × Obj)} {σ : St} {H : Hp} {s : Shared} {T : String} {x : V} {v : Value} (I : Inv X pins σ H s) (r : RelV x v) (ty : tyV X.K T x H) :
    s.TypeIs v T ∧ ∀ a, v = .ref a → ∃ ob, s.heap.get? a = some ob ∧ ob.dict = none := by
  cases x with
  | str z =>
    obtain ⟨t, rfl⟩ := r
    cases (show T = "str" from ty)
    exact ⟨typeIs_str s z t, fun _ e => nomatch e⟩
  | int i =>
    obtain ⟨t, rfl⟩ := r
    cases (show T = "int" from ty)
    exact ⟨typeIs_int s i t, fun _ e => nomatch e⟩
  | ref p =>
    cases r
    rcases ty with ⟨rfl, xs, hq⟩ | ⟨rfl, o, hk, hc, hd⟩ | ⟨rfl, hk⟩ | ⟨rfl, S, n, hk⟩
    · obtain ⟨its, _, pl, _⟩ := I.list hq
      refine ⟨pl.isList.typeIs, fun a e => ?_⟩
      cases e
      obtain ⟨o, n, e, c, hd, _⟩ := pl
      exact ⟨o, e, hd⟩
    · refine ⟨⟨o, I.kIn p o hk, hc⟩, fun a e => ?_⟩
      cases e
      exact ⟨o, I.kIn _ o hk, hd⟩
    · have z : ∃ o, s.heap.get? p = some o ∧ o.ExactDict := by
        rcases hk with ⟨kvs, hk⟩ | ⟨kvs, hk⟩
        · obtain ⟨_, _, _, _, o, _, _, e, ex, _⟩ := I.hok p _ hk
          exact ⟨o, e, ex⟩
        · obtain ⟨_, _, _, _, o, _, _, e, ex, _⟩ := I.hok p _ hk
          exact ⟨o, e, ex⟩
      obtain ⟨o, e, ex⟩ := z
      refine ⟨⟨o, e, ex.1⟩, fun a e2 => ?_⟩
      cases e2
      exact ⟨o, e, ex.2.1⟩
    · obtain ⟨o, _, _, _, e, ex, _⟩ := I.hok p _ hk
      refine ⟨⟨o, e, ex.1⟩, fun a e2 => ?_⟩
      cases e2
      exact ⟨o, e, ex.2.1⟩
  | _ => exact False.elim ty
def tBM (K : PySem.W.Frag) (T : String) (r : V → List V → Hp → VK → Prop) (to : TE) (t : TA) : TE := fun σ H Q => to σ H fun x H1 => tyV K T x H1 ∧ t σ H1 fun xs H2 => r x xs H2 Q
variable {o e : Expr} {es : List Expr} {to : TE} {t : TA} {name : Str} {apos cpos : Pos} {T id : String} {r : V → List V → Hp → VK → Prop}
theorem pe_bm (pa : PlainAttrs T) (slot : Slot T name id) (hty : typeOf (.builtin id) = pure (.type "method_descriptor")) (hm : MtR X id r) (ho : PE X o to) (ha : PA X (e :: es) t)
    (hbase : attributeBase o name X.env (eval o X.env) = eval o X.env := by rfl)
    (hfew : ((backTo cpos (starEach (e :: es) X.env)).all (fun x => !x.1) && (backToKw cpos (keywordEach [] X.env)).all (fun x => x.1.isSome)
      && decide ((e :: es).length + ([] : List Keyword).length + (if ([] : List Keyword).isEmpty then 0 else 1) < 30)) = true := by rfl)
    (hline : (apos.endLine == cpos.line) = true := by rfl) (hs : starEach (e :: es) X.env = (false, eval e X.env) :: starEach es X.env := by rfl) (hplain : (backTo cpos (starEach es X.env)).any (·.1) = false := by rfl) :
    PE X (.Call (.Attribute o name apos) (e :: es) [] cpos) (tBM X.K T r to t) := by
  intro pins s σ H Q I h
  refine wpAny_Call_method_late hbase hfew hline rfl (thn (ho pins s σ H _ I h) fun v s1 ⟨x, H1, I1, r1, ty, q1⟩ => ?_)
  obtain ⟨h1, h2⟩ := tyV_is I1 r1 ty
  refine ⟨T, id, pa, slot, hty, h1, h2, ?_⟩
  have hA := ha cpos pins s1 σ H1 _ I1 q1
  rw [hs] at hA ⊢
  refine Calls.callWith_builtin (by show (false || (backTo cpos (starEach es X.env)).any (·.1)) = false; rw [hplain] <;> rfl) (Calls.evalArgs_plain ?_)
  exact thn hA fun us s2 ⟨vs, H2, I2, r2, q2⟩ => hm pins s2 σ H2 x vs v us Q I2 r1 r2 q2
end
end L2
namespace L2
open PySem PySem.Spec PyProof.Rows
def MtM (X : Cx) (id : String) (r : V → List V → Hp → VK → Prop) : Prop :=
  ∀ (pins : List (Addr × Obj)) (s : Shared) (σ : St) (H : Hp) (x : V) (xs : List V) (v : Value) (us : List Value) (Q : VK), Inv X pins σ H s → RelV x v → Vals xs us → r x xs H Q →
    wpAny (model X.prog X.w) X.A (call (.builtin id) (v :: us)) (EP X pins σ Q) X.xe s
theorem Vals.one : ∀ {x : V} {us : List Value}, Vals [x] us → ∃ u, us = [u] ∧ RelV x u
  | _, _, .cons r .nil => ⟨_, rfl, r⟩
theorem Vals.two : ∀ {x y : V} {us : List Value}, Vals [x, y] us → ∃ u v, us = [u, v] ∧ RelV x u ∧ RelV y v
  | _, _, _, .cons r (.cons q .nil) => ⟨_, _, rfl, r, q⟩
theorem Vals.zero : ∀ {us : List Value}, Vals [] us → us = []
  | _, .nil => rfl
theorem Vals.eraseIdx : ∀ {xs : List V} {us : List Value} (i : Nat), Vals xs us → Vals (xs.eraseIdx i) (us.eraseIdx i)
  | _, _, _, .nil => .nil
  | _, _, 0, .cons _ t => t
  | _, _, i + 1, .cons r t => .cons r (Vals.eraseIdx i t)
theorem Vals.reverse {xs : List V} {us : List Value} (h : Vals xs us) : Vals xs.reverse us.reverse := by
  induction h with
  | nil => exact .nil
  | cons r t ih => rw [List.reverse_cons, List.reverse_cons]; exact Vals.append ih (.cons r .nil)
theorem Vals.rep {xs : List V} {us : List Value} (h : Vals xs us) : ∀ k : Nat, Vals (List.replicate k xs).flatten (List.replicate k us).flatten
  | 0 => .nil
  | k + 1 => by
    rw [List.replicate_succ, List.replicate_succ, List.flatten_cons, List.flatten_cons]
    exact Vals.append h (Vals.rep h k)
theorem len_erase {α : Type} : ∀ (l : List α) (i : Nat), (l.eraseIdx i).length ≤ l.length
  | [], _ => Nat.le_refl _
  | _ :: _, 0 => Nat.le_succ _
  | _ :: r, i + 1 => Nat.succ_le_succ (len_erase r i)
theorem foldl_rep (its : List Value) : ∀ (k : Nat) (acc : List Value),
    List.foldl (fun x1 x2 => x1 ++ x2) acc.toArray (List.replicate k its.toArray) = (acc ++ (List.replicate k its).flatten).toArray
  | 0, acc => by simp
  | k + 1, acc => by
    have e : acc.toArray ++ its.toArray = (acc ++ its).toArray := by simp
    have e2 : (acc ++ its) ++ (List.replicate k its).flatten = acc ++ (List.replicate (k + 1) its).flatten := by
      rw [List.replicate_succ, List.flatten_cons, List.append_assoc]
    rw [← e2, ← foldl_rep its k (acc ++ its), ← e, List.replicate_succ, List.foldl_cons]
section
variable {X : Cx} {pins : List (Addr × Obj)} {σ : St} {H : Hp} {s : Shared} {l b : Addr} {xs ys zs : List V}
theorem Inv.lset {its its' : List Value} {n : Nat} {f : Array Value → Array Value} {t' : Nat} (I : Inv X pins σ H s) (hH : H l = some (.lst xs))
    (e : s.heap.get? l = some { cls := .type "list", data := .seq its.toArray n }) (hf : f its.toArray = its'.toArray) (hv : Vals ys its') (hz : ys.length ≤ sizeLine) :
    Inv X pins σ (upd H l (.lst ys)) { s with heap := s.heap.update l (Obj.mapSeq f), toks := t' } := by
  have q := PySem.IsL.update e f
  rw [hf] at q
  refine I.write (x := l) (e := l) (by rw [hH]; exact trivial) (.inl rfl) (fun b' u hb hu => (Heap.get?_update_other s.heap (Obj.mapSeq f) (Ne.symm hb)).trans hu) ⟨_, q⟩ ?_
  exact ⟨hz, its', _, hv, q⟩
theorem Inv.lnew {its : List Value} {t' : Nat} (I : Inv X pins σ H s) (hv : Vals ys its) (hz : ys.length ≤ sizeLine) :
    Inv X pins σ (upd H s.heap.objs.size (.lst ys)) { s with heap := s.heap.push { cls := .type "list", data := .seq its.toArray }, toks := t' } :=
  I.laid (fun _ _ q => Heap.get?_push_of_some _ q) (Nat.le_refl _) ⟨hz, its, 0, hv, Heap.get?_push_size _ rfl⟩
theorem Inv.fresh (I : Inv X pins σ H s) : H s.heap.objs.size = none := I.hok.fresh (Nat.le_refl _)
theorem Inv.lstM (I : Inv X pins σ H s) (hH : H l = some (.lst xs)) : xs.length ≤ sizeLine ∧ ∃ (its : List Value) (n : Nat), Vals xs its ∧ xs.length = its.length ∧ s.heap.get? l = some { cls := .type "list", data := .seq its.toArray n } := by
  obtain ⟨z, its, n, r, e⟩ := I.hok l _ hH
  exact ⟨z, its, n, r, r.length, e⟩
theorem notLongL {n : Nat} (h : n ≤ sizeLine) : Builtin.List.listTooLong n = false := by
  unfold Builtin.List.listTooLong
  exact decide_eq_false (by omega)
end
section
variable {X : Cx}
def rAppend : V → List V → Hp → VK → Prop := fun x vs H Q => ∃ l xs y, x = .ref l ∧ vs = [y] ∧ H l = some (.lst xs) ∧ xs.length < sizeLine ∧ Q .non (upd H l (.lst (xs ++ [y])))
theorem mt_append : MtM X "list.append" rAppend := by
  intro pins s σ H x vs v us Q I rx rv h
  obtain ⟨l, xs, y, rfl, rfl, hH, hz, q⟩ := h
  cases rx
  obtain ⟨u, rfl, ru⟩ := rv.one
  obtain ⟨z, its, n, r, hl, e⟩ := I.lstM hH
  refine call_meets F.slot_list_append ⟨_, e, rfl⟩ F.entry_list_append (F.args_list_append_2 _ _) (PySem.list_append l its.toArray n u (by rw [List.size_toArray]; omega)) ⟨e, ?_⟩
  refine ⟨.non, _, I.lset (its' := its ++ [u]) hH e (by simp) (r.append (.cons ru .nil)) ?_, rfl, q⟩
  rw [List.length_append, List.length_singleton]
  omega
theorem len_rep {α : Type} (xs : List α) (k : Nat) : (List.replicate k xs).flatten.length = k * xs.length := by
  induction k with
  | zero => simp
  | succ k ih => rw [List.replicate_succ, List.flatten_cons, List.length_append, ih, Nat.succ_mul, Nat.add_comm]
end
section
variable {prog : Program} {w : World} {A : Around} {E : Value → Shared → Prop} {s : Shared}
set_option maxRecDepth 100000 in
end
section
variable {X : Cx}
end
end L2
namespace L2
open PySem PySem.Spec PyProof.Rows
theorem Vals.ints : ∀ {ns : List Int} {us : List Value}, Vals (ns.map V.int) us → IntsAre us ns
  | [], us, h => by
    rw [List.map_nil] at h
    cases h
    exact IntsAre.nil
  | n :: ns, us, h => by
    rw [List.map_cons] at h
    cases h with
    | cons r t =>
      obtain ⟨k, rfl⟩ := r
      exact IntsAre.cons n k (Vals.ints t)
section
variable {prog : Program} {w : World} {A : Around} {E : Value → Shared → Prop} {s : Shared} {l : Addr} {its : List Value} {ns : List Int} {Q : Value → Shared → Prop}
end
section
variable {X : Cx}
end
section
variable {X : Cx}
def rIndex (K : PySem.W.Frag) : V → List V → Hp → VK → Prop := fun x xs H Q => ∃ (a : Addr) (ys : List V) (y : V) (j : Nat) (z : V), x = V.ref a ∧ xs = [y] ∧ SqL K H a ys ∧ flatV y = true ∧ ys.all flatV = true ∧ ys[j]? = some z ∧ eqV z y = true ∧
  (∀ (m : Nat) (z' : V), m < j → ys[m]? = some z' → eqV z' y = false) ∧ Q (.int (j : Nat)) H
theorem flat_at {ys : List V} (f : ys.all flatV = true) {j : Nat} {z : V} (h : ys[j]? = some z) : flatV z = true := List.all_eq_true.mp f z (List.mem_of_getElem? h)
theorem mt_index : MtR X "list.index" (rIndex X.K) := by
  intro pins s σ H x xs v us Q I rx rxs h
  obtain ⟨a, ys, y, j, z, rfl, rfl, hs, fy, fys, hz, hzj, hno, q⟩ := h
  cases rx
  cases rxs with
  | cons ry rt =>
    rename_i uy ut
    cases rt
    obtain ⟨its, rv, ⟨⟨cls, dd, data, sl⟩, n, ho, hc, hdn, hd⟩, hlen⟩ := I.list hs
    simp only at hc hd
    subst hc hd
    obtain ⟨u, hu, ru⟩ := rv.get hz
    obtain ⟨hjl, hje⟩ := List.getElem?_eq_some_iff.mp hu
    have hvl := rv.length
    have hj : j < its.toArray.size := by simpa using hjl
    have hsl := sizeLine_eq
    refine call_meets PySem.F.slot_list_index ⟨_, ho, rfl⟩ PySem.F.entry_list_index (PySem.F.args_list_index_2 _ _)
      (SeqAt.list_indexAt a its.toArray n dd sl uy (eqU y) j hj (by omega) ?_ ?_) ⟨ho, fun u' hu' => mem_eqAt ry fy rv fys u' (by simpa using hu'), ?_⟩
    · have e1 : its.toArray[j] = u := by simpa using hje
      rw [e1, eqU_of ru (flat_at fys hz)]
      exact hzj
    · intro m hm hmj
      have hml : m < its.length := by simpa using hm
      have hmy : m < ys.length := by omega
      have hy' : ys[m]? = some ys[m] := List.getElem?_eq_getElem hmy
      obtain ⟨u2, hu2, ru2⟩ := rv.get hy'
      obtain ⟨_, hme⟩ := List.getElem?_eq_some_iff.mp hu2
      have e1 : its.toArray[m] = u2 := by simpa using hme
      rw [e1, eqU_of ru2 (flat_at fys hy')]
      exact hno m _ hmj hy'
    · exact ⟨.int (j : Nat), H, I.tok _, ⟨_, rfl⟩, q⟩
end
section
variable {X : Cx}
end
section
variable {X : Cx}
end
mutual
inductive Dp (K : PySem.W.Frag) (H : Hp) : V → PyData → Prop
  | non : Dp K H .non .none
  | bl (b : Bool) : Dp K H (.bl b) (.bool b)
  | int (i : Int) : Dp K H (.int i) (.int i)
  | str (x : Str) : Dp K H (.str x) (.str x)
  | lst {a : Addr} {xs : List V} {ds : List PyData} : SqL K H a xs → DpAll K H xs ds → Dp K H (.ref a) (.list ds)
  | tup {a : Addr} {xs : List V} {ds : List PyData} : SqT K H a xs → DpAll K H xs ds → Dp K H (.ref a) (.tuple ds)
inductive DpAll (K : PySem.W.Frag) (H : Hp) : List V → List PyData → Prop
  | nil : DpAll K H [] []
  | cons {v : V} {vs : List V} {d : PyData} {ds : List PyData} : Dp K H v d → DpAll K H vs ds → DpAll K H (v :: vs) (d :: ds)
end
section
variable {X : Cx} {pins : List (Addr × Obj)} {σ : St} {H : Hp} {s : Shared}
mutual
theorem Dp.reads (I : Inv X pins σ H s) : ∀ (d : PyData) (v : V) (u : Value), Dp X.K H v d → RelV v u → ∃ as, Reads s.heap u d as
  | .none, _, _, h, r => by
    cases h
    cases r
    exact ⟨_, Reads.none⟩
  | .bool b, _, _, h, r => by
    cases h
    cases r
    exact ⟨_, Reads.bool b⟩
  | .int i, _, _, h, r => by
    cases h
    obtain ⟨t, rfl⟩ := r
    exact ⟨_, Reads.int i t⟩
  | .str x, _, _, h, r => by
    cases h
    obtain ⟨t, rfl⟩ := r
    exact ⟨_, Reads.str x t⟩
  | .list ds, _, _, h, r => by
    cases h with
    | lst hs ha =>
      cases r
      obtain ⟨its, rv, ⟨o, n, ho, hc, _, hd⟩, _⟩ := I.list hs
      obtain ⟨as, hr⟩ := Dp.readsAll I ds _ its ha rv
      exact ⟨_, Reads.list ho hc hd hr⟩
  | .tuple ds, _, _, h, r => by
    cases h with
    | tup hs ha =>
      cases r
      obtain ⟨its, rv, ⟨o, ho, hc, n, hd⟩, _⟩ := I.tuple hs
      obtain ⟨as, hr⟩ := Dp.readsAll I ds _ its ha rv
      exact ⟨_, Reads.tuple ho hc hd hr⟩
  | .dict _, _, _, h, _ => by cases h
theorem Dp.readsAll (I : Inv X pins σ H s) : ∀ (ds : List PyData) (vs : List V) (us : List Value), DpAll X.K H vs ds → Vals vs us → ∃ as, ReadsAll s.heap us ds as
  | [], _, _, h, r => by
    cases h
    cases r
    exact ⟨_, ReadsAll.nil⟩
  | d :: ds, _, _, h, r => by
    cases h with
    | cons h1 h2 =>
      cases r with
      | cons r1 r2 =>
        obtain ⟨as, q1⟩ := Dp.reads I d _ _ h1 r1
        obtain ⟨bs, q2⟩ := Dp.readsAll I ds _ _ h2 r2
        exact ⟨_, ReadsAll.cons q1 q2⟩
end
end
section
variable {X : Cx}
def rEqD (K : PySem.W.Frag) : R2 := fun x y H Q => ∃ d e, Dp K H x d ∧ Dp K H y e ∧ SeqAt.shaped d = true ∧ SeqAt.shaped e = true ∧ Q (.bl (PyData.eqv d e)) H
def rNeD (K : PySem.W.Frag) : R2 := fun x y H Q => ∃ d e, Dp K H x d ∧ Dp K H y e ∧ SeqAt.shaped d = true ∧ SeqAt.shaped e = true ∧ Q (.bl (!PyData.eqv d e)) H
theorem op_eqD (hu : X.A.units + 64 < cLine) : OpR X (compareOp .Eq) (rEqD X.K) := by
  intro pins s σ H x y v u Q I rx ry h
  obtain ⟨d, e, hd, he, sd, se, q⟩ := h
  obtain ⟨as, r1⟩ := Dp.reads I d x v hd rx
  obtain ⟨bs, r2⟩ := Dp.reads I e y u he ry
  exact SeqAt.compareEq_shaped r1 r2 sd se hu ⟨.bl _, H, I, rfl, q⟩
theorem op_neD (hu : X.A.units + 64 < cLine) : OpR X (compareOp .NotEq) (rNeD X.K) := by
  intro pins s σ H x y v u Q I rx ry h
  obtain ⟨d, e, hd, he, sd, se, q⟩ := h
  obtain ⟨as, r1⟩ := Dp.reads I d x v hd rx
  obtain ⟨bs, r2⟩ := Dp.reads I e y u he ry
  exact SeqAt.compareNe_shaped r1 r2 sd se hu ⟨.bl _, H, I, rfl, q⟩
end
end L2
namespace L2
open PySem PySem.Spec PyProof.Rows
abbrev CellAt (h : Heap) (c : Addr) (v : Option Value) : Prop := h.IsCell c v
def relS (scope sc : Scope) : Scope :=
  { scope with names := scope.names.map fun (n, k) => if (k == .free && sc.kind == .function && sc.names.lookup n == some .cell) then (n, .cell) else (n, k) }
def cloFrom (cells : List (Str × Addr)) : List (Str × NameKind) → List (Str × Addr) → List (Str × Addr)
  | [], acc => acc
  | (n, k) :: r, acc => if k == .free then cloFrom cells r ((n, (cells.lookup n).getD 0) :: acc) else cloFrom cells r acc
theorem closure_loop (env : Env) (f : Str × NameKind → List (Str × Addr) → Sem (ForInStep (List (Str × Addr))))
    (hf : ∀ n k c, f (n, k) c = if k == .free then (do let a ← cellOf env n; pure (.yield ((n, a) :: c))) else pure (.yield c)) :
    ∀ (names : List (Str × NameKind)) (acc : List (Str × Addr)), (∀ y ∈ names, y.2 = .free → ∃ c, env.cells.lookup y.1 = some c) → forIn names acc f = pure (cloFrom env.cells names acc)
  | [], acc, _ => by rw [List.forIn_nil]; rfl
  | (n, k) :: r, acc, h => by
    rw [List.forIn_cons, hf]
    have ih := fun acc => closure_loop env f hf r acc fun y hy => h y (List.mem_cons_of_mem _ hy)
    unfold cloFrom
    by_cases hk : (k == NameKind.free) = true
    · rw [if_pos hk, if_pos hk]
      obtain ⟨c, hc⟩ := h (n, k) List.mem_cons_self (by simpa using hk)
      have e : cellOf env n = pure c := by unfold cellOf; rw [hc]
      rw [e]
      have e2 : (env.cells.lookup n).getD 0 = c := by rw [hc]; rfl
      rw [e2]
      exact ih _
    · rw [if_neg hk, if_neg hk]
      exact ih _
theorem closure_ok {scope : Scope} {env : Env} (h : ∀ y ∈ scope.names, y.2 = .free → ∃ c, env.cells.lookup y.1 = some c) : closureFor scope env = pure (cloFrom env.cells scope.names []) := by
  simp only [closureFor]
  rw [closure_loop env _ (fun n k c => rfl) scope.names [] h]
  rfl
theorem mem_lookup {α : Type} : ∀ {l : List (Str × α)} {n : Str} {c : α}, (n, c) ∈ l → ∃ c', l.lookup n = some c'
  | (k, v) :: r, n, c, h => by
    rw [List.lookup_cons]
    cases hb : n == k with
    | true => exact ⟨_, rfl⟩
    | false =>
      rcases List.mem_cons.mp h with e | h
      · cases e; simp at hb
      · exact mem_lookup h
theorem cloFrom_mem {cells : List (Str × Addr)} : ∀ {names : List (Str × NameKind)} {acc : List (Str × Addr)} {n : Str} {c : Addr}, (n, c) ∈ cloFrom cells names acc → (n, c) ∈ acc ∨ ((n, .free) ∈ names ∧ c = (cells.lookup n).getD 0)
  | [], _, _, _, h => .inl h
  | (m, k) :: r, acc, n, c, h => by
    unfold cloFrom at h
    split at h
    · rename_i hk
      have hk : k = .free := by simpa using hk
      rcases cloFrom_mem h with h | ⟨h1, h2⟩
      · rcases List.mem_cons.mp h with e | h
        · cases e; exact .inr ⟨hk ▸ List.mem_cons_self, rfl⟩
        · exact .inl h
      · exact .inr ⟨List.mem_cons_of_mem _ h1, h2⟩
    · rcases cloFrom_mem h with h | ⟨h1, h2⟩
      · exact .inl h
      · exact .inr ⟨List.mem_cons_of_mem _ h1, h2⟩
theorem cloFrom_acc {cells : List (Str × Addr)} : ∀ {names : List (Str × NameKind)} {acc : List (Str × Addr)} {p : Str × Addr}, p ∈ acc → p ∈ cloFrom cells names acc
  | [], _, _, h => h
  | (m, k) :: r, acc, p, h => by
    unfold cloFrom
    split
    · exact cloFrom_acc (List.mem_cons_of_mem _ h)
    · exact cloFrom_acc h
theorem cloFrom_has {cells : List (Str × Addr)} : ∀ {names : List (Str × NameKind)} {acc : List (Str × Addr)} {n : Str}, (n, .free) ∈ names → (n, (cells.lookup n).getD 0) ∈ cloFrom cells names acc
  | (m, k) :: r, acc, n, h => by
    unfold cloFrom
    rcases List.mem_cons.mp h with e | h
    · cases e
      exact cloFrom_acc List.mem_cons_self
    · split
      · exact cloFrom_has h
      · exact cloFrom_has h
theorem cells_mem : ∀ {names : List (Str × NameKind)} {h : Heap} {acc : List (Str × Addr)} {x : Str} {c : Addr}, (x, c) ∈ cellsFrom h.objs.size names acc →
    (x, c) ∈ acc ∨ ((x, .cell) ∈ names ∧ h.objs.size ≤ c ∧ CellAt (pushCells h names) c none)
  | [], _, _, _, _, h => .inl h
  | (n, k) :: r, h, acc, x, c, hm => by
    unfold cellsFrom at hm
    unfold pushCells
    split at hm
    · rename_i hk
      rw [if_pos hk]
      have hk : k = .cell := by simpa using hk
      rw [← Heap.size_push h { cls := .type "cell", data := .cell none }] at hm
      rcases cells_mem hm with hm | ⟨h1, h2, h3⟩
      · rcases List.mem_cons.mp hm with e | hm
        · cases e
          exact .inr ⟨hk ▸ List.mem_cons_self, Nat.le_refl _, _, pushCells_keeps r _ _ _ (Heap.get?_push_size _ rfl), rfl⟩
        · exact .inl hm
      · rw [Heap.size_push] at h2
        exact .inr ⟨List.mem_cons_of_mem _ h1, Nat.le_of_succ_le h2, h3⟩
    · rename_i hk
      rw [if_neg hk]
      rcases cells_mem hm with hm | ⟨h1, h2, h3⟩
      · exact .inl hm
      · exact .inr ⟨List.mem_cons_of_mem _ h1, h2, h3⟩
theorem cells_acc : ∀ {names : List (Str × NameKind)} {n : Nat} {acc : List (Str × Addr)} {p : Str × Addr}, p ∈ acc → p ∈ cellsFrom n names acc
  | [], _, _, _, h => h
  | (m, k) :: r, n, acc, p, h => by
    unfold cellsFrom
    split
    · exact cells_acc (List.mem_cons_of_mem _ h)
    · exact cells_acc h
theorem cells_has : ∀ {names : List (Str × NameKind)} {n : Nat} {acc : List (Str × Addr)} {x : Str}, (x, .cell) ∈ names → ∃ c, (x, c) ∈ cellsFrom n names acc
  | (m, k) :: r, n, acc, x, h => by
    unfold cellsFrom
    rcases List.mem_cons.mp h with e | h
    · cases e
      exact ⟨n, cells_acc List.mem_cons_self⟩
    · split
      · exact cells_has h
      · exact cells_has h
theorem cells_inj : ∀ {names : List (Str × NameKind)} {h : Heap} {acc : List (Str × Addr)} {x y : Str} {c : Addr}, (∀ p ∈ acc, p.2 < h.objs.size) → (∀ x y c, (x, c) ∈ acc → (y, c) ∈ acc → x = y) →
    (x, c) ∈ cellsFrom h.objs.size names acc → (y, c) ∈ cellsFrom h.objs.size names acc → x = y
  | [], _, _, _, _, _, _, hi, h1, h2 => hi _ _ _ h1 h2
  | (n, k) :: r, h, acc, x, y, c, hl, hi, h1, h2 => by
    unfold cellsFrom at h1 h2
    split at h1
    · rename_i hk
      rw [if_pos hk] at h2
      rw [← Heap.size_push h { cls := .type "cell", data := .cell none }] at h1 h2
      refine cells_inj (h := h.push _) (fun p hp => ?_) (fun x y c a b => ?_) h1 h2
      · rw [Heap.size_push]
        rcases List.mem_cons.mp hp with rfl | hp
        · exact Nat.lt_succ_self _
        · exact Nat.lt_succ_of_lt (hl p hp)
      · rcases List.mem_cons.mp a with e | a <;> rcases List.mem_cons.mp b with e' | b
        · cases e; cases e'; rfl
        · cases e; exact absurd (hl _ b) (Nat.lt_irrefl _)
        · cases e'; exact absurd (hl _ a) (Nat.lt_irrefl _)
        · exact hi _ _ _ a b
    · rename_i hk
      rw [if_neg hk] at h2
      exact cells_inj hl hi h1 h2
theorem newEnv_comp {M : Model} {A : Around} {E : Value → Shared → Prop} {s : Shared} {scope : Scope} {globals : Addr} {closure : List (Str × Addr)} {qual : Str} {func : Option Addr} {code : Value} {around : Env} {builtins : Addr} {Q : Env → Shared → Prop}
    (h : Q (newEnv scope s.heap.objs.size globals (cellsFrom (s.heap.objs.size + 1) scope.names closure) qual func code (some around) builtins)
      { s with heap := pushCells (s.heap.push { cls := .type "dict", data := .dict #[] }) scope.names }) :
    wpAny M A (newFunctionEnv scope globals closure [] qual func code (some around) builtins) Q E s := by
  simp only [newFunctionEnv, Option.isSome_some, if_true]
  refine wpAny_bind (wpAny_alloc ?_)
  refine wpAny_bind (wpAny_layCells _ (fun n k c => rfl) scope.names closure _ _ ?_)
  rw [show ({ s with heap := s.heap.push { cls := .type "dict", data := .dict #[] } } : Shared).heap.objs.size = s.heap.objs.size + 1 from Heap.size_push ..]
  rw [List.forIn_nil]
  exact wpAny_bind (wpAny_pure (wpAny_pure h))
theorem lookup_relS {sc : Scope} : ∀ {names : List (Str × NameKind)} {x : Str} {k : NameKind},
    (names.map fun (n, k) => if (k == NameKind.free && sc.kind == .function && sc.names.lookup n == some .cell) then (n, NameKind.cell) else (n, k)).lookup x = some k →
    ∃ k', names.lookup x = some k' ∧ (k = k' ∨ (k' = .free ∧ k = .cell))
  | [], _, _, h => by simp at h
  | (n, k₀) :: r, x, k, h => by
    have ih := @lookup_relS sc r x k
    have h' : List.lookup x ((if (k₀ == NameKind.free && sc.kind == .function && sc.names.lookup n == some .cell) = true then (n, NameKind.cell) else (n, k₀)) :: (r.map _)) = some k := h
    cases hx : x == n with
    | true =>
      simp only [List.lookup_cons, hx]
      by_cases hc : (k₀ == NameKind.free && sc.kind == .function && sc.names.lookup n == some .cell) = true
      · rw [if_pos hc] at h'
        simp only [List.lookup_cons, hx] at h'
        cases h'
        simp only [Bool.and_eq_true, beq_iff_eq] at hc
        exact ⟨k₀, rfl, .inr ⟨hc.1.1, rfl⟩⟩
      · rw [if_neg hc] at h'
        simp only [List.lookup_cons, hx] at h'
        cases h'
        exact ⟨_, rfl, .inl rfl⟩
    | false =>
      simp only [List.lookup_cons, hx]
      by_cases hc : (k₀ == NameKind.free && sc.kind == .function && sc.names.lookup n == some .cell) = true
      · rw [if_pos hc] at h'
        simp only [List.lookup_cons, hx] at h'
        exact ih h'
      · rw [if_neg hc] at h'
        simp only [List.lookup_cons, hx] at h'
        exact ih h'
structure BlkOk (N : List Str) (sc scope : Scope) (own : List (Str × Nat)) : Prop where
  kind : scope.kind = .function
  uniq : ∀ y ∈ scope.names, scope.names.lookup y.1 = some y.2
  ix : ∀ p ∈ own, N[p.2]? = some p.1
  free : ∀ y ∈ scope.names, y.2 = .free → sc.names.lookup y.1 = some .cell ∨ sc.names.lookup y.1 = some .free
  own : ∀ y ∈ scope.names, y.2 = .local ∨ y.2 = .cell → y.1 ∈ own.map (·.1) ∨ y.1 ∉ N
def wipe (σ : St) : List Nat → St
  | [] => σ
  | v :: vs => (wipe σ vs).set v none
theorem wipe_length (σ : St) : ∀ vs : List Nat, (wipe σ vs).length = σ.length
  | [] => rfl
  | v :: vs => by unfold wipe; rw [List.length_set, wipe_length σ vs]
theorem wipe_some {σ : St} {i : Nat} {x : V} : ∀ {vs : List Nat}, (wipe σ vs)[i]? = some (some x) → σ[i]? = some (some x) ∧ i ∉ vs
  | [], h => ⟨h, by simp⟩
  | v :: vs, h => by
    unfold wipe at h
    by_cases hi : v = i
    · subst hi
      by_cases hv : v < (wipe σ vs).length
      · rw [List.getElem?_set_self hv] at h; cases h
      · rw [List.getElem?_eq_none (by simpa using hv)] at h; cases h
    · rw [List.getElem?_set_ne hi] at h
      obtain ⟨h1, h2⟩ := wipe_some h
      exact ⟨h1, by simp only [List.mem_cons, not_or]; exact ⟨fun e => hi e.symm, h2⟩⟩
abbrev Cx.blk (X : Cx) (s : Shared) (H : Hp) (scope : Scope) (cenv : Env) (fp : List Addr) : Cx := { X with s_0 := s, H_0 := H, env := cenv, outer := X.stack, ex := fp, fn := fun x => scope.names.lookup x == some .cell, pn := [], xe := fun _ _ => False }
section
variable {X : Cx} {pins : List (Addr × Obj)} {σ : St} {H : Hp} {s : Shared}
theorem block_start {scope : Scope} {own : List (Str × Nat)} {fp : List Addr} (I : Inv X pins σ H s) (ok : BlkOk X.N X.env.scope scope own) (hN : X.N.Nodup) (hfp : ∀ b ∈ fp, FpOk X pins H b ∧ b < s.heap.objs.size) :
    Inv (X.blk s H scope (compEnvC scope (cellsFrom (s.heap.objs.size + 1) scope.names (cloFrom X.env.cells scope.names [])) s.heap.objs.size X.env) fp) [] (wipe σ (own.map (·.2))) H { s with heap := pushCells (s.heap.push { cls := .type "dict", data := .dict #[] }) scope.names } := by
  have hfree : ∀ y ∈ scope.names, y.2 = .free → ∃ c, X.env.cells.lookup y.1 = some c := fun y hy e => by
    rcases ok.free y hy e with k | k
    · exact I.ok.has _ (.inl k)
    · exact I.ok.has _ (.inr k)
  generalize hcenv : compEnvC scope (cellsFrom (s.heap.objs.size + 1) scope.names (cloFrom X.env.cells scope.names [])) s.heap.objs.size X.env = cenv
  have kp : ∀ b o, s.heap.get? b = some o → (pushCells (s.heap.push { cls := .type "dict", data := .dict #[] }) scope.names).get? b = some o := fun b o e => pushCells_keeps _ _ _ _ (Heap.get?_push_of_some _ e)
  have hL : cenv.locals = s.heap.objs.size := by rw [← hcenv]; rfl
  have hcl : cenv.cells = cellsFrom (s.heap.objs.size + 1) scope.names (cloFrom X.env.cells scope.names []) := by rw [← hcenv]; rfl
  have hsc : cenv.scope = relS scope X.env.scope := by rw [← hcenv]; rfl
  rw [← Heap.size_push s.heap { cls := .type "dict", data := .dict #[] }] at hcl
  have cm : ∀ {y c}, (y, c) ∈ cloFrom X.env.cells scope.names [] → X.env.cells.lookup y = some c ∧ c < s.heap.objs.size := fun {y c} hm => by
    rcases cloFrom_mem hm with hm | ⟨h1, rfl⟩
    · cases hm
    · obtain ⟨c, hc⟩ := hfree _ h1 rfl
      rw [hc]
      obtain ⟨w, z⟩ := I.cell _ _ hc
      exact ⟨rfl, z.lt⟩
  have mem : ∀ {y c}, cenv.cells.lookup y = some c → (X.env.cells.lookup y = some c ∧ c < s.heap.objs.size) ∨ (s.heap.objs.size + 1 ≤ c ∧ CellAt (pushCells (s.heap.push { cls := .type "dict", data := .dict #[] }) scope.names) c none) := fun {y c} e => by
    rw [hcl] at e
    rcases cells_mem (PySem.mem_of_lookup e) with hm | ⟨_, h2, h3⟩
    · exact .inl (cm hm)
    · rw [Heap.size_push] at h2; exact .inr ⟨h2, h3⟩
  have look : ∀ {y}, scope.names.lookup y = some .free → ∃ c, cenv.cells.lookup y = some c ∧ X.env.cells.lookup y = some c := fun {y} hl => by
    have hy : (y, NameKind.free) ∈ scope.names := PySem.mem_of_lookup hl
    obtain ⟨c', e'⟩ := mem_lookup (cells_acc (names := scope.names) (n := (s.heap.push { cls := .type "dict", data := .dict #[] }).objs.size) (cloFrom_has (cells := X.env.cells) (acc := []) hy))
    rw [← hcl] at e'
    refine ⟨c', e', ?_⟩
    rw [hcl] at e'
    rcases cells_mem (PySem.mem_of_lookup e') with hm | ⟨h1, _, _⟩
    · exact (cm hm).1
    · have := ok.uniq _ h1
      rw [hl] at this; cases this
  have okB : (X.blk s H scope cenv fp).Ok := by
    refine ⟨I.ok.mod, by show cenv.scope.kind = _; rw [hsc]; exact ok.kind, by show cenv.globals = _; rw [← hcenv]; exact I.ok.glob, by show cenv.builtins = _; rw [← hcenv]; exact I.ok.blt, by show s.heap.objs.size ≤ cenv.locals; rw [hL]; exact Nat.le_refl _,
      fun y z c e1 e2 => ?_, fun y hy => ?_, fun y c z e => ?_, I.ok.hd, I.ok.frames, .inl rfl, fun b hb => ⟨?_, fun y c e z => ?_⟩, I.bs, Nat.le_trans I.ok.bsz I.sz, fun b o e hb => ?_, fun b hb z => ?_, I.stack, I.stkFree⟩
    · have e1 : cenv.cells.lookup y = some c := e1
      have e2 : cenv.cells.lookup z = some c := e2
      rw [hcl] at e1 e2
      refine cells_inj (fun p hp => ?_) (fun y z c a b => I.ok.inj y z c (cm a).1 (cm b).1) (PySem.mem_of_lookup e1) (PySem.mem_of_lookup e2)
      rw [Heap.size_push]
      exact Nat.lt_succ_of_lt (cm (y := p.1) (c := p.2) hp).2
    · show ∃ c, cenv.cells.lookup y = some c
      have key : ∀ k, cenv.kindOf y = some k → (k = .cell ∨ k = .free) → ∃ c, cenv.cells.lookup y = some c := fun k hk hk' => by
        unfold Env.kindOf at hk
        rw [hsc] at hk
        obtain ⟨k', e, r⟩ := lookup_relS hk
        have : k' = .cell ∨ k' = .free := by
          rcases r with rfl | ⟨rfl, _⟩
          · exact hk'
          · exact .inr rfl
        rcases this with rfl | rfl
        · obtain ⟨c, hm⟩ := cells_has (n := (s.heap.push { cls := .type "dict", data := .dict #[] }).objs.size) (acc := cloFrom X.env.cells scope.names []) (PySem.mem_of_lookup e)
          obtain ⟨c', e'⟩ := mem_lookup hm
          exact ⟨c', by rw [hcl]; exact e'⟩
        · obtain ⟨c, h1, _⟩ := look e
          exact ⟨c, h1⟩
      rcases hy with hy | hy
      · exact key _ hy (.inl rfl)
      · exact key _ hy (.inr rfl)
    · have z : (scope.names.lookup y == some NameKind.cell) = true := z
      have z : scope.names.lookup y = some .cell := by simpa using z
      have e : cenv.cells.lookup y = some c := e
      rw [hcl] at e
      rcases cells_mem (PySem.mem_of_lookup e) with hm | ⟨_, h2, _⟩
      · rcases cloFrom_mem hm with hm | ⟨h1, _⟩
        · cases hm
        · have q := ok.uniq _ h1
          rw [z] at q; cases q
      · rw [Heap.size_push] at h2
        exact Nat.le_of_succ_le h2
    · show b ≠ cenv.locals
      rw [hL]; exact Nat.ne_of_lt (hfp b hb).2
    · have e : cenv.cells.lookup y = some c := e
      rcases mem e with ⟨h1, _⟩ | ⟨h1, _⟩
      · exact (hfp b hb).1.2.2.2.2.1 y c h1 z
      · have h2 : s.heap.objs.size + 1 ≤ b := by rw [← z]; exact h1
        exact absurd (Nat.lt_of_lt_of_le (hfp b hb).2 (Nat.le_of_succ_le h2)) (Nat.lt_irrefl _)
    · rcases (hfp b hb).1.2.2.2.1 with z | z
      · exact I.ok.noex b o e z
      · exact absurd (Nat.lt_of_lt_of_le (Heap.lt_size e) (Nat.le_trans I.ok.bsz z)) (Nat.lt_irrefl _)
    · rcases List.mem_cons.mp (I.stkSub b z) with z | z
      · exact (hfp b hb).1.2.1 z
      · exact (hfp b hb).1.2.2.1 z
  refine ⟨okB, rfl, I.bare, Un.kept kp, ⟨fun _ => none, ?_, fun i y av e1 e2 e3 => ?_⟩, fun y c e => ?_, ?_, fun y c e => ?_, fun p hp => ?_, I.hok.kept kp, by rw [wipe_length]; exact I.len⟩
  · show Heap.Ns _ cenv.locals _
    rw [hL]
    exact Heap.Ns.keeps (Heap.Ns.new ..) fun b o e => pushCells_keeps _ _ _ _ e
  · obtain ⟨e2, hne⟩ := wipe_some e2
    have hfr : scope.names.lookup y = some .free ∧ (cenv.kindOf y = some .cell ∨ cenv.kindOf y = some .free) := by
      have key : ∀ k, cenv.scope.names.lookup y = some k → k = .local ∨ k = .cell ∨ k = .free → scope.names.lookup y = some .free ∧ (cenv.kindOf y = some .cell ∨ cenv.kindOf y = some .free) := fun k hk hk' => by
        have hk0 := hk
        rw [hsc] at hk
        obtain ⟨k', e, r⟩ := lookup_relS hk
        have no : ¬ (k' = .local ∨ k' = .cell) := fun hh => by
          rcases ok.own _ (PySem.mem_of_lookup e) hh with e' | e'
          · obtain ⟨p, hp, hpy⟩ := List.mem_map.mp e'
            have e3 := ok.ix p hp
            have : p.1 = y := hpy
            rw [this] at e3
            exact hne (List.mem_map.mpr ⟨p, hp, nodup_ix hN e3 e1⟩)
          · exact e' (List.mem_of_getElem? e1)
        rcases r with rfl | ⟨rfl, rfl⟩
        · rcases hk' with rfl | rfl | rfl
          · exact absurd (.inl rfl) no
          · exact absurd (.inr rfl) no
          · exact ⟨e, .inr hk0⟩
        · exact ⟨e, .inl hk0⟩
      have e3 : Vis cenv.scope y := e3
      rcases e3 with e3 | e3 | e3
      · exact key _ e3 (.inl rfl)
      · exact key _ e3 (.inr (.inl rfl))
      · exact key _ e3 (.inr (.inr rfl))
    obtain ⟨m, hn, hl⟩ := I.loc
    have hvis : Vis X.env.scope y := (ok.free _ (PySem.mem_of_lookup hfr.1) rfl).elim (fun k => .inr (.inl k)) (fun k => .inr (.inr k))
    obtain ⟨w, r, q⟩ := hl i y av e1 e2 hvis
    refine ⟨w, r, .inr ⟨hfr.2, ?_⟩⟩
    obtain ⟨c, h1, h2⟩ := look hfr.1
    rcases q with ⟨k, _⟩ | ⟨_, c', e', z⟩
    · have k : X.env.scope.names.lookup y = some .local := k
      rcases ok.free _ (PySem.mem_of_lookup hfr.1) rfl with k' | k' <;> rw [show X.env.scope.names.lookup y = _ from k'] at k <;> cases k
    · rw [h2] at e'; cases e'
      exact ⟨c, h1, z.keeps kp⟩
  · have e : cenv.cells.lookup y = some c := e
    rcases mem e with ⟨h1, _⟩ | ⟨_, z⟩
    · obtain ⟨w, z⟩ := I.cell y c h1
      exact ⟨w, z.keeps kp⟩
    · exact ⟨_, z⟩
  · show H cenv.locals = none
    rw [hL]; exact I.hok.fresh (Nat.le_refl _)
  · have e : cenv.cells.lookup y = some c := e
    rcases mem e with ⟨h1, _⟩ | ⟨h1, _⟩
    · exact I.freeC y c h1
    · exact I.hok.fresh (Nat.le_of_succ_le h1)
  · exact absurd (show p ∈ ([] : List (Addr × Obj)) ++ [] from hp) (by simp)
theorem app_ok {E : Value → Shared → Prop} {D : Addr} {xs : List V} {y : V} {v : Value} {Q : Value → Shared → Prop} (I : Inv X pins σ H s) (hD : H D = some (.lst xs)) (hz : xs.length < sizeLine) (r : RelV y v)
    (h : ∀ s', Inv X pins σ (upd H D (.lst (xs ++ [y]))) s' → Q .none s') : wpAny (model X.prog X.w) X.A (call (.builtin "list.append") [.ref D, v]) Q E s := by
  obtain ⟨hz', its, n, ri, e⟩ := I.hok D _ hD
  have hl := ri.length
  refine append_at (hsz := by rw [List.size_toArray]; omega) e fun h' sb ho' => ?_
  refine h { s with heap := h' } (I.write (t' := s.toks) (by rw [hD]; trivial) (.inl rfl) (fun b u hb q => (sb.2 b hb).trans q) ⟨_, ho'⟩ ⟨by rw [List.length_append]; exact hz, its ++ [v], n + 1, ri.append (.cons r .nil), ?_⟩)
  rw [ho']
  simp
def PTs (X : Cx) (ifs : List Expr) (t : TT) : Prop :=
  ∀ (pins : List (Addr × Obj)) (s : Shared) (σ : St) (H : Hp) (Q : Bool → Hp → Prop), Inv X pins σ H s → t σ H Q →
    wpAny (model X.prog X.w) X.A (forIn ifs true fun c r => if r = true then do let ok ← isTrue c X.env (eval c X.env); pure (ForInStep.yield ok) else pure (ForInStep.yield r)) (TP X pins σ Q) X.xe s
def tYes : TT := fun _ H Q => Q true H
theorem pts_nil : PTs X [] tYes := fun _ _ _ H _ I h => wpAny_tests_nil ⟨H, I, h⟩
theorem pts_one {c : Expr} {t : TT} (h : PT X c t) : PTs X [c] t := fun pins s σ H Q I hw => wpAny_tests_one (h pins s σ H Q I hw)
end
theorem thnF {α : Type} {t : Sem α} {Q Q' : α → Shared → Prop} {M : Model} {A : Around} {E : Value → Shared → Prop} {s : Shared} (h : wpAny M A t Q (fun _ _ => False) s) (hQ : ∀ a s, Q a s → Q' a s) : wpAny M A t Q' E s := wpAny_mono h hQ fun _ _ z => False.elim z
theorem compLoop_any {prog : Program} {w : World} {A : Around} {R : Result → Shared → Prop} {s : Shared} {elt target iter : Expr} {ifs : List Expr} {scope : Scope} {pos : Pos} {it acc : Value} {env : Env} (I : Nat → Shared → Prop)
    (turn : ∀ n s, I n s → wpAny (model prog w) A (pyNext it) (fun r s₁ => match r with
      | none => R (.ok .next) s₁
      | some v => wpAny (model prog w) A (letOwnedTupleGo target it v) (fun _ s₁' => wpAny (model prog w) A (assign target env v) (fun _ s₂ =>
          wpAny (model prog w) A (forIn ifs true fun c r => if r = true then do let ok ← isTrue c env (eval c env); pure (ForInStep.yield ok) else pure (ForInStep.yield r)) (fun ok s₃ =>
            if ok = true then wpAny (model prog w) A (eval elt env) (fun x s₄ =>
              wpAny (model prog w) A (call (.builtin "list.append") [acc, x]) (fun _ s₅ => ∃ m, m < n ∧ I m s₅) (notedBy (model prog w) A env fun e s' => R (.error e) s') s₄) (notedBy (model prog w) A env fun e s' => R (.error e) s') s₃
            else ∃ m, m < n ∧ I m s₃) (notedBy (model prog w) A env fun e s' => R (.error e) s') s₂) (notedBy (model prog w) A env fun e s' => R (.error e) s') s₁') (notedBy (model prog w) A env fun e s' => R (.error e) s') s₁) (notedBy (model prog w) A env fun e s' => R (.error e) s') s)
    (n : Nat) (h : I n s) :
    codeAny (model prog w) A (.compLoop (.ListComp elt [⟨target, iter, ifs, 0⟩] scope pos) 0 it acc env) R s := by
  refine codeAny_loop rfl I (fun n s hI => ?_) n h
  show wpAny _ A ((compTurn (.ListComp elt [⟨target, iter, ifs, 0⟩] scope pos) 0 it acc env).onRaise (fun x => do noteFrame x env; theTreesLotGoes x)) _ _ s
  refine wpAny_noted ?_
  rw [compTurn_list]
  refine wpAny_bind (wpAny_standAt (wpAny_bind (wpAny_mono (turn n s hI) (fun r s₁ h₁ => ?_) fun _ _ h' => h')))
  cases r with
  | none => exact wpAny_pure h₁
  | some v =>
    refine wpAny_bind (wpAny_mono h₁ (fun _ s₁' h₁' => ?_) fun _ _ h' => h')
    refine wpAny_bind (wpAny_mono h₁' (fun _ s₂ h₂ => wpAny_bind (wpAny_mono h₂ (fun ok s₃ h₃ => ?_) fun _ _ h' => h')) fun _ _ h' => h')
    cases ok with
    | false => exact wpAny_pure ⟨rfl, h₃⟩
    | true =>
      exact wpAny_bind (wpAny_bind (wpAny_mono h₃ (fun x s₄ h₄ => wpAny_bind (wpAny_mono h₄ (fun _ s₅ h₅ => wpAny_pure (wpAny_pure ⟨rfl, h₅⟩)) fun _ _ h' => h')) fun _ _ h' => h'))
section
variable {X : Cx}
def tLc (wi : TI) (g : TG) (tt : TT) (te : TE) (vs : List Nat) : TE := fun σ H Q => wi σ H fun J H1 => ∀ D, H1 D = none → ∃ W : Nat → Nat → Hp → Prop, (∃ m, W 0 m (upd H1 D (.lst []))) ∧ ∀ i m H, W i m H →
  (J.stop i H ∧ Q (.ref D) H) ∨ (J.go i H ∧ ∃ Nx : Hp → Prop, (∀ H', Nx H' → ∃ m', m' < m ∧ W (i + 1) m' H') ∧ ∀ x H', J.yld i H x H' → g x (wipe σ vs) H' fun σ2 H2 => wipe σ2 vs = wipe σ vs ∧ tt σ2 H2 fun b H3 =>
    if b = true then te σ2 H3 fun y H4 => ∃ acc, H4 D = some (.lst acc) ∧ acc.length < sizeLine ∧ Nx (upd H4 D (.lst (acc ++ [y]))) else Nx H3)
theorem lc_core {pins : List (Addr × Obj)} {s : Shared} {σ : St} {H : Hp} {Q : VK} {elt tg iter : Expr} {ifs : List Expr} {scope : Scope} {own : List (Str × Nat)} {pos pos' : Pos} {wi : TI} {g : TG} {tt : TT} {te : TE} {use : Option (Value → Sem Unit)} {Qf : Value → Shared → Prop}
    (hc : X.calm = true) (hN : X.N.Nodup) (I : Inv X pins σ H s) (hi : PI X tg iter wi) (ok : BlkOk X.N X.env.scope scope own)
    (hg : ∀ (s : Shared) (H : Hp) (C : Addr) (cl : List (Str × Addr)) (fp : List Addr), PG (X.blk s H scope (compEnvC scope cl C X.env) fp) tg g) (ht : ∀ (s : Shared) (H : Hp) (C : Addr) (cl : List (Str × Addr)) (fp : List Addr), PTs (X.blk s H scope (compEnvC scope cl C X.env) fp) ifs tt)
    (he : ∀ (s : Shared) (H : Hp) (C : Addr) (cl : List (Str × Addr)) (fp : List Addr), PE (X.blk s H scope (compEnvC scope cl C X.env) fp) elt te) (hs : ∀ x, foldedSetIterable iter X.env x = pure x)
    (h : tLc wi g tt te (own.map (·.2)) σ H Q)
    (hRR : ∀ D C s' m H', Inv X pins σ H' s' → Q (.ref D) H' → s'.heap.Ns C m → FpOk X pins H' C → compPost (model X.prog X.w) X.A X.xe use Qf (.ref D) C (.ok .next) s') :
    wpAny (model X.prog X.w) X.A (comprehension (.ListComp elt [⟨tg, iter, ifs, 0⟩] scope pos) scope X.env pos' (newList []) false (eval iter X.env) use) Qf X.xe s := by
  have hfree : ∀ y ∈ scope.names, y.2 = .free → ∃ c, X.env.cells.lookup y.1 = some c := fun y hy e => by
    rcases ok.free y hy e with k | k
    · exact I.ok.has _ (.inl k)
    · exact I.ok.has _ (.inr k)
  refine wpAny_comprehension_free (use := use) rfl hs (closure_ok hfree) ok.kind (fun y hy e => by rw [ok.uniq y hy, e])
    (thn (hi pins s σ H _ I h) fun xv s1 hx => thn hx fun itv s2 h2 => ?_)
  obtain ⟨it, fp, tn, J, H2, e, I2, T, st2, f2, q⟩ := h2
  subst e
  refine wpAny_newObj_type (newEnv_comp ?_) (by show 0 ≤ sizeLine; decide)
  generalize hD : s2.heap.objs.size = D
  have hDn : H2 D = none := I2.hok.fresh (Nat.le_of_eq hD)
  obtain ⟨W, ⟨m0, w0⟩, turn⟩ := q D hDn
  -- the new list
  generalize hs3 : ({ s2 with heap := s2.heap.push { cls := .type "list", data := .seq ([] : List Value).toArray } } : Shared) = s3
  have I3 : Inv X pins σ (upd H2 D (.lst [])) s3 := by
    rw [← hs3]
    refine I2.laid (t' := s2.toks) (fun b o e => Heap.get?_push_of_some _ e) (Nat.le_of_eq hD) ⟨Nat.zero_le _, [], 0, .nil, ?_⟩
    rw [← hD]
    exact Heap.get?_push_size _ rfl
  have h3 : s3.heap = s2.heap.push { cls := .type "list", data := .seq ([] : List Value).toArray } := by rw [← hs3]
  have sz : ∀ b ∈ fp, b < s2.heap.objs.size := fun b hb => by
    obtain ⟨o, e, _⟩ := T.obj _ _ st2 b hb
    exact Heap.lt_size e
  have f3 : ∀ b ∈ fp, FpOk X pins (upd H2 D (.lst [])) b ∧ b < s3.heap.objs.size := fun b hb => by
    have hlt := sz b hb
    refine ⟨⟨?_, (f2 b hb).2⟩, by rw [h3, Heap.size_push]; exact Nat.lt_succ_of_lt hlt⟩
    rw [upd_ne (by rw [← hD]; exact Nat.ne_of_lt hlt)]
    exact (f2 b hb).1
  have st3 : tn 0 s3.heap := T.keep _ _ _ st2 fun b _ o e => by rw [h3]; exact Heap.get?_push_of_some _ e
  have I4 := block_start I3 ok hN f3
  have pg := hg s3 (upd H2 D (.lst [])) s3.heap.objs.size (cellsFrom (s3.heap.objs.size + 1) scope.names (cloFrom X.env.cells scope.names [])) fp
  have pt := ht s3 (upd H2 D (.lst [])) s3.heap.objs.size (cellsFrom (s3.heap.objs.size + 1) scope.names (cloFrom X.env.cells scope.names [])) fp
  have pe := he s3 (upd H2 D (.lst [])) s3.heap.objs.size (cellsFrom (s3.heap.objs.size + 1) scope.names (cloFrom X.env.cells scope.names [])) fp
  show codeAny _ _ (.compStart (.ListComp elt [⟨tg, iter, ifs, 0⟩] scope pos) 0 (.ref it) (.ref D) (compEnvC scope (cellsFrom (s3.heap.objs.size + 1) scope.names (cloFrom X.env.cells scope.names [])) s3.heap.objs.size X.env)) (compPost (model X.prog X.w) X.A X.xe use Qf (.ref D) s3.heap.objs.size) { s3 with heap := pushCells (s3.heap.push { cls := .type "dict", data := .dict #[] }) scope.names }
  have nfp : ∀ b ∈ fp, (upd H2 D (.lst [])) b = none := fun b hb => (f3 b hb).1.1
  generalize hce : compEnvC scope (cellsFrom (s3.heap.objs.size + 1) scope.names (cloFrom X.env.cells scope.names [])) s3.heap.objs.size X.env = ce at I4 pg pt pe ⊢
  have cL : ce.locals = s3.heap.objs.size := by subst hce; rfl
  generalize hH3 : upd H2 D (.lst []) = H3 at I3 I4 pg pt pe w0 nfp f3
  generalize hs4 : ({ s3 with heap := pushCells (s3.heap.push { cls := .type "dict", data := .dict #[] }) scope.names } : Shared) = s4 at I4 ⊢
  have st4 : tn 0 s4.heap := T.keep _ _ _ st3 fun b _ o e => by rw [← hs4]; exact pushCells_keeps _ _ _ _ (Heap.get?_push_of_some _ e)
  have stat : ∀ {σ' : St} {H' : Hp} {s' : Shared}, Inv (X.blk s3 H3 scope ce fp) [] σ' H' s' → (∀ b ∈ fp, H' b = none) → ∀ b ∈ fp, FpOk (X.blk s3 H3 scope ce fp) [] H' b := fun {σ' H' s'} I' hn b hb =>
    ⟨hn b hb, (I'.ok.exf b hb).1, I'.ok.exfs b hb, .inl hb, fun x c e => (I'.ok.exf b hb).2 x c e, fun p hp => absurd (show p ∈ ([] : List (Addr × Obj)) ++ [] from hp) (by simp)⟩
  have loop : codeAny (model X.prog X.w) X.A (.compLoop (.ListComp elt [⟨tg, iter, ifs, 0⟩] scope pos) 0 (.ref it) (.ref D) ce) (compPost (model X.prog X.w) X.A X.xe use Qf (.ref D) s3.heap.objs.size) s4 := by
    refine compLoop_any (fun n s' => ∃ i H', Inv (X.blk s3 H3 scope ce fp) [] (wipe σ (own.map (·.2))) H' s' ∧ tn i s'.heap ∧ (∀ b ∈ fp, H' b = none) ∧ W i n H') ?_ m0 ⟨0, H3, I4, st4, nfp, w0⟩
    rintro n s5 ⟨i, H5, I5, st5, n5, w5⟩
    rcases turn i n H5 w5 with ⟨stop, qq⟩ | ⟨go, Nx, hNx, step⟩
    · have td := T.done (X.blk s3 H3 scope ce fp) rfl rfl rfl hc i [] s5 _ H5 (fun _ _ => False) I5 (stat I5 n5) st5 stop
      refine thnF td fun r s6 ⟨hr, I6⟩ => ?_
      subst hr
      -- back in the def's context
      have I7 : Inv X pins σ H5 s6 := I3.call' (ch := fp) I6.os I6.base I6.hok I6.bare fun b hb => ⟨(f3 b hb).1.2.2.2.1, (f3 b hb).1.2.1, (f3 b hb).1.2.2.2.2.1, (f3 b hb).1.2.2.2.2.2⟩
      have nC : H5 s3.heap.objs.size = none := by
        have z : H5 ce.locals = none := I6.free
        rw [cL] at z
        exact z
      obtain ⟨m, hn, _⟩ := I6.loc
      have hn : s6.heap.Ns ce.locals m := hn
      rw [cL] at hn
      exact hRR D s3.heap.objs.size s6 m H5 I7 qq hn (I3.fpOk (Nat.le_refl _) nC)
    · have ti := T.item (X.blk s3 H3 scope ce fp) rfl rfl rfl hc i [] s5 _ H5 (fun _ _ => False) I5 (stat I5 n5) st5 go
      refine thnF ti fun r s6 ⟨u, hr, h6⟩ => ?_
      subst hr
      refine thnF h6 fun _ s7 ⟨x, H7, I7, r7, y7, st7, n7⟩ => ?_
      have I7' := I7.pinned (stat I7 n7) (T.obj _ _ st7)
      refine thnF (pg _ s7 _ H7 x u _ I7' r7 (step x H7 y7)) fun _ s8 ⟨σ8, H8, I8, hw8, q8⟩ => ?_
      refine thnF (pt _ s8 σ8 H8 _ I8 q8) fun b s9 ⟨H9, I9, q9⟩ => ?_
      -- the turn's end
      have fin : ∀ {s' : Shared} {H' : Hp}, Inv (X.blk s3 H3 scope ce fp) ([] ++ pinsAt fp s7.heap) σ8 H' s' → Nx H' → ∃ m, m < n ∧ ∃ i H', Inv (X.blk s3 H3 scope ce fp) [] (wipe σ (own.map (·.2))) H' s' ∧ tn i s'.heap ∧ (∀ b ∈ fp, H' b = none) ∧ W i m H' := fun {s' H'} I' nx => by
        obtain ⟨m', hm, w'⟩ := hNx H' nx
        have pin' : ∀ b ∈ fp, ∀ o, s7.heap.get? b = some o → s'.heap.get? b = some o ∧ H' b = none := fun b hb o e =>
          let z := I'.pin (b, o) (List.mem_append_right _ (List.mem_append_right _ (mem_pinsAt hb e)))
          ⟨z.1, z.2.1⟩
        have hl : (wipe σ (own.map (·.2))).length = σ8.length := by rw [← hw8, wipe_length]
        refine ⟨m', hm, i + 1, H', (I'.unpinned (pins := [])).weak hl (fun j v e => ?_), T.keep _ _ _ st7 fun b hb o e => (pin' b hb o e).1, fun b hb => ?_, w'⟩
        · rw [← hw8] at e
          exact (wipe_some e).1
        · obtain ⟨o, e, _⟩ := T.obj _ _ st7 b hb
          exact (pin' b hb o e).2
      cases b with
      | false =>
        simp only [Bool.false_eq_true, if_false] at q9 ⊢
        exact fin I9 q9
      | true =>
        simp only [if_true] at q9 ⊢
        refine thnF (pe _ s9 σ8 H9 _ I9 q9) fun z s10 ⟨yv, H10, I10, r10, acc, hD10, hz10, nx⟩ => ?_
        exact app_ok (X := X.blk s3 H3 scope ce fp) I10 hD10 hz10 r10 fun s11 I11 => fin I11 nx
  exact codeAny_compStart_list loop (T.self X.A 0 _ _ _ st4 loop)
theorem pe_lc {elt tg iter : Expr} {ifs : List Expr} {scope : Scope} {own : List (Str × Nat)} {pos : Pos} {wi : TI} {g : TG} {tt : TT} {te : TE} (hc : X.calm = true) (hN : X.N.Nodup) (hi : PI X tg iter wi) (ok : BlkOk X.N X.env.scope scope own)
    (hg : ∀ (s : Shared) (H : Hp) (C : Addr) (cl : List (Str × Addr)) (fp : List Addr), PG (X.blk s H scope (compEnvC scope cl C X.env) fp) tg g) (ht : ∀ (s : Shared) (H : Hp) (C : Addr) (cl : List (Str × Addr)) (fp : List Addr), PTs (X.blk s H scope (compEnvC scope cl C X.env) fp) ifs tt)
    (he : ∀ (s : Shared) (H : Hp) (C : Addr) (cl : List (Str × Addr)) (fp : List Addr), PE (X.blk s H scope (compEnvC scope cl C X.env) fp) elt te) (hs : ∀ x, foldedSetIterable iter X.env x = pure x := by intro _; rfl) :
    PE X (.ListComp elt [⟨tg, iter, ifs, 0⟩] scope pos) (tLc wi g tt te (own.map (·.2))) := by
  intro pins s σ H Q I h
  rw [eval_ListComp]
  refine lc_core hc hN I hi ok hg ht he hs h fun D C s' m H' I' q hn f => ⟨m, hn, fun h'' sb => ?_⟩
  obtain ⟨f0, f1, f2, f3, f4, f5⟩ := f
  exact ⟨.ref D, H', I'.turned (t' := s'.toks) (fun b o hb e => (sb.2 b hb).trans e) f0 f1 f3 f4 f5, rfl, q⟩
theorem ps_setLc {i : Nat} {y : Str} {py : Pos} {elt tg iter : Expr} {ifs : List Expr} {scope : Scope} {own : List (Str × Nat)} {pos spos : Pos} {wi : TI} {g : TG} {tt : TT} {te : TE} (hc : X.calm = true) (hN : X.N.Nodup) (hy : X.N[i]? = some y) (hyl : X.env.scope.names.lookup y = some .local)
    (hsw : swapsWith (.ListComp elt [⟨tg, iter, ifs, 0⟩] scope pos) (some (.Name y py)) spos.line X.env = pure true) (hi : PI X tg iter wi) (ok : BlkOk X.N X.env.scope scope own)
    (hg : ∀ (s : Shared) (H : Hp) (C : Addr) (cl : List (Str × Addr)) (fp : List Addr), PG (X.blk s H scope (compEnvC scope cl C X.env) fp) tg g) (ht : ∀ (s : Shared) (H : Hp) (C : Addr) (cl : List (Str × Addr)) (fp : List Addr), PTs (X.blk s H scope (compEnvC scope cl C X.env) fp) ifs tt)
    (he : ∀ (s : Shared) (H : Hp) (C : Addr) (cl : List (Str × Addr)) (fp : List Addr), PE (X.blk s H scope (compEnvC scope cl C X.env) fp) elt te) (hs : ∀ x, foldedSetIterable iter X.env x = pure x := by intro _; rfl) :
    PS X (.Assign [.Name y py] (.ListComp elt [⟨tg, iter, ifs, 0⟩] scope pos) spos) (tAsg (tLc wi g tt te (own.map (·.2))) (gName i)) := by
  intro pins s σ H D I h
  rw [exec_Assign_Name_used _ _ _ _ hsw]
  refine wpAny_bind (wpAny_standAt (wpAny_bind ?_))
  show wpAny _ X.A (do let _ ← comprehension (.ListComp elt [⟨tg, iter, ifs, 0⟩] scope pos) scope X.env (firstIterPos [⟨tg, iter, ifs, 0⟩] pos) (newList []) false (eval iter X.env) (some (assign (.Name y py) X.env))) _ _ s
  have h : tLc wi g tt te (own.map (·.2)) σ H (fun x H1 => gName i x σ H1 D.nx) := h
  refine wpAny_bind (thn (lc_core (Qf := fun _ s' => SP X pins D .next s') hc hN I hi ok hg ht he hs h fun L C s' m H' I' q hn f => ?_) fun _ s' hq => wpAny_pure (wpAny_pure hq))
  show wpAny _ _ (assign (.Name y py) X.env (.ref L)) _ _ _
  refine wpAny_assign_Name (store_ok2 (v := V.ref L) I' hN hy (.inl hyl) rfl (fun s2 I2 ⟨a, sb, ha⟩ => ?_) (.inr hyl))
  obtain ⟨f0, f1, f2, f3, f4, f5⟩ := f
  have haC : C ≠ a := by
    rcases ha with z | z
    · rw [z]; exact f1
    · exact fun e => f4 y a z e.symm
  refine ⟨m, hn.sameBut sb haC, fun h3 sb3 => ?_⟩
  exact ⟨_, H', I2.turned (t' := s2.toks) (fun b o hb e => (sb3.2 b hb).trans e) f0 f1 f3 f4 f5, q⟩
theorem sw_true {elt : Expr} {gs : List Comprehension} {scope : Scope} {pos py : Pos} {y : Str} {l : Nat} {env : Env} (hk : env.scope.kind = .function) (hy : env.scope.names.lookup y = some .local) (hl : (py.line == pos.line) = true)
    (ha : (scope.names.any fun (n, k) => n == y && (k == .local || k == .cell)) = false) : swapsWith (.ListComp elt gs scope pos) (some (.Name y py)) l env = pure true := by
  have ky : env.kindOf y = some .local := hy
  have hb : env.blockKind = .function := by unfold Env.blockKind; rw [hk]; rfl
  unfold swapsWith
  simp only [hb, ky, ha, Expr.pos, hl]
  rfl
end
def blkC (N : List Str) (sc scope : Scope) (own : List (Str × Nat)) : Bool :=
  (match scope.kind with | .function => true | _ => false) && (scope.names.all fun y => decide (scope.names.lookup y.1 = some y.2)) && (own.all fun p => decide (N[p.2]? = some p.1)) &&
    (scope.names.all fun y => match y.2 with
      | .free => (match sc.names.lookup y.1 with | some .cell => true | some .free => true | _ => false)
      | .local => decide (y.1 ∈ own.map (·.1)) || decide (y.1 ∉ N)
      | .cell => decide (y.1 ∈ own.map (·.1)) || decide (y.1 ∉ N)
      | _ => true)
theorem blkOk_by {N : List Str} {sc scope : Scope} {own : List (Str × Nat)} (h : blkC N sc scope own = true) : BlkOk N sc scope own := by
  unfold blkC at h
  simp only [Bool.and_eq_true, List.all_eq_true, decide_eq_true_eq] at h
  obtain ⟨⟨⟨h1, h2⟩, h3⟩, h4⟩ := h
  refine ⟨?_, h2, h3, fun y hy e => ?_, fun y hy e => ?_⟩
  · split at h1
    · assumption
    · cases h1
  · have q := h4 y hy
    simp only [e] at q
    split at q <;> first | exact .inl (by assumption) | exact .inr (by assumption) | cases q
  · have q := h4 y hy
    rcases e with e | e <;> (simp only [e, Bool.or_eq_true, decide_eq_true_eq] at q; exact q)
end L2
namespace L2
open PySem PySem.Spec PyProof.Rows
section
variable {prog : Program} {w : World} {A : Around} {R : Result → Shared → Prop} {s : Shared} {elt t0 i0 t1 i1 : Expr} {ifs0 ifs1 : List Expr} {scope : Scope} {pos : Pos} {it acc : Value} {env : Env}
end
section
variable {X : Cx}
end
end L2
namespace L2
open PySem PySem.Spec PyProof.Rows
section
variable {κ : Type} [DecidableEq κ]
def valV (kvs : List (κ × V)) (k : κ) : Option V := (kvs.find? fun kv => decide (kv.1 = k)).map (·.2)
def putK (kvs : List (κ × V)) (k : κ) (v : V) : List (κ × V) :=
  if (kvs.any fun kv => decide (kv.1 = k)) = true then kvs.map (fun kv => if kv.1 = k then (kv.1, v) else kv) else kvs ++ [(k, v)]
def dropK (kvs : List (κ × V)) (k : κ) : List (κ × V) := kvs.filter fun kv => decide (kv.1 ≠ k)
theorem valV_pos {p : κ × V} {r : List (κ × V)} {k : κ} (e : p.1 = k) : valV (p :: r) k = some p.2 := by simp [valV, List.find?_cons, e]
theorem valV_neg {p : κ × V} {r : List (κ × V)} {k : κ} (e : ¬ p.1 = k) : valV (p :: r) k = valV r k := by simp [valV, List.find?_cons, e]
theorem valV_any (k : κ) : ∀ kvs : List (κ × V), (kvs.any fun kv => decide (kv.1 = k)) = (valV kvs k).isSome
  | [] => rfl
  | p :: r => by
    rw [List.any_cons]
    by_cases e : p.1 = k
    · simp only [valV_pos e, decide_eq_true e, Bool.true_or, Option.isSome_some]
    · rw [valV_neg e, decide_eq_false e, Bool.false_or]; exact valV_any k r
theorem length_putK (kvs : List (κ × V)) (k : κ) (v : V) : (putK kvs k v).length ≤ kvs.length + 1 := by
  unfold putK
  split
  · rw [List.length_map]; omega
  · rw [List.length_append, List.length_cons, List.length_nil]; omega
theorem RelO.isSome_eq {o : Option V} {u : Option Value} (r : RelO o u) : o.isSome = u.isSome := by
  cases o with
  | none => cases u with
    | none => rfl
    | some _ => exact (show False from r).elim
  | some _ => cases u with
    | none => exact (show False from r).elim
    | some _ => rfl
theorem RelO.getD {o : Option V} {u : Option Value} {d : V} {d' : Value} (r : RelO o u) (rd : RelV d d') : RelV (o.getD d) (u.getD d') := by
  cases o with
  | none => cases u with
    | none => exact rd
    | some _ => exact (show False from r).elim
  | some _ => cases u with
    | none => exact (show False from r).elim
    | some _ => exact r
theorem KV.val {kvs : List (κ × V)} {vs : List (κ × Value)} (r : KV kvs vs) (k : κ) : RelO (valV kvs k) (valueAt vs k) := by
  unfold KV at r
  induction r with
  | nil => exact True.intro
  | @cons p q ps qs h t ih =>
    obtain ⟨h1, h2⟩ := h
    by_cases e : p.1 = k
    · have e' : q.1 = k := h1.symm.trans e
      have b : valueAt (q :: qs) k = some q.2 := by simp [valueAt, List.find?_cons, e']
      rw [valV_pos e, b]; exact h2
    · have e' : ¬ q.1 = k := fun z => e (h1.trans z)
      have b : valueAt (q :: qs) k = valueAt qs k := by simp [valueAt, List.find?_cons, e']
      rw [valV_neg e, b]; exact ih
theorem KV.any {kvs : List (κ × V)} {vs : List (κ × Value)} (r : KV kvs vs) (k : κ) : (kvs.any fun kv => decide (kv.1 = k)) = vs.any fun kv => decide (kv.1 = k) := by
  unfold KV at r
  induction r with
  | nil => rfl
  | cons h t ih => rw [List.any_cons, List.any_cons, ih, h.1]
theorem KV.repl {kvs : List (κ × V)} {vs : List (κ × Value)} (r : KV kvs vs) (k : κ) {y : V} {u : Value} (ry : RelV y u) :
    KV (kvs.map fun kv => if kv.1 = k then (kv.1, y) else kv) (vs.map fun kv => if kv.1 = k then (kv.1, u) else kv) := by
  unfold KV at r ⊢
  induction r with
  | nil => exact .nil
  | @cons p q ps qs h t ih =>
    rw [List.map_cons, List.map_cons]
    refine .cons ?_ ih
    obtain ⟨h1, h2⟩ := h
    by_cases e : p.1 = k
    · rw [if_pos e, if_pos (h1.symm.trans e)]; exact ⟨h1, ry⟩
    · rw [if_neg e, if_neg (fun z => e (h1.trans z))]; exact ⟨h1, h2⟩
theorem KV.put {kvs : List (κ × V)} {vs : List (κ × Value)} (r : KV kvs vs) (k : κ) {y : V} {u : Value} (ry : RelV y u) : KV (putK kvs k y) (stored vs k u) := by
  unfold putK stored
  rw [r.any k]
  by_cases e : (vs.any fun kv => decide (kv.1 = k)) = true
  · rw [if_pos e, if_pos e]; exact r.repl k ry
  · rw [if_neg e, if_neg e]; exact Paired.snoc r ⟨rfl, ry⟩
theorem KV.drop {kvs : List (κ × V)} {vs : List (κ × Value)} (r : KV kvs vs) (k : κ) : KV (dropK kvs k) (without vs k) := by
  unfold KV at r ⊢
  unfold dropK without
  induction r with
  | nil => exact .nil
  | @cons p q ps qs h t ih =>
    obtain ⟨h1, h2⟩ := h
    rw [List.filter_cons, List.filter_cons]
    by_cases e : p.1 = k
    · have a : ¬ decide (p.1 ≠ k) = true := by simp [e]
      have b : ¬ decide (q.1 ≠ k) = true := by simp [h1.symm.trans e]
      rw [if_neg a, if_neg b]; exact ih
    · have e' : ¬ q.1 = k := fun z => e (h1.trans z)
      have a : decide (p.1 ≠ k) = true := by simp [e]
      have b : decide (q.1 ≠ k) = true := by simp [e']
      rw [if_pos a, if_pos b]; exact .cons ⟨h1, h2⟩ ih
theorem KV.keys {kvs : List (κ × V)} {vs : List (κ × Value)} (r : KV kvs vs) : kvs.map (·.1) = vs.map (·.1) := by
  unfold KV at r
  induction r with
  | nil => rfl
  | cons h t ih => rw [List.map_cons, List.map_cons, ih, h.1]
theorem KV.length {kvs : List (κ × V)} {vs : List (κ × Value)} (r : KV kvs vs) : kvs.length = vs.length := Paired.length r
end
theorem kV_is {P : Program} {w : World} {k : Key} {u : Value} (r : RelV (kV k) u) : (mixKind P w).is k u = true := by
  cases k with
  | inl i => obtain ⟨t, e⟩ := (show ∃ t, u = Value.int i t from r); subst e; exact mixKind_int P w i t
  | inr x => obtain ⟨t, e⟩ := (show ∃ t, u = Value.str x t from r); subst e; exact mixKind_str P w x t
theorem items_are {P : Program} {w : World} : ∀ {ks : List Key} {us : List Value}, Vals (ks.map kV) us → ItemsAre (mixKind P w) ks us
  | [], _, r => by rw [List.map_nil] at r; cases r; exact .nil
  | k :: ks, _, r => by
    rw [List.map_cons] at r
    cases r with
    | cons h t => exact .cons (kV_is h) (items_are t)
abbrev KT (H : Hp) : List (List Key × V) → List (List Key × Addr × Value) → Prop := Paired fun p q => p.1 = q.1 ∧ H q.2.1 = some (.tup (p.1.map kV)) ∧ RelV p.2 q.2.2
theorem KT.val {H : Hp} {kvs : List (List Key × V)} {xs : List (List Key × Addr × Value)} (r : KT H kvs xs) (k : List Key) : RelO (valV kvs k) ((atKey xs k).map (·.2)) := by
  induction r with
  | nil => exact True.intro
  | @cons p q ps qs h t ih =>
    obtain ⟨h1, _, h2⟩ := h
    by_cases e : p.1 = k
    · have e' : q.1 = k := h1.symm.trans e
      have b : atKey (q :: qs) k = some q.2 := by simp [atKey, List.find?_cons, e']
      rw [valV_pos e, b]; exact h2
    · have e' : ¬ q.1 = k := fun z => e (h1.trans z)
      have b : atKey (q :: qs) k = atKey qs k := by simp [atKey, List.find?_cons, e']
      rw [valV_neg e, b]; exact ih
theorem KT.repl {H : Hp} {kvs : List (List Key × V)} {xs : List (List Key × Addr × Value)} (r : KT H kvs xs) (k : List Key) {y : V} {u : Value} (ry : RelV y u) :
    KT H (kvs.map fun kv => if kv.1 = k then (kv.1, y) else kv) (xs.map (putAt k u)) := by
  induction r with
  | nil => exact .nil
  | @cons p q ps qs h t ih =>
    rw [List.map_cons, List.map_cons]
    refine .cons ?_ ih
    obtain ⟨h1, h2, h3⟩ := h
    unfold putAt
    by_cases e : p.1 = k
    · rw [if_pos e, if_pos (h1.symm.trans e)]; exact ⟨h1, h2, ry⟩
    · rw [if_neg e, if_neg (fun z => e (h1.trans z))]; exact ⟨h1, h2, h3⟩
theorem KT.put {H : Hp} {kvs : List (List Key × V)} {xs : List (List Key × Addr × Value)} (r : KT H kvs xs) (k : List Key) {b : Addr} {y : V} {u : Value} (hb : H b = some (.tup (k.map kV))) (ry : RelV y u) :
    KT H (putK kvs k y) (storedH xs k b u) := by
  have e : (kvs.any fun kv => decide (kv.1 = k)) = (atKey xs k).isSome := by
    rw [valV_any, (r.val k).isSome_eq, Option.isSome_map]
  unfold putK storedH
  rw [e]
  by_cases q : (atKey xs k).isSome = true
  · rw [if_pos q, if_pos q]; exact r.repl k ry
  · rw [if_neg q, if_neg q]; exact Paired.snoc r ⟨rfl, hb, ry⟩
theorem KT.keeps {H H' : Hp} {kvs : List (List Key × V)} {xs : List (List Key × Addr × Value)} (r : KT H kvs xs) (ht : ∀ b ys, H b = some (.tup ys) → H' b = some (.tup ys)) : KT H' kvs xs :=
  Paired.mapP r fun _ _ z => ⟨z.1, ht _ _ z.2.1, z.2.2⟩
section
variable {P : Program} {w : World} {H : Hp} {h : Heap} {a : Addr}
theorem rd_of {u : HO} (ok : HOk P w H h) (e : Rd H a u) : ObjOk P w H h a u := e.ok ok
theorem dk_rd {kvs : List (Key × V)} (ok : HOk P w H h) (e : Rd H a (.dK kvs)) : kvs.length ≤ sizeLine ∧ (a == sysModules) = false ∧ ∃ vs, KV kvs vs ∧ h.DictOf (mixKind P w) a vs :=
  show ObjOk P w H h a (.dK kvs) from rd_of ok e
theorem dk_of {kvs : List (Key × V)} (ok : HOk P w H h) (e : H a = some (.dK kvs)) : kvs.length ≤ sizeLine ∧ (a == sysModules) = false ∧ ∃ vs, KV kvs vs ∧ h.DictOf (mixKind P w) a vs := dk_rd ok (.inl e)
theorem key_of {ks : List Key} (ok : HOk P w H h) (e : H a = some (.tup (ks.map kV))) : (tupleKind (mixKind P w)).is h ks a := by
  obtain ⟨_, its, r, o, h1, h2, n, h3, _⟩ := (show ObjOk P w H h a (.tup (ks.map kV)) from ok a _ e)
  exact ⟨o, its.toArray, n, h1, h2, h3, by simpa using items_are r⟩
theorem dt_rd {kvs : List (List Key × V)} (ok : HOk P w H h) (e : Rd H a (.dT kvs)) : kvs.length ≤ sizeLine ∧ (a == sysModules) = false ∧
    ∃ xs, KT H kvs xs ∧ h.DictOfH (tupleKind (mixKind P w)) a xs := by
  obtain ⟨z, y, xs, r, o, es, ep, h1, h2, h3, h4, h5⟩ := (show ObjOk P w H h a (.dT kvs) from rd_of ok e)
  refine ⟨z, y, xs, r, o, es, ep, h1, h2, h3, h4, fun x hx => ?_, h5⟩
  have all : ∀ {l : List (List Key × V)} {m : List (List Key × Addr × Value)}, KT H l m → ∀ x ∈ m, (tupleKind (mixKind P w)).is h x.1 x.2.1 := by
    intro l m q
    induction q with
    | nil => intro x hx; exact nomatch hx
    | @cons p q ps qs hq t ih =>
      intro x hx
      rcases List.mem_cons.mp hx with e | hx
      · subst e
        exact key_of ok (by rw [← hq.1]; exact hq.2.1)
      · exact ih x hx
  exact all r x hx
theorem dt_of {kvs : List (List Key × V)} (ok : HOk P w H h) (e : H a = some (.dT kvs)) : kvs.length ≤ sizeLine ∧ (a == sysModules) = false ∧
    ∃ xs, KT H kvs xs ∧ h.DictOfH (tupleKind (mixKind P w)) a xs := dt_rd ok (.inl e)
end
def DGet (H : Hp) (a : Addr) (y : V) (r : Option V) : Prop :=
  (∃ kvs k, Rd H a (.dK kvs) ∧ y = kV k ∧ r = valV kvs k) ∨ ∃ kvs k b, Rd H a (.dT kvs) ∧ y = .ref b ∧ H b = some (.tup (k.map kV)) ∧ r = valV kvs k
def DPut (H : Hp) (a : Addr) (y v : V) (H' : Hp) : Prop :=
  (∃ kvs k, H a = some (.dK kvs) ∧ y = kV k ∧ kvs.length < sizeLine ∧ H' = upd H a (.dK (putK kvs k v))) ∨
  ∃ kvs k b, H a = some (.dT kvs) ∧ y = .ref b ∧ H b = some (.tup (k.map kV)) ∧ kvs.length < sizeLine ∧ H' = upd H a (.dT (putK kvs k v))
theorem DGet.k {H : Hp} {a : Addr} {kvs : List (Key × V)} {k : Key} (e : H a = some (.dK kvs)) : DGet H a (kV k) (valV kvs k) := .inl ⟨kvs, k, .inl e, rfl, rfl⟩
theorem DGet.t {H : Hp} {a b : Addr} {kvs : List (List Key × V)} {k : List Key} (e : H a = some (.dT kvs)) (eb : H b = some (.tup (k.map kV))) : DGet H a (.ref b) (valV kvs k) := .inr ⟨kvs, k, b, .inl e, rfl, eb, rfl⟩
theorem DPut.k {H : Hp} {a : Addr} {kvs : List (Key × V)} {k : Key} {v : V} (e : H a = some (.dK kvs)) (hl : kvs.length < sizeLine) : DPut H a (kV k) v (upd H a (.dK (putK kvs k v))) := .inl ⟨kvs, k, e, rfl, hl, rfl⟩
theorem DPut.t {H : Hp} {a b : Addr} {kvs : List (List Key × V)} {k : List Key} {v : V} (e : H a = some (.dT kvs)) (eb : H b = some (.tup (k.map kV))) (hl : kvs.length < sizeLine) :
    DPut H a (.ref b) v (upd H a (.dT (putK kvs k v))) := .inr ⟨kvs, k, b, e, rfl, eb, hl, rfl⟩
section
variable {X : Cx} {pins : List (Addr × Obj)} {σ : St} {H : Hp} {s : Shared} {a : Addr} {y v : V} {u r : Value} {o : Option V} {A : Around} {E : Value → Shared → Prop}
theorem Inv.big (I : Inv X pins σ H s) : sysModules < s.heap.objs.size := by
  have h : mainGlobals < s.heap.objs.size := (I.mod.glob.keeps I.bk).lt
  exact Nat.lt_trans (by decide) h
theorem d_getItem {Q : Value → Shared → Prop} (hu : A.units + 1 < cLine) (I : Inv X pins σ H s) (g : DGet H a y (some v)) (ry : RelV y u) (h : ∀ w' s', Inv X pins σ H s' → RelV v w' → Q w' s') :
    wpAny (model X.prog X.w) A (getItem (.ref a) u) Q E s := by
  rcases g with ⟨kvs, k, e, ey, l⟩ | ⟨kvs, k, b, e, ey, eb, l⟩
  · subst ey
    obtain ⟨z, hd, vs, rel, dd⟩ := dk_rd I.hok e
    obtain ⟨w', hw, rw'⟩ := RelO.some_of (v := v) (o := valueAt vs k) (by rw [l]; exact rel.val k)
    exact wpAny_getItem_of (kV_is ry) dd.mapOf hw (h w' _ (I.tok _) rw')
  · subst ey
    cases (show u = Value.ref b from ry)
    obtain ⟨z, hd, xs, rel, dd⟩ := dt_rd I.hok e
    obtain ⟨w', hw, rw'⟩ := RelO.some_of (v := v) (o := (atKey xs k).map (·.2)) (by rw [l]; exact rel.val k)
    obtain ⟨p, hp, hp2⟩ := Option.map_eq_some_iff.mp hw
    refine wpAny_getItem_heap (tupleKind_room_in1 hu) (key_of I.hok eb) dd hp ?_
    rw [hp2]
    exact h w' _ (I.tok _) rw'
theorem d_write {h' : Heap} {t' : Nat} {ob : HO} (I : Inv X pins σ H s) (mu : Mut (H a)) (hs : Heap.SameBut a s.heap h') (he : ∃ q, h'.get? a = some q) (new : ObjOk X.prog X.w (upd H a ob) h' a ob) :
    Inv X pins σ (upd H a ob) { s with heap := h', toks := t' } :=
  I.write (x := a) (e := a) mu (.inl rfl) (fun b q hb z => (hs.2 b hb).trans z) he new
theorem dk_new {P : Program} {w : World} {H' : Hp} {h' : Heap} {kvs : List (Key × V)} {vs : List (Key × Value)} (z : kvs.length ≤ sizeLine) (hd : (a == sysModules) = false) (rel : KV kvs vs) (dd : h'.DictOf (mixKind P w) a vs) :
    ObjOk P w H' h' a (.dK kvs) := ⟨z, hd, vs, rel, dd⟩
theorem d_setItem {H' : Hp} {Q : Unit → Shared → Prop} (hu : A.units + 1 < cLine) (I : Inv X pins σ H s) (g : DPut H a y v H') (ry : RelV y u) (rv : RelV v r) (h : ∀ s', Inv X pins σ H' s' → Q () s') :
    wpAny (model X.prog X.w) A (setItem (.ref a) u r) Q E s := by
  rcases g with ⟨kvs, k, e, ey, l, eH⟩ | ⟨kvs, k, b, e, ey, eb, l, eH⟩
  · subst ey eH
    obtain ⟨z, hd, vs, rel, dd⟩ := dk_of I.hok e
    have hz : vs.length ≤ sizeLine := by rw [← rel.length]; exact z
    have hl : (putK kvs k v).length ≤ sizeLine := by have := length_putK kvs k v; omega
    refine wpAny_setItem_pairs (hsz := hz) (kV_is ry) dd fun h' dd' hs => h _ ?_
    have he : ∃ q, h'.get? a = some q := let ⟨q, _, _, hq, _⟩ := dd'; ⟨q, hq⟩
    exact d_write I (by rw [e]; exact True.intro) hs he (dk_new hl hd (rel.put k rv) dd')
  · subst ey eH
    cases (show u = Value.ref b from ry)
    obtain ⟨z, hd, xs, rel, dd⟩ := dt_of I.hok e
    have hz : xs.length ≤ sizeLine := by rw [← Paired.length rel]; exact z
    have hl : (putK kvs k v).length ≤ sizeLine := by have := length_putK kvs k v; omega
    refine wpAny_setItem_heap (hsz := hz) (tupleKind_room_in1 hu) (key_of I.hok eb) dd fun h' dd' hs => h _ ?_
    obtain ⟨q, es, ep, hq, h2, h3, h4, _, h5⟩ := dd'
    refine d_write I (by rw [e]; exact True.intro) hs ⟨q, hq⟩ ⟨hl, hd, _, (rel.put k eb rv).keeps fun c ys ec => ?_, q, es, ep, hq, h2, h3, h4, h5⟩
    rw [upd_ne (ne_of ec e (fun z => nomatch z))]
    exact ec
end
section
variable {X : Cx} {pins : List (Addr × Obj)} {σ : St} {H : Hp} {s : Shared} {a : Addr} {kvs : List (Key × V)} {k : Key} {u : Value} {A : Around} {E : Value → Shared → Prop}
end
def NoSl (i : Expr) : Prop := ∀ ov iv, subscripted i false ov iv = operate [ov, iv] (getItem ov iv)
theorem subD_of {prog : Program} {w : World} {A : Around} {E : Value → Shared → Prop} {s : Shared} {env : Env} {value slice : Expr} {pos : Pos} {T id : String} {Q : Value → Shared → Prop}
    (hl : typeLookup (.type T) "__getitem__" = pure (some (.builtin id))) (hs : NoSl slice)
    (h : wpAny (model prog w) A (eval value env) (fun o s₁ => wpAny (model prog w) A (eval slice env) (fun i s₂ => s₂.TypeIs o T ∧ wpAny (model prog w) A (getItem o i) Q E s₂) E s₁) E s) :
    wpAny (model prog w) A (eval (.Subscript value slice pos) env) Q E s := by
  refine Subscript_ (wpAny_mono h (fun o s₁ h₁ => wpAny_mono h₁ (fun i s₂ h₂ => ?_) fun _ _ x => x) fun _ _ x => x)
  obtain ⟨hT, h₂⟩ := h₂
  unfold subscriptTail
  refine wpAny_bind ?_
  rw [getitemInPython_of_ne hT.not_modules]
  refine wpAny_bind (wpAny_specialOf hT hl ?_)
  have fin : wpAny (model prog w) A (subscripted slice false o i) (fun r s₃ => wpAny (model prog w) A (letTemporaryGo value o r >>= fun _ => pure r) Q E s₃) E s₂ := by
    rw [hs o i]
    exact wpAny_operating (wpAny_mono h₂ (fun r s₃ h₃ => wpAny_bind (wpAny_letTemporaryGo (wpAny_pure h₃))) fun _ _ x => x)
  first
    | exact wpAny_pure (wpAny_bind fin)
    | exact wpAny_bind (wpAny_pure (wpAny_bind fin))
    | exact wpAny_bind fin
theorem dict_typeIs {X : Cx} {pins : List (Addr × Obj)} {σ : St} {H : Hp} {s : Shared} {a : Addr} {y : V} {o : Option V} (I : Inv X pins σ H s) (g : DGet H a y o) : s.TypeIs (.ref a) "dict" := by
  rcases g with ⟨kvs, k, e, _, _⟩ | ⟨kvs, k, b, e, _, _, _⟩
  · obtain ⟨_, _, vs, _, dd⟩ := dk_rd I.hok e
    exact dd.typeIs
  · obtain ⟨_, _, xs, _, dd⟩ := dt_rd I.hok e
    exact dd.typeIs
def tDGet (td ty : TE) : TE := fun σ H Q => td σ H fun x H1 => ty σ H1 fun y H2 => ∃ a v, x = .ref a ∧ DGet H2 a y (some v) ∧ Q v H2
def sDPut (td ty tv : TE) : TS := fun D σ H => tv σ H fun v H1 => td σ H1 fun x H2 => ty σ H2 fun y H3 => ∃ a H4, x = .ref a ∧ DPut H3 a y v H4 ∧ D.nx σ H4
section
variable {X : Cx} {o i e value : Expr} {pos pos' tpos : Pos} {td ty tv : TE}
theorem pe_dget (hu : X.A.units + 1 < cLine) (ho : PE X o td) (hi : PE X i ty) (hs : NoSl i) : PE X (.Subscript o i pos) (tDGet td ty) := by
  intro pins s σ H Q I h
  refine subD_of PySem.F.slot_dict_getitem.lookup hs (thn (ho pins s σ H _ I h) fun u s1 ⟨x, H1, I1, rx, q1⟩ => thn (hi pins s1 σ H1 _ I1 q1) fun iv s2 ⟨y, H2, I2, ry, a, v, ex, g, q2⟩ => ?_)
  subst ex
  obtain rfl : u = Value.ref a := rx
  exact ⟨dict_typeIs I2 g, d_getItem hu I2 g ry fun w' s3 I3 rw' => ⟨v, H2, I3, rw', q2⟩⟩
theorem ps_dput (hu : X.A.units + 1 < cLine) (ho : PE X o td) (hi : PE X i ty) (hv : PE X value tv) (hs : swapsWith value (some (.Subscript o i pos')) pos.line X.env = pure false) :
    PS X (.Assign [.Subscript o i pos'] value pos) (sDPut td ty tv) := by
  intro pins s σ H D I h
  refine wpAny_Assign_Subscript (thn (hv pins s σ H _ I h) fun r s1 ⟨v, H1, I1, rv, q1⟩ => thn (ho pins s1 σ H1 _ I1 q1) fun u s2 ⟨x, H2, I2, rx, q2⟩ => thn (hi pins s2 σ H2 _ I2 q2) fun iv s3 ⟨y, H3, I3, ry, a, H4, ex, g, q3⟩ => ?_) hs
  subst ex
  obtain rfl : u = Value.ref a := rx
  exact d_setItem hu I3 g ry rv fun s4 I4 => ⟨σ, H4, I4, q3⟩
end
theorem dt_empty {P : Program} {w : World} {H : Hp} (h : Heap) (hb : sysModules < h.objs.size) : ObjOk P w H (h.push { cls := .type "dict", data := .dict #[] }) h.objs.size (.dT []) :=
  ⟨Nat.zero_le _, beq_eq_false_iff_ne.mpr (Ne.symm (Nat.ne_of_lt hb)), [], .nil, _, #[], 0, Heap.get?_push_size _ rfl, ⟨rfl, rfl, rfl⟩, rfl, rfl, List.nodup_nil⟩
section
variable {X : Cx} {pos : Pos}
end
structure M1 (X : Cx) (o : Expr) (m : Str) (apos : Pos) (e : Expr) (cpos : Pos) : Prop where
  base : attributeBase o m X.env (eval o X.env) = eval o X.env
  few : ((backTo cpos (starEach [e] X.env)).all (fun x => !x.1) && (backToKw cpos (keywordEach [] X.env)).all (fun x => x.1.isSome)
    && decide (([e] : List Expr).length + ([] : List Keyword).length + (if ([] : List Keyword).isEmpty then 0 else 1) < 30)) = true
  line : (apos.endLine == cpos.line) = true
  trees : backTo cpos (starEach [e] X.env) = [(false, eval e X.env)]
structure M2 (X : Cx) (o : Expr) (m : Str) (apos : Pos) (e f : Expr) (cpos : Pos) : Prop where
  base : attributeBase o m X.env (eval o X.env) = eval o X.env
  few : ((backTo cpos (starEach [e, f] X.env)).all (fun x => !x.1) && (backToKw cpos (keywordEach [] X.env)).all (fun x => x.1.isSome)
    && decide (([e, f] : List Expr).length + ([] : List Keyword).length + (if ([] : List Keyword).isEmpty then 0 else 1) < 30)) = true
  line : (apos.endLine == cpos.line) = true
  trees : backTo cpos (starEach [e, f] X.env) = [(false, eval e X.env), (false, eval f X.env)]
def IsD (H : Hp) (a : Addr) : Prop := (∃ kvs, Rd H a (.dK kvs)) ∨ ∃ kvs, Rd H a (.dT kvs)
section
variable {X : Cx} {pins : List (Addr × Obj)} {σ : St} {H : Hp} {s : Shared} {a : Addr} {y d : V} {u r : Value} {o : Option V} {A : Around} {E : Value → Shared → Prop}
end
section
variable {X : Cx} {o e f : Expr} {apos cpos : Pos} {td ty tx : TE}
end
section
variable {X : Cx} {pins : List (Addr × Obj)} {σ : St} {H : Hp} {s : Shared} {a : Addr} {kvs : List (Key × V)} {A : Around} {E : Value → Shared → Prop}
end
section
variable {X : Cx} {pins : List (Addr × Obj)} {σ : St} {H : Hp} {s : Shared} {a : Addr} {y : V} {u : Value} {A : Around} {E : Value → Shared → Prop}
end
end L2
namespace L2
open PySem PySem.Spec PyProof.Rows
section
variable {prog : Program} {w : World} {A : Around} {E : Value → Shared → Prop}
end
section
variable {X : Cx}
end
end L2
namespace L2
open PySem PySem.Spec PyProof.Rows
section
variable {X : Cx} {pins : List (Addr × Obj)} {σ : St} {H : Hp} {s : Shared} {h' : Heap}
theorem Inv.turnedNew {t' : Nat} {ch : List Addr} {T : Addr} {ob : HO} (I : Inv X pins σ H s) (k : ∀ b o, b ∉ ch → s.heap.get? b = some o → h'.get? b = some o) (hf : ∀ b ∈ ch, FpOk X pins H b) (hT : s.heap.objs.size ≤ T)
    (new : ObjOk X.prog X.w (upd H T ob) h' T ob) : Inv X pins σ (upd H T ob) { s with heap := h', toks := t' } := by
  have hn : H T = none := I.hok.fresh hT
  have nit : ∀ b u, H b = some u → b ∉ ch := fun b u e z => by
    have q := (hf b z).1
    rw [q] at e; cases e
  refine I.step (g' := s.gens) (d' := s.drawn) (ch := ch) (fun b hb => ⟨(hf b hb).2.2.2.1, (hf b hb).2.1, (hf b hb).2.2.2.2.1, (hf b hb).2.2.2.2.2⟩) (fun b o _ _ hc e _ => k b o hc e) (fun b o _ _ hc e _ => ⟨o.slots, k b o hc e⟩)
    (fun b o _ e n => ?_) (fun b o hc e => ⟨o, k b o hc e⟩) (fun b xs e => ?_) (fun b o u e => ?_) (fun b ps e => ⟨#[], ?_⟩) (fun m hm => ?_) (fun b u e => ?_) I.bare
  · rw [upd_ne (Nat.ne_of_lt (Nat.lt_of_lt_of_le (Heap.lt_size e) hT))]; exact n
  · rw [upd_ne (ne_of_none e hn)]; exact e
  · rw [upd_ne (ne_of_none e hn)]; exact e
  · rw [upd_ne (ne_of_none e hn), e]; simp
  · obtain ⟨o, es, ep, ho, r⟩ := hm
    exact ⟨o, es, ep, k _ o (fun z => (hf _ z).2.1 rfl) ho, r⟩
  · by_cases hb : b = T
    · subst hb
      rw [upd_same] at e
      cases e
      exact new
    · rw [upd_ne hb] at e
      refine (I.hok b u e).stay (fun c v hc q => k c v ?_ q) (fun c q => by rw [upd_ne (ne_of_none q hn)]; exact q) fun c xs q => by rw [upd_ne (ne_of_none q hn)]; exact q
      rcases hc with z | z
      · rw [z]; exact nit b u e
      · exact nit c _ z
end
section
variable {X : Cx}
theorem pi_one {tg : Expr} {pins : List (Addr × Obj)} {σ : St} {H : Hp} {s : Shared} {R : It → Hp → Prop} {J : It} {tn : Nat → Heap → Prop} {tk : Nat} (I : Inv X pins σ H s) (o : Obj)
    (T : Turn X.prog X.w X.K tg J [s.heap.objs.size] s.heap.objs.size tn) (st : tn 0 (s.heap.push o)) (q : R J H) : PIE X pins σ tg R (.ref s.heap.objs.size) { s with heap := s.heap.push o, toks := tk } := by
  refine ⟨s.heap.objs.size, [s.heap.objs.size], tn, J, H, rfl, I.kept fun b ob e => Heap.get?_push_of_some _ e, T, st, fun b hb => ?_, q⟩
  have e : b = s.heap.objs.size := by simpa using hb
  subst e
  exact I.fpOk (Nat.le_refl _) (I.hok.fresh (Nat.le_refl _))
end
def RgC (i j c : Int) (n : Nat) : Prop := c ≠ 0 ∧ c.natAbs < 1073741824 ∧ Builtin.Range.small i j c = true ∧ Builtin.Range.rangeSize i j c = n
theorem RgC.neg {i j : Int} (ha : -(2 ^ 62) ≤ i) (ha' : i < 2 ^ 62) (hb : -(2 ^ 62) ≤ j) (hb' : j < 2 ^ 62) : RgC i j (-1) (i - j).toNat :=
  ⟨by decide, by decide, PySem.W.small_down ha ha' hb hb', PySem.W.rangeSize_downNat i j⟩
section
variable {X : Cx} {tg : Expr}
end
section
variable {X : Cx} {tg : Expr}
end
def Its (x : Str) : It := ⟨fun i _ => i < x.cps.size, fun i H v H' => H' = H ∧ ∃ c, x.cps[i]? = some c ∧ v = .str ⟨#[c]⟩, fun i _ => x.cps.size ≤ i⟩
theorem turn_str {P : Program} {w : World} {K : PySem.W.Frag} {tg : Expr} (it : Addr) (x : Str) (t : Tok) (ty : String) (hty : ty = "str_ascii_iterator" ∨ ty = "str_iterator") :
    Turn P w K tg (Its x) [it] it (fun i h => h.IsStrIter it ty x t i) where
  mem := by simp
  obj := fun i h st b hb => by
    have e : b = it := by simpa using hb
    subst e
    obtain ⟨o, e, c, d⟩ := st
    exact ⟨o, e, fun v z => by rw [d] at z; cases z⟩
  keep := fun i h h' st k => let ⟨o, ho, r⟩ := st; ⟨o, k it (by simp) o ho, r⟩
  item := by
    intro X hP hw hK hc i pins s σ H E I hf st hg
    subst hP hw hK
    obtain ⟨f0, f1, f2, f3, f4, f5⟩ := hf it (by simp)
    have W : Walks X.prog X.w X.A it [it] [it] x.cps.size (SignAt x) (fun i h => h.IsStrIter it ty x t i) := by
      rcases hty with e | e
      · rw [e]; exact Walks.strAscii (I.ok.hd hc) it x t
      · rw [e]; exact Walks.strWide (I.ok.hd hc) it x t
    have hno : ["enumerate", "zip", "dict_itemiterator", "dict_reverseitemiterator", "odict_iterator", "itertools.zip_longest", "itertools.pairwise"].contains ty = false := by
      rcases hty with e | e
      · rw [e]; decide
      · rw [e]; decide
    refine W.item i s _ _ hg st fun v h' tk hv st' kk => ?_
    obtain ⟨c, u, hcx, rfl⟩ := hv
    have I1 : Inv X pins σ H { s with heap := h', toks := tk } := I.turned (fun b o hb e => kk b o (by simpa using hb) e) f0 f1 f3 f4 f5
    obtain ⟨oi, e, cc, dd⟩ := id st'
    exact ⟨_, rfl, go_of (s := { s with heap := h', toks := tk }) e cc dd hno ⟨.str ⟨#[c]⟩, H, I1, ⟨u, rfl⟩, ⟨rfl, c, hcx, rfl⟩, st', fun b hb => (hf b hb).1⟩⟩
  done := by
    intro X hP hw hK hc i pins s σ H E I hf st hg
    subst hP hw hK
    obtain ⟨f0, f1, f2, f3, f4, f5⟩ := hf it (by simp)
    have hx : x.cps[i]? = none := Array.getElem?_eq_none hg
    rcases hty with e | e
    · rw [e] at st
      exact wpAny_pyNext_ascii_end (I.ok.hd hc) st hx fun h' eb => ⟨rfl, I.turned (t' := s.toks) (fun b o hb e => eb b o hb e) f0 f1 f3 f4 f5⟩
    · rw [e] at st
      exact wpAny_pyNext_wide_end (I.ok.hd hc) st hx fun h' eb => ⟨rfl, I.turned (t' := s.toks) (fun b o hb e => eb b o hb e) f0 f1 f3 f4 f5⟩
  self := fun A i s Q E st h => by
    rcases hty with e | e
    · rw [e] at st; exact wpAny_pyIter_striter_ascii st h
    · rw [e] at st; exact wpAny_pyIter_striter_wide st h
def iStr (te : TE) : TI := fun σ H R => te σ H fun v H1 => ∃ x, v = .str x ∧ R (Its x) H1
theorem pi_str {X : Cx} {tg e : Expr} {te : TE} (he : PE X e te) : PI X tg e (iStr te) := by
  intro pins s σ H R I h
  refine thn (he pins s σ H _ I h) fun v s1 ⟨y, H1, I1, r1, x, ex, q⟩ => ?_
  subst ex
  obtain ⟨t, rfl⟩ := r1
  cases ha : x.cps.all (· < 128)
  · exact wpAny_pyIter_wide ha (pi_one (tk := s1.toks) I1 _ (turn_str _ x t "str_iterator" (.inr rfl)) ⟨_, Heap.get?_push_size _ rfl, rfl, rfl⟩ q)
  · exact wpAny_pyIter_ascii ha (pi_one (tk := s1.toks) I1 _ (turn_str _ x t "str_ascii_iterator" (.inl rfl)) ⟨_, Heap.get?_push_size _ rfl, rfl, rfl⟩ q)
section
variable {prog : Program} {w : World} {A : Around} {E : Value → Shared → Prop} {s : Shared}
end
section
variable {X : Cx} {pins : List (Addr × Obj)} {σ : St} {H : Hp} {s : Shared} {d : Addr} {o : Obj}
end
section
variable {P : Program} {w : World} {K : PySem.W.Frag} {tg : Expr} {d : Addr} {o : Obj} {es : Array DictEntry} {ep : Nat}
end
section
variable {X : Cx} {tg e : Expr} {td : TE} {apos cpos : Pos}
end
def Ite (K : PySem.W.Frag) (a : Addr) : It :=
  ⟨fun i H => ∃ (xs : List V) (x : V), SqL K H a xs ∧ xs[i]? = some x, fun i H v H' => ∃ T x, v = .ref T ∧ H T = none ∧ H' = upd H T (.tup [.int (i : Nat), x]) ∧ ∀ xs, SqL K H a xs → xs[i]? = some x, fun i H => ∃ xs : List V, SqL K H a xs ∧ xs.length ≤ i⟩
theorem turn_enum {P : Program} {w : World} {K : PySem.W.Frag} {elts : List Expr} {kk : Nat} {tpos : Pos} (a e it : Addr) :
    Turn P w K (.Tuple elts kk tpos) (Ite K a) [e, it] e (fun i h => (∃ old, IsEnum h e it ((i : Nat) : Int) old) ∧ h.IsListIter it a i ∧ e ≠ it) where
  mem := by simp
  obj := fun i h st b hb => by
    obtain ⟨⟨old, he⟩, ⟨o, ho, hc, hd⟩, _⟩ := st
    have e' : b = e ∨ b = it := by simpa using hb
    rcases e' with z | z
    · rw [z]; exact ⟨_, he, fun v q => nomatch q⟩
    · rw [z]; exact ⟨o, ho, fun v q => by rw [hd] at q; cases q⟩
  keep := fun i h h' st k => let ⟨⟨old, he⟩, hi, hne⟩ := st; ⟨⟨old, k e (by simp) _ he⟩, hi.at fun o q => k it (by simp) o q, hne⟩
  item := by
    intro X hP hw hK hc i pins s σ H E I hf st hg
    subst hP hw hK
    obtain ⟨⟨old, he⟩, hit, hne⟩ := st
    obtain ⟨xs, x, hq, hx⟩ := hg
    obtain ⟨its, rv, p, hz⟩ := I.list hq
    obtain ⟨u, hu, ru⟩ := rv.get hx
    have hel : e < s.heap.objs.size := Heap.lt_size he
    have hil : it < s.heap.objs.size := by obtain ⟨_, q, _⟩ := hit; exact Heap.lt_size q
    refine wpAny_pyNext_enum_item he hit p.isList (x := u) (by simpa using hu) hne fun h' ho hit' hT hsz hk => ?_
    refine ⟨_, rfl, wpAny_letOwnedTupleGo_enum (s := { s with heap := h', toks := s.toks + 1 }) ho fun h'' he' sb => ?_⟩
    have hT2 : h''.get? s.heap.objs.size = some { cls := .type "tuple", data := .seq #[.int i s.toks, u] } := (sb.2 _ (Nat.ne_of_gt hel)).trans hT
    have new : ObjOk X.prog X.w (upd H s.heap.objs.size (.tup [.int (i : Nat), x])) h'' s.heap.objs.size (.tup [.int (i : Nat), x]) :=
      ⟨by show 2 ≤ sizeLine; decide, [.int i s.toks, u], .cons ⟨_, rfl⟩ (.cons ru .nil), ⟨_, hT2, rfl, _, rfl, rfl⟩⟩
    have I1 : Inv X pins σ (upd H s.heap.objs.size (.tup [.int (i : Nat), x])) { s with heap := h'', toks := s.toks + 1 } :=
      I.turnedNew (ch := [e, it]) (fun b ob hb q => (sb.2 b (fun z => hb (by simp [z]))).trans (hk b ob (fun z => hb (by simp [z])) (fun z => hb (by simp [z])) q)) hf (Nat.le_refl _) new
    refine ⟨.ref s.heap.objs.size, _, I1, rfl, ⟨_, x, rfl, I.hok.fresh (Nat.le_refl _), rfl, fun ys hy => by rw [I.list_inj hy hq]; exact hx⟩, ⟨⟨u, ?_⟩, hit'.at fun o q => (sb.2 it (Ne.symm hne)).trans q, hne⟩, fun b hb => ?_⟩
    · have e1 : ((i + 1 : Nat) : Int) = (i : Int) + 1 := by omega
      rw [e1]; exact he'
    · have hb' : b < s.heap.objs.size := by
        have e' : b = e ∨ b = it := by simpa using hb
        rcases e' with z | z
        · rw [z]; exact hel
        · rw [z]; exact hil
      rw [upd_ne (Nat.ne_of_lt hb')]
      exact (hf b hb).1
  done := by
    intro X hP hw hK hc i pins s σ H E I hf st hg
    subst hP hw hK
    obtain ⟨⟨old, he⟩, hit, hne⟩ := st
    obtain ⟨xs, hq, hx⟩ := hg
    obtain ⟨its, rv, p, hz⟩ := I.list hq
    obtain ⟨f0, f1, f2, f3, f4, f5⟩ := hf it (by simp)
    have hl := rv.length
    exact wpAny_pyNext_enum_end (I.ok.hd hc) he hit p.isList (by simp; omega) fun h' eb => ⟨rfl, I.turned (t' := s.toks) (fun b o hb q => eb b o hb q) f0 f1 f3 f4 f5⟩
  self := fun A i s Q E st h => let ⟨⟨_, he⟩, _⟩ := st; wpAny_pyIter_enum he h
def iEnum (K : PySem.W.Frag) (ta : TA) : TI := fun σ H R => ta σ H fun vs H1 => ∃ a xs, vs = [.ref a] ∧ SqL K H1 a xs ∧ R (Ite K a) H1
theorem pi_enum {X : Cx} {e : Expr} {ta : TA} {p pos tpos : Pos} {elts : List Expr} {kk : Nat} (hg : Gl X "enumerate") (hm : X.mg "enumerate" = none) (ha : PA X [e] ta) (hs : starEach [e] X.env = [(false, eval e X.env)] := by rfl) :
    PI X (.Tuple elts kk tpos) (.Call (.Name "enumerate" p) [e] [] pos) (iEnum X.K ta) := by
  intro pins s σ H R I h
  refine Call_ (ld_blt I hg hm boot_enumerate (PyProof.Rows.callWith_type1 (thn (ha pos pins s σ H _ I h) fun us s1 ⟨vs, H1, I1, r1, q1⟩ => ?_) hs rfl))
  obtain ⟨a, xs, ex, hq, q⟩ := q1
  subst ex
  cases r1 with
  | cons r rr =>
    cases rr
    cases r
    obtain ⟨its, rv, p', hz⟩ := I1.list hq
    refine call_enumerate_list p'.isList fun h' he hit hsz hk => wpAny_pyIter_enum he ?_
    have I2 : Inv X pins σ H1 { s1 with heap := h' } := I1.kept (t' := s1.toks) hk
    refine ⟨s1.heap.objs.size + 1, [s1.heap.objs.size + 1, s1.heap.objs.size], _, _, H1, rfl, I2, turn_enum a (s1.heap.objs.size + 1) s1.heap.objs.size, ⟨⟨.none, he⟩, hit, Nat.succ_ne_self _⟩, fun b hb => ?_, q⟩
    have e' : b = s1.heap.objs.size + 1 ∨ b = s1.heap.objs.size := by simpa using hb
    have hle : s1.heap.objs.size ≤ b := by
      rcases e' with z | z
      · rw [z]; exact Nat.le_add_right _ _
      · rw [z]; exact Nat.le_refl _
    exact I1.fpOk hle (I1.hok.fresh hle)
def Itz (K : PySem.W.Frag) (a b : Addr) : It :=
  ⟨fun i H => ∃ (xs ys : List V) (x y : V), SqL K H a xs ∧ SqL K H b ys ∧ xs[i]? = some x ∧ ys[i]? = some y,
    fun i H v H' => ∃ T x y, v = .ref T ∧ H T = none ∧ H' = upd H T (.tup [x, y]) ∧ (∀ xs, SqL K H a xs → xs[i]? = some x) ∧ ∀ ys, SqL K H b ys → ys[i]? = some y,
    fun i H => ∃ xs ys : List V, SqL K H a xs ∧ SqL K H b ys ∧ (xs.length ≤ i ∨ ys.length ≤ i)⟩
def iZip (K : PySem.W.Frag) (ta : TA) : TI := fun σ H R => ta σ H fun vs H1 => ∃ a b xs ys, vs = [.ref a, .ref b] ∧ SqL K H1 a xs ∧ SqL K H1 b ys ∧ R (Itz K a b) H1
end L2
section 
namespace Bits
open PySem PyProof.Rows
end Bits
end 
section 
namespace TL
open PySem PySem.Builtin PySem.Builtin.Str PySem.StrLaws
abbrev tl (x : Str) : List Nat := x.cps.toList
theorem ext_tl {x y : Str} (h : tl x = tl y) : x = y := Str.ext' (Array.toList_inj.mp h)
def pre (S l : List Nat) : Bool := l.take S.length == S
def par (S : List Nat) : List Nat → List Nat → Option (List Nat × List Nat)
  | _, [] => none
  | acc, c :: r => if pre S (c :: r) = true then some (acc, (c :: r).drop S.length) else par S (acc ++ [c]) r
end TL
end 
namespace L2
open PySem PySem.Spec PyProof.Rows
section
variable {X : Cx} {pins : List (Addr × Obj)} {σ : St} {H : Hp} {s : Shared} {Q : VK}
end
section
variable {X : Cx}
end
section
variable {X : Cx} {o e : Expr} {to te : TE}
end
end L2
namespace L2
open PySem PySem.Spec PyProof.Rows
section
variable {X : Cx}
end
theorem IsPart.raw {v : Value} {o : Option Int} (p : IsPart v o) : ∃ l : Option (Int × Tok), v = partValue l ∧ l.map (·.1) = o := by
  cases p with
  | none => exact ⟨none, rfl, rfl⟩
  | int i t => exact ⟨some (i, t), rfl, rfl⟩
def clipS (n d : Nat) : Option Int → Int
  | none => (d : Int)
  | some i => max 0 (min (if i < 0 then i + (n : Int) else i) (n : Int))
theorem clipS_eq (n d : Nat) (o : Option Int) : clipS n d o = ((HT.sIx n d o : Nat) : Int) := by
  cases o with
  | none => rfl
  | some v =>
    show max (0 : Int) (min (if v < 0 then v + (n : Int) else v) (n : Int)) = (((if v < 0 then (v + (n : Int)).toNat else min v.toNat n) : Nat) : Int)
    by_cases hv : v < 0
    · simp only [if_pos hv]
      omega
    · simp only [if_neg hv]
      omega
theorem sidx_clip (a b : Option Int) (n : Nat) : Builtin.Str.strSliceIndices a b 1 n = sliceRange (clipS n 0 a) (clipS n n b) 1 := by
  have h1 : ((1 : Int) > 0) = True := by simp
  cases a <;> cases b <;> first
    | rfl
    | (simp only [Builtin.Str.strSliceIndices, clipS, h1, if_true]; rfl)
    | simp [Builtin.Str.strSliceIndices, clipS]
theorem sidx (a b : Option Int) (n : Nat) : Builtin.Str.strSliceIndices a b 1 n = (List.range (HT.sIx n n b - HT.sIx n 0 a)).map (fun k => HT.sIx n 0 a + k) := by
  rw [sidx_clip, clipS_eq, clipS_eq]
  generalize HT.sIx n 0 a = p
  generalize HT.sIx n n b = q
  simp only [sliceRange, show ((1 : Int) > 0) = True from by simp, if_true]
  by_cases hlt : (p : Int) < q
  · have e3 : (((q : Int) - p + 1 - 1) / 1).toNat = q - p := by first | omega | (simp; done) | (simp; omega)
    simp only [hlt, if_true, e3]
    refine List.map_congr_left fun k _ => ?_
    omega
  · have : q - p = 0 := by omega
    simp [hlt, this]
def cutS (z : Str) (lo hi : Option Int) : Str :=
  ⟨((z.cps.toList.drop (HT.sIx z.length 0 lo)).take (HT.sIx z.length z.length hi - HT.sIx z.length 0 lo)).toArray⟩
theorem sliceText_cut (z : Str) (lo hi : Option Int) : PySem.StrLaws.sliceText z lo hi = cutS z lo hi := by
  have h1 : HT.sIx z.length 0 lo ≤ z.length := HT.sIx_le _ _ (Nat.zero_le _) _
  have h2 : HT.sIx z.length z.length hi ≤ z.length := HT.sIx_le _ _ (Nat.le_refl _) _
  have hp : HT.sIx z.length 0 lo ≤ max (HT.sIx z.length 0 lo) (HT.sIx z.length z.length hi) := Nat.le_max_left _ _
  have hq : max (HT.sIx z.length 0 lo) (HT.sIx z.length z.length hi) ≤ z.length := Nat.max_le.mpr ⟨h1, h2⟩
  have hd : max (HT.sIx z.length 0 lo) (HT.sIx z.length z.length hi) - HT.sIx z.length 0 lo = HT.sIx z.length z.length hi - HT.sIx z.length 0 lo := by omega
  have e : Builtin.Str.strSliceIndices lo hi 1 z.length =
      Builtin.Str.strSliceIndices (some ((HT.sIx z.length 0 lo : Nat) : Int)) (some ((max (HT.sIx z.length 0 lo) (HT.sIx z.length z.length hi) : Nat) : Int)) 1 z.length := by
    rw [PySem.StrLaws.strSliceIndices_plain hp hq, hd, sidx]
  have e2 : PySem.StrLaws.sliceText z lo hi =
      PySem.StrLaws.sliceText z (some ((HT.sIx z.length 0 lo : Nat) : Int)) (some ((max (HT.sIx z.length 0 lo) (HT.sIx z.length z.length hi) : Nat) : Int)) := by
    unfold PySem.StrLaws.sliceText
    rw [e]
  rw [e2, PySem.StrLaws.sliceText_nat z hp hq, hd]
  rfl
theorem cutS_length (z : Str) (lo hi : Option Int) : (cutS z lo hi).length ≤ z.length := by
  show (((z.cps.toList.drop (HT.sIx z.length 0 lo)).take (HT.sIx z.length z.length hi - HT.sIx z.length 0 lo)).toArray).size ≤ z.cps.size
  rw [List.size_toArray, List.length_take, List.length_drop, Array.length_toList]
  omega
def rSlS : V → Option Int → Option Int → Hp → VK → Prop := fun x lo hi H Q => ∃ z, x = .str z ∧ z.length ≤ sizeLine ∧ Q (.str (cutS z lo hi)) H
theorem sl_str {X : Cx} : SlR X rSlS := by
  intro pins s σ H x v vl vu lo hi sl Q I rx hs pl pu h
  obtain ⟨z, rfl, hz, q⟩ := h
  obtain ⟨t, rfl⟩ := rx
  obtain ⟨os, hos, hcs, hds⟩ := hs
  obtain ⟨l, rfl, rfl⟩ := IsPart.raw pl
  obtain ⟨u, rfl, rfl⟩ := IsPart.raw pu
  refine ⟨"str", _, F.slot_str_getitem.lookup, typeIs_str _ _ _, ?_⟩
  refine wpAny_getItem_str_slice (l := l) (u := u) (st := none) ⟨os, hos, hcs, hds⟩ rfl ?_
  have hl : (PySem.StrLaws.sliceText z (l.map (·.1)) (u.map (·.1))).length ≤ sizeLine := by
    rw [sliceText_cut]
    exact Nat.le_trans (cutS_length z _ _) hz
  rw [← sliceText_cut] at q
  unfold PySem.StrLaws.sliceText at q hl
  show Made.post (if ((1 : Int) == 1 && (Builtin.Str.strSliceIndices (l.map (·.1)) (u.map (·.1)) 1 z.length).length == z.length) = true then Made.val (.str z t)
    else Made.str ⟨((Builtin.Str.strSliceIndices (l.map (·.1)) (u.map (·.1)) 1 z.length).filterMap (z.cps[·]?)).toArray⟩) (EP X pins σ Q) s
  by_cases c : ((1 : Int) == 1 && (Builtin.Str.strSliceIndices (l.map (·.1)) (u.map (·.1)) 1 z.length).length == z.length) = true
  · rw [if_pos c] at q ⊢
    exact ⟨.str z, H, I, ⟨t, rfl⟩, q⟩
  · rw [if_neg c] at q hl ⊢
    exact ⟨hl, .str _, H, I.tok _, ⟨_, rfl⟩, q⟩
end L2
namespace Att
open PySem PySem.W PySem.Calls PyProof.Rows
theorem ints_of_wellAll {P : Params} {h : Heap} : ∀ (ns : List Int) (vs : List Value), WellAll P h vs (ns.map WData.int) → IntsAre vs ns := by
  intro ns
  induction ns with
  | nil =>
    intro vs w
    rw [List.map_nil] at w
    cases w
    exact .nil
  | cons n ns ih =>
    intro vs w
    rw [List.map_cons] at w
    cases w with
    | cons a b =>
      cases a
      exact .cons _ _ (ih _ b)
theorem script_of {l : OpenLaw} {n : Nat} (hn : l.most = some n) {P : Params} {h : Heap} {args : List WData} {vals : List Value}
    (hpre : l.row.toRowW.claim.pre args = true) (hwl : WellAll P h vals args) :
    ∃ a vs ns, vals = [Value.ref a] ∧ args = [WData.list (ns.map WData.int)] ∧ h.get? a = some { cls := .type "list", data := .seq vs.toArray } ∧ IntsAre vs ns ∧ ns.length ≤ n := by
  have hsh : WShape.hasAll [] args [.list .int] = true := (pre_splitW hpre).1
  have hc : l.pre.holds [] { args := args } = true := (pre_splitW hpre).2
  obtain ⟨d, r, rfl, h1, h2⟩ := hasAllW_cons hsh
  obtain rfl := hasAllW_nil h2
  obtain ⟨xs, rfl, h3⟩ := hasW_list h1
  obtain ⟨ns, rfl⟩ := items_int h3
  have hlen : ns.length ≤ n := by
    unfold OpenLaw.pre at hc
    have h4 : (WTm.not (.lt (.lit (.int (n : Int))) (.len (.arg 0)))).holds [] { args := [.list (ns.map .int)] } = true := by
      have h4 := (holds_andW hc).1
      rw [hn] at h4
      exact h4
    have h5 := condW_of h4 (w_not (w_lt w_lit (w_len_list (w_arg rfl))))
    rw [List.length_map] at h5
    refine Nat.le_of_not_lt fun q => ?_
    have q' : (n : Int) < ((ns.length : Nat) : Int) := by omega
    first
      | (rw [decide_eq_true q'] at h5; exact absurd h5 (by decide))
      | (simp at h5; omega)
  cases hwl with
  | cons w1 w2 =>
    cases w2
    cases w1 with
    | list ho hall => exact ⟨_, _, ns, rfl, rfl, ho, ints_of_wellAll ns _ hall, hlen⟩
theorem post_true (l : OpenLaw) (args : List WData) : l.row.toRowW.claim.post args (.bool true) args = true :=
  postW_of (r := l.row.toRowW) (X := (true == true))
    (show WShape.has [] (.bool true) .bool = true by first | rfl | decide | simp [WShape.has, WShape.arms, WShape.armsAll])
    (show (WTm.eq .res (.lit (.bool true))).value [] { args := args, res := some (.bool true), after := args } = some (.bool (true == true)) from w_eq_bool (w_res rfl) w_lit) rfl
theorem attach_call {l : OpenLaw} {n : Nat} {q : Program} {loose : List Str} {XP : (Str → Option Value) → Heap → Prop} {YP : World → Heap → Prop} {d : DefRec}
    (hn : l.most = some n) (hdf : d.params.defaults = [])
    (call : ∀ (w : World) (s₀ s₁ : Shared) (mg mb : Str → Option Value) (fa : Addr) (o : Obj) (pm cd doc : Value) (a : Addr) (vs : List Value) (ns : List Int),
      Ground q loose [] XP w s₀ mg mb s₁.heap → YP w s₁.heap →
      s₁.heap.get? fa = some o → o.data = .func (docDef d.name d.params d.body d.scope pm cd doc) → s₁.heap.CodeRec cd d.name → mg d.name = some (.ref fa) →
      s₁.heap.get? a = some { cls := .type "list", data := .seq vs.toArray } → IntsAre vs ns → ns.length ≤ n → s₁.gens = #[] →
      codeAny (model l.prog w) callerA (.call (.ref fa) ⟨[.ref a], []⟩) (fun r s' => r = .ok (.ret (.bool true)) ∧ OldK s₁.heap s'.heap ∧ s'.os = s₁.os ∧ AllBare s'.gens) s₁) :
    WalkO q loose XP YP l.row.toRowW d [] (fun f vs => PySem.call f vs) := by
  intro w s₀ s₁ mg mb G Y fa o pm cd doc dV kV ho hd hcd hD hmg hg args vals as hpre hlay hrd hwl hlo
  obtain rfl : dV = .none := Dflts.none hD hdf
  obtain rfl : kV = .none := Dflts.noKw hD
  obtain ⟨a, vs, ns, rfl, rfl, hobj, hints, hlen⟩ := script_of hn hpre hwl
  refine enter_call (codeAny_mono (call w s₀ s₁ mg mb fa o pm cd doc a vs ns G Y ho (fd_plain hd) hcd hmg hobj hints hlen hg) fun r s' hq => ?_)
  obtain ⟨rfl, h2, h3, h4⟩ := hq
  exact ⟨.inl ⟨.bool true, .bool true, [], rfl, fun _ => rfl, .bool true, post_true l _, fun _ => ⟨List.Pairwise.nil, fun _ hm => (nomatch hm)⟩⟩, h2, h3, h4⟩
section
variable {prog : Program} {w : World} {A : Around} {E : Value → Shared → Prop} {s : Shared} {K : Frag}
end
end Att
namespace L2
open PySem PySem.Spec PyProof.Rows
theorem vals_ints : ∀ {vs : List Value} {ns : List Int}, IntsAre vs ns → Vals (ns.map V.int) vs
  | _, _, .nil => .nil
  | _, _, .cons n t h => .cons ⟨t, rfl⟩ (vals_ints h)
def Only (H : Hp) : Prop := ∀ b, H b = none ∨ ∃ o xs, H b = some (.frz o (.lst xs))
theorem law_call {P : Program} {w : World} {K : PySem.W.Frag} {mg mb : Str → Option Value} {CX : CXT} {k : Nat} {fa a : Addr} {fd : FuncData} {x : Str} {sp : Sp} {s₁ : Shared} {vs : List Value} {ns : List Int}
    (KX : K.In s₁.heap) (hns : s₁.heap.Ns mainGlobals mg) (hb : s₁.heap.Ns builtinsNs mb) (hbb : ∀ x : Str, x ≠ "__name__" → mb x = bootBuiltins x) (hlim : s₁.heap.NoLimit) (hg : s₁.gens = #[])
    (ha : s₁.heap.get? a = some { cls := .type "list", data := .seq vs.toArray }) (hi : IntsAre vs ns) (hl : ns.length ≤ sizeLine) (hr : Room k callerA)
    (F : ∀ base : Heap, K.In base → base.Ns mainGlobals mg → FnOk P w K mg base CX k fa fd [x] sp) (hbind : ∀ (s : Shared) (u : Value), BindsTo s fd ⟨[u], []⟩ [(x, u)])
    (hsp : ∀ H : Hp, Only H → SqL K H a (ns.map V.int) → sp [.ref a] H (fun v _ => v = .bl true) fun _ _ _ => False)
    (hCX : ∀ H e s', CX [] H s₁ (fun _ _ _ => False) e s' → False) :
    codeAny (model P w) callerA (.call (.ref fa) ⟨[.ref a], []⟩) (fun r s' => r = .ok (.ret (.bool true)) ∧ OldK s₁.heap s'.heap ∧ s'.os = s₁.os ∧ AllBare s'.gens) s₁ := by
  have rv := vals_ints hi
  have lenV := hi.length
  -- from an abstract heap in which nothing but the script may be tracked
  have core : ∀ H : Hp, Only H → SqL K H a (ns.map V.int) → HOk P w H s₁.heap → (∀ b, H b ≠ none → b = a) → (H a ≠ none → K.lookup a = none) →
      codeAny (model P w) callerA (.call (.ref fa) ⟨[.ref a], []⟩) (fun r s' => r = .ok (.ret (.bool true)) ∧ OldK s₁.heap s'.heap ∧ s'.os = s₁.os ∧ AllBare s'.gens) s₁ := by
    intro H hO hS hok hA hK
    have base_of : ∀ {b : Addr} {o : Obj}, s₁.heap.get? b = some o → H b = none → (hidT s₁.heap H).get? b = some o := fun e n => hidT_get e n
    have noA : ∀ {b : Addr} {o : Obj} {es : Array DictEntry} {ep : Nat}, s₁.heap.get? b = some o → o.data = .dict es ep → H b = none := fun {b o es ep} e d => by
      cases q : H b with
      | none => rfl
      | some u =>
        have e' : b = a := hA b (by rw [q]; simp)
        subst e'
        rw [ha] at e; cases e
        have d' : Data.seq vs.toArray _ = Data.dict es ep := d
        cases d'
    have nsK : ∀ {b : Addr} {m : Str → Option Value}, s₁.heap.Ns b m → (hidT s₁.heap H).Ns b m := fun {b m} ⟨o, es, ep, e, d, r⟩ => ⟨o, es, ep, base_of e (noA e d), d, r⟩
    have hKb : K.In (hidT s₁.heap H) := fun b o e => base_of (KX b o e) (by
      cases q : H b with
      | none => rfl
      | some u =>
        have e' : b = a := hA b (by rw [q]; simp)
        subst e'
        rw [hK (by rw [q]; simp)] at e; cases e)
    have hM : Mod K mg (hidT s₁.heap H) := ⟨hKb, nsK hns, ⟨mb, nsK hb, hbb⟩, let ⟨mc, h1, h2⟩ := hlim; ⟨mc, nsK h1, h2⟩⟩
    have e0 : Env0 P w K mg (hidT s₁.heap H) callerA [] s₁ H := ⟨rfl, hM, fun b o e => of_hidT e, Nat.le_of_eq (hidT_size _ _), trivial, fun b hb => absurd (show b ∈ ([] : List Addr) from hb) (by simp), hok, .of_eq hg⟩
    refine codeAny_mono ((F _ hKb (nsK hns)).run callerA [] s₁ H ⟨[.ref a], []⟩ [.ref a] [.ref a] _ _ hr e0 (hbind s₁ (.ref a)) (.cons rfl .nil) (hsp H hO hS)) fun r s' h => ?_
    cases r with
    | error e => exact (hCX H e s' h).elim
    | ok fl =>
      cases fl with
      | next => exact False.elim h
      | brk => exact False.elim h
      | cont => exact False.elim h
      | ret u =>
        obtain ⟨v, H', os, bare, un, hok', r', q⟩ := h
        have q' : v = .bl true := q
        subst q'
        obtain rfl : u = Value.bool true := r'
        refine ⟨rfl, OldK.of_keep fun b o e => ?_, os, bare⟩
        cases q : H b with
        | none => exact un.keep b o e q (by intro z; exact absurd (show b ∈ ([] : List Addr) from z) (by simp)) (by simp)
        | some u =>
          rcases hO b with z | ⟨ob, xs, z⟩
          · rw [q] at z; cases z
          · have z2 := un.frzs b ob _ z
            obtain ⟨e1, _⟩ := hok b _ z
            obtain ⟨e2, _⟩ := hok' b _ z2
            rw [e] at e1; cases e1
            exact e2
  cases hk : K.lookup a with
  | some o =>
    -- the script is one of the module's own objects
    have e := KX a o hk
    rw [ha] at e
    cases e
    refine core (fun _ => none) (fun _ => .inl rfl) (.inr ⟨_, vs.toArray, _, hk, rfl, rfl, rfl, by rw [List.size_toArray, lenV]; exact hl, by simpa using rv⟩) (fun b u z => by have z' : (none : Option HO) = some u := z; cases z') (fun b z => absurd rfl z) fun z => absurd rfl z
  | none =>
    refine core (fun b => if b = a then some (.frz { cls := .type "list", data := .seq vs.toArray } (.lst (ns.map V.int))) else none) (fun b => ?_) (.inl (.inr ⟨{ cls := .type "list", data := .seq vs.toArray }, if_pos rfl⟩)) (fun b u z => ?_) (fun b z => ?_) fun _ => hk
    · by_cases hb : b = a
      · exact .inr ⟨_, _, if_pos hb⟩
      · exact .inl (if_neg hb)
    · by_cases hb : b = a
      · have z' := (if_pos hb).symm.trans z
        cases z'
        subst hb
        exact ⟨ha, by rw [List.length_map]; exact hl, vs, _, rv, ha⟩
      · have z' := (if_neg hb).symm.trans z
        cases z'
    · by_cases hb : b = a
      · exact hb
      · exact absurd (if_neg hb) z
end L2
namespace L2
open PySem PySem.Spec PyProof.Rows
theorem walk_of {l : PySem.W.OpenLaw} {n k : Nat} {q : Program} {loose : List Str} {XP : (Str → Option Value) → Heap → Prop} {YP : World → Heap → Prop} {d : DefRec} {K : Params → PySem.W.Frag} {CX : World → CXT} {sp : World → Sp} {x : Str}
    (hn : l.most = some n) (hn2 : n ≤ sizeLine) (hdf : d.params.defaults = []) (hr : Room k callerA)
    (hY : ∀ (w : World) (h : Heap), YP w h → (K w.params).In h)
    (F : ∀ (w : World) (mg : Str → Option Value) (fa : Addr) (h : Heap), (K w.params).In h → h.Ns mainGlobals mg → mg d.name = some (.ref fa) →
      ∃ fd : FuncData, (∀ (s : Shared) (u : Value), BindsTo s fd ⟨[u], []⟩ [(x, u)]) ∧
        ∀ base : Heap, (K w.params).In base → base.Ns mainGlobals mg → FnOk l.prog w (K w.params) mg base (CX w) k fa fd [x] (sp w))
    (hsp : ∀ (w : World) (H : Hp) (a : Addr) (ns : List Int), ns.length ≤ n → Only H → SqL (K w.params) H a (ns.map V.int) → sp w [.ref a] H (fun v _ => v = .bl true) fun _ _ _ => False)
    (hCX : ∀ (w : World) (H : Hp) (s : Shared) (e : Value) (s' : Shared), CX w [] H s (fun _ _ _ => False) e s' → False) :
    PySem.W.WalkO q loose XP YP l.row.toRowW d [] (fun f vs => PySem.call f vs) := by
  refine Att.attach_call hn hdf fun w s₀ s₁ mg mb fa o pm cd doc a vs ns G Y ho hd hcd hmg hobj hints hlen hg => ?_
  have KX := hY w _ Y
  obtain ⟨fd, hb, hF⟩ := F w mg fa _ KX G.T.g hmg
  exact law_call KX G.T.g G.T.b G.T.builtins G.T.nolimit hg hobj hints (Nat.le_trans hlen hn2) hr hF hb (fun H hO hS => hsp w H a ns hlen hO hS) fun H e s' => hCX w H s₁ e s'
end L2
namespace L2
open PySem PySem.Spec PyProof.Rows
def inClass (s : Stmt) (j : Nat) : Stmt := match s with
  | .ClassDef _ _ _ body _ _ _ _ _ _ _ => body.getD j (.Pass ⟨0, 0, 0, 0⟩)
  | _ => .Pass ⟨0, 0, 0, 0⟩
def defArgs (s : Stmt) : Arguments := match s with
  | .FunctionDef _ a _ _ _ _ _ _ _ _ => a
  | _ => { posonlyargs := [], args := [], vararg := none, kwonlyargs := [], kw_defaults := [], kwarg := none, defaults := [] }
def defBody (s : Stmt) : List Stmt := match s with
  | .FunctionDef _ _ b _ _ _ _ _ _ _ => b
  | _ => []
def defScope (s : Stmt) : Scope := match s with
  | .FunctionDef _ _ _ _ _ _ sc _ _ _ => sc
  | _ => { kind := .function, names := [], isGenerator := false, isCoroutine := false }
abbrev CX0 : CXT := fun _ _ _ _ _ _ => False
abbrev E0 : XK := fun _ _ _ => False
theorem pass0 {X : Cx} : Passes CX0 X E0 := fun _ _ _ _ _ _ _ h => h.elim
structure Fun (K : PySem.W.Frag) (x qual : Str) (st : Stmt) (f : Addr) (fd : FuncData) : Prop where
  ex : ∃ (oc : Value) (od : Option Addr) (kV doc pm : Value) (an : Option Addr) (cdv ct : Value) (osl : Array (Option Value)),
    fd = PySem.W.fnOf x qual (defArgs st) (defBody st) (defScope st) .none kV doc pm an cdv ct ∧ K.lookup f = some ⟨oc, od, .func fd, osl⟩ ∧ PySem.W.codeIn K cdv qual = true
  kp : PySem.W.keepIn K (.ref f) = true
section
variable {P : Program} {w : World} {K : PySem.W.Frag} {mg : Str → Option Value} {base : Heap}
theorem Fun.ok {x qual : Str} {st : Stmt} {f : Addr} {fd : FuncData} {N ps : List Str} {k : Nat} {sp : Sp} (F : Fun K x qual st f fd) (S : FnScope N ps (defScope st)) (len : ∀ vs H Q E, sp vs H Q E → vs.length = ps.length)
    (hbody : ∀ (cdv : Value) (A : Around) (outer : List Env) (s : Shared) (H : Hp) (vs : List V) (Q : VK) (E : XK), Room k (A.deeper (envOfC qual (defScope st) s.heap.objs.size f cdv)) → sp vs H Q E →
      ∃ t, PSs (cxOf CX0 P w K mg base N qual (defScope st) f cdv A outer s H E).nox (defBody st) t ∧ t { nx := fun _ H' => Q .non H', rt := Q } (start N vs) H) : FnOk P w K mg base CX0 (k + 1) f fd ps sp := by
  obtain ⟨oc, od, kV, doc, pm, an, cdv, ct, osl, rfl, lk, hcd⟩ := F.ex
  refine fn_of lk hcd S len fun A outer s H vs Q E hr hsp => ?_
  obtain ⟨t, h, q⟩ := hbody cdv A outer s H vs Q E hr hsp
  exact ⟨t, h.nox, q⟩
theorem Fun.binds {x qual : Str} {st : Stmt} {f : Addr} {fd : FuncData} {ps : List Str} (F : Fun K x qual st f fd)
    (h : ∀ (kV doc pm : Value) (an : Option Addr) (cdv ct : Value) (us : List Value), us.length = ps.length → bindArgs (PySem.W.fnOf x qual (defArgs st) (defBody st) (defScope st) .none kV doc pm an cdv ct) ⟨us, []⟩ = pure (ps.zip us)) : Binds K fd ps [] := by
  obtain ⟨oc, od, kV, doc, pm, an, cdv, ct, osl, rfl, lk, hcd⟩ := F.ex
  exact .all (h kV doc pm an cdv ct)
theorem fun_mk {x qual : Str} {st : Stmt} {f : Addr} {oc : Value} {od an : Option Addr} {osl : Array (Option Value)} {kV doc pm cdv ct : Value} (l : K.lookup f = some ⟨oc, od, .func (PySem.W.fnOf x qual (defArgs st) (defBody st) (defScope st) .none kV doc pm an cdv ct), osl⟩)
    (c : PySem.W.codeIn K cdv qual = true) (k : PySem.W.keepIn K (.ref f) = true) : Fun K x qual st f (PySem.W.fnOf x qual (defArgs st) (defBody st) (defScope st) .none kV doc pm an cdv ct) := ⟨⟨oc, od, kV, doc, pm, an, cdv, ct, osl, rfl, l, c⟩, k⟩
end
theorem hu_of {A : Around} {k : Nat} (hr : Room k A) : A.units + 1 < cLine := Nat.lt_of_le_of_lt (Nat.add_le_add_left (by decide : 1 ≤ 64) _) hr.units
theorem small1000 {n : Nat} (h : n ≤ 1000) : n < sizeLine := Nat.lt_of_le_of_lt h (by decide)
section
variable {X : Cx}
theorem pv (i : Nat) {x : Str} {pos : Pos} (hN : X.N[i]? = some x := by rfl) (hv : Vis X.env.scope x := by first | exact Or.inl rfl | exact Or.inr (Or.inl rfl) | exact Or.inr (Or.inr rfl)) (hd : (x == ("__debug__" : Str)) = false := by decide)
    (hcd : (x == ("__classdict__" : Str)) = false := by decide) : PE X (.Name x pos) (tVar i) := pe_var hN hv hd hcd
end
theorem iteF {A B : Prop} (h : B) : if false = true then A else B := by
  rw [if_neg Bool.false_ne_true]
  exact h
def Same (H H' : Hp) : Prop := ∀ b o, H b = some o → H' b = some o
theorem Same.refl (H : Hp) : Same H H := fun _ _ h => h
theorem Same.trans {H H1 H2 : Hp} (a : Same H H1) (b : Same H1 H2) : Same H H2 := fun c o h => b c o (a c o h)
theorem Same.free {H H' : Hp} (e : Same H H') {l : Addr} (h : H' l = Option.none) : H l = Option.none := by
  cases q : H l with
  | none => rfl
  | some o =>
    rw [e l o q] at h
    cases h
theorem Same.seq {K : PySem.W.Frag} {H H' : Hp} {a : Addr} {xs : List V} (e : Same H H') (h : SqL K H a xs) : SqL K H' a xs := by
  rcases h with (h | ⟨o, h⟩) | h
  · exact .inl (.inl (e _ _ h))
  · exact .inl (.inr ⟨o, e _ _ h⟩)
  · exact .inr h
section
variable {κ : Type} [DecidableEq κ]
end
theorem Same.made {H H1 : Hp} {x dx C : Addr} (nx : H x = Option.none) (nd : H dx = Option.none) (k : ∀ b o, (upd (upd H dx (.own x)) x (.ins C dx [])) b = some o → b ≠ x → H1 b = some o) : Same H H1 := fun b o e =>
  k b o (by rw [upd_ne (ne_of_none e nx), upd_ne (ne_of_none e nd)]; exact e) (ne_of_none e nx)
end L2
set_option linter.all false
set_option maxRecDepth 100000
namespace L2
open PySem PySem.Spec PyProof.Rows PySem.W
def ans (c : Nat → Nat → Bool) {α : Type} : KasT α → α
  | .ret a => a
  | .ask i j k => ans c (k (c i j))
def QLow (n : Nat) {α : Type} (P : α → Prop) : KasT α → Prop
  | .ret a => P a
  | .ask i j k => i < n ∧ j < n ∧ ∀ b, QLow n P (k b)
theorem QLow.imp {n : Nat} {α : Type} {P P' : α → Prop} (g : ∀ a, P a → P' a) : ∀ {t : KasT α}, QLow n P t → QLow n P' t
  | .ret a, h => g a h
  | .ask _ _ _, h => ⟨h.1, h.2.1, fun b => (h.2.2 b).imp g⟩
theorem QLow.bind {n : Nat} {α β : Type} {P : α → Prop} {R : β → Prop} {f : α → KasT β} (g : ∀ a, P a → QLow n R (f a)) : ∀ {t : KasT α}, QLow n P t → QLow n R (t.bind f)
  | .ret a, h => g a h
  | .ask _ _ _, h => ⟨h.1, h.2.1, fun b => (h.2.2 b).bind g⟩
def LowA (n : Nat) (p : Array Nat) : Prop := 0 < n ∧ p.Perm (List.range n).toArray
theorem LowA.at {n : Nat} {p : Array Nat} (h : LowA n p) (i : Nat) : p.getD i 0 < n := by
  by_cases hi : i < p.size
  · have e : p.getD i 0 = p[i] := by simp [Array.getD, hi]
    rw [e]
    have m : p[i] ∈ p.toList := by simp
    have q := (Array.perm_iff_toList_perm.mp h.2).mem_iff.mp m
    simpa using q
  · have e : p.getD i 0 = 0 := by simp [Array.getD, hi]
    rw [e]
    exact h.1
theorem QLow.ans {n : Nat} {α : Type} {P : α → Prop} (c : Nat → Nat → Bool) : ∀ {t : KasT α}, QLow n P t → P (L2.ans c t)
  | .ret _, h => h
  | .ask i j _, h => (h.2.2 (c i j)).ans c
def ordOf (c : Nat → Nat → Bool) (n : Nat) : List Nat := if n < 2 then List.range n else (ans c (kas_sort n)).toList
end L2
set_option linter.all false
set_option maxRecDepth 100000
namespace L2
open PySem PySem.Spec PyProof.Rows PySem.W
def ITup (h : Heap) (v : Value) (ns : List Int) : Prop := ∃ (a : Addr) (its : Array Value), v = .ref a ∧ IsTup h a its ∧ IntsAre its.toList ns
abbrev ITups (h : Heap) : List Value → List (List Int) → Prop := Paired (ITup h)
theorem ITup.keep {h h' : Heap} {v : Value} {ns : List Int} (k : G.KeepsTups h h') (t : ITup h v ns) : ITup h' v ns := by
  obtain ⟨a, its, e, ⟨o, ho, hc, hd⟩, hi⟩ := t
  exact ⟨a, its, e, ⟨o, k a o ho hc, hc, hd⟩, hi⟩
section
variable {prog : Program} {w : World} {A : Around} {E : Value → Shared → Prop} {s : Shared}
inductive TKind : SortKind → Prop
  | g : TKind general'
  | o : TKind oneType'
  | t (b : Bool) : TKind (tuples' b)
end
section
variable {M : Model} {A : Around} {E : Value → Shared → Prop} {s : Shared}
end
end L2
set_option linter.all false
set_option maxRecDepth 100000
namespace L2
open PySem PySem.Spec PyProof.Rows PySem.W
def lexC (nss : List (List Int)) (i j : Nat) : Bool := HT.lexLt (nss.getD i []) (nss.getD j [])
def srt (nss : List (List Int)) : List (List Int) := (ordOf (lexC nss) nss.length).map fun i => nss.getD i []
theorem ITups.at {h : Heap} : ∀ {vs : List Value} {nss : List (List Int)}, ITups h vs nss → ∀ {i : Nat}, i < vs.length → ITup h (vs.getD i Value.none) (nss.getD i [])
  | _, _, .nil, i, hi => by simp at hi
  | _, _, .cons a _, 0, _ => by simpa using a
  | _, _, .cons _ b, i + 1, hi => by simpa using ITups.at b (i := i) (by simpa using hi)
section
variable {prog : Program} {w : World} {A : Around} {E : Value → Shared → Prop} {s : Shared}
end
end L2
set_option linter.all false
set_option maxRecDepth 100000
namespace L2
open PySem PySem.Spec PyProof.Rows PySem.W
def PTup (H : Hp) (x : V) (ns : List Int) : Prop := ∃ q, x = .ref q ∧ H q = some (.tup (ns.map V.int))
abbrev PTups (H : Hp) : List V → List (List Int) → Prop := Paired (PTup H)
section
variable {X : Cx} {pins : List (Addr × Obj)} {σ : St} {H : Hp} {s : Shared}
theorem PTups.raw (I : Inv X pins σ H s) : ∀ {xs : List V} {nss : List (List Int)} {us : List Value}, PTups H xs nss → Vals xs us → ITups s.heap us nss
  | _, _, _, .nil, .nil => .nil
  | _, _, _, .cons a b, .cons r rr => by
    refine .cons ?_ (PTups.raw I b rr)
    obtain ⟨q, rfl, hq⟩ := a
    obtain ⟨_, its, rv, ht⟩ := (show ObjOk X.prog X.w H s.heap q (.tup _) from I.hok q _ hq)
    cases (show _ = Value.ref q from r)
    exact ⟨q, its.toArray, rfl, ht.tup, by simpa using rv.ints⟩
end
end L2
set_option linter.all false
set_option maxRecDepth 100000
namespace L2
open PySem PySem.Spec PyProof.Rows
theorem tupleKind_room0 {prog : Program} {w : World} {K : Type} [DecidableEq K] {knd : PySem.KeyKind prog w K} {A : Around} (h : A.units + 1 < cLine) : (tupleKind knd).room A := by
  show A.units < cLine
  omega
theorem compLoop_anyD {prog : Program} {w : World} {A : Around} {R : Result → Shared → Prop} {s : Shared} {kx vx target iter : Expr} {ifs : List Expr} {scope : Scope} {pos : Pos} {it : Value} {D : Addr} {env : Env} (I : Nat → Shared → Prop)
    (turn : ∀ n s, I n s → wpAny (model prog w) A (pyNext it) (fun r s₁ => match r with
      | none => R (.ok .next) s₁
      | some v => wpAny (model prog w) A (letOwnedTupleGo target it v) (fun _ s₁' => wpAny (model prog w) A (assign target env v) (fun _ s₂ =>
          wpAny (model prog w) A (forIn ifs true fun c r => if r = true then do let ok ← isTrue c env (eval c env); pure (ForInStep.yield ok) else pure (ForInStep.yield r)) (fun ok s₃ =>
            if ok = true then wpAny (model prog w) A (eval kx env) (fun x s₄ => wpAny (model prog w) A (eval vx env) (fun y s₅ =>
              wpAny (model prog w) A (dictSet D x y) (fun _ s₆ => ∃ m, m < n ∧ I m s₆) (notedBy (model prog w) A env fun e s' => R (.error e) s') s₅) (notedBy (model prog w) A env fun e s' => R (.error e) s') s₄) (notedBy (model prog w) A env fun e s' => R (.error e) s') s₃
            else ∃ m, m < n ∧ I m s₃) (notedBy (model prog w) A env fun e s' => R (.error e) s') s₂) (notedBy (model prog w) A env fun e s' => R (.error e) s') s₁') (notedBy (model prog w) A env fun e s' => R (.error e) s') s₁) (notedBy (model prog w) A env fun e s' => R (.error e) s') s)
    (n : Nat) (h : I n s) :
    codeAny (model prog w) A (.compLoop (.DictComp kx vx [⟨target, iter, ifs, 0⟩] scope pos) 0 it (.ref D) env) R s := by
  refine codeAny_loop rfl I (fun n s hI => ?_) n h
  show wpAny _ A ((compTurn (.DictComp kx vx [⟨target, iter, ifs, 0⟩] scope pos) 0 it (.ref D) env).onRaise (fun x => do noteFrame x env; theTreesLotGoes x)) _ _ s
  refine wpAny_noted ?_
  rw [compTurn_dict]
  refine wpAny_bind (wpAny_standAt (wpAny_bind (wpAny_mono (turn n s hI) (fun r s₁ h₁ => ?_) fun _ _ h' => h')))
  cases r with
  | none => exact wpAny_pure h₁
  | some v =>
    refine wpAny_bind (wpAny_mono h₁ (fun _ s₁' h₁' => ?_) fun _ _ h' => h')
    refine wpAny_bind (wpAny_mono h₁' (fun _ s₂ h₂ => wpAny_bind (wpAny_mono h₂ (fun ok s₃ h₃ => ?_) fun _ _ h' => h')) fun _ _ h' => h')
    cases ok with
    | false => exact wpAny_pure ⟨rfl, h₃⟩
    | true =>
      refine wpAny_bind (wpAny_bind (wpAny_mono h₃ (fun x s₄ h₄ => wpAny_bind (wpAny_holding (wpAny_mono h₄ (fun y s₅ h₅ => wpAny_bind (wpAny_standAt (wpAny_holding (wpAny_mono h₅ (fun _ s₆ h₆ => ?_) fun _ _ h' => h')))) fun _ _ h' => h'))) fun _ _ h' => h'))
      exact wpAny_pure ⟨rfl, h₆⟩
theorem d_dictSet {X : Cx} {pins : List (Addr × Obj)} {σ : St} {H : Hp} {s : Shared} {a : Addr} {A : Around} {E : Value → Shared → Prop} {y v : V} {u r : Value} {H' : Hp} {Q : Unit → Shared → Prop} (hu : A.units + 1 < cLine) (I : Inv X pins σ H s)
    (g : ∃ (kvs : List (List Key × V)) (k : List Key) (b : Addr), H a = some (.dT kvs) ∧ y = .ref b ∧ H b = some (.tup (k.map kV)) ∧ kvs.length < sizeLine ∧ H' = upd H a (.dT (putK kvs k v))) (ry : RelV y u) (rv : RelV v r) (h : ∀ s', Inv X pins σ H' s' → Q () s') :
    wpAny (model X.prog X.w) A (dictSet a u r) Q E s := by
  obtain ⟨kvs, k, b, e, ey, eb, l, eH⟩ := g
  subst ey eH
  cases (show u = Value.ref b from ry)
  obtain ⟨z, hd, xs, rel, dd⟩ := dt_of I.hok e
  have hz : xs.length ≤ sizeLine := by rw [← Paired.length rel]; exact z
  have hl : (putK kvs k v).length ≤ sizeLine := by have := length_putK kvs k v; omega
  refine wpAny_dictSet_heap (hsz := hz) (tupleKind_room0 hu) (key_of I.hok eb) dd fun h' dd' hs => h _ ?_
  obtain ⟨q, es, ep, hq, h2, h3, h4, _, h5⟩ := dd'
  refine d_write I (by rw [e]; exact True.intro) hs ⟨q, hq⟩ ⟨hl, hd, _, (rel.put k eb rv).keeps fun c ys ec => ?_, q, es, ep, hq, h2, h3, h4, h5⟩
  rw [upd_ne (ne_of ec e (fun z => nomatch z))]
  exact ec
section
variable {X : Cx}
def tDc (wi : TI) (g : TG) (tt : TT) (tk te : TE) (vs : List Nat) : TE := fun σ H Q => wi σ H fun J H1 => ∀ D, H1 D = none → ∃ W : Nat → Nat → Hp → Prop, (∃ m, W 0 m (upd H1 D (.dT []))) ∧ ∀ i m H, W i m H →
  (J.stop i H ∧ Q (.ref D) H) ∨ (J.go i H ∧ ∃ Nx : Hp → Prop, (∀ H', Nx H' → ∃ m', m' < m ∧ W (i + 1) m' H') ∧ ∀ x H', J.yld i H x H' → g x (wipe σ vs) H' fun σ2 H2 => wipe σ2 vs = wipe σ vs ∧ tt σ2 H2 fun b H3 =>
    if b = true then tk σ2 H3 fun y H4 => te σ2 H4 fun z H5 => ∃ H6, (∃ (kvs : List (List Key × V)) (k : List Key) (b : Addr), H5 D = some (.dT kvs) ∧ y = .ref b ∧ H5 b = some (.tup (k.map kV)) ∧ kvs.length < sizeLine ∧ H6 = upd H5 D (.dT (putK kvs k z))) ∧ Nx H6 else Nx H3)
theorem dc_core {pins : List (Addr × Obj)} {s : Shared} {σ : St} {H : Hp} {Q : VK} {kx vx tg iter : Expr} {ifs : List Expr} {scope : Scope} {own : List (Str × Nat)} {pos pos' : Pos} {wi : TI} {g : TG} {tt : TT} {tk te : TE} {use : Option (Value → Sem Unit)} {Qf : Value → Shared → Prop}
    (hu : X.A.units + 1 < cLine) (hc : X.calm = true) (hN : X.N.Nodup) (I : Inv X pins σ H s) (hi : PI X tg iter wi) (ok : BlkOk X.N X.env.scope scope own)
    (hg : ∀ (s : Shared) (H : Hp) (C : Addr) (cl : List (Str × Addr)) (fp : List Addr), PG (X.blk s H scope (compEnvC scope cl C X.env) fp) tg g) (ht : ∀ (s : Shared) (H : Hp) (C : Addr) (cl : List (Str × Addr)) (fp : List Addr), PTs (X.blk s H scope (compEnvC scope cl C X.env) fp) ifs tt)
    (hke : ∀ (s : Shared) (H : Hp) (C : Addr) (cl : List (Str × Addr)) (fp : List Addr), PE (X.blk s H scope (compEnvC scope cl C X.env) fp) kx tk) (he : ∀ (s : Shared) (H : Hp) (C : Addr) (cl : List (Str × Addr)) (fp : List Addr), PE (X.blk s H scope (compEnvC scope cl C X.env) fp) vx te) (hs : ∀ x, foldedSetIterable iter X.env x = pure x)
    (h : tDc wi g tt tk te (own.map (·.2)) σ H Q)
    (hRR : ∀ D C s' m H', Inv X pins σ H' s' → Q (.ref D) H' → s'.heap.Ns C m → FpOk X pins H' C → compPost (model X.prog X.w) X.A X.xe use Qf (.ref D) C (.ok .next) s') :
    wpAny (model X.prog X.w) X.A (comprehension (.DictComp kx vx [⟨tg, iter, ifs, 0⟩] scope pos) scope X.env pos' newDict false (eval iter X.env) use) Qf X.xe s := by
  have hfree : ∀ y ∈ scope.names, y.2 = .free → ∃ c, X.env.cells.lookup y.1 = some c := fun y hy e => by
    rcases ok.free y hy e with k | k
    · exact I.ok.has _ (.inl k)
    · exact I.ok.has _ (.inr k)
  refine wpAny_comprehension_free (use := use) rfl hs (closure_ok hfree) ok.kind (fun y hy e => by rw [ok.uniq y hy, e])
    (thn (hi pins s σ H _ I h) fun xv s1 hx => thn hx fun itv s2 h2 => ?_)
  obtain ⟨it, fp, tn, J, H2, e, I2, T, st2, f2, q⟩ := h2
  subst e
  refine wpAny_newObj_type (newEnv_comp ?_)
  generalize hD : s2.heap.objs.size = D
  have hDn : H2 D = none := I2.hok.fresh (Nat.le_of_eq hD)
  obtain ⟨W, ⟨m0, w0⟩, turn⟩ := q D hDn
  -- the new list
  generalize hs3 : ({ s2 with heap := s2.heap.push { cls := .type "dict", data := .dict #[] } } : Shared) = s3
  have I3 : Inv X pins σ (upd H2 D (.dT [])) s3 := by
    rw [← hs3]
    refine I2.laid (t' := s2.toks) (fun b o e => Heap.get?_push_of_some _ e) (Nat.le_of_eq hD) ?_
    rw [← hD]
    exact dt_empty s2.heap I2.big
  have h3 : s3.heap = s2.heap.push { cls := .type "dict", data := .dict #[] } := by rw [← hs3]
  have sz : ∀ b ∈ fp, b < s2.heap.objs.size := fun b hb => by
    obtain ⟨o, e, _⟩ := T.obj _ _ st2 b hb
    exact Heap.lt_size e
  have f3 : ∀ b ∈ fp, FpOk X pins (upd H2 D (.dT [])) b ∧ b < s3.heap.objs.size := fun b hb => by
    have hlt := sz b hb
    refine ⟨⟨?_, (f2 b hb).2⟩, by rw [h3, Heap.size_push]; exact Nat.lt_succ_of_lt hlt⟩
    rw [upd_ne (by rw [← hD]; exact Nat.ne_of_lt hlt)]
    exact (f2 b hb).1
  have st3 : tn 0 s3.heap := T.keep _ _ _ st2 fun b _ o e => by rw [h3]; exact Heap.get?_push_of_some _ e
  have I4 := block_start I3 ok hN f3
  have pg := hg s3 (upd H2 D (.dT [])) s3.heap.objs.size (cellsFrom (s3.heap.objs.size + 1) scope.names (cloFrom X.env.cells scope.names [])) fp
  have pt := ht s3 (upd H2 D (.dT [])) s3.heap.objs.size (cellsFrom (s3.heap.objs.size + 1) scope.names (cloFrom X.env.cells scope.names [])) fp
  have pk := hke s3 (upd H2 D (.dT [])) s3.heap.objs.size (cellsFrom (s3.heap.objs.size + 1) scope.names (cloFrom X.env.cells scope.names [])) fp
  have pe := he s3 (upd H2 D (.dT [])) s3.heap.objs.size (cellsFrom (s3.heap.objs.size + 1) scope.names (cloFrom X.env.cells scope.names [])) fp
  show codeAny _ _ (.compStart (.DictComp kx vx [⟨tg, iter, ifs, 0⟩] scope pos) 0 (.ref it) (.ref D) (compEnvC scope (cellsFrom (s3.heap.objs.size + 1) scope.names (cloFrom X.env.cells scope.names [])) s3.heap.objs.size X.env)) (compPost (model X.prog X.w) X.A X.xe use Qf (.ref D) s3.heap.objs.size) { s3 with heap := pushCells (s3.heap.push { cls := .type "dict", data := .dict #[] }) scope.names }
  have nfp : ∀ b ∈ fp, (upd H2 D (.dT [])) b = none := fun b hb => (f3 b hb).1.1
  generalize hce : compEnvC scope (cellsFrom (s3.heap.objs.size + 1) scope.names (cloFrom X.env.cells scope.names [])) s3.heap.objs.size X.env = ce at I4 pg pt pk pe ⊢
  have cL : ce.locals = s3.heap.objs.size := by subst hce; rfl
  generalize hH3 : upd H2 D (.dT []) = H3 at I3 I4 pg pt pk pe w0 nfp f3
  generalize hs4 : ({ s3 with heap := pushCells (s3.heap.push { cls := .type "dict", data := .dict #[] }) scope.names } : Shared) = s4 at I4 ⊢
  have st4 : tn 0 s4.heap := T.keep _ _ _ st3 fun b _ o e => by rw [← hs4]; exact pushCells_keeps _ _ _ _ (Heap.get?_push_of_some _ e)
  have stat : ∀ {σ' : St} {H' : Hp} {s' : Shared}, Inv (X.blk s3 H3 scope ce fp) [] σ' H' s' → (∀ b ∈ fp, H' b = none) → ∀ b ∈ fp, FpOk (X.blk s3 H3 scope ce fp) [] H' b := fun {σ' H' s'} I' hn b hb =>
    ⟨hn b hb, (I'.ok.exf b hb).1, I'.ok.exfs b hb, .inl hb, fun x c e => (I'.ok.exf b hb).2 x c e, fun p hp => absurd (show p ∈ ([] : List (Addr × Obj)) ++ [] from hp) (by simp)⟩
  have loop : codeAny (model X.prog X.w) X.A (.compLoop (.DictComp kx vx [⟨tg, iter, ifs, 0⟩] scope pos) 0 (.ref it) (.ref D) ce) (compPost (model X.prog X.w) X.A X.xe use Qf (.ref D) s3.heap.objs.size) s4 := by
    refine compLoop_anyD (fun n s' => ∃ i H', Inv (X.blk s3 H3 scope ce fp) [] (wipe σ (own.map (·.2))) H' s' ∧ tn i s'.heap ∧ (∀ b ∈ fp, H' b = none) ∧ W i n H') ?_ m0 ⟨0, H3, I4, st4, nfp, w0⟩
    rintro n s5 ⟨i, H5, I5, st5, n5, w5⟩
    rcases turn i n H5 w5 with ⟨stop, qq⟩ | ⟨go, Nx, hNx, step⟩
    · have td := T.done (X.blk s3 H3 scope ce fp) rfl rfl rfl hc i [] s5 _ H5 (fun _ _ => False) I5 (stat I5 n5) st5 stop
      refine thnF td fun r s6 ⟨hr, I6⟩ => ?_
      subst hr
      -- back in the def's context
      have I7 : Inv X pins σ H5 s6 := I3.call' (ch := fp) I6.os I6.base I6.hok I6.bare fun b hb => ⟨(f3 b hb).1.2.2.2.1, (f3 b hb).1.2.1, (f3 b hb).1.2.2.2.2.1, (f3 b hb).1.2.2.2.2.2⟩
      have nC : H5 s3.heap.objs.size = none := by
        have z : H5 ce.locals = none := I6.free
        rw [cL] at z
        exact z
      obtain ⟨m, hn, _⟩ := I6.loc
      have hn : s6.heap.Ns ce.locals m := hn
      rw [cL] at hn
      exact hRR D s3.heap.objs.size s6 m H5 I7 qq hn (I3.fpOk (Nat.le_refl _) nC)
    · have ti := T.item (X.blk s3 H3 scope ce fp) rfl rfl rfl hc i [] s5 _ H5 (fun _ _ => False) I5 (stat I5 n5) st5 go
      refine thnF ti fun r s6 ⟨u, hr, h6⟩ => ?_
      subst hr
      refine thnF h6 fun _ s7 ⟨x, H7, I7, r7, y7, st7, n7⟩ => ?_
      have I7' := I7.pinned (stat I7 n7) (T.obj _ _ st7)
      refine thnF (pg _ s7 _ H7 x u _ I7' r7 (step x H7 y7)) fun _ s8 ⟨σ8, H8, I8, hw8, q8⟩ => ?_
      refine thnF (pt _ s8 σ8 H8 _ I8 q8) fun b s9 ⟨H9, I9, q9⟩ => ?_
      -- the turn's end
      have fin : ∀ {s' : Shared} {H' : Hp}, Inv (X.blk s3 H3 scope ce fp) ([] ++ pinsAt fp s7.heap) σ8 H' s' → Nx H' → ∃ m, m < n ∧ ∃ i H', Inv (X.blk s3 H3 scope ce fp) [] (wipe σ (own.map (·.2))) H' s' ∧ tn i s'.heap ∧ (∀ b ∈ fp, H' b = none) ∧ W i m H' := fun {s' H'} I' nx => by
        obtain ⟨m', hm, w'⟩ := hNx H' nx
        have pin' : ∀ b ∈ fp, ∀ o, s7.heap.get? b = some o → s'.heap.get? b = some o ∧ H' b = none := fun b hb o e =>
          let z := I'.pin (b, o) (List.mem_append_right _ (List.mem_append_right _ (mem_pinsAt hb e)))
          ⟨z.1, z.2.1⟩
        have hl : (wipe σ (own.map (·.2))).length = σ8.length := by rw [← hw8, wipe_length]
        refine ⟨m', hm, i + 1, H', (I'.unpinned (pins := [])).weak hl (fun j v e => ?_), T.keep _ _ _ st7 fun b hb o e => (pin' b hb o e).1, fun b hb => ?_, w'⟩
        · rw [← hw8] at e
          exact (wipe_some e).1
        · obtain ⟨o, e, _⟩ := T.obj _ _ st7 b hb
          exact (pin' b hb o e).2
      cases b with
      | false =>
        simp only [Bool.false_eq_true, if_false] at q9 ⊢
        exact fin I9 q9
      | true =>
        simp only [if_true] at q9 ⊢
        refine thnF (pk _ s9 σ8 H9 _ I9 q9) fun z s10 ⟨yv, H10, I10, r10, q10⟩ => ?_
        refine thnF (pe _ s10 σ8 H10 _ I10 q10) fun z' s11 ⟨zv, H11, I11, r11, H12, dp, nx⟩ => ?_
        exact d_dictSet (X := X.blk s3 H3 scope ce fp) hu I11 dp r10 r11 fun s12 I12 => fin I12 nx
  exact codeAny_compStart_dict loop (T.self X.A 0 _ _ _ st4 loop)
end
end L2
set_option linter.all false
set_option maxRecDepth 100000
namespace L2
open PySem PySem.Spec PyProof.Rows
section
variable {X : Cx}
theorem call_isinst : CallR X (.builtin "isinstance") (fun xs H Q => ∃ (x : V) (c : String) (t : Value) (b : Bool), xs = [x, .ty c] ∧ TyOf X.K H x t ∧ PySem.W.kitOne X.K t (.type c) = some b ∧ Q (.bl b) H) := by
  intro pins s σ H xs us Q I r h
  obtain ⟨x, c, t, b, rfl, ty, e, q⟩ := h
  cases r with
  | cons r rr =>
    cases rr with
    | cons r2 r3 =>
      cases r3
      cases (show _ = Value.type c from r2)
      exact isinst_ok I r ty e fun tk => ⟨.bl b, H, I.tok tk, rfl, q⟩
def rCatA (K : PySem.W.Frag) : R2 := fun x y H Q => ∃ a b xs ys, x = .ref a ∧ y = .ref b ∧ SqT K H a xs ∧ SqT K H b ys ∧ xs.length + ys.length ≤ sizeLine ∧ (xs = [] → Q (.ref b) H) ∧ (xs ≠ [] → ys = [] → Q (.ref a) H) ∧
    (xs ≠ [] → ys ≠ [] → ∀ p, H p = none → Q (.ref p) (upd H p (.tup (xs ++ ys))))
theorem op_catA : OpR X (binaryOp .Add) (rCatA X.K) := by
  intro pins s σ H x y v u Q I rx ry h
  obtain ⟨a, b, xs, ys, rfl, rfl, ha, hb, hz, q0, q1, q2⟩ := h
  by_cases hx : xs = []
  · cases rx
    cases ry
    obtain ⟨its, r1, p1, _⟩ := I.tuple ha
    obtain ⟨its2, r2, p2, _⟩ := I.tuple hb
    obtain ⟨m, F⟩ := I.fr
    refine add_tuples (news := []) F (fun p hp => absurd hp (by simp)) p1 p2 (fun _ => ⟨.ref b, H, I, rfl, q0 hx⟩) (fun z => absurd (r1.nil_iff.mpr hx) z) (fun z => absurd (r1.nil_iff.mpr hx) z) (by rw [← r1.length, ← r2.length]; exact hz)
  · exact op_catT pins s σ H _ _ v u Q I rx ry ⟨a, b, xs, ys, rfl, rfl, ha, hb, hx, hz, q1 hx, q2 hx⟩
theorem pe_ty {x : Str} {T : String} {pos : Pos} (hg : Gl X x) (hm : X.mg x = none) (hb : bootBuiltins x = some (.type T)) (hn : x ≠ Str.ofString "__name__" := by decide) (hd : (x == Str.ofString "__debug__") = false := by decide) : PE X (.Name x pos) (tC (.ty T)) :=
  pe_bltn hg hm hb rfl hn hd
end
end L2
set_option linter.all false
set_option maxRecDepth 100000
namespace L2
open PySem PyProof.Rows PySem.W
structure Ord1 (c : Nat → Nat → Bool) (n : Nat) : Prop where
  tr : ∀ i j k, c i j = true → c j k = true → c i k = true
  tot : ∀ i j, i < n → j < n → i ≠ j → c i j = false → c j i = true
abbrev gd (p : Array Nat) (i : Nat) : Nat := p.getD i 0
def Up (c : Nat → Nat → Bool) (p : Array Nat) (m : Nat) : Prop := ∀ i j, i < j → j < m → c (gd p i) (gd p j) = true
def Dn (c : Nat → Nat → Bool) (p : Array Nat) (m : Nat) : Prop := ∀ i j, i < j → j < m → c (gd p j) (gd p i) = true
section
variable {c : Nat → Nat → Bool} {n : Nat}
theorem LowA.size {p : Array Nat} (h : LowA n p) : p.size = n := by
  have := h.2.size_eq
  simpa using this
theorem LowA.ne {p : Array Nat} (h : LowA n p) {i j : Nat} (hi : i < n) (hj : j < n) (hij : i ≠ j) : gd p i ≠ gd p j := by
  have hz := h.size
  have hn : p.toList.Nodup := (Array.perm_iff_toList_perm.mp h.2).nodup_iff.mpr (by simpa using List.nodup_range)
  have e1 : gd p i = p.toList[i]'(by simp; omega) := by
    unfold gd
    simp [Array.getD, show i < p.size by omega]
  have e2 : gd p j = p.toList[j]'(by simp; omega) := by
    unfold gd
    simp [Array.getD, show j < p.size by omega]
  rw [e1, e2]
  intro z
  exact hij ((List.getElem_inj hn).mp z)
theorem Up.snoc {p : Array Nat} {m : Nat} (O : Ord1 c n) (h : Up c p m) (hm : 1 ≤ m) (e : c (gd p (m - 1)) (gd p m) = true) : Up c p (m + 1) := by
  intro i j hij hj
  by_cases hjm : j < m
  · exact h i j hij hjm
  · have : j = m := by omega
    subst this
    by_cases hi : i = j - 1
    · rw [hi]; exact e
    · exact O.tr _ _ _ (h i (j - 1) (by omega) (by omega)) e
theorem Dn.snoc {p : Array Nat} {m : Nat} (O : Ord1 c n) (h : Dn c p m) (hm : 1 ≤ m) (e : c (gd p m) (gd p (m - 1)) = true) : Dn c p (m + 1) := by
  intro i j hij hj
  by_cases hjm : j < m
  · exact h i j hij hjm
  · have : j = m := by omega
    subst this
    by_cases hi : i = j - 1
    · rw [hi]; exact e
    · exact O.tr _ _ _ e (h i (j - 1) (by omega) (by omega))
end
end L2
set_option linter.all false
set_option maxRecDepth 100000
namespace L2
open PySem PySem.Spec PyProof.Rows
open PySem.Builtin.SmallTypes (nextOf)
section
variable {prog : Program} {w : World} {A : Around} {E : Value → Shared → Prop} {s : Shared}
end
structure NxI (prog : Program) (w : World) (i l : Addr) (S : Nat → Heap → Prop) (xs : Array Value) : Prop where
  item : ∀ (A : Around) (k : Nat) (x : Value) (s : Shared) (Q : Value → Shared → Prop) (E : Value → Shared → Prop), S k s.heap → xs[k]? = some x → (∀ h', S (k + 1) h' → Heap.SameBut i s.heap h' → Q x { s with heap := h' }) → wpAny (model prog w) A (nextOf (.ref i)) Q E s
  stop : ∀ (A : Around) (k : Nat) (s : Shared) (Q : Value → Shared → Prop) (E : Value → Shared → Prop), A.handled = none → S k s.heap → xs[k]? = none →
    (∀ h' e, Heap.ExtBut i s.heap h' → (∃ o, h'.get? e = some o ∧ o.cls = .type "StopIteration") → E (.ref e) { s with heap := h' }) → wpAny (model prog w) A (nextOf (.ref i)) Q E s
  keep : ∀ (k : Nat) (h h' : Heap) (b : Addr), S k h → Heap.ExtBut b h h' → i ≠ b → l ≠ b → S k h'
  lt : ∀ k h, S k h → i < h.objs.size
section
variable {prog : Program} {w : World} {A : Around} {E : Value → Shared → Prop} {s : Shared} {z TI TO i1 i2 l1 l2 : Addr} {S1 S2 : Nat → Heap → Prop} {xs ys : Array Value} {k : Nat}
end
theorem _root_.PyProof.Rows.IsTupIter.at1 {h h' : Heap} {a t : Addr} {i : Nat} (x : IsTupIter h a t i) (e : ∀ o, h.get? a = some o → h'.get? a = some o) : IsTupIter h' a t i := let ⟨o, ho, r⟩ := x; ⟨o, e _ ho, r⟩
section
variable {prog : Program} {w : World} {A : Around} {E : Value → Shared → Prop} {s : Shared} {z TI TO i1 i2 l1 l2 : Addr} {k : Nat} {xs ys : Array Value}
end
def Itzt (K : PySem.W.Frag) (a b : Addr) : It :=
  ⟨fun i H => ∃ (xs ys : List V) (x y : V), SqT K H a xs ∧ SqT K H b ys ∧ xs[i]? = some x ∧ ys[i]? = some y,
    fun i H v H' => ∃ T x y, v = .ref T ∧ H T = none ∧ H' = upd H T (.tup [x, y]) ∧ (∀ xs, SqT K H a xs → xs[i]? = some x) ∧ ∀ ys, SqT K H b ys → ys[i]? = some y,
    fun i H => ∃ xs ys : List V, SqT K H a xs ∧ SqT K H b ys ∧ (xs.length ≤ i ∨ ys.length ≤ i)⟩
def iZipT (K : PySem.W.Frag) (ta : TA) : TI := fun σ H R => ta σ H fun vs H1 => ∃ a b xs ys, vs = [.ref a, .ref b] ∧ SqT K H1 a xs ∧ SqT K H1 b ys ∧ R (Itzt K a b) H1
end L2
set_option linter.all false
set_option maxRecDepth 100000
namespace L2
open PySem PySem.Spec PyProof.Rows
section
variable {prog : Program} {w : World} {A : Around} {E : Value → Shared → Prop} {s : Shared}
theorem getItem_tuple_all {t sl : Addr} {items : Array Value} {vl vu : Value} {lo hi : Option Int} {Q : Value → Shared → Prop} (ht : IsTup s.heap t items) (hs : s.heap.IsSliceOf sl vl vu .none) (pl : IsPart vl lo) (pu : IsPart vu hi)
    (hw : HT.sIx items.size 0 lo = 0 ∧ HT.sIx items.size items.size hi = items.size) (h : Q (.ref t) s) : wpAny (model prog w) A (getItem (.ref t) (.ref sl)) Q E s := by
  obtain ⟨os, hos, hcs, hds⟩ := id hs
  have hTs : s.TypeIs (.ref sl) "slice" := ⟨os, hos, hcs⟩
  obtain ⟨ot, hot, hct, nt, hdt⟩ := id ht
  unfold getItem
  try with_reducible refine wpAny_holding ?_
  first | refine wpAny_bind (wpAny_pure ?_) | skip
  refine wpAny_bind (wpAny_sequenceKey ht.typeIs (by decide) (wpAny_bind (wpAny_callSpecial?_slot (name := Str.ofString "__getitem__") ht.typeIs PyProof.Rows.slot_tuple_getitem
    (wpAny_call_entry PyProof.Rows.slot_tuple_getitem ht.typeIs entry_tuple_getitem ?_ (args_tuple_getitem _ _)))))
  show wpAny _ _ (Builtin.Tuple.tupleItemsOf (.ref t) >>= _) _ _ s
  refine wpAny_bind (tupleItemsOf_ ht (wpAny_bind (wpAny_typeOf hTs ?_)))
  rw [if_pos (by decide)]
  refine wpAny_bind (HT.sliceApplied_gen hs pl pu ?_)
  rw [hw.1, hw.2]
  show wpAny _ _ (if (((0 : Nat) : Int) == 0 && (1 : Int) == 1 && (items.size - 0) == items.size) = true then _ else _) _ _ s
  rw [if_pos (by simp)]
  refine wpAny_bind (m := Builtin.Tuple.tupleIsExact (.ref t)) ?_
  unfold Builtin.Tuple.tupleIsExact
  refine wpAny_bind (wpAny_typeOf ht.typeIs (wpAny_pure ?_))
  rw [if_pos (by decide)]
  exact wpAny_bind (wpAny_rule (wpAny_pure ⟨_, rfl, wpAny_pure h⟩))
end
section
variable {X : Cx}
def rSlA (K : PySem.W.Frag) : V → Option Int → Option Int → Hp → VK → Prop := fun x lo hi H Q => ∃ a xs, x = .ref a ∧ SqT K H a xs ∧ ∀ p H', (H' = H ∧ p = a ∧ cutV xs lo hi = xs) ∨ (H p = none ∧ H' = upd H p (.tup (cutV xs lo hi))) → Q (.ref p) H'
theorem sl_tupA : SlR X (rSlA X.K) := by
  intro pins s σ H x v vl vu lo hi sl Q I rx hs pl pu h
  obtain ⟨a, xs, rfl, hx, q⟩ := h
  by_cases hw : HT.sIx xs.length 0 lo = 0 ∧ HT.sIx xs.length xs.length hi = xs.length
  · cases rx
    obtain ⟨its, r, ht, hz⟩ := I.tuple hx
    have hlen : its.toArray.size = xs.length := by rw [List.size_toArray]; exact r.length.symm
    refine ⟨"tuple", _, PyProof.Rows.slot_tuple_getitem.lookup, ht.typeIs, getItem_tuple_all ht hs pl pu (by rw [hlen]; exact hw) ⟨.ref a, H, I, rfl, q a H (.inl ⟨rfl, rfl, ?_⟩)⟩⟩
    unfold cutV
    rw [hw.1, hw.2]
    simp
  · exact sl_tup pins s σ H _ v vl vu lo hi sl Q I rx hs pl pu ⟨a, xs, rfl, hx, hw, fun p hp => q p _ (.inr ⟨hp, rfl⟩)⟩
theorem mt_insert : MtM X "list.insert" (fun x vs H Q => ∃ l xs i y, x = .ref l ∧ vs = [.int i, y] ∧ H l = some (.lst xs) ∧ 0 ≤ i ∧ i ≤ (xs.length : Int) ∧ xs.length < 1000 ∧ Q .non (upd H l (.lst (xs.take i.toNat ++ y :: xs.drop i.toNat)))) := by
  intro pins s σ H x vs v us Q I rx rv h
  obtain ⟨l, xs, i, y, rfl, rfl, hH, hi0, hi, hz, q⟩ := h
  cases rx
  cases rv with
  | cons r1 rr =>
    cases rr with
    | cons r2 r3 =>
      cases r3
      obtain ⟨t, rfl⟩ := (show ∃ t, _ = Value.int i t from r1)
      rename_i u2
      obtain ⟨z, its, n, r, hl, e⟩ := I.lstM hH
      have hf : Builtin.List.listFitsIndex i = true := fitsIndex_both (by omega) (by omega)
      have hsl : its.length ≤ sizeLine := by omega
      refine call_meets PySem.F.slot_list_insert ⟨_, e, rfl⟩ PySem.F.entry_list_insert (PySem.F.args_list_insert_3 _ _ _) (PySem.AutoSeq1.list_insert_list_int_val_1 l _ n i t u2 (by simp [hf]) (by rw [List.size_toArray]; exact hsl)) ⟨e, ?_⟩
      have hk : min i.toNat its.toArray.size = i.toNat := by rw [List.size_toArray]; omega
      refine ⟨.non, _, I.lset (its' := its.take i.toNat ++ u2 :: its.drop i.toNat) hH e ?_ ((r.take i.toNat).append (.cons r2 (r.drop i.toNat))) ?_, rfl, q⟩
      · show (its.toArray.extract 0 (if i < 0 then (i + (its.toArray.size : Int)).toNat else min i.toNat its.toArray.size)).push u2 ++ its.toArray.extract (if i < 0 then (i + (its.toArray.size : Int)).toNat else min i.toNat its.toArray.size) = _
        rw [if_neg (by omega), hk]
        apply Array.toList_inj.mp
        simp [List.extract_eq_take_drop]
        exact List.take_of_length_le (by rw [List.length_drop]; exact Nat.le_refl _)
      · have := small1000 (n := xs.length + 1) (by omega)
        simp
        omega
def sLDel (td ty : TE) : TS := fun D σ H => td σ H fun x H1 => ty σ H1 fun y H2 => ∃ l xs i, x = .ref l ∧ y = .int (i : Nat) ∧ H2 l = some (.lst xs) ∧ i < xs.length ∧ xs.length < 1000 ∧ D.nx σ (upd H2 l (.lst (xs.eraseIdx i)))
theorem ps_ldel {o i : Expr} {tpos pos : Pos} {td ty : TE} (ho : PE X o td) (hi : PE X i ty) : PS X (.Delete [.Subscript o i tpos] pos) (sLDel td ty) := by
  intro pins s σ H D I h
  refine wpAny_Delete (wpAny_deleteEach_cons (wpAny_delete_Subscript (thn (ho pins s σ H _ I h) fun u s1 ⟨x, H1, I1, rx, q1⟩ => thn (hi pins s1 σ H1 _ I1 q1) fun iv s2 ⟨y, H2, I2, ry, l, xs, k, ex, ey, hH, hk, hz, q2⟩ => ?_)))
  subst ex ey
  obtain rfl : u = Value.ref l := rx
  obtain ⟨t, rfl⟩ := (show ∃ t, iv = Value.int ((k : Nat) : Int) t from ry)
  obtain ⟨z, its, n, r, hl, e⟩ := I2.lstM hH
  refine P.delItem_list (n := n) (k := k) e (fitsIndex_both (by omega) (by omega)) ?_ ?_ (by rw [List.size_toArray]; omega)
  · have := seqIndex_of (k := ((k : Nat) : Int)) (n := its.toArray.size) (by omega) (by rw [List.size_toArray]; omega)
    rw [Int.toNat_natCast] at this
    exact this
  · refine wpAny_deleteEach_nil ⟨σ, _, I2.lset (its' := its.eraseIdx k) hH e ?_ (r.eraseIdx k) ?_, q2⟩
    · show its.toArray.eraseIdxIfInBounds k = (its.eraseIdx k).toArray
      rw [List.eraseIdxIfInBounds_toArray]
    · have := len_erase xs k
      omega
def BB : Nat := 20000
def BD : Nat := 8000
def CMulB (i j : Int) : Prop := i.natAbs < 2 ^ BB ∧ j.natAbs < 2 ^ BB
def CDivB (_ j : Int) : Prop := 0 < j ∧ j.natAbs < 2 ^ BD
theorem CMulB.ok {i j : Int} (h : CMulB i j) : IntMulOk i j :=
  IntMulOk.of_bits (Nat.le_trans (PyProof.Rows.intBits_le h.1) (show 20000 ≤ 2 ^ 20 by decide)) (Nat.le_trans (PyProof.Rows.intBits_le h.2) (show 20000 ≤ 2 ^ 20 by decide))
theorem CDivB.ok {i j : Int} (h : CDivB i j) : Builtin.divisionGoesByPylong i j = false := by
  have h1 : (0 : Int) < j := h.1
  refine PyProof.noPylong_of_log2 (Nat.lt_of_lt_of_le ((Nat.log2_lt (k := BD) (by omega)).mpr h.2) (show 8000 ≤ 9000 by decide))
end
end L2
set_option linter.all false
set_option maxRecDepth 100000
namespace L2
open PySem PySem.Spec PyProof.Rows
section
variable {X : Cx}
theorem pe_dc {kx vx tg iter : Expr} {ifs : List Expr} {scope : Scope} {own : List (Str × Nat)} {pos : Pos} {wi : TI} {g : TG} {tt : TT} {tk te : TE} (hu : X.A.units + 1 < cLine) (hc : X.calm = true) (hN : X.N.Nodup) (hi : PI X tg iter wi) (ok : BlkOk X.N X.env.scope scope own)
    (hg : ∀ (s : Shared) (H : Hp) (C : Addr) (cl : List (Str × Addr)) (fp : List Addr), PG (X.blk s H scope (compEnvC scope cl C X.env) fp) tg g) (ht : ∀ (s : Shared) (H : Hp) (C : Addr) (cl : List (Str × Addr)) (fp : List Addr), PTs (X.blk s H scope (compEnvC scope cl C X.env) fp) ifs tt)
    (hke : ∀ (s : Shared) (H : Hp) (C : Addr) (cl : List (Str × Addr)) (fp : List Addr), PE (X.blk s H scope (compEnvC scope cl C X.env) fp) kx tk) (he : ∀ (s : Shared) (H : Hp) (C : Addr) (cl : List (Str × Addr)) (fp : List Addr), PE (X.blk s H scope (compEnvC scope cl C X.env) fp) vx te) (hs : ∀ x, foldedSetIterable iter X.env x = pure x := by intro _; rfl) :
    PE X (.DictComp kx vx [⟨tg, iter, ifs, 0⟩] scope pos) (tDc wi g tt tk te (own.map (·.2))) := by
  intro pins s σ H Q I h
  show wpAny _ X.A (comprehension (.DictComp kx vx [⟨tg, iter, ifs, 0⟩] scope pos) scope X.env (firstIterPos [⟨tg, iter, ifs, 0⟩] pos) newDict false (eval iter X.env) none) _ _ s
  refine dc_core hu hc hN I hi ok hg ht hke he hs h fun D C s' m H' I' q hn f => ⟨m, hn, fun h'' sb => ?_⟩
  obtain ⟨f0, f1, f2, f3, f4, f5⟩ := f
  exact ⟨.ref D, H', I'.turned (t' := s'.toks) (fun b o hb e => (sb.2 b hb).trans e) f0 f1 f3 f4 f5, rfl, q⟩
end
end L2
set_option linter.all false
set_option maxRecDepth 100000
namespace HT
open PySem PyProof.Rows
section
open PySem.SeqAt
open PySem.AutoSeq1 (wpAny_loadPart')
open PySem.MeetsSeq PySem.MeetsSeq2 PySem.MeetsSeq3
end
section
variable {prog : Program} {w : World} {A : Around} {E : Value → Shared → Prop} {s : Shared}
end
end HT
namespace L2
open PySem PySem.Spec PyProof.Rows
section
variable {X : Cx}
end
end L2
namespace HT
open PySem PySem.Spec PyProof.Rows
section
variable {prog : Program} {w : World} {A : Around} {E : Value → Shared → Prop} {s : Shared}
end
end HT
namespace L2
open PySem PySem.Spec PyProof.Rows
section
variable {X : Cx} {e : Expr} {te : TE} {tk : TO} {pos p2 : Pos} {st : Expr}
end
end L2
set_option linter.all false
namespace Ma
def gI (a b : Int) : Int := (Int.gcd a b : Int)
def low (t b : Int) : Int × Int := (t / gI t b, b / gI t b)
def Red (x : Int × Int) : Prop := 0 < x.2 ∧ Int.gcd x.1 x.2 = 1
theorem gI_pos {a b : Int} (h : 0 < b) : 0 < gI a b := by
  unfold gI
  have : 0 < Int.gcd a b := Int.gcd_pos_of_ne_zero_right a (by omega)
  omega
theorem gI_dl (a b : Int) : gI a b ∣ a := Int.gcd_dvd_left ..
theorem gI_dr (a b : Int) : gI a b ∣ b := Int.gcd_dvd_right ..
theorem gI_parts {a b : Int} (h : 0 < b) : ∃ g p q : Int, gI a b = g ∧ 0 < g ∧ a = g * p ∧ b = g * q ∧ a / g = p ∧ b / g = q ∧ Int.gcd p q = 1 ∧ 0 < q := by
  obtain ⟨p, hp⟩ := gI_dl a b
  obtain ⟨q, hq⟩ := gI_dr a b
  have hg := gI_pos (a := a) h
  have e2 : (gI a b).natAbs = Int.gcd a b := by unfold gI; omega
  generalize gI a b = g at hp hq hg e2
  refine ⟨g, p, q, rfl, hg, hp, hq, ?_, ?_, ?_, ?_⟩
  · rw [hp]
    exact Int.mul_ediv_cancel_left _ (by omega)
  · rw [hq]
    exact Int.mul_ediv_cancel_left _ (by omega)
  · have e : Int.gcd a b = g.natAbs * Int.gcd p q := by
      rw [hp, hq]
      exact Int.gcd_mul_left ..
    rw [← e2] at e
    exact Nat.eq_of_mul_eq_mul_left (show 0 < g.natAbs by omega) (by omega)
  · exact Int.pos_of_mul_pos_right (by rw [← hq]; exact h) (by omega)
theorem cop_mul {a b c : Int} (h : Int.gcd a b = 1) (k : Int.gcd a c = 1) : Int.gcd a (b * c) = 1 := by
  unfold Int.gcd at *
  rw [Int.natAbs_mul]
  exact Nat.Coprime.mul_right h k
theorem cop_dvd {a b c d : Int} (h : Int.gcd a b = 1) (ha : c ∣ a) (hb : d ∣ b) : Int.gcd c d = 1 := by
  have h1 : Int.gcd c d ∣ Int.gcd a b := by
    refine Int.natCast_dvd_natCast.mp (Int.dvd_coe_gcd ?_ ?_)
    · exact Int.dvd_trans (Int.gcd_dvd_left ..) ha
    · exact Int.dvd_trans (Int.gcd_dvd_right ..) hb
  rw [h] at h1
  exact Nat.dvd_one.mp h1
theorem low_red {t b : Int} (hb : 0 < b) : Red (low t b) := by
  obtain ⟨g, p, q, eg, hg, e1, e2, e3, e4, hc, hq⟩ := gI_parts (a := t) hb
  unfold low
  rw [eg, e3, e4]
  exact ⟨hq, hc⟩
theorem low_top {t b : Int} (hb : 0 < b) : (low t b).1.natAbs ≤ t.natAbs := by
  obtain ⟨g, p, q, eg, hg, e1, e2, e3, e4, hc, hq⟩ := gI_parts (a := t) hb
  unfold low
  rw [eg, e3]
  show p.natAbs ≤ t.natAbs
  rw [e1, Int.natAbs_mul]
  exact Nat.le_mul_of_pos_left _ (by omega)
theorem low_nz {t b : Int} (hb : 0 < b) (ht : t ≠ 0) : (low t b).1 ≠ 0 := by
  obtain ⟨g, p, q, eg, hg, e1, e2, e3, e4, hc, hq⟩ := gI_parts (a := t) hb
  unfold low
  rw [eg, e3]
  show p ≠ 0
  intro z
  rw [z] at e1
  exact ht (by rw [e1]; exact Int.mul_zero g)
end Ma
set_option linter.all false
namespace Ma
abbrev Term := List Int × (Int × Int)
def getE (es : List Term) (k : List Int) : Option (Int × Int) := (es.find? fun e => decide (e.1 = k)).map (·.2)
def at0 (es : List Term) (k : List Int) : Int × Int := (getE es k).getD (0, 1)
def keys (es : List Term) : List (List Int) := es.map (·.1)
theorem nodup_le : ∀ (l m : List (List Int)), l.Nodup → (∀ x ∈ l, x ∈ m) → l.length ≤ m.length
  | [], _, _, _ => by simp
  | x :: l, m, hn, hs => by
    obtain ⟨n1, n2⟩ := List.nodup_cons.mp hn
    have hx := hs x (by simp)
    have := nodup_le l (m.erase x) n2 fun y hy => (List.mem_erase_of_ne (fun z : y = x => n1 (z ▸ hy))).mpr (hs y (by simp [hy]))
    rw [List.length_erase_of_mem hx] at this
    have : 0 < m.length := List.length_pos_of_mem hx
    rw [List.length_cons]
    omega
end Ma
set_option linter.all false
set_option maxRecDepth 100000
namespace L2
open PySem PySem.Spec PyProof.Rows
def Ct (P : Program) (w : World) (K : PySem.W.Frag) (mg : Str → Option Value) (base : Heap) (k : Nat) (x : Str) (ps : List Str) (sp : Sp) : Prop :=
  ∃ f fd, mg x = some (.ref f) ∧ PySem.W.keepIn K (.ref f) = true ∧ Binds K fd ps [] ∧ FnOk P w K mg base CX0 k f fd ps sp
def CtM (P : Program) (w : World) (K : PySem.W.Frag) (mg : Str → Option Value) (base : Heap) (k : Nat) (x : Str) (C : Addr) (ps : List Str) (sp : Sp) : Prop :=
  ∃ f fd, mg x = some (.ref C) ∧ Mk K C f ∧ Binds K fd ps [] ∧ FnOk P w K mg base CX0 k f fd ps sp
def Df (K : PySem.W.Frag) (mg : Str → Option Value) (x : Str) (st : Stmt) (ps : List Str) : Prop := ∃ f fd, Fun K x x st f fd ∧ Binds K fd ps [] ∧ mg x = some (.ref f)
theorem Df.ct {P : Program} {w : World} {K : PySem.W.Frag} {mg : Str → Option Value} {base : Heap} {k : Nat} {x : Str} {st : Stmt} {ps N : List Str} {sp : Sp} (d : Df K mg x st ps) (S : FnScope N ps (defScope st)) (len : ∀ vs H Q E, sp vs H Q E → vs.length = ps.length)
    (hbody : ∀ (f : Addr) (cdv : Value) (A : Around) (outer : List Env) (s : Shared) (H : Hp) (vs : List V) (Q : VK) (E : XK), Room k (A.deeper (envOfC x (defScope st) s.heap.objs.size f cdv)) → sp vs H Q E →
      ∃ t, PSs (cxOf CX0 P w K mg base N x (defScope st) f cdv A outer s H E).nox (defBody st) t ∧ t { nx := fun _ H' => Q .non H', rt := Q } (start N vs) H) : Ct P w K mg base (k + 1) x ps sp := by
  obtain ⟨f, fd, F, b, m⟩ := d
  exact ⟨f, fd, m, F.kp, b, F.ok S len (hbody f)⟩
theorem Ct.imp {P : Program} {w : World} {K : PySem.W.Frag} {mg : Str → Option Value} {base : Heap} {k : Nat} {x : Str} {ps : List Str} {sp sp' : Sp} (c : Ct P w K mg base k x ps sp) (h : ∀ vs H Q E, sp' vs H Q E → sp vs H Q E) : Ct P w K mg base k x ps sp' := by
  obtain ⟨f, fd, m, kp, b, F⟩ := c
  exact ⟨f, fd, m, kp, b, F.imp h⟩
theorem Ct.mono {P : Program} {w : World} {K : PySem.W.Frag} {mg : Str → Option Value} {base : Heap} {j k : Nat} {x : Str} {ps : List Str} {sp : Sp} (c : Ct P w K mg base j x ps sp) (h : j ≤ k) : Ct P w K mg base k x ps sp := by
  obtain ⟨f, fd, m, kp, b, F⟩ := c
  exact ⟨f, fd, m, kp, b, F.mono h⟩
section
variable {X : Cx} {k : Nat} {sp : Sp} {ps : List Str} {x : Str} {p pos : Pos} {e : Expr} {es : List Expr} {t : TA} {C : Addr}
theorem pe_callC (c : Ct X.prog X.w X.K X.mg X.base k x ps sp) (hr : Room k X.A) (hg : Gl X x) (ha : PA X (e :: es) t) (hdb : (x == ("__debug__" : Str)) = false := by decide)
    (he : starEach (e :: es) X.env = (false, eval e X.env) :: starEach es X.env := by rfl) (hpl : (backTo pos (starEach es X.env)).any (·.1) = false := by rfl) : PE X (.Call (.Name x p) (e :: es) [] pos) (tCall sp [] E0 t) := by
  obtain ⟨f, fd, m, kp, b, F⟩ := c
  exact pe_call F hr hg m kp b .nil pass0 ha hdb he hpl
theorem pe_makeC (c : CtM X.prog X.w X.K X.mg X.base k x C ps sp) (hr : Room (k + 1) X.A) (hg : Gl X x) (ha : PA X (e :: es) t) (hdb : (x == ("__debug__" : Str)) = false := by decide)
    (he : starEach (e :: es) X.env = (false, eval e X.env) :: starEach es X.env := by rfl) (hpl : (backTo pos (starEach es X.env)).any (·.1) = false := by rfl) : PE X (.Call (.Name x p) (e :: es) [] pos) (tMake C sp [] E0 t) := by
  obtain ⟨f, fd, m, M, b, F⟩ := c
  exact pe_make M F hr hg m b .nil pass0 ha hdb he hpl
end
end L2
namespace Toy
open PySem L2
structure Bi (mg : Str → Option Value) : Prop where
  len : mg "len" = none
  tuple : mg "tuple" = none
  sorted : mg "sorted" = none
  range : mg "range" = none
  isinstance : mg "isinstance" = none
  int : mg "int" = none
  bool : mg "bool" = none
  list : mg "list" = none
  str : mg "str" = none
  abs : mg "abs" = none
  enumerate : mg "enumerate" = none
  all : mg "all" = none
  any : mg "any" = none
  zip : mg "zip" = none
  max : mg "max" = none
  min : mg "min" = none
  sum : mg "sum" = none
  dict : mg "dict" = none
  set : mg "set" = none
  reversed : mg "reversed" = none
end Toy
set_option linter.all false
set_option maxRecDepth 100000
set_option linter.all false
set_option maxRecDepth 100000
namespace Toy
open PySem L2 Ma
end Toy
set_option linter.all false
set_option maxRecDepth 100000
namespace Toy
open PySem L2 Ma
theorem gcd_mod {a b : Int} (h : 0 < b) : Int.gcd b (a % b) = Int.gcd a b := by
  rw [Int.gcd_comm b (a % b)]
  have e : Int.gcd (b * (a / b) + a % b) b = Int.gcd (a % b) b := Int.gcd_mul_left_add_left ..
  rw [Int.mul_ediv_add_emod] at e
  exact e.symm
section
variable {P : Program} {w : World} {K : PySem.W.Frag} {mg : Str → Option Value} {base : Heap}
def IsF (H : Hp) (v : V) (f : Int × Int) : Prop := ∃ a, v = .ref a ∧ H a = some (.tup [.int f.1, .int f.2])
def IsT (H : Hp) (v : V) (t : Term) : Prop := ∃ a x y, v = .ref a ∧ H a = some (.tup [x, y]) ∧ PTup H x t.1 ∧ IsF H y t.2
def IsS (H : Hp) (v : V) (ts : List Term) : Prop := ∃ a xs, v = .ref a ∧ H a = some (.tup xs) ∧ Paired (IsT H) xs ts
def TSame (H H' : Hp) : Prop := ∀ b xs, H b = some (.tup xs) → H' b = some (.tup xs)
theorem Same.t {H H' : Hp} (h : Same H H') : TSame H H' := fun b xs e => h b _ e
theorem TSame.refl (H : Hp) : TSame H H := fun _ _ e => e
theorem TSame.trans {H H1 H2 : Hp} (a : TSame H H1) (b : TSame H1 H2) : TSame H H2 := fun c xs e => b c xs (a c xs e)
theorem TSame.upd {H : Hp} {p : Addr} {o : HO} (h : ∀ xs, H p ≠ some (.tup xs)) : TSame H (upd H p o) := fun b xs e => by
  rw [upd_ne]
  · exact e
  · rintro rfl
    exact h xs e
theorem same_upd {H : Hp} {p : Addr} {o : HO} (h : H p = none) : Same H (upd H p o) := fun b u e => by
  rw [upd_ne (ne_of_none e h)]
  exact e
theorem _root_.L2.PTup.keep {H H' : Hp} {x : V} {ns : List Int} (k : TSame H H') (t : PTup H x ns) : PTup H' x ns := let ⟨q, e, h⟩ := t; ⟨q, e, k q _ h⟩
theorem IsF.keep {H H' : Hp} {x : V} {f : Int × Int} (k : TSame H H') (t : IsF H x f) : IsF H' x f := let ⟨q, e, h⟩ := t; ⟨q, e, k q _ h⟩
theorem IsT.keep {H H' : Hp} {x : V} {t : Term} (k : TSame H H') (h : IsT H x t) : IsT H' x t := let ⟨a, y, z, e, h1, h2, h3⟩ := h; ⟨a, y, z, e, k a _ h1, h2.keep k, h3.keep k⟩
theorem IsS.keep {H H' : Hp} {x : V} {ts : List Term} (k : TSame H H') (h : IsS H x ts) : IsS H' x ts := let ⟨a, xs, e, h1, h2⟩ := h; ⟨a, xs, e, k a _ h1, Paired.imp' (fun _ _ z => z.keep k) h2⟩
theorem sqt {H : Hp} {a : Addr} {xs : List V} (h : H a = some (.tup xs)) : SqT K H a xs := SqT.of h
end
end Toy
set_option linter.all false
set_option maxRecDepth 100000
namespace Toy
open PySem L2 Ma
def RD (H : Hp) (kv : List Key × V) (e : Term) : Prop := kv.1 = e.1.map Sum.inl ∧ IsF H kv.2 e.2
theorem RD.keep {H H' : Hp} {kv : List Key × V} {e : Term} (k : TSame H H') (h : RD H kv e) : RD H' kv e := ⟨h.1, h.2.keep k⟩
def Same1 (d : Addr) (H H' : Hp) : Prop := ∀ b o, b ≠ d → H b = some o → H' b = some o
theorem Same1.t {d : Addr} {H H' : Hp} (h : Same1 d H H') (hd : ∀ xs, H d ≠ some (.tup xs)) : TSame H H' := fun b xs e => h b _ (fun z => hd xs (z ▸ e)) e
section
variable {P : Program} {w : World} {K : PySem.W.Frag} {mg : Str → Option Value} {base : Heap}
theorem paired_snoc {α β : Type} {F : α → β → Prop} {x : α} {y : β} (h : F x y) : ∀ {l : List α} {m : List β}, Paired F l m → Paired F (l ++ [x]) (m ++ [y])
  | _, _, .nil => .cons h .nil
  | _, _, .cons a b => .cons a (paired_snoc h b)
structure Bl (mg : Str → Option Value) : Prop where
  len : mg "len" = none
  tuple : mg "tuple" = none
  sorted : mg "sorted" = none
  range : mg "range" = none
  isinstance : mg "isinstance" = none
  int : mg "int" = none
  bool : mg "bool" = none
  list : mg "list" = none
  str : mg "str" = none
  abs : mg "abs" = none
  enumerate : mg "enumerate" = none
end
end Toy
set_option linter.all false
set_option maxRecDepth 100000
namespace Toy
open PySem L2 Ma
theorem take_snoc {α : Type} {l : List α} {i : Nat} {x : α} (h : l[i]? = some x) : l.take (i + 1) = l.take i ++ [x] := by
  rw [List.take_add_one, h]
  rfl
section
variable {P : Program} {w : World} {K : PySem.W.Frag} {mg : Str → Option Value} {base : Heap}
end
end Toy
set_option linter.all false
set_option maxRecDepth 100000
namespace Toy
open PySem L2 Ma
section
variable {P : Program} {w : World} {K : PySem.W.Frag} {mg : Str → Option Value} {base : Heap}
end
end Toy
set_option linter.all false
set_option maxRecDepth 100000
namespace Toy
open PySem L2 Ma
section
variable {P : Program} {w : World} {K : PySem.W.Frag} {mg : Str → Option Value} {base : Heap}
end
end Toy
set_option linter.all false
set_option maxRecDepth 100000
namespace Toy
open PySem L2 Ma
theorem gcd_abs (a b : Int) : Int.gcd a (if b < 0 then -b else b) = Int.gcd a b := by
  split
  · exact Int.gcd_neg
  · rfl
section
variable {P : Program} {w : World} {K : PySem.W.Frag} {mg : Str → Option Value} {base : Heap}
end
end Toy
set_option linter.all false
set_option maxRecDepth 100000
namespace Toy
open PySem L2 Ma
def gen : Nat → List (List Int)
  | 0 => [[]]
  | n + 1 => gen n ++ (gen n).map fun p => p ++ [(n : Int)]
def prods (n : Nat) : List (List Int) := srt (gen n)
def rising : List (List Int) → Bool
  | [] => true
  | x :: r => r.all (fun y => HT.lexLt x y) && rising r
theorem prods_rising : ∀ i, i < 6 → rising (prods i) = true := by decide +kernel
theorem prods_len : ∀ i, i < 6 → (prods i).length ≤ 32 := by decide +kernel
section
variable {P : Program} {w : World} {K : PySem.W.Frag} {mg : Str → Option Value} {base : Heap}
end
end Toy
set_option linter.all false
set_option maxRecDepth 100000
namespace L2
open PySem
theorem for_enum {K : PySem.W.Frag} {a : Addr} {xs : List V} {g : TG} {tb : TS} {D : Ends} {σ : St} {H : Hp} (Pv : Nat → St → Hp → Prop) (h0 : Pv 0 σ H) (hl : ∀ i σ H, i ≤ xs.length → Pv i σ H → SqL K H a xs)
    (hs : ∀ (i : Nat) x σ H T, xs[i]? = some x → Pv i σ H → H T = none → g (.ref T) σ (upd H T (.tup [.int (i : Nat), x])) fun σ2 H2 => tb { D with nx := Pv (i + 1), ct := Pv (i + 1), bk := D.nx } σ2 H2) (hd : ∀ σ H, Pv xs.length σ H → D.nx σ H) :
    ∃ W : Nat → Nat → St → Hp → Prop, (∃ m, W 0 m σ H) ∧ ∀ i m σ H, W i m σ H →
      ((Ite K a).stop i H ∧ D.nx σ H) ∨ ((Ite K a).go i H ∧ ∃ N : St → Hp → Prop, (∀ σ' H', N σ' H' → ∃ m', m' < m ∧ W (i + 1) m' σ' H') ∧ ∀ x H', (Ite K a).yld i H x H' → g x σ H' fun σ2 H2 => tb { D with nx := N, ct := N, bk := D.nx } σ2 H2) := by
  refine ⟨fun i m σ H => m = xs.length - i ∧ i ≤ xs.length ∧ Pv i σ H, ⟨xs.length, by simp, Nat.zero_le _, h0⟩, ?_⟩
  rintro i m σ H ⟨rfl, hi, p⟩
  have q := hl i σ H hi p
  by_cases hlt : i < xs.length
  · refine .inr ⟨⟨xs, xs[i], q, by simp [hlt]⟩, Pv (i + 1), fun σ' H' p' => ⟨xs.length - (i + 1), by omega, rfl, hlt, p'⟩, fun x H' y => ?_⟩
    obtain ⟨T, x', e, hT, eH, y⟩ := y
    subst e eH
    exact hs i x' σ H T (y xs q) p hT
  · have e : i = xs.length := by omega
    subst e
    exact .inl ⟨⟨xs, q, Nat.le_refl _⟩, hd σ H p⟩
end L2
namespace Toy
open PySem L2 Ma
section
variable {P : Program} {w : World} {K : PySem.W.Frag} {mg : Str → Option Value} {base : Heap}
end
end Toy
set_option linter.all false
set_option maxRecDepth 100000
namespace Toy
open PySem L2 Ma
section
variable {P : Program} {w : World} {K : PySem.W.Frag} {mg : Str → Option Value} {base : Heap}
end
end Toy
set_option linter.all false
set_option maxRecDepth 100000
namespace Toy
open PySem L2 Ma
section
variable {P : Program} {w : World} {K : PySem.W.Frag} {mg : Str → Option Value} {base : Heap}
end
end Toy
set_option linter.all false
set_option maxRecDepth 100000
namespace Toy
open PySem L2 Ma
theorem lex_irrefl : ∀ x : List Int, HT.lexLt x x = false
  | [] => rfl
  | a :: x => by rw [HT.lexLt_cons, if_pos rfl]; exact lex_irrefl x
abbrev Ris (ks : List (List Int)) : Prop := ks.Pairwise fun x y => HT.lexLt x y = true
theorem ris_of : ∀ {ks : List (List Int)}, rising ks = true → Ris ks
  | [], _ => List.Pairwise.nil
  | x :: r, h => by
    unfold rising at h
    rw [Bool.and_eq_true, List.all_eq_true] at h
    exact List.Pairwise.cons (fun y hy => h.1 y hy) (ris_of h.2)
theorem ris_nodup {ks : List (List Int)} (h : Ris ks) : ks.Nodup := h.imp fun {a b} hab e => by
  subst e
  rw [lex_irrefl] at hab
  cases hab
section
variable {c : Nat} (hc : c < 6)
include hc
end
def turn (ts : List Term) : List Term := ts.map fun t => (t.1, (0 - t.2.1, t.2.2))
end Toy
set_option linter.all false
set_option maxRecDepth 100000
namespace Toy
open PySem L2 Ma
structure Bm (mg : Str → Option Value) : Prop extends Bl mg where
  all : mg "all" = none
  zip : mg "zip" = none
  most : ∃ t, mg "MOST_STEPS" = some (.int 5 t)
structure KC (K : PySem.W.Frag) (C : Addr) : Prop where
  cl : Cls K C
  nS : NoAttr K C "squares"
  nC : NoAttr K C "count"
theorem sc_ne : ¬ (("squares" : Str) = "count") := by decide +kernel
def flds (t : Addr) (n : Int) : List (Str × V) := putF "count" (.int n) (putF "squares" (.ref t) [])
theorem flds_s (t : Addr) (n : Int) : (flds t n).lookup ("squares" : Str) = some (.ref t) := by
  unfold flds
  rw [lookup_putF, if_neg sc_ne, lookup_putF, if_pos rfl]
theorem flds_c (t : Addr) (n : Int) : (flds t n).lookup ("count" : Str) = some (.int n) := by
  unfold flds
  rw [lookup_putF, if_pos rfl]
def KAt (C : Addr) (H : Hp) (k : Addr) (sq : List Int) : Prop := ∃ dx t, H k = some (.ins C dx (flds t sq.length)) ∧ H t = some (.tup (sq.map V.int))
theorem KAt.keep {C : Addr} {H H' : Hp} {k : Addr} {sq : List Int} (s : Same H H') (h : KAt C H k sq) : KAt C H' k sq := let ⟨dx, t, a, b⟩ := h; ⟨dx, t, s _ _ a, s _ _ b⟩
abbrev Sqs (sq : List Int) : Prop := sq.length ≤ 5 ∧ ∀ z ∈ sq, z = 1 ∨ z = -1 ∨ z = 0
section
variable {P : Program} {w : World} {K : PySem.W.Frag} {mg : Str → Option Value} {base : Heap}
def spInit (K : PySem.W.Frag) (C : Addr) : Sp := fun vs H Q _ => ∃ (p dx a : Addr) (sq : List Int), vs = [.ref p, .ref a] ∧ H p = some (.ins C dx []) ∧ SqL K H a (sq.map V.int) ∧ a ≠ p ∧ Sqs sq ∧
  ∀ H', (∀ b o, b ≠ p → H b = some o → H' b = some o) → KAt C H' p sq → Q .non H'
end
end Toy
set_option linter.all false
set_option maxRecDepth 100000
namespace L2
open PySem
end L2
namespace Toy
open PySem L2 Ma
section
variable {P : Program} {w : World} {K : PySem.W.Frag} {mg : Str → Option Value} {base : Heap}
end
end Toy
set_option linter.all false
set_option maxRecDepth 100000
namespace Toy
open PySem L2 Ma
section
variable {P : Program} {w : World} {K : PySem.W.Frag} {mg : Str → Option Value} {base : Heap}
end
end Toy
set_option linter.all false
set_option maxRecDepth 100000
namespace Toy
open PySem L2 Ma
theorem inV_ints (z : Int) (ns : List Int) : inV (.int z) (ns.map V.int) = decide (z ∈ ns) := by
  unfold inV
  rw [List.any_map]
  by_cases h : z ∈ ns
  · rw [decide_eq_true h, List.any_eq_true]
    exact ⟨z, h, by simp [eqV]⟩
  · rw [decide_eq_false h, List.any_eq_false]
    intro x hx q
    have : x = z := by simpa [eqV] using q
    exact h (this ▸ hx)
section
variable {P : Program} {w : World} {K : PySem.W.Frag} {mg : Str → Option Value} {base : Heap}
def IsNP (H : Hp) (v : V) (r : Int × List Int) : Prop := ∃ a q, v = .ref a ∧ H a = some (.tup [.int r.1, .ref q]) ∧ H q = some (.tup (r.2.map V.int))
end
end Toy
set_option linter.all false
set_option maxRecDepth 100000
namespace PySem
open Sem (wp)
open AutoSeq1 (wpAny_loadPart')
section
variable {prog : Program} {w : World} {A : Around} {E : Value → Shared → Prop} {s : Shared}
end
section
variable {prog : Program} {w : World} {A : Around} {E : Value → Shared → Prop} {s : Shared}
end
end PySem
set_option linter.all false
set_option maxRecDepth 100000
namespace L2
open PySem PySem.Spec PyProof.Rows
structure New (H : Hp) (p : Addr) (o : HO) (H' : Hp) : Prop where
  fr : H p = none
  s : Same H H'
  c : H' p = some o
  t : Toy.TSame H H'
theorem New.of {H : Hp} {p : Addr} {o : HO} (h : H p = none) : New H p o (upd H p o) := ⟨h, Toy.same_upd h, upd_same, Toy.Same.t (Toy.same_upd h)⟩
theorem PE.imp {X : Cx} {e : Expr} {t t' : TE} (h : PE X e t) (i : ∀ σ H Q, t' σ H Q → t σ H Q) : PE X e t' := fun pins s σ H Q I q => h pins s σ H Q I (i σ H Q q)
theorem CallR.imp {X : Cx} {f : Value} {r r' : List V → Hp → VK → Prop} (h : CallR X f r) (i : ∀ vs H Q, r' vs H Q → r vs H Q) : CallR X f r' := fun pins s σ H xs us Q I v q => h pins s σ H xs us Q I v (i _ _ _ q)
theorem OpR.imp {X : Cx} {f : Value → Value → Sem Value} {r r' : R2} (h : OpR X f r) (i : ∀ x y H Q, r' x y H Q → r x y H Q) : OpR X f r' := fun pins s σ H x y v u Q I rx ry q => h pins s σ H x y v u Q I rx ry (i _ _ _ _ q)
theorem SlR.imp {X : Cx} {r r' : V → Option Int → Option Int → Hp → VK → Prop} (h : SlR X r) (i : ∀ x lo hi H Q, r' x lo hi H Q → r x lo hi H Q) : SlR X r' := by
  intro pins s σ H x v vl vu lo hi sl Q I rx hs pl pu q
  exact h pins s σ H x v vl vu lo hi sl Q I rx hs pl pu (i _ _ _ _ _ q)
section
variable {X : Cx} {e : Expr} {es : List Expr} {te : TE} {t : TA} {pos : Pos}
end
end L2
set_option linter.all false
set_option maxRecDepth 100000
namespace L2
open PySem PySem.Spec PyProof.Rows
open Toy (TSame Same1)
section
variable {K : PySem.W.Frag} {a : Addr} {xs : List V} {g : TG} {tt : TT} {te : TE} {vs : List Nat} {σ : St} {H1 : Hp} {D : Addr} {Qd : Hp → Prop} {α : Type}
def LcP (H1 : Hp) (D : Addr) (R : Hp → V → α → Prop) (out : Nat → List α) (i : Nat) (H : Hp) : Prop := Same H1 H ∧ ∃ acc, H D = some (.lst acc) ∧ acc.length ≤ i ∧ Paired (R H) acc ((List.range i).flatMap out)
def LcK (D : Addr) (R : Hp → V → α → Prop) : Prop := ∀ H H' y z acc acc', H D = some (.lst acc) → H' D = some (.lst acc') → Same1 D H H' → R H y z → R H' y z
theorem LcK.t {R : Hp → V → α → Prop} (h : ∀ H H' y z, TSame H H' → R H y z → R H' y z) : LcK D R := fun H H' y z acc acc' e _ s r => h H H' y z (Same1.t s fun xs q => by rw [e] at q; cases q) r
theorem LcP.zero {R : Hp → V → α → Prop} {out : Nat → List α} (hD : H1 D = none) : LcP H1 D R out 0 (upd H1 D (.lst [])) := ⟨Toy.same_upd hD, [], upd_same, Nat.le_refl _, .nil⟩
theorem LcP.skip {R : Hp → V → α → Prop} {out : Nat → List α} {i : Nat} {H H' : Hp} (k : LcK D R) (p : LcP H1 D R out i H) (s : Same H H') (e : out i = []) : LcP H1 D R out (i + 1) H' := by
  obtain ⟨s1, acc, h, l, pr⟩ := p
  refine ⟨s1.trans s, acc, s _ _ h, by omega, ?_⟩
  rw [List.range_succ, List.flatMap_append]
  rw [show [i].flatMap out = [] by simp [e], List.append_nil]
  exact Paired.imp' (fun _ _ z => k _ _ _ _ _ _ h (s _ _ h) (fun b o _ q => s _ _ q) z) pr
theorem LcP.more {R : Hp → V → α → Prop} {out : Nat → List α} {i : Nat} {H H' : Hp} {y : V} {z : α} (hD : H1 D = none) (k : LcK D R) (p : LcP H1 D R out i H) (s : Same H H') (hi : i ≤ 999) (e : out i = [z]) (r : R H' y z) :
    ∃ acc, H' D = some (.lst acc) ∧ acc.length < sizeLine ∧ LcP H1 D R out (i + 1) (upd H' D (.lst (acc ++ [y]))) := by
  obtain ⟨s1, acc, h, l, pr⟩ := p
  refine ⟨acc, s _ _ h, small1000 (by omega), fun b o q => ?_, _, upd_same, by rw [List.length_append]; show acc.length + 1 ≤ i + 1; omega, ?_⟩
  · rw [upd_ne (ne_of_none q hD)]
    exact s _ _ (s1 _ _ q)
  · rw [List.range_succ, List.flatMap_append]
    rw [show [i].flatMap out = [z] by simp [e]]
    have kk : ∀ y z, R H' y z → R (upd H' D (.lst (acc ++ [y]))) y z := fun y z q => k _ _ _ _ _ _ (s _ _ h) upd_same (fun b o nb q => by rw [upd_ne nb]; exact q) q
    refine Toy.paired_snoc (k _ _ _ _ _ _ (s _ _ h) upd_same (fun b o nb q => by rw [upd_ne nb]; exact q) r) (Paired.imp' (fun _ _ z => k _ _ _ _ _ _ h upd_same (fun b o nb q => by rw [upd_ne nb]; exact s _ _ q) z) pr)
end
def RI (_ : Hp) (y : V) (z : Int) : Prop := y = .int z
def RB (_ : Hp) (y : V) (z : Bool) : Prop := y = .bl z
theorem RI.k {D : Addr} : LcK D RI := fun _ _ _ _ _ _ _ _ _ r => r
theorem RB.k {D : Addr} : LcK D RB := fun _ _ _ _ _ _ _ _ _ r => r
theorem RI.eq {H : Hp} : ∀ {acc : List V} {zs : List Int}, Paired (RI H) acc zs → acc = zs.map V.int
  | _, _, .nil => rfl
  | _, _, .cons r t => by rw [List.map_cons, ← RI.eq t]; congr 1
theorem RB.eq {H : Hp} : ∀ {acc : List V} {zs : List Bool}, Paired (RB H) acc zs → acc = zs.map V.bl
  | _, _, .nil => rfl
  | _, _, .cons r t => by rw [List.map_cons, ← RB.eq t]; congr 1
theorem PTup.k {D : Addr} : LcK D PTup := LcK.t fun _ _ _ _ s r => PTup.keep s r
theorem get_map_int {ns : List Int} {i : Nat} {x : V} (h : (ns.map V.int)[i]? = some x) : ∃ z, ns[i]? = some z ∧ x = .int z := by
  rw [List.getElem?_map] at h
  cases e : ns[i]? with
  | none => rw [e] at h; cases h
  | some z => rw [e] at h; exact ⟨z, rfl, (Option.some.inj h).symm⟩
end L2
set_option linter.all false
set_option maxRecDepth 100000
namespace L2
open PySem PySem.Spec PyProof.Rows
abbrev RC := List V → Hp → VK → Prop
section
variable {X : Cx}
def rLenS (K : PySem.W.Frag) : RC := fun xs H Q => ∃ p ys, xs = [.ref p] ∧ (SqL K H p ys ∨ SqT K H p ys) ∧ Q (.int ys.length) H
theorem call_lenS : CallR X (.builtin "len") (rLenS X.K) := call_len_seq
def rIsi (K : PySem.W.Frag) : RC := fun xs H Q => ∃ (x : V) (c : String) (t : Value) (b : Bool), xs = [x, .ty c] ∧ TyOf K H x t ∧ PySem.W.kitOne K t (.type c) = some b ∧ Q (.bl b) H
theorem call_isi : CallR X (.builtin "isinstance") (rIsi X.K) := call_isinst
end
end L2
namespace L2
open PySem
end L2
namespace L2
open PySem
end L2
set_option linter.all false
set_option maxRecDepth 100000
namespace Toy
open PySem L2 Ma
structure Enc {α : Type} [DecidableEq α] (d : α → PyData) (n : Nat) : Prop where
  eq : ∀ a b, PyData.eqv (d a) (d b) = decide (a = b)
  lay : ∀ a, (d a).canLay0 = true
  dep : ∀ a, (d a).depth ≤ n
theorem Enc.sh {α : Type} [DecidableEq α] {d : α → PyData} {n : Nat} (e : Enc d n) (h : n ≤ 64) (a : α) : SeqAt.shaped (d a) = true := by
  unfold SeqAt.shaped
  rw [e.lay a, decide_eq_true (Nat.le_trans (e.dep a) h)]
  rfl
def dT (ns : List Int) : PyData := .tuple (ns.map .int)
section
variable {K : PySem.W.Frag} {H : Hp} {X : Cx}
end
end Toy
namespace Toy
open PySem L2
theorem IsNP.keep {H H' : Hp} {v : V} {r : Int × List Int} (k : TSame H H') (h : IsNP H v r) : IsNP H' v r := let ⟨a, q, e, h1, h2⟩ := h; ⟨a, q, e, k _ _ h1, k _ _ h2⟩
end Toy
namespace L2
open PySem
end L2
namespace Toy
open PySem L2
end Toy
namespace L2
open PySem
end L2
set_option linter.all false
set_option maxRecDepth 100000
namespace L2
open PySem
end L2
namespace Toy
open PySem L2
def sg (k : Nat) (s : Int) : Int := if k % 2 = 1 then 0 - s else s
end Toy
namespace Toy
open PySem L2
theorem same_grow {H H2 H' : Hp} {L : Addr} (fr : H L = none) (s : Same H H2) (g : Same1 L H2 H') : Same H H' := fun b o e => g b o (ne_of_none e fr) (s _ _ e)
theorem Same1.of {H H' : Hp} {L : Addr} (s : Same H H') : Same1 L H H' := fun b o _ e => s b o e
theorem Same1.trans {H H1 H2 : Hp} {L : Addr} (a : Same1 L H H1) (b : Same1 L H1 H2) : Same1 L H H2 := fun c o n e => b c o n (a c o n e)
theorem Same1.upd {H : Hp} {L : Addr} {o : HO} : Same1 L H (upd H L o) := fun b u n e => by rw [upd_ne n]; exact e
theorem Same1.ts {H H' : Hp} {L : Addr} {xs : List V} (s : Same1 L H H') (h : H L = some (.lst xs)) : TSame H H' := Same1.t s fun ys z => by rw [h] at z; cases z
end Toy
set_option linter.all false
set_option maxRecDepth 100000
namespace L2
open PySem
theorem New.kept {H H1 H2 : Hp} {p : Addr} {o : HO} (n : New H p o H1) (s : Same H1 H2) : New H p o H2 := ⟨n.fr, n.s.trans s, s _ _ n.c, Toy.Same.t (n.s.trans s)⟩
theorem New.grown {H H1 H2 : Hp} {p : Addr} {xs ys : List V} (n : New H p (.lst xs) H1) (s : Toy.Same1 p H1 H2) (h : H2 p = some (.lst ys)) : New H p (.lst ys) H2 :=
  ⟨n.fr, Toy.same_grow n.fr n.s s, h, Toy.Same.t (Toy.same_grow n.fr n.s s)⟩
theorem New.put {H H1 H2 : Hp} {p : Addr} {xs ys : List V} (n : New H p (.lst xs) H1) (s : Same H1 H2) : New H p (.lst ys) (upd H2 p (.lst ys)) :=
  n.grown ((Toy.Same1.of s).trans Toy.Same1.upd) upd_same
theorem New.ins {H H1 : Hp} {p : Addr} {o : HO} (h : New H p o H1) {q : Addr} {u : HO} (e : H q = some u) : q ≠ p := ne_of_none e h.fr
end L2
namespace L2
end L2
namespace L2
open PySem
end L2
structure L2.Hd (p : Prop) : Prop where
  out : p
set_option linter.all false
set_option maxRecDepth 100000
namespace PySem
open Sem (wp)
section
variable {M : Model} {A : Around} {E : Value → Shared → Prop} {h : Heap} {g : Array GenState} {d : Drawn} {t : Nat} {os : OsState}
variable {nm q : Str} {C N : Addr} {bs bm : List Value} {hdct : Bool} {sn : List Str} {sub : List Value} {ab : Bool} {col : Option Bool} {dd : Option Addr} {k0 k1 k2 k3 k5 : Option Value} {Bn newId inN : String} {bmN : List Value}
inductive InitAt (h : Heap) (fI : Addr) : List Value → Prop
  | here {A : Addr} {c0 : Value} {dd : Option Addr} {cd : ClassData} {sl : Array (Option Value)} {mA : Str → Option Value} {tl : List Value} :
      h.get? A = some { cls := c0, dict := dd, data := .cls cd, slots := sl } → h.Ns cd.ns mA → mA "__init__" = some (.ref fI) → InitAt h fI (.ref A :: tl)
  | next {A : Addr} {c0 : Value} {dd : Option Addr} {cd : ClassData} {sl : Array (Option Value)} {mA : Str → Option Value} {tl : List Value} :
      h.get? A = some { cls := c0, dict := dd, data := .cls cd, slots := sl } → h.Ns cd.ns mA → mA "__init__" = none → InitAt h fI tl → InitAt h fI (.ref A :: tl)
theorem InitAt.keeps {h h' : Heap} {fI : Addr} {tl : List Value} (T : InitAt h fI tl) (hk : ∀ b o, h.get? b = some o → h'.get? b = some o) : InitAt h' fI tl := by
  induction T with
  | here hA hN hi => exact .here (hk _ _ hA) (hN.keeps hk) hi
  | next hA hN hi _ ih => exact .next (hk _ _ hA) (hN.keeps hk) hi ih
end
section
variable {prog : Program} {w : World} {A : Around} {R : Result → Shared → Prop} {E : Value → Shared → Prop} {h : Heap} {g : Array GenState} {d : Drawn} {t : Nat} {os : OsState}
variable {nm q : Str} {C N : Addr} {bs bm : List Value} {hdct : Bool} {sn : List Str} {sub : List Value} {ab : Bool} {col : Option Bool} {dd : Option Addr} {k0 k1 k2 k3 k5 : Option Value} {Bn newId inN : String} {bmN : List Value}
theorem exc_new_O (Fn : ExcBaseFacts Bn newId inN bmN) (hcB : (Value.ref C :: bm).contains (.type Bn) = true) (hcA : (Value.ref C :: bm).contains (.type "AttributeError") = false) (hcN : (Value.ref C :: bm).contains (.type "NameError") = false) {rest : List Value} (hC : h.get? C = some (excClassObj nm q C N bs bm hdct sn sub ab col dd k0 k1 k2 k3 k5 newId))
    (hq : R (.ok (.ret (.ref (h.objs.size + 1)))) ⟨(h.push { cls := .type "tuple", data := .seq rest.toArray }).push
      { cls := .ref C, data := .fields #[.ref h.objs.size, .none, .none, .none, .bool false, .none] }, g, d, t, os⟩) (hrest : rest.length ≤ sizeLine := by size_fits) :
    codeAny (model prog w) A (.builtin newId ⟨.ref C :: rest, []⟩) R ⟨h, g, d, t, os⟩ := by
  have hends := Fn.ends
  refine codeAny_builtinAt Fn.entry ?_
  unfold Builtin.«BaseException.__new__»
  refine wpAt_bind ?_
  show wpAt _ _ _ (stack >>= _) _ _ _
  refine wpAt_bind (wpAt_stack fun p below => wpAt_of_wpAny ?_)
  wp_walk
  refine wpAt_of_wpAny ?_
  rw [Fn.owner]
  repeat (first | with_reducible refine wpAny_madeHere_exc Fn.canon hC ?_ | with_reducible refine wpAny_loadPart_at hC ?_ | (with_reducible refine wpAny_isSubtype_exc hC ?_; first | rw [hcB] | rw [hcA] | rw [hcN]) | wp_step)
  show R _ _
  rw [Heap.size_push]
  exact hq
end
end PySem
set_option linter.all false
set_option maxRecDepth 100000
namespace PySem
open Sem (wp)
section
variable {prog : Program} {w : World} {A : Around} {E : Value → Shared → Prop} {h : Heap} {g : Array GenState} {d : Drawn} {t : Nat} {os : OsState}
variable {nm q : Str} {C N : Addr} {bs bm bmB : List Value} {hdct : Bool} {sn : List Str} {sub : List Value} {ab : Bool} {col : Option Bool} {dd : Option Addr} {k0 k1 k2 k3 k5 : Option Value} {B nid newId initId : String}
theorem check_init_O (F : ExcBaseFacts B nid initId bmB) (hcB : (Value.ref C :: bm).contains (.type B) = true) {M : Model} {e : Addr} {oe : Obj} {rest : List Value} {Q : Unit → Shared → Prop}
    (hC : h.get? C = some (excClassObj nm q C N bs bm hdct sn sub ab col dd k0 k1 k2 k3 k5 newId)) (he : h.get? e = some oe) (hcls : oe.cls = .ref C) (hq : Q () ⟨h, g, d, t, os⟩) :
    wpAny M A (checkBuiltinCall initId ⟨.ref e :: rest, []⟩) Q E ⟨h, g, d, t, os⟩ := by
  have hshort := F.noStar
  simp only [checkBuiltinCall, F.initKind, F.initSplit, F.initRow]
  repeat (first | (with_reducible refine wpAny_loadPart_at he ?_; rw [hcls]) | with_reducible refine wpAny_loadPart_at hC ?_ | (with_reducible refine wpAny_isSubtype_exc hC ?_; rw [hcB]) | wp_step)
  refine wpAny_onRaise ?_
  rw [show ∀ (a b : String) (n : Nat), Bind.check ⟨.positional, "*", B, .self, [⟨"args", .varPos, false⟩]⟩ a b n (List.map (fun x => x.fst) ({ pos := Value.ref e :: rest } : Args).kw) = pure () from
    fun a b n => check_star_args _ _ _ _ _ _]
  exact wpAny_pure hq
theorem init_call_O (F : ExcBaseFacts B nid initId bmB) (hcB : (Value.ref C :: bm).contains (.type B) = true) {e : Addr} {oe : Obj} {x : Addr} {a1 a2 a3 a4 a5 : Value} {rest : List Value} {Q : Value → Shared → Prop}
    (hC : h.get? C = some (excClassObj nm q C N bs bm hdct sn sub ab col dd k0 k1 k2 k3 k5 newId)) (he : h.get? e = some oe) (hcls : oe.cls = .ref C) (hd : oe.data = .fields #[.ref x, a1, a2, a3, a4, a5])
    (hq : Q .none ⟨(h.push { cls := .type "tuple", data := .seq rest.toArray }).update e (Obj.mapFields (·.setIfInBounds 0 (.ref h.objs.size))), g, d, t, os⟩) (hrest : rest.length ≤ sizeLine := by size_fits) :
    wpAny (model prog w) A (call (.builtin initId) (.ref e :: rest)) Q E ⟨h, g, d, t, os⟩ := by
  have he' := Heap.get?_push_of_some { cls := .type "tuple", data := .seq rest.toArray } he
  refine wpAny_call (codeAny_call_builtin F.init.plain F.initEntry (check_init_O F hcB hC he hcls ?_))
  wp_walk
  rw [hd]
  wp_walk
  rw [hd]
  simp only [if_pos (show 0 < (#[Value.ref x, a1, a2, a3, a4, a5] : Array Value).size from Nat.succ_pos 5)]
  refine wpAny_update he' ?_
  wp_walk
  exact hq
end
end PySem
set_option linter.all false
set_option maxRecDepth 100000
namespace PySem.W
open PySem PySem.Calls PyProof.Rows
section
variable {prog : Program} {w : World} {A : Around} {E : Value → Shared → Prop} {s : Shared} {K : Frag}
theorem ve_find : findCls [] (.type "ValueError") (.type "type") "__init__" = some (.val (.builtin "ValueError.__init__")) := by first | kernel_rfl | rfl
theorem ve_type : typeOf (.type "ValueError") = pure (.type "type") := by first | rfl | kernel_rfl
theorem ve_method {pl : Sem Bool} {Q : Value × List Value → Shared → Prop} (X : K.In s.heap) (h : Q (.builtin "ValueError.__init__", []) { s with toks := s.toks + 1 }) :
    wpAny (model prog w) A (getMethod (.type "ValueError") "__init__" pl) Q E s := by
  have hs : Manifest.isStub "ValueError" = false := by decide +kernel
  have hstub : opaqueClassAbove (.type "ValueError") = pure none := by unfold opaqueClassAbove; dsimp only; rw [hs]; rfl
  have L0 : Looks (model prog w) s.heap (typeOf (.type "ValueError")) (.type "type") := Looks.of_pure ve_type
  have hg : findIn K (.type "type") "__getattribute__" = some (some (.builtin "type.__getattribute__")) := type_tga
  have e : findCls K (.type "ValueError") (.type "type") "__init__" = some (.val (.builtin "ValueError.__init__")) := ve_find
  have hh : handedIn (.builtin "ValueError.__init__") = true := by decide +kernel
  unfold getMethod specialOf
  refine wpAny_bind (wpAny_bind (L0.here ((looks_findIn X hg).here ?_)))
  dsimp only
  rw [if_pos canon_tga]
  refine wpAny_bind (wpAny_mono (Q := fun v => Q (v, [])) (E := E) ?_ (fun _ _ z => wpAny_pure z) fun _ _ z => z)
  exact cls_open X (Looks.of_pure hstub) L0 hg (looks_hook X (r := none) (by rfl)) (by show subIn K _ _ = _; rfl) e
    (wpAny_pure (by show wpAny _ _ (handedOut _) _ _ _; rw [handedOut_of hh]; exact wpAny_pure h))
end
end PySem.W
set_option linter.all false
set_option maxRecDepth 100000
namespace PySem
open Sem (wp)
section
variable {M : Model} {A : Around} {E : Value → Shared → Prop} {env : Env}
variable {nm q : Str} {C N : Addr} {bs bm : List Value} {hdct : Bool} {sn : List Str} {sub : List Value} {ab : Bool} {col : Option Bool} {dd : Option Addr} {k0 k1 k2 k3 k5 : Option Value} {newId : String}
theorem raiseStmt_O {s : Shared} {x : Sem Value} {Q : Flow → Shared → Prop} (hbase : bm.contains (.type "BaseException") = true) (hh : A.handled = none)
    (h : wpAny M A x (fun v s₁ => ∃ e t dct, v = .ref e ∧ s₁.heap.get? C = some (excClassObj nm q C N bs bm hdct sn sub ab col dd k0 k1 k2 k3 k5 newId) ∧
      s₁.heap.get? e = some { cls := .ref C, dict := dct, data := .fields #[.ref t, .none, .none, .none, .bool false, .none] } ∧ E (.ref e) s₁) E s) :
    wpAny M A (raiseStmt env (some x) none) Q E s := by
  have hcB : (Value.ref C :: bm).contains (.type "BaseException") = true := by rw [List.contains_cons, hbase, Bool.or_true]
  unfold raiseStmt
  refine wpAny_bind (wpAny_mono h (fun v s₁ h₁ => ?_) fun _ _ x => x)
  obtain ⟨e, t, dct, rfl, hC, he, hE⟩ := h₁
  obtain ⟨hp, g, d, tk, os⟩ := s₁
  repeat (first | with_reducible refine wpAny_loadPart_at he ?_ | with_reducible refine wpAny_loadPart_at hC ?_ | (with_reducible refine wpAny_isSubtype_exc hC ?_; rw [hcB]) | wp_step)
  exact wpAny_raiseNew_none hh hE
theorem raise_O {s : Shared} {ex : Expr} {pos : Pos} {Q : Flow → Shared → Prop} (hbase : bm.contains (.type "BaseException") = true) (hh : A.handled = none)
    (h : wpAny M A (eval ex env) (fun v s₁ => ∃ e t dct, v = .ref e ∧ s₁.heap.get? C = some (excClassObj nm q C N bs bm hdct sn sub ab col dd k0 k1 k2 k3 k5 newId) ∧
      s₁.heap.get? e = some { cls := .ref C, dict := dct, data := .fields #[.ref t, .none, .none, .none, .bool false, .none] } ∧ E (.ref e) s₁) E s) :
    wpAny M A (exec (.Raise (some ex) none pos) env) Q E s := by
  rw [arm_exec_Raise]
  refine wpAny_bind (wpAny_standAt (raiseStmt_O (C := C) (nm := nm) (q := q) (N := N) (bs := bs) (bm := bm) (hdct := hdct) (sn := sn) (sub := sub) (ab := ab) (col := col) (dd := dd) (k0 := k0) (k1 := k1) (k2 := k2) (k3 := k3) (k5 := k5) (newId := newId) hbase hh ?_))
  refine wpAny_bind (wpAny_mono h (fun v s₃ h₃ => wpAny_bind (wpAny_standAt (wpAny_pure h₃))) fun _ _ x => x)
end
end PySem
set_option linter.all false
set_option maxRecDepth 100000
namespace PySem.W
open PySem PySem.Calls PyProof.Rows Builtin Builtin.ObjectAttr Builtin.Getset_descriptor
section
variable {prog : Program} {w : World} {A : Around} {E : Value → Shared → Prop} {s : Shared} {K : Frag} {R : Result → Shared → Prop} {x C : Addr}
theorem osa_any {ox : Obj} {od : Option Obj} {name : Str} {tk : Tok} {v : Value} {r : Option Value} {cd : ClassData} (X : K.In s.heap) (I : InstAt s.heap x ox C od) (hc : clsIn K C = some cd) (hob : mroIn K C (.type "object") = some true)
    (hpass : refuseLoop (.ref x) "__setattr__" cd.mro = pure ()) (ht : takerIn K C name = some r)
    (h : ∀ b, wpAny (model prog w) A.in1 (match r with | some a => setByDescriptor a (.ref x) v | none => storeInOwnDict (.ref x) (.ref C) (.str name tk) name v b)
      (fun fin s' => match fin with | .done f => R (.ok f) s' | .again c' => c'.quiet = true ∧ codeAny (model prog w) A c' R s') (fun e s' => R (.error e) s') s) :
    codeAny (model prog w) A (.call (.builtin "object.__setattr__") ⟨[.ref x, .str name tk, v], []⟩) R s := by
  have SF := PySem.F.store_object
  have sub : Looks (model prog w) s.heap (isInstance (.ref x) (.type "object")) true := I.type.andThen (looks_mroIn X hob)
  refine codeAny_call_builtin SF.slot.plain SF.entry (@check_slot (model prog w) _ _ s "object.__setattr__" "object" "__setattr__" (.ref x) [.str name tk, v] [] _ SF.kind SF.split sub (SF.args (.ref x) (.str name tk) v) ?_)
  obtain ⟨attr, ha, hr⟩ := Option.bind_eq_some_iff.mp ht
  have L3 : Looks (model prog w) s.heap (storeTaker? attr) r := by
    cases attr with
    | none => cases hr; exact .now
    | some a =>
      obtain ⟨b, hb, rfl⟩ := Option.map_eq_some_iff.mp hr
      refine (looks_takesIn X hb).andThen ?_
      cases b <;> exact .now
  have hm : Looks (model prog w) s.heap (mroOf (.ref C)) cd.mro := (looks_clsIn X hc).andThen .now
  rw [osa_eq, refuse_eq]
  refine wpAny_bind (wpAny_bind (I.type.here (wpAny_bind (hm.here ?_))))
  rw [hpass]
  exact wpAny_pure (wpAny_bind (I.type.here (wpAny_bind ((looks_findIn X ha).here (wpAny_bind (L3.here (h _)))))))
theorem pass_own (self : Value) : ∀ (own : List Addr), refuseLoop self "__setattr__" (own.map Value.ref ++ [.type "ValueError", .type "Exception", .type "BaseException", .type "object"]) = pure ()
  | [] => PySem.F.store_ValueError.passes self
  | a :: own => by
    rw [List.map_cons, List.cons_append, refuseLoop_ref]
    exact pass_own self own
end
end PySem.W
set_option linter.all false
set_option maxRecDepth 100000
namespace PySem.W
open PySem PySem.Calls PyProof.Rows Builtin Builtin.ObjectAttr Builtin.Getset_descriptor
section
variable {prog : Program} {w : World} {A : Around} {E : Value → Shared → Prop} {s : Shared} {K : Frag} {x C : Addr}
theorem set_first {name : Str} {v : Value} {vs : Array Value} {cd : ClassData} {Q : Unit → Shared → Prop} (X : K.In s.heap) (hx : s.heap.get? x = some { cls := .ref C, dict := none, data := .fields vs }) (hc : clsIn K C = some cd) (hdi : cd.hasDict = true)
    (hob : mroIn K C (.type "object") = some true) (hpass : refuseLoop (.ref x) "__setattr__" cd.mro = pure ()) (hs : findIn K (.ref C) "__setattr__" = some (some (.builtin "object.__setattr__"))) (ht : takerIn K C name = some none)
    (h : ∀ h', h'.Ns1 s.heap.objs.size (fun y => if y = name then some v else none) → h'.get? x = some { cls := .ref C, dict := some s.heap.objs.size, data := .fields vs } →
      (∀ b o, b ≠ x → s.heap.get? b = some o → h'.get? b = some o) → Q () { s with heap := h', toks := s.toks + 2 }) :
    wpAny (model prog w) A (setAttr (.ref x) name v) Q E s := by
  have I : InstAt s.heap x { cls := .ref C, dict := none, data := .fields vs } C none := ⟨hx, rfl, rfl, trivial⟩
  refine set_plain X I hs (osa_any (s := { s with toks := s.toks + 1 }) (r := none) X I hc hob hpass ht fun b => ?_)
  refine wpAny_bind (wpAny_pure (wpAny_bind (wpAny_bind (wpAny_loadPart hx (wpAny_bind (PySem.W.Looks.here (s := { s with toks := s.toks + 1 }) (PySem.W.looks_clsIn X hc) ?_))))))
  rw [hdi]
  dsimp only
  rw [if_neg (by decide), if_neg (by simp [typeHasDict])]
  have hx₁ : (s.heap.push { cls := .type "dict", data := .dict #[] }).get? x = some { cls := .ref C, dict := none, data := .fields vs } := Heap.get?_push_of_some _ hx
  have hxs : x ≠ s.heap.objs.size := Nat.ne_of_lt (Heap.lt_size hx)
  refine wpAny_bind (wpAny_alloc' ?_)
  refine wpAny_bind (wpAny_update' hx₁ ?_)
  refine wpAny_pure ?_
  have hgd : ((s.heap.push { cls := .type "dict", data := .dict #[] }).update x fun o => { cls := o.cls, dict := some s.heap.objs.size, data := o.data, slots := o.slots }).get? s.heap.objs.size = some { cls := .type "dict", data := .dict #[] } :=
    (Heap.get?_update_ne _ _ _ _ hxs.symm).trans (Heap.get?_push_at rfl rfl)
  have hnd : ((s.heap.push { cls := .type "dict", data := .dict #[] }).update x fun o => { cls := o.cls, dict := some s.heap.objs.size, data := o.data, slots := o.slots }).Ns s.heap.objs.size (fun _ => none) :=
    ⟨_, #[], _, hgd, rfl, fun e he => absurd he (by simp), fun _ => rfl⟩
  show wpAny _ _ (storeInDict s.heap.objs.size (.str name s.toks) name v) _ _ _
  unfold storeInDict newKeyGuard
  refine wpAny_bind (wpAny_pure (wpAny_bind (wpAny_nsSet1 (Heap.Ns1.of_empty hnd) fun h' hn' hs' => ?_)))
  obtain ⟨oD, esD, epD, hoD, hdD, hcD⟩ := hn'.count (Within.cons name v Within.nil)
  refine wpAny_bind (wpAny_lookBehind hoD (by rw [hdD]; exact pastItsLine_dict (Nat.le_trans hcD (by rw [List.length_cons, List.length_nil, sizeLine_eq]; omega))) ?_)
  refine wpAny_pure (h _ hn' ?_ fun b o hbx hb => ?_)
  · exact (hs'.2 x hxs).trans (Heap.get?_update_self _ hx₁ rfl)
  · exact (hs'.2 b (Nat.ne_of_lt (Heap.lt_size hb))).trans ((Heap.get?_update_ne _ _ _ _ hbx).trans (Heap.get?_push_of_some _ hb))
end
end PySem.W
set_option linter.all false
set_option maxRecDepth 100000
namespace PySem
open PySem PyProof.Rows
def TbAt (h : Heap) (T : Addr) : Prop := ∃ oT ts, h.get? T = some oT ∧ oT.data = .fields ts ∧ ts[3]? = some .none
structure LeftX (fs : List Addr) (e : Addr) (oe : Obj) (T : Addr) (old : Option Addr) (h h' : Heap) : Prop where
  new : h.objs.size ≤ T
  tb : TbAt h' T
  exc : h'.get? e = some (Obj.mapFields (·.setIfInBounds 1 (.ref T)) oe)
  keep : ∀ b o, h.get? b = some o → b ≠ e → some b ≠ old → b ∉ fs → h'.get? b = some o
  slot : ∀ b o, h.get? b = some o → b ≠ e → some b ≠ old → ∃ sl, h'.get? b = some { o with slots := sl }
section
variable {M : Model} {A : Around} {E : Value → Shared → Prop} {s : Shared}
theorem entry_X {base : Heap} {env : Env} {outer : List Env} {L e : Addr} {oe : Obj} {vs : Array Value} {head : Value} {hadNext : Bool} {Q : Unit → Shared → Prop}
    (hfr : A.frames = some (env :: outer)) (hl : s.heap.FunFrames base (env :: outer)) (hf : env.frame = some L)
    (he : s.heap.get? e = some oe) (hd : oe.data = .fields vs) (hsz : 1 < vs.size)
    (h : ∀ T h', LeftX ((env :: outer).filterMap (·.frame)) e oe T none s.heap h' → Q () { s with heap := h' }) :
    wpAny M A (do let a ← frameOf env; let pl ← entryPlaceOf L hadNext; let b ← EntryCells.newEntry head a .none (rawInt L) .none pl; setField (.ref e) 1 b) (fun _ s' => wpAny M A (setFlight (.ref e) none) Q E s') E s := by
  have hene : e ∉ (env :: outer).filterMap (·.frame) := fun hm => by
    obtain ⟨_, o, ho, hnf⟩ := hl.mem hm
    rw [he] at ho; injection ho with ho; subst ho; exact hnf vs hd
  refine wpAny_bind (wpAny_frameOf_fun hfr hl hf fun h₁ hs₁ => ?_)
  refine wpAny_bind (wpAny_entryPlaceOf fun pl hpl => ?_)
  unfold EntryCells.newEntry newFields
  refine wpAny_bind (wpAny_newObj_type ?_ (hpl.sizeOk5 _ _ _ _ _))
  have he₁ : h₁.get? e = some oe := (hs₁.2.1 e hene).trans he
  generalize hob : ({ cls := .type "traceback", dict := none, data := .fields ([head, .ref L, .none, rawInt L, .none] ++ (if pl.isEmpty then List.replicate 6 Value.none else pl)).toArray } : Obj) = ob
  have hdo : ob.data = .fields ([head, .ref L, .none, rawInt L, .none] ++ (if pl.isEmpty then List.replicate 6 Value.none else pl)).toArray := by rw [← hob]
  have he₂ := Heap.get?_push_of_some (h := h₁) ob he₁
  refine wpAny_setField he₂ hd hsz ?_
  have hTe : h₁.objs.size ≠ e := Nat.ne_of_gt (Heap.lt_size he₁)
  have hd₃ := Obj.data_mapFields hd (·.setIfInBounds 1 (Value.ref h₁.objs.size))
  have he₃ := Heap.get?_update_self (Obj.mapFields (·.setIfInBounds 1 (Value.ref h₁.objs.size))) he₂ (Obj.isFreed_of_fields hd₃)
  have hT₃ := (Heap.get?_update_other (h₁.push ob) (Obj.mapFields (·.setIfInBounds 1 (Value.ref h₁.objs.size))) (Ne.symm hTe)).trans (Heap.get?_push_size h₁ (Obj.isFreed_of_fields hdo))
  unfold setFlight
  refine wpAny_bind (wpAny_field he₃ hd₃ (x := .ref h₁.objs.size) (by simp [hsz]) ?_)
  rw [if_pos (show (Value.ref h₁.objs.size != Value.none) = true from by simp)]
  have h3 : 3 < ([head, .ref L, .none, rawInt L, .none] ++ (if pl.isEmpty then List.replicate 6 Value.none else pl)).toArray.size := by simp only [List.size_toArray, List.length_append, List.length_cons, List.length_nil]; omega
  refine wpAny_setField hT₃ hdo h3 (h h₁.objs.size _ ?_)
  have keep : ∀ b o, b ≠ e → h₁.get? b = some o →
      (((h₁.push ob).update e (Obj.mapFields (·.setIfInBounds 1 (Value.ref h₁.objs.size)))).update h₁.objs.size
        (Obj.mapFields (·.setIfInBounds 3 ((none : Option Addr).elim Value.none fun f => rawInt f)))).get? b = some o := fun b o hbe hb => by
    have hbT : h₁.objs.size ≠ b := Nat.ne_of_gt (Heap.lt_size hb)
    rw [Heap.get?_update_other _ _ hbT, Heap.get?_update_other _ _ (Ne.symm hbe)]
    exact Heap.get?_push_of_some _ hb
  have hdT := Obj.data_mapFields hdo (·.setIfInBounds 3 ((none : Option Addr).elim Value.none fun f => rawInt f))
  refine ⟨?_, ⟨_, _, Heap.get?_update_self _ hT₃ (Obj.isFreed_of_fields hdT), hdT, by simp [h3]⟩, ?_, fun b o hb hbe _ hbf => keep b o hbe ((hs₁.2.1 b hbf).trans hb), fun b o hb hbe _ => ?_⟩
  · exact Nat.le_of_eq hs₁.1.symm
  · rw [Heap.get?_update_other _ _ hTe]; exact he₃
  · obtain ⟨sl, hz⟩ := hs₁.2.2 b o hb
    exact ⟨sl, keep b _ hbe hz⟩
theorem leaving_first_X {base : Heap} {env : Env} {outer : List Env} {L e : Addr} {oe : Obj} {vs : Array Value} {Q : Unit → Shared → Prop}
    (hfr : A.frames = some (env :: outer)) (hl : s.heap.FunFrames base (env :: outer)) (hf : env.frame = some L)
    (he : s.heap.get? e = some oe) (hd : oe.data = .fields vs) (h1 : vs[1]? = some .none)
    (h : ∀ T h', LeftX ((env :: outer).filterMap (·.frame)) e oe T none s.heap h' → Q () { s with heap := h' }) : wpAny M A (leaving env (.ref e)) Q E s := by
  unfold leaving noteFrame
  simp only [hf]
  refine wpAny_bind (wpAny_bind (wpAny_field he hd h1 ?_))
  rw [if_neg (by decide)]
  exact entry_X hfr hl hf he hd (Array.getElem?_eq_some_iff.mp h1).1 h
end
end PySem
set_option linter.all false
set_option maxRecDepth 100000
namespace PySem
open PySem PyProof.Rows
section
variable {M : Model} {A : Around} {E : Value → Shared → Prop} {s : Shared}
theorem note_next_X {base : Heap} {env : Env} {outer : List Env} {L e T : Addr} {oe : Obj} {vs : Array Value} {Q : Unit → Shared → Prop}
    (hfr : A.frames = some (env :: outer)) (hl : s.heap.FunFrames base (env :: outer)) (hf : env.frame = some L)
    (he : s.heap.get? e = some oe) (hd : oe.data = .fields vs) (h1 : vs[1]? = some (.ref T)) (hT : TbAt s.heap T) (hTe : T ≠ e)
    (h : ∀ T' h', LeftX ((env :: outer).filterMap (·.frame)) e oe T' (some T) s.heap h' → Q () { s with heap := h' }) : wpAny M A (noteFrame (.ref e) env) (fun _ s' => wpAny M A (setFlight (.ref e) none) Q E s') E s := by
  obtain ⟨oT, ts, hT, hdT, h3⟩ := hT
  unfold noteFrame
  simp only [hf]
  refine wpAny_bind ((wpAny_field he hd h1 ?_))
  rw [if_pos (show (Value.ref T != Value.none) = true from by simp)]
  refine wpAny_bind (wpAny_field hT hdT h3 ?_)
  rw [if_neg (show ¬ ((Value.none == rawInt L) = true) from by simp [rawInt])]
  refine wpAny_bind (wpAny_setField hT hdT (Array.getElem?_eq_some_iff.mp h3).1 ?_)
  have other : ∀ b, b ≠ T → (s.heap.update T (Obj.mapFields (·.setIfInBounds 3 Value.none))).get? b = s.heap.get? b := fun b hb => Heap.get?_update_other _ _ (Ne.symm hb)
  have hl' : (s.heap.update T (Obj.mapFields (·.setIfInBounds 3 Value.none))).FunFrames base (env :: outer) := hl.of_keeps fun b o hb hnf =>
    ⟨o, (other b fun q => by rw [q, hT] at hb; injection hb with hb; subst hb; exact hnf ts hdT).trans hb, rfl⟩
  exact entry_X (s := { s with heap := s.heap.update T (Obj.mapFields (·.setIfInBounds 3 Value.none)) }) hfr hl' hf ((other e (Ne.symm hTe)).trans he) hd (Array.getElem?_eq_some_iff.mp h1).1 fun T' h' x =>
    h T' h' ⟨(Heap.size_after_update s.heap T _) ▸ x.new, x.tb, x.exc, fun b o hb hbe hbt hbf => x.keep b o ((other b fun q => hbt (by rw [q])).trans hb) hbe (by simp) hbf, fun b o hb hbe hbt => x.slot b o ((other b fun q => hbt (by rw [q])).trans hb) hbe (by simp)⟩
end
end PySem
set_option linter.all false
set_option maxRecDepth 100000
namespace PySem.W
open PySem PySem.Calls PyProof.Rows Builtin Builtin.ObjectAttr
section
variable {prog : Program} {w : World} {A : Around} {E : Value → Shared → Prop} {s : Shared} {K : Frag} {x C : Addr} {ox : Obj} {od : Option Obj} {name : Str} {expr : Bool} {Q : Value → Shared → Prop}
theorem check_bga {M : Model} {nameV : Value} {Q : Unit → Shared → Prop} (X : K.In s.heap) (I : InstAt s.heap x ox C od) (hB : mroIn K C (.type "BaseException") = some true) (hq : Q () s) :
    wpAny M A (checkBuiltinCall "BaseException.__getattribute__" ⟨[.ref x, nameV], []⟩) Q E s := by
  have hk : builtinKind "BaseException.__getattribute__" = some .slot := by decide +kernel
  have hsplit : splitId "BaseException.__getattribute__" = some ("BaseException", "__getattribute__") := by decide +kernel
  have sub : Looks M s.heap (isInstance (.ref x) (.type "BaseException")) true := I.type.andThen (looks_mroIn X hB)
  exact @check_slot M A E s "BaseException.__getattribute__" "BaseException" "__getattribute__" (.ref x) [nameV] [] Q hk hsplit sub (F.args_bexc_ga (.ref x) nameV) hq
theorem exc_entry {tk : Tok} {v : Value} {Q : Fin → Shared → Prop} (X : K.In s.heap) (I : InstAt s.heap x ox C od) (hf : findObj K C od name = some (.value v)) (hq : Q (.done (.ret v)) s) :
    wpAny (model prog w) A (Builtin.«object.__getattribute__» ⟨[.ref x, .str name tk], []⟩) Q E s := by
  obtain ⟨hh', g, d, t, os⟩ := s
  have L0 := I.type (M := model prog w)
  have L1 := looks_find (M := model prog w) X I hf
  unfold Builtin.«object.__getattribute__»
  refine wpAny_bind (wpAny_pure (wpAny_bind (wpAny_pure (wpAny_bind (L0.at (wpAny_bind (L1.at ?_)))))))
  exact wpAny_pure hq
theorem exc_by {tk : Tok} {fill : Bool} {v : Value} (X : K.In s.heap) (I : InstAt s.heap x ox C od) (hga : findIn K (.ref C) "__getattribute__" = some (some (.builtin "BaseException.__getattribute__"))) (hgt : findIn K (.ref C) "__getattr__" = some none)
    (hB : mroIn K C (.type "BaseException") = some true) (hf : findObj K C od name = some (.value v)) (hh : handedIn v = true) (h : Q v s) : wpAny (model prog w) A (getAttrBy (.ref x) (.str name tk) fill expr) Q E s := by
  obtain ⟨hp, g, d, t, os⟩ := s
  have L0 := I.type (M := model prog w)
  have L1 := looks_findIn (M := model prog w) X hga
  have L2 := looks_findIn (M := model prog w) X hgt
  have hx0 : (expr && onTheHeap (Value.builtin "BaseException.__getattribute__")) = false := by cases expr <;> rfl
  have hx2 : (Value.builtin "BaseException.__getattribute__" == Value.builtin "object.__getattribute__") = false := by decide +kernel
  unfold getAttrBy
  refine wpAny_holding (wpAny_bind (L0.at (wpAny_bind (L1.at ?_))))
  dsimp only
  rw [hx2, Bool.and_false, if_neg Bool.false_ne_true]
  unfold getAttrByItsOwn hookBefore
  rw [if_pos (show onTheHeap (Value.ref C) = true from rfl)]
  refine wpAny_bind (L2.at (wpAny_bind (wpAny_attempt (wpAny_holding ?_))))
  unfold callGetattribute
  rw [hx0, if_neg Bool.false_ne_true]
  unfold boundAndCalled
  rw [F.attr_ValueError.ga.bind]
  refine wpAny_bind (wpAny_pure ?_)
  refine wpAny_call (codeAny_call_builtin F.attr_ValueError.ga.plain F.entry_bexc_ga (check_bga X I hB (exc_entry X I hf ?_)))
  show wpAny _ _ (handedOut v) _ _ _
  rw [handedOut_of hh]
  exact wpAny_pure h
theorem exc_get {v : Value} (X : K.In s.heap) (I : InstAt s.heap x ox C od) (hga : findIn K (.ref C) "__getattribute__" = some (some (.builtin "BaseException.__getattribute__"))) (hgt : findIn K (.ref C) "__getattr__" = some none)
    (hB : mroIn K C (.type "BaseException") = some true) (hf : findObj K C od name = some (.value v)) (hh : handedIn v = true) (h : Q v { s with toks := s.toks + 1 }) : wpAny (model prog w) A (getAttr (.ref x) name expr) Q E s := by
  unfold getAttr
  refine wpAny_bind (wpAny_mkText ?_)
  exact exc_by (s := { s with toks := s.toks + 1 }) X I hga hgt hB hf hh h
end
end PySem.W
set_option linter.all false
set_option maxRecDepth 100000
namespace PySem
open Sem (wp)
section
variable {prog : Program} {w : World} {A : Around} {R : Result → Shared → Prop} {E : Value → Shared → Prop} {h : Heap} {g : Array GenState} {d : Drawn} {t : Nat} {os : OsState}
variable {nm q : Str} {C N : Addr} {bs bm : List Value} {hdct : Bool} {sn : List Str} {sub : List Value} {ab : Bool} {col : Option Bool} {dd : Option Addr} {k0 k1 k2 k3 k5 : Option Value} {Bn newId inN : String} {bmN : List Value}
theorem type_call_L (Fn : ExcBaseFacts Bn newId inN bmN) (hcB : (Value.ref C :: bm).contains (.type Bn) = true) (hcA : (Value.ref C :: bm).contains (.type "AttributeError") = false) (hcN : (Value.ref C :: bm).contains (.type "NameError") = false) {rest : List Value} {fI : Addr} {oI : Obj} {Q : Fin → Shared → Prop}
    (hC : h.get? C = some (excClassObj nm q C N bs bm hdct sn sub ab col dd k0 k1 k2 k3 k5 newId)) (T : PySem.W.Looks (model prog w) h (typeLookup (.ref C) "__init__") (some (.ref fI))) (hfI : h.get? fI = some oI) (hfc : oI.cls = .type "function")
    (hq : ∀ h' e, Heap.MadeExcOf h h' e (.ref C) rest →
      wpAny (model prog w) A (call (.ref fI) (.ref e :: rest)) (fun r s' => r = .none ∧ Q (.done (.ret (.ref e))) s') E ⟨h', g, d, t, os⟩) (hrest : rest.length ≤ sizeLine := by size_fits) :
    wpAny (model prog w) A (Builtin.«type.__call__» ⟨.ref C :: rest, []⟩) Q E ⟨h, g, d, t, os⟩ := by
  repeat (first | with_reducible refine wpAny_loadPart_at hC ?_ | with_reducible refine wpAny_madeBy_exc hC ?_ | wp_step)
  have hcB' : bm.contains (.type Bn) = true := by rw [List.contains_cons] at hcB; exact hcB
  refine codeAny_call_builtin_code (Code.quiet_builtin _ Fn.quiet) (wpAny_check_new_subU Fn hcB' .base hC ?_)
  refine exc_new_O Fn hcB hcA hcN hC ?_ hrest
  show wpAny _ _ _ _ _ _
  have hk : ∀ b o, h.get? b = some o → ((h.push { cls := .type "tuple", data := .seq rest.toArray }).push { cls := .ref C, data := .fields #[.ref h.objs.size, .none, .none, .none, .bool false, .none] }).get? b = some o :=
    fun b o e => Heap.get?_push_of_some _ (Heap.get?_push_of_some _ e)
  have hC₁ := hk _ _ hC
  have hfI₁ := hk _ _ hfI
  have T₁ := T.keeps hk
  have hget : ((h.push { cls := .type "tuple", data := .seq rest.toArray }).push
      { cls := .ref C, data := .fields #[.ref h.objs.size, .none, .none, .none, .bool false, .none] }).get? (h.objs.size + 1) = some
      { cls := .ref C, data := .fields #[.ref h.objs.size, .none, .none, .none, .bool false, .none] } := by heap_get
  have hcC : (Value.ref C :: bm).contains (.ref C) = true := by simp
  unfold isInstance
  repeat (first | with_reducible refine wpAny_loadPart_at hget ?_ | (with_reducible refine wpAny_isSubtype_exc hC₁ ?_; rw [hcC]) | wp_step)
  show wpAny _ _ (typeLookup (.ref C) _) _ _ _
  refine T₁.at ?_
  refine wpAny_holding (wpAny_bind ?_)
  unfold bindSpecial
  refine wpAny_bind (wpAny_typeOf (T := "function") ⟨_, hfI₁, hfc⟩ ?_)
  rw [if_pos (by decide)]
  refine wpAny_pure (wpAny_bind (wpAny_mono (hq _ (h.objs.size + 1) ⟨hk, Heap.get?_none_of_le (Nat.le_succ _), h.objs.size, hget, Heap.get?_none_of_le (Nat.le_refl _), ?_⟩) (fun r s' hr => ?_) fun _ _ x => x))
  · exact Heap.get?_push_of_some _ (Heap.get?_push_at rfl rfl)
  · obtain ⟨rfl, hQ⟩ := hr
    wp_walk
    exact hQ
theorem call_exc_L (Fn : ExcBaseFacts Bn newId inN bmN) (hcB : (Value.ref C :: bm).contains (.type Bn) = true) (hcA : (Value.ref C :: bm).contains (.type "AttributeError") = false) (hcN : (Value.ref C :: bm).contains (.type "NameError") = false) {rest : List Value} {fI : Addr} {oI : Obj} {Q : Value → Shared → Prop}
    (hC : h.get? C = some (excClassObj nm q C N bs bm hdct sn sub ab col dd k0 k1 k2 k3 k5 newId)) (T : PySem.W.Looks (model prog w) h (typeLookup (.ref C) "__init__") (some (.ref fI))) (hfI : h.get? fI = some oI) (hfc : oI.cls = .type "function")
    (hq : ∀ h' e, Heap.MadeExcOf h h' e (.ref C) rest →
      wpAny (model prog w) (A.under (.builtin "type.__call__" ⟨.ref C :: rest, []⟩)) (call (.ref fI) (.ref e :: rest)) (fun r s' => r = .none ∧ Q (.ref e) s') E ⟨h', g, d, t, os⟩) (hrest : rest.length ≤ sizeLine := by size_fits) :
    wpAny (model prog w) A (call (.ref C) rest) Q E ⟨h, g, d, t, os⟩ := by
  have f1 := tc_lookup
  have f2 := tc_bind (.ref C)
  have hT : (⟨h, g, d, t, os⟩ : Shared).TypeIs (.ref C) "type" := ⟨_, hC, rfl⟩
  refine wpAny_call (codeAny_of_tree ?_)
  show wpAny _ _ (callAny (.ref C) _) _ _ _
  repeat (any_goals (first | assumption | with_reducible refine wpAny_loadPart_at hC ?_ | wp_step))
  refine ⟨rfl, ?_⟩
  refine codeAny_call_builtin_at (Code.quiet_builtin _ (by decide +kernel)) entry_typeCall (wpAny_check_type_call_sub hC (type_call_L (hrest := hrest) Fn hcB hcA hcN hC T hfI hfc fun h' e hm => ?_))
  exact hq h' e hm
end
end PySem
set_option linter.all false
set_option maxRecDepth 100000
namespace L2
open PySem PySem.Spec PyProof.Rows
def ExcF (e C : Addr) (od : Option Addr) : Heap → Prop := fun h => ∃ t, h.get? e = some { cls := .ref C, dict := od, data := .fields #[.ref t, .none, .none, .none, .bool false, .none] }
def ExcP (e C : Addr) (od : Option Addr) : Heap → Prop := fun h => ∃ t tb, h.get? e = some { cls := .ref C, dict := od, data := .fields #[.ref t, tb, .none, .none, .bool false, .none] }
theorem excF_ok {P : Program} {w : World} {H : Hp} {h : Heap} {e C : Addr} {od : Option Addr} {t : Addr} (x : h.get? e = some { cls := .ref C, dict := od, data := .fields #[.ref t, .none, .none, .none, .bool false, .none] }) : ObjOk P w H h e (.ext (ExcF e C od)) :=
  ⟨⟨t, x⟩, ⟨_, x⟩, fun _ _ ⟨t', y⟩ k => ⟨t', k _ y⟩⟩
theorem excP_ok {P : Program} {w : World} {H : Hp} {h : Heap} {e C : Addr} {od : Option Addr} {t : Addr} {tb : Value} (x : h.get? e = some { cls := .ref C, dict := od, data := .fields #[.ref t, tb, .none, .none, .bool false, .none] }) : ObjOk P w H h e (.ext (ExcP e C od)) :=
  ⟨⟨t, tb, x⟩, ⟨_, x⟩, fun _ _ ⟨t', tb', y⟩ k => ⟨t', tb', k _ y⟩⟩
def xclsIn (K : PySem.W.Frag) (C : Addr) : Bool := match K.lookup C with
  | some ⟨.type "type", _, .cls cd, sl⟩ => (match cd.mro, sl.toList with
    | .ref C' :: bm, [_, _, _, _, some (.builtin n), _] => C' == C && !cd.hasDel && cd.hasDict && bm.contains (.type "BaseException") && bm.contains (.type "ValueError") && !bm.contains (.type "AttributeError") && !bm.contains (.type "NameError") && bm.contains (.type "object") && n == "ValueError.__new__"
    | _, _ => false)
  | _ => false
def ownRest : List Value → List Value
  | .ref _ :: r => ownRest r
  | l => l
theorem ownRest_of : ∀ l : List Value, ∃ own : List Addr, l = own.map Value.ref ++ ownRest l
  | [] => ⟨[], rfl⟩
  | .ref a :: r => let ⟨own, e⟩ := ownRest_of r; ⟨a :: own, by show _ = Value.ref a :: (own.map Value.ref ++ ownRest r); rw [← e]⟩
  | .type n :: r => ⟨[], rfl⟩
  | .none :: r => ⟨[], rfl⟩
  | .bool b :: r => ⟨[], rfl⟩
  | .int i t :: r => ⟨[], rfl⟩
  | .str i t :: r => ⟨[], rfl⟩
  | .bytes i t :: r => ⟨[], rfl⟩
  | .float i t :: r => ⟨[], rfl⟩
  | .builtin i :: r => ⟨[], rfl⟩
  | v :: r => by
    cases v <;> first | exact ⟨[], rfl⟩ | (rename_i a; exact (let ⟨own, e⟩ := ownRest_of r; ⟨a :: own, by show _ = Value.ref a :: (own.map Value.ref ++ ownRest r); rw [← e]⟩))
def veTail : List Value := [.type "ValueError", .type "Exception", .type "BaseException", .type "object"]
structure ExC (K : PySem.W.Frag) (C : Addr) : Prop where
  ok : xclsIn K C = true
  tl : (PySem.W.clsIn K C).any (fun cd => ownRest cd.mro == veTail) = true
  ga : PySem.W.findIn K (.ref C) "__getattribute__" = some (some (.builtin "BaseException.__getattribute__"))
  gt : PySem.W.findIn K (.ref C) "__getattr__" = some none
  sa : PySem.W.findIn K (.ref C) "__setattr__" = some (some (.builtin "object.__setattr__"))
  cl : PySem.W.findIn K (.ref C) "__class__" = some (some (.builtin "object.__class__"))
theorem ExC.cls {K : PySem.W.Frag} {C : Addr} (c : ExC K C) : ∃ cd bm, PySem.W.clsIn K C = some cd ∧ cd.mro = .ref C :: bm ∧ cd.hasDict = true ∧ bm.contains (.type "BaseException") = true ∧ bm.contains (.type "ValueError") = true ∧ bm.contains (.type "object") = true ∧ bm.contains (.type "AttributeError") = false ∧ bm.contains (.type "NameError") = false ∧
    (∃ own : List Addr, cd.mro = own.map Value.ref ++ veTail) := by
  have q := c.ok
  have z := c.tl
  unfold xclsIn at q
  unfold PySem.W.clsIn at z ⊢
  split at q
  · rename_i dd cd sl ho
    rw [ho] at z ⊢
    have z : (ownRest cd.mro == veTail) = true := z
    split at q
    · rename_i C' bm k0 k1 k2 k3 n k5 hm hs
      simp only [Bool.and_eq_true, beq_iff_eq, Bool.not_eq_true'] at q
      obtain ⟨⟨⟨⟨⟨⟨⟨⟨rfl, hdel⟩, hdi⟩, hb⟩, hv⟩, ha⟩, hn⟩, ho2⟩, hnew⟩ := q
      obtain ⟨own, e⟩ := ownRest_of cd.mro
      rw [beq_iff_eq.mp z] at e
      exact ⟨cd, bm, rfl, hm, hdi, hb, hv, ho2, ha, hn, own, e⟩
    · cases q
  · cases q
theorem ExC.lk {K : PySem.W.Frag} {C : Addr} (c : ExC K C) : ∃ nm qn N bs bm hdct sn sub ab col dd k0 k1 k2 k3 k5,
    K.lookup C = some (excClassObj nm qn C N bs bm hdct sn sub ab col dd k0 k1 k2 k3 k5 "ValueError.__new__") ∧ bm.contains (.type "BaseException") = true ∧ (Value.ref C :: bm).contains (.type "ValueError") = true ∧ (Value.ref C :: bm).contains (.type "AttributeError") = false ∧ (Value.ref C :: bm).contains (.type "NameError") = false := by
  have q := c.ok
  unfold xclsIn at q
  split at q
  · rename_i dd cd sl ho
    split at q
    · rename_i C' bm k0 k1 k2 k3 n k5 hm hs
      simp only [Bool.and_eq_true, beq_iff_eq, Bool.not_eq_true'] at q
      obtain ⟨⟨⟨⟨⟨⟨⟨⟨rfl, hdel⟩, hdi⟩, hb⟩, hv⟩, ha⟩, hn⟩, ho2⟩, rfl⟩ := q
      obtain ⟨nm, bs, mro, ns, qn, hd, sn, sub, ab, col, del⟩ := cd
      dsimp only at hm hdel
      subst hm hdel
      have hsl : sl = #[k0, k1, k2, k3, some (.builtin "ValueError.__new__"), k5] := by
        obtain ⟨l⟩ := sl
        simp only at hs
        rw [hs]
      subst hsl
      refine ⟨nm, qn, ns, bs, bm, hd, sn, sub, ab, col, dd, k0, k1, k2, k3, k5, ho, hb, ?_, ?_, ?_⟩
      · rw [List.contains_cons, hv, Bool.or_true]
      · rw [List.contains_cons, ha]; rfl
      · rw [List.contains_cons, hn]; rfl
    · cases q
  · cases q
theorem ExC.obj {K : PySem.W.Frag} {C : Addr} (c : ExC K C) {h : Heap} (X : K.In h) : ∃ nm qn N bs bm hdct sn sub ab col dd k0 k1 k2 k3 k5,
    h.get? C = some (excClassObj nm qn C N bs bm hdct sn sub ab col dd k0 k1 k2 k3 k5 "ValueError.__new__") ∧ bm.contains (.type "BaseException") = true ∧ (Value.ref C :: bm).contains (.type "ValueError") = true ∧ (Value.ref C :: bm).contains (.type "AttributeError") = false ∧ (Value.ref C :: bm).contains (.type "NameError") = false :=
  let ⟨nm, qn, N, bs, bm, hdct, sn, sub, ab, col, dd, k0, k1, k2, k3, k5, h, r⟩ := c.lk
  ⟨nm, qn, N, bs, bm, hdct, sn, sub, ab, col, dd, k0, k1, k2, k3, k5, X _ _ h, r⟩
section
variable {P : Program} {w : World} {H : Hp} {h h' : Heap} {fs ex : List Addr} {a : Addr} {o : HO}
theorem HOk.at_none (x : HOk P w H h) (hn : h.get? a = none) : H a = none := by
  cases e : H a with
  | none => rfl
  | some o =>
    have := x a o e
    cases o with
    | lst xs => obtain ⟨_, _, _, _, z⟩ := this; rw [hn] at z; cases z
    | tup xs => obtain ⟨_, _, _, o, z, _⟩ := this; rw [hn] at z; cases z
    | dK kvs => obtain ⟨_, _, _, _, o, _, _, z, _⟩ := this; rw [hn] at z; cases z
    | dT kvs => obtain ⟨_, _, _, _, o, _, _, z, _⟩ := this; rw [hn] at z; cases z
    | set S n => obtain ⟨o, _, _, _, z, _⟩ := this; rw [hn] at z; cases z
    | ins C dx fs => obtain ⟨_, _, _, z, _⟩ := this; rw [hn] at z; cases z
    | own y => obtain ⟨_, z⟩ := this; rw [hn] at z; cases z
    | xd fs => obtain ⟨_, ⟨_, _, _, z, _⟩, _⟩ := this; rw [hn] at z; cases z
    | rng lo hi => obtain ⟨_, _, _, z⟩ := this; rw [hn] at z; cases z
    | frz ob u => obtain ⟨z, _⟩ := this; rw [hn] at z; cases z
    | tbl ps => have z : h.get? a = some _ := this; rw [hn] at z; cases z
    | met f y => have z : h.get? a = some _ := this; rw [hn] at z; cases z
    | ext φ => obtain ⟨_, ⟨_, z⟩, _⟩ := this; rw [hn] at z; cases z
theorem HOk.laidN (x : HOk P w H h) (k : ∀ b u, h.get? b = some u → h'.get? b = some u) (hn : h.get? a = none) (new : ObjOk P w (upd H a o) h' a o) : HOk P w (upd H a o) h' := fun b u e => by
  have hn := x.at_none hn
  by_cases hb : b = a
  · subst hb; rw [upd_same] at e; cases e; exact new
  · rw [upd_ne hb] at e
    exact (x b u e).stay (fun c v _ q => k c v q) (fun c q => by rw [upd_ne (ne_of_none q hn)]; exact q) fun c xs q => by rw [upd_ne (ne_of_none q hn)]; exact q
theorem Un.laidN (k : ∀ b u, h.get? b = some u → h'.get? b = some u) (hn : h.get? a = none) (hN : H a = none) : Un fs ex H (upd H a o) h h' where
  keep := fun b ob q _ _ _ => k b ob q
  slot := fun b ob q _ _ _ => ⟨ob.slots, k b ob q⟩
  free := fun b ob q n _ => by rw [upd_ne (fun z => by subst z; rw [hn] at q; cases q)]; exact n
  there := fun b ob q _ => ⟨ob, k b ob q⟩
  tups := fun b xs q => by rw [upd_ne (ne_of_none q hN)]; exact q
  frzs := fun b ob xs q => by rw [upd_ne (ne_of_none q hN)]; exact q
  tbls := fun b ps q => ⟨#[], by rw [upd_ne (ne_of_none q hN), Array.append_empty]; exact q⟩
end
theorem Inv.laidN {X : Cx} {pins : List (Addr × Obj)} {σ : St} {H : Hp} {s : Shared} {a : Addr} {o : HO} {h' : Heap} {t' : Nat} (I : Inv X pins σ H s) (k : ∀ b u, s.heap.get? b = some u → h'.get? b = some u) (hn : s.heap.get? a = none) (new : ObjOk X.prog X.w (upd H a o) h' a o) :
    Inv X pins σ (upd H a o) { s with heap := h', toks := t' } := I.un (Un.laidN k hn (I.hok.at_none hn)) (I.hok.laidN k hn new)
end L2
set_option linter.all false
set_option maxRecDepth 100000
namespace L2
open PySem PySem.Spec PyProof.Rows
section
variable {X : Cx} {pins : List (Addr × Obj)} {σ : St} {H : Hp} {s : Shared}
theorem Inv.old_none (I : Inv X pins σ H s) (hx : X.ex = []) {b : Addr} (h : s.heap.get? b = none) : X.s_0.heap.get? b = none := by
  cases q : X.s_0.heap.get? b with
  | none => rfl
  | some o => obtain ⟨o', z⟩ := I.base.there b o q (by rw [hx]; simp); rw [h] at z; cases z
end
theorem Vals.two_inv {vs : List V} {us : List Value} {v y : V} (r : Vals vs us) (e : vs = [v, y]) : ∃ u z, us = [u, z] ∧ RelV v u ∧ RelV y z := by
  subst e; cases r with | cons a t => cases t with | cons b t => cases t; exact ⟨_, _, rfl, a, b⟩
section
variable {X : Cx} {CX : CXT} {k : Nat} {f C C0 : Addr} {fd : FuncData} {ps : List Str} {sp : Sp} {dvs : List V} {ds : List Value} {E : XK} {x m : Str} {p pos apos : Pos} {e o a b value : Expr} {es : List Expr} {ta tv : TE} {t : TA}
def tVe (K : PySem.W.Frag) (ta : TA) : TE := fun σ H Q => ta σ H fun vs H1 => ∃ e C y, vs = [V.ref e, y] ∧ H1 e = some (.ext (ExcF e C none)) ∧ ExC K C ∧ Q .non H1
theorem pe_veInit {pl : Sem Bool} (hg : Gl X "ValueError") (hm : X.mg "ValueError" = none) (ha : PA X (a :: es) t) (hbt : bootBuiltins "ValueError" = some (.type "ValueError") := by decide +kernel)
    (he : starEach (a :: es) X.env = (false, eval a X.env) :: starEach es X.env := by rfl) (hpl : (backTo pos (starEach es X.env)).any (·.1) = false := by rfl)
    (ht : eval (.Call (.Attribute (.Name "ValueError" p) "__init__" apos) (a :: es) [] pos) X.env = (do
      let ov ← eval (.Name "ValueError" p) X.env
      standAt apos.atName
      let (f, first) ← holding [ov] (getMethod ov "__init__" pl)
      callWith pos f first (backTo pos (starEach (a :: es) X.env)) (backToKw pos (keywordEach [] X.env))) := by rfl) :
    PE X (.Call (.Attribute (.Name "ValueError" p) "__init__" apos) (a :: es) [] pos) (tVe X.K t) := by
  intro pins s σ H Q I h
  refine PySem.W.methodCall_KW (pl := pl) (ld_blt I hg hm hbt ?_) ht
  refine PySem.W.ve_method I.kIn ?_
  have I := I.tok (s.toks + 1)
  refine PyProof.Rows.callWith_builtin1 (thn (ha pos pins _ σ H _ I h) fun us s1 ⟨vs, H1, I1, r, e, C, y, ev, hE, xc, q⟩ => ?_) he hpl
  obtain ⟨u, z, rfl, ru, rz⟩ := r.two_inv ev
  obtain rfl : u = Value.ref e := ru
  obtain ⟨nm, qn, N, bs, bm, hdct, sn, sub, ab, col, dd, k0, k1, k2, k3, k5, hC, hb, hv, _, _⟩ := xc.obj I1.kIn
  obtain ⟨⟨t0, he0⟩, _⟩ := I1.hok e _ hE
  obtain ⟨hp, g, d, tk, os⟩ := s1
  refine init_call_O (rest := [z]) F.excBase_ValueError hv hC he0 rfl rfl ?_ (by show 1 ≤ sizeLine; decide)
  have hpu := Heap.get?_push_of_some ({ cls := .type "tuple", data := .seq [z].toArray } : Obj) he0
  refine ⟨.non, H1, ?_, rfl, q⟩
  have J := I1.kept (t' := tk) (h' := hp.push { cls := .type "tuple", data := .seq [z].toArray }) fun b u e => Heap.get?_push_of_some _ e
  have heU : (({ hp.push { cls := .type "tuple", data := .seq [z].toArray } with } : Heap).update e (Obj.mapFields (·.setIfInBounds 0 (.ref hp.objs.size)))).get? e = some { cls := .ref C, dict := none, data := .fields #[.ref hp.objs.size, .none, .none, .none, .bool false, .none] } :=
    Heap.get?_update_self _ hpu rfl
  have W := J.write (x := e) (e := e) (o := .ext (ExcF e C none)) (t' := tk) (h' := (hp.push { cls := .type "tuple", data := .seq [z].toArray }).update e (Obj.mapFields (·.setIfInBounds 0 (.ref hp.objs.size)))) (by rw [hE]; exact True.intro) (.inl rfl)
    (fun b u hb q => (Heap.get?_update_ne _ _ _ _ hb).trans q) ⟨_, heU⟩ (excF_ok heU)
  have : upd H1 e (.ext (ExcF e C none)) = H1 := by funext b; unfold upd; split <;> simp_all
  rw [this] at W
  exact W
structure ClsFn (K : PySem.W.Frag) (C f : Addr) (m : Str) : Prop where
  sp : PySem.W.specialIn K (.ref C) "__getattribute__" = some (some (.builtin "type.__getattribute__"))
  rd : PySem.W.readsIn K C (.type "type") = true
  fd : PySem.W.findCls K (.ref C) (.type "type") m = some (.val (.ref f))
  kp : PySem.W.keepIn K (.ref f) = true
theorem pe_clsInit {pl : Sem Bool} (hg : Gl X x) (hmx : X.mg x = some (.ref C0)) (c : ClsFn X.K C0 f m) (F : FnOk X.prog X.w X.K X.mg X.base CX k f fd ps sp) (hr : Room k X.A) (hb : Binds X.K fd ps ds) (hd : Vals dvs ds) (hx : Passes CX X E)
    (ha : PA X (a :: es) t) (hdb : (x == ("__debug__" : Str)) = false := by decide) (he : starEach (a :: es) X.env = (false, eval a X.env) :: starEach es X.env := by rfl) (hpl : (backTo pos (starEach es X.env)).any (·.1) = false := by rfl)
    (ht : eval (.Call (.Attribute (.Name x p) m apos) (a :: es) [] pos) X.env = (do
      let ov ← eval (.Name x p) X.env
      standAt apos.atName
      let (f, first) ← holding [ov] (getMethod ov m pl)
      callWith pos f first (backTo pos (starEach (a :: es) X.env)) (backToKw pos (keywordEach [] X.env))) := by rfl) :
    PE X (.Call (.Attribute (.Name x p) m apos) (a :: es) [] pos) (tCall sp dvs E t) := by
  intro pins s σ H Q I h
  refine PySem.W.methodCall_KW (pl := pl) (ld_glob I hg hmx ?_ hdb) ht
  refine PySem.W.method_cls I.kIn c.sp (PySem.W.cls_value I.kIn c.rd c.fd rfl ?_)
  have I := I.tok (s.toks + 1)
  refine PySem.W.callWith_K (h₀ := X.base) I.ok.mod.kin c.kp (thn (ha pos pins _ σ H _ I h) fun us s1 ⟨vs, H1, I1, r, q⟩ => ⟨I1.kIn, ?_⟩) he hpl
  exact run_fn F hr hb hd hx I1 r q
def tXF (K : PySem.W.Frag) (ta tv : TE) (f : Str) : TS := fun D σ H => tv σ H fun y H1 => ta σ H1 fun x H2 => ∃ e C, x = .ref e ∧ H2 e = some (.ext (ExcF e C none)) ∧ ExC K C ∧ NoAttr K C f ∧
  ∀ dx, H2 dx = none → dx ≠ e → D.nx σ (upd (upd H2 e (.ext (ExcF e C (some dx)))) dx (.xd [(f, y)]))
theorem ps_xf {fn : Str} {pos' : Pos} (ha : PE X o ta) (hv : PE X value tv) (hs : swapsWith value (some (.Attribute o fn pos')) pos.line X.env = pure false := by rfl) : PS X (.Assign [.Attribute o fn pos'] value pos) (tXF X.K ta tv fn) := by
  intro pins s σ H D I h
  refine plainObj_wpAny_Assign_Attribute (thn (hv pins s σ H _ I h) fun u s1 ⟨y, H1, I1, ry, q⟩ => thn (ha pins s1 σ H1 _ I1 q) fun ov s2 ⟨x, H2, I2, rx, e, C, ex, hE, xc, na, q2⟩ => ?_) hs
  subst ex
  obtain rfl : ov = Value.ref e := rx
  obtain ⟨cd, bm, hcd, hm, hdi, hb, hv, hob, _, _, own, hmr⟩ := xc.cls
  obtain ⟨⟨t0, he0⟩, _⟩ := I2.hok e _ hE
  have hmro : PySem.W.mroIn X.K C (.type "object") = some true := by
    unfold PySem.W.mroIn
    rw [hcd, Option.bind_some, hm, if_neg (by simp), List.contains_cons, hob, Bool.or_true]
  refine PySem.W.set_first I2.kIn he0 hcd hdi hmro (by rw [hmr]; exact PySem.W.pass_own _ own) xc.sa na.taker fun h' hn hx hk => ⟨σ, _, ?_, q2 s2.heap.objs.size I2.fresh (fun z => by rw [← z] at he0; exact absurd (Heap.lt_size he0) (Nat.lt_irrefl _))⟩
  have hne : s2.heap.objs.size ≠ e := fun z => by rw [← z] at he0; exact absurd (Heap.lt_size he0) (Nat.lt_irrefl _)
  have hsz : s2.heap.get? s2.heap.objs.size = none := Heap.get?_none_of_le (Nat.le_refl _)
  have hno : H2 s2.heap.objs.size = none := I2.fresh
  have A : Un X.fs [] H2 (upd (upd H2 e (.ext (ExcF e C (some s2.heap.objs.size)))) s2.heap.objs.size (.xd [(fn, y)])) s2.heap h' := by
    refine ⟨fun b ob q n _ _ => hk b ob (fun z => by subst z; rw [hE] at n; cases n) q, fun b ob q n _ _ => ⟨ob.slots, hk b ob (fun z => by subst z; rw [hE] at n; cases n) q⟩, fun b ob q n _ => ?_, fun b ob q _ => ?_, fun b xs q => ?_, fun b ob xs q => ?_, fun b ps q => ⟨#[], ?_⟩⟩
    · rw [upd_ne (fun z => by subst z; rw [hsz] at q; cases q), upd_ne (fun z => by subst z; rw [hE] at n; cases n)]; exact n
    · by_cases z : b = e
      · subst z; exact ⟨_, hx⟩
      · exact ⟨ob, hk b ob z q⟩
    · rw [upd_ne (ne_of_none q hno), upd_ne (fun z => by subst z; rw [hE] at q; cases q)]; exact q
    · rw [upd_ne (ne_of_none q hno), upd_ne (fun z => by subst z; rw [hE] at q; cases q)]; exact q
    · rw [upd_ne (ne_of_none q hno), upd_ne (fun z => by subst z; rw [hE] at q; cases q), Array.append_empty]; exact q
  refine I2.un A fun b ob q => ?_
  by_cases z : b = s2.heap.objs.size
  · subst z
    rw [upd_same] at q; cases q
    refine ⟨_, hn, fun g => ?_⟩
    show RelO (List.lookup g [(fn, y)]) (if g = fn then some u else none)
    by_cases z : g = fn
    · subst z; simp [List.lookup, RelO]; exact ry
    · rw [if_neg z]
      have : List.lookup g [(fn, y)] = none := by simp only [List.lookup]; rw [show (g == fn) = false from beq_false_of_ne z]
      rw [this]; exact True.intro
  · rw [upd_ne z] at q
    by_cases z2 : b = e
    · subst z2; rw [upd_same] at q; cases q; exact excF_ok hx
    · rw [upd_ne z2] at q
      refine (I2.hok b ob q).stay (fun c v hc qq => hk c v ?_ qq) (fun c r => ?_) fun c xs r => ?_
      · rintro rfl
        rcases hc with rfl | hc
        · exact z2 rfl
        · rw [hE] at hc; cases hc
      · rw [upd_ne (ne_of_none r hno), upd_ne (fun z => by subst z; rw [hE] at r; cases r)]; exact r
      · rw [upd_ne (ne_of_none r hno), upd_ne (fun z => by subst z; rw [hE] at r; cases r)]; exact r
structure ExMk (K : PySem.W.Frag) (C f : Addr) : Prop where
  c : ExC K C
  init : PySem.W.findIn K (.ref C) "__init__" = some (some (.ref f))
  fn : PySem.W.isFn K (.ref f) = true
  kp : PySem.W.keepIn K (.ref C) = true
def tMkX (C : Addr) (sp : Sp) (dvs : List V) (E : XK) (t : TA) : TE := fun σ H Q => t σ H fun vs H1 => ∀ x, H1 x = none → vs.length ≤ 1000 ∧
  sp (.ref x :: (vs ++ dvs)) (upd H1 x (.ext (ExcF x C none))) (fun v H2 => v = .non ∧ Q (.ref x) H2) E
theorem mkX_new (hex : X.ex = []) (M : ExMk X.K C f) (F : FnOk X.prog X.w X.K X.mg X.base CX k f fd ps sp) (hr : Room (k + 1) X.A) (hg : Gl X x) (hm : X.mg x = some (.ref C)) (hb : Binds X.K fd ps ds) (hd : Vals dvs ds) (hx : Passes CX X E)
    (ha : PA X (e :: es) t) (hdb : (x == ("__debug__" : Str)) = false := by decide) (he : starEach (e :: es) X.env = (false, eval e X.env) :: starEach es X.env := by rfl) (hpl : (backTo pos (starEach es X.env)).any (·.1) = false := by rfl) :
    ∀ (pins : List (Addr × Obj)) (s : Shared) (σ : St) (H : Hp) (Q : VK), Inv X pins σ H s → tMkX C sp dvs E t σ H Q → wpAny (model X.prog X.w) X.A (eval (.Call (.Name x p) (e :: es) [] pos) X.env)
      (fun u s' => ∃ e H', u = .ref e ∧ X.s_0.heap.get? e = none ∧ Inv X pins σ H' s' ∧ Q (.ref e) H') X.xe s := by
  intro pins s σ H Q I h
  refine wpAny_Call_Name_kw (ld_glob I hg hm ?_ hdb)
  refine PySem.W.callWith_K (h₀ := X.base) I.ok.mod.kin M.kp (thn (ha pos pins s σ H _ I h) fun us s1 ⟨vs, H1, I1, r, q⟩ => ⟨I1.kIn, ?_⟩) he hpl
  show wpAny _ _ (call (.ref C) us) _ _ _
  obtain ⟨nm, qn, N, bs, bm, hdct, sn, sub, ab, col, dd, k0, k1, k2, k3, k5, hC, hb', hv, hat, hna⟩ := M.c.obj I1.kIn
  obtain ⟨of, hof, hfc⟩ := Option.map_eq_some_iff.mp (beq_iff_eq.mp M.fn : PySem.W.typeIn X.K (.ref f) = some (.type "function"))
  obtain ⟨hp, g, d, tk, os⟩ := s1
  have hlen : us.length ≤ sizeLine := by
    rw [← r.length]
    exact Nat.le_trans (q hp.objs.size (I1.fresh)).1 (by decide)
  refine call_exc_L PySem.F.excBase_ValueError hv hat hna hC (PySem.W.looks_findIn I1.kIn M.init) (I1.kIn _ _ hof) hfc (fun h' e mm => ?_) hlen
  obtain ⟨t0, he0, ht0, _⟩ := mm.there
  have hHe := I1.hok.at_none mm.new
  have I2 := I1.laidN (a := e) (o := .ext (ExcF e C none)) (h' := h') (t' := tk) mm.keeps mm.new (excF_ok he0)
  have q2 := (q e hHe).2
  have r2 : Vals (V.ref e :: (vs ++ dvs)) (Value.ref e :: (us ++ ds)) := .cons rfl (r.append hd)
  have hl : (Value.ref e :: us ++ ds).length = ps.length := by
    have e := r2.length
    rw [F.len _ _ _ _ q2] at e
    exact e.symm
  refine wpAny_call (codeAny_mono (F.run _ X.stack _ _ ⟨Value.ref e :: us, []⟩ (Value.ref e :: (us ++ ds)) _ _ E (hr.make C us []) (I2.env0.make C us []) (hb _ (Value.ref e :: us) I2.kIn hl) r2 q2) fun r s' hq' => ?_)
  cases r with
  | error e' => exact hx pins σ _ _ e' s' I2 hq'
  | ok fl =>
    cases fl with
    | ret u =>
      obtain ⟨v, H', I3, rv, ev, q3⟩ := I2.after hq'
      subst ev
      exact ⟨rv, ⟨e, H', rfl, I1.old_none hex mm.new, I3, q3⟩⟩
    | next => exact False.elim hq'
    | brk => exact False.elim hq'
    | cont => exact False.elim hq'
end
end L2
set_option linter.all false
set_option maxRecDepth 100000
namespace L2
open PySem PySem.Spec PyProof.Rows
def ExObj (h : Heap) (e C : Addr) (od : Option Addr) (t : Addr) (tb : Value) : Prop := h.get? e = some { cls := .ref C, dict := od, data := .fields #[.ref t, tb, .none, .none, .bool false, .none] }
def CXX (P : Program) (w : World) : CXT := fun outer H s E ev s' => ∃ (e C : Addr) (od : Option Addr) (t T : Addr) (H' : Hp), ev = .ref e ∧ s'.os = s.os ∧ AllBare s'.gens ∧ Un (frs outer) [] H H' s.heap s'.heap ∧ HOk P w H' s'.heap ∧ s.heap.get? e = none ∧
  H' e = some (.ext (ExcP e C od)) ∧ ExObj s'.heap e C od t (.ref T) ∧ TbAt s'.heap T ∧ H' T = none ∧ s.heap.objs.size ≤ T ∧ E (.ref e) od H'
section
variable {X : Cx} {pins : List (Addr × Obj)} {σ : St} {H : Hp} {s : Shared}
theorem left_cxx {e C : Addr} {od : Option Addr} {t T : Addr} {tb : Value} {old : Option Addr} {h' : Heap} {E : XK} {φ : Heap → Prop} (I : Inv X pins σ H s) (hx : X.ex = []) (hst : X.stack = X.env :: X.outer) (hfr : X.env.frame = some X.env.locals)
    (hE : H e = some (.ext φ)) (he : ExObj s.heap e C od t tb) (hn : X.s_0.heap.get? e = none) (ho : ∀ b, old = some b → H b = none ∧ X.s_0.heap.get? b = none)
    (L : LeftX (X.stack.filterMap (·.frame)) e { cls := .ref C, dict := od, data := .fields #[.ref t, tb, .none, .none, .bool false, .none] } T old s.heap h') (q : E (.ref e) od (upd H e (.ext (ExcP e C od)))) (toks : Nat := s.toks) :
    CXX X.prog X.w X.outer X.H_0 X.s_0 E (.ref e) { s with heap := h' } := by
  have hT := I.hok.fresh L.new
  have hTe : T ≠ e := fun z => by rw [z, hE] at hT; cases hT
  have nfs : ∀ b o, X.s_0.heap.get? b = some o → b ∉ X.fs → b ∉ X.stack.filterMap (·.frame) := fun b o qb nb hm => by
    rcases List.mem_cons.mp (I.stkSub b hm) with z | z
    · rw [z] at qb; exact absurd (Nat.lt_of_lt_of_le (Heap.lt_size qb) I.ok.above) (Nat.lt_irrefl _)
    · exact nb z
  have ne : ∀ b o, X.s_0.heap.get? b = some o → b ≠ e := fun b o qb z => by rw [z, hn] at qb; cases qb
  have no : ∀ b o, X.s_0.heap.get? b = some o → some b ≠ old := fun b o qb z => by rw [(ho b z.symm).2] at qb; cases qb
  have nx : ∀ b : Addr, b ∉ X.ex := fun b => by rw [hx]; simp
  have tr : ∀ b u, H b = some u → b ∉ X.stack.filterMap (·.frame) := fun b u qb hm => by rw [I.stkFree b hm] at qb; cases qb
  have to_ : ∀ b u, H b = some u → some b ≠ old := fun b u qb z => by rw [(ho b z.symm).1] at qb; cases qb
  refine ⟨e, C, od, t, T, upd H e (.ext (ExcP e C od)), rfl, I.os, I.bare, ⟨fun b o qb nb hb _ => ?_, fun b o qb nb hb _ => ?_, fun b o qb nb _ => ?_, fun b o qb _ => ?_, fun b xs qb => ?_, fun b o u qb => ?_, fun b ps qb => ?_⟩, fun b u qb => ?_, hn, upd_same, L.exc, L.tb, ?_, Nat.le_trans I.sz L.new, q⟩
  · exact L.keep b o (I.base.keep b o qb nb hb (nx b)) (ne b o qb) (no b o qb) (nfs b o qb hb)
  · obtain ⟨sl, z⟩ := I.base.slot b o qb nb hb (nx b)
    obtain ⟨sl', z'⟩ := L.slot b _ z (ne b o qb) (no b o qb)
    exact ⟨sl', z'⟩
  · rw [upd_ne (ne b o qb)]; exact I.base.free b o qb nb (nx b)
  · obtain ⟨o', z⟩ := I.base.there b o qb (nx b)
    obtain ⟨sl', z'⟩ := L.slot b _ z (ne b o qb) (no b o qb)
    exact ⟨_, z'⟩
  · have z := I.base.tups b xs qb
    rw [upd_ne (fun y => by rw [y, hE] at z; cases z)]; exact z
  · have z := I.base.frzs b o u qb
    rw [upd_ne (fun y => by rw [y, hE] at z; cases z)]; exact z
  · obtain ⟨more, z⟩ := I.base.tbls b ps qb
    exact ⟨more, by rw [upd_ne (fun y => by rw [y, hE] at z; cases z)]; exact z⟩
  · by_cases z : b = e
    · subst z
      rw [upd_same] at qb; cases qb
      exact excP_ok (tb := .ref T) L.exc
    · rw [upd_ne z] at qb
      refine (I.hok b u qb).stay (fun c v hc qc => ?_) (fun c r => ?_) fun c xs r => ?_
      · have hc' : ∃ u, H c = some u := by
          rcases hc with rfl | hc
          · exact ⟨_, qb⟩
          · exact ⟨_, hc⟩
        obtain ⟨u', hc'⟩ := hc'
        refine L.keep c v qc ?_ (to_ c u' hc') (tr c u' hc')
        rintro rfl
        rcases hc with rfl | hc
        · exact z rfl
        · rw [hE] at hc; cases hc
      · rw [upd_ne (fun y => by rw [y, hE] at r; cases r)]; exact r
      · rw [upd_ne (fun y => by rw [y, hE] at r; cases r)]; exact r
  · rw [upd_ne hTe]; exact hT
end
section
variable {P : Program} {w : World} {K : PySem.W.Frag} {mg : Str → Option Value} {base : Heap} {N : List Str} {qual : Str} {scope : Scope} {f : Addr} {cd : Value} {A : Around} {outer : List Env} {s0 : Shared} {H0 : Hp} {E : XK}
theorem xe_raise {pins : List (Addr × Obj)} {σ : St} {H : Hp} {s : Shared} {e C : Addr} {od : Option Addr} {t : Addr} {φ : Heap → Prop} (I : Inv (cxOf (CXX P w) P w K mg base N qual scope f cd A outer s0 H0 E) pins σ H s) (hE : H e = some (.ext φ)) (he : ExObj s.heap e C od t .none) (hn : s0.heap.get? e = none)
    (q : E (.ref e) od (upd H e (.ext (ExcP e C od)))) : (cxOf (CXX P w) P w K mg base N qual scope f cd A outer s0 H0 E).xe (.ref e) s :=
  leaving_first_X I.ok.frames I.stack rfl he rfl rfl fun T h' L => left_cxx I rfl rfl rfl hE he hn (fun b z => by cases z) L q
end
end L2
set_option linter.all false
set_option maxRecDepth 100000
namespace L2
open PySem PySem.Spec PyProof.Rows
def XeOk (X : Cx) (E : XK) : Prop := ∀ (pins : List (Addr × Obj)) (σ : St) (H : Hp) (s : Shared) (e C : Addr) (od : Option Addr) (t : Addr) (φ : Heap → Prop), Inv X pins σ H s → H e = some (.ext φ) → ExObj s.heap e C od t .none → X.s_0.heap.get? e = none →
  E (.ref e) od (upd H e (.ext (ExcP e C od))) → X.xe (.ref e) s
theorem xeOk_cx {P : Program} {w : World} {K : PySem.W.Frag} {mg : Str → Option Value} {base : Heap} {N : List Str} {qual : Str} {scope : Scope} {f : Addr} {cd : Value} {A : Around} {outer : List Env} {s0 : Shared} {H0 : Hp} {E : XK} : XeOk (cxOf (CXX P w) P w K mg base N qual scope f cd A outer s0 H0 E) E :=
  fun pins σ H s e C od t φ I hE he hn q => xe_raise I hE he hn q
section
variable {X : Cx} {CX : CXT} {k : Nat} {f C : Addr} {fd : FuncData} {ps : List Str} {sp : Sp} {dvs : List V} {ds : List Value} {E E' : XK} {x : Str} {p cpos pos : Pos} {e : Expr} {es : List Expr} {t : TA}
def tRaise (C : Addr) (sp : Sp) (dvs : List V) (E E' : XK) (t : TA) : TS := fun _ σ H => tMkX C sp dvs E' t σ H fun v H2 => ∃ x od, v = .ref x ∧ H2 x = some (.ext (ExcF x C od)) ∧ E (.ref x) od (upd H2 x (.ext (ExcP x C od)))
theorem ps_raise (hex : X.ex = []) (hc : X.calm = true) (xo : XeOk X E) (M : ExMk X.K C f) (F : FnOk X.prog X.w X.K X.mg X.base CX k f fd ps sp) (hr : Room (k + 1) X.A) (hg : Gl X x) (hm : X.mg x = some (.ref C)) (hb : Binds X.K fd ps ds) (hd : Vals dvs ds) (hx : Passes CX X E')
    (ha : PA X (e :: es) t) (hdb : (x == ("__debug__" : Str)) = false := by decide) (he : starEach (e :: es) X.env = (false, eval e X.env) :: starEach es X.env := by rfl) (hpl : (backTo cpos (starEach es X.env)).any (·.1) = false := by rfl) :
    PS X (.Raise (some (.Call (.Name x p) (e :: es) [] cpos)) none pos) (tRaise C sp dvs E E' t) := by
  intro pins s σ H D I h
  have go := mkX_new (X := X) (CX := CX) (E := E') (pos := cpos) (p := p) (e := e) (es := es) (t := t) hex M F hr hg hm hb hd hx ha hdb he hpl pins s σ H _ I h
  obtain ⟨nm, qn, N, bs, bm, hdct, sn, sub, ab, col, dd, k0, k1, k2, k3, k5, hC, hb', _⟩ := M.c.lk
  refine raise_O (C := C) (nm := nm) (q := qn) (N := N) (bs := bs) (bm := bm) (hdct := hdct) (sn := sn) (sub := sub) (ab := ab) (col := col) (dd := dd) (k0 := k0) (k1 := k1) (k2 := k2) (k3 := k3) (k5 := k5) (newId := "ValueError.__new__") hb' (I.ok.hd hc) (thn go fun u s' hu => ?_)
  obtain ⟨e', H', rfl, hn, I', x, od, ex, hE, q⟩ := hu
  cases ex
  obtain ⟨⟨t, he'⟩, _⟩ := I'.hok e' _ hE
  exact ⟨e', t, od, rfl, I'.kIn _ _ hC, he', xo pins σ H' s' e' C od t _ I' hE he' hn q⟩
end
end L2
set_option linter.all false
set_option maxRecDepth 100000
namespace L2
open PySem PySem.Spec PyProof.Rows
structure FunD (K : PySem.W.Frag) (x qual : Str) (st : Stmt) (f : Addr) (fd : FuncData) : Prop where
  ex : ∃ (oc : Value) (od : Option Addr) (dV kV doc pm : Value) (an : Option Addr) (cdv ct : Value) (osl : Array (Option Value)),
    fd = PySem.W.fnOf x qual (defArgs st) (defBody st) (defScope st) dV kV doc pm an cdv ct ∧ K.lookup f = some ⟨oc, od, .func fd, osl⟩ ∧ PySem.W.codeIn K cdv qual = true
theorem funD_mk {K : PySem.W.Frag} {x qual : Str} {st : Stmt} {f : Addr} {oc : Value} {od an : Option Addr} {osl : Array (Option Value)} {dV kV doc pm cdv ct : Value} (l : K.lookup f = some ⟨oc, od, .func (PySem.W.fnOf x qual (defArgs st) (defBody st) (defScope st) dV kV doc pm an cdv ct), osl⟩)
    (c : PySem.W.codeIn K cdv qual = true) : FunD K x qual st f (PySem.W.fnOf x qual (defArgs st) (defBody st) (defScope st) dV kV doc pm an cdv ct) := ⟨⟨oc, od, dV, kV, doc, pm, an, cdv, ct, osl, rfl, l, c⟩⟩
section
variable {P : Program} {w : World} {K : PySem.W.Frag} {mg : Str → Option Value} {base : Heap}
theorem FunD.ok {CX : CXT} {x qual : Str} {st : Stmt} {f : Addr} {fd : FuncData} {N ps : List Str} {k : Nat} {sp : Sp} (F : FunD K x qual st f fd) (S : FnScope N ps (defScope st)) (len : ∀ vs H Q E, sp vs H Q E → vs.length = ps.length)
    (hbody : ∀ (cdv : Value) (A : Around) (outer : List Env) (s : Shared) (H : Hp) (vs : List V) (Q : VK) (E : XK), Room k (A.deeper (envOfC qual (defScope st) s.heap.objs.size f cdv)) → sp vs H Q E →
      ∃ t, PSs (cxOf CX P w K mg base N qual (defScope st) f cdv A outer s H E) (defBody st) t ∧ t { nx := fun _ H' => Q .non H', rt := Q } (start N vs) H) : FnOk P w K mg base CX (k + 1) f fd ps sp := by
  obtain ⟨oc, od, dV, kV, doc, pm, an, cdv, ct, osl, rfl, lk, hcd⟩ := F.ex
  refine fn_of lk hcd S len fun A outer s H vs Q E hr hsp => ?_
  exact hbody cdv A outer s H vs Q E hr hsp
theorem FunD.binds {x qual : Str} {st : Stmt} {f : Addr} {fd : FuncData} {ps : List Str} (F : FunD K x qual st f fd)
    (h : ∀ (dV kV doc pm : Value) (an : Option Addr) (cdv ct : Value) (us : List Value), us.length = ps.length → bindArgs (PySem.W.fnOf x qual (defArgs st) (defBody st) (defScope st) dV kV doc pm an cdv ct) ⟨us, []⟩ = pure (ps.zip us)) : Binds K fd ps [] := by
  obtain ⟨oc, od, dV, kV, doc, pm, an, cdv, ct, osl, rfl, lk, hcd⟩ := F.ex
  exact .all (h dV kV doc pm an cdv ct)
def spSE (K : PySem.W.Frag) : Sp := fun vs H Q _ => ∃ e C y, vs = [V.ref e, y] ∧ H e = some (.ext (ExcF e C none)) ∧ ExC K C ∧ Q .non H
def spXF (K : PySem.W.Frag) (F : Str) : Sp := fun vs H Q _ => ∃ e C y, vs = [V.ref e, y] ∧ H e = some (.ext (ExcF e C none)) ∧ ExC K C ∧ NoAttr K C F ∧
  ∀ dx, H dx = none → dx ≠ e → Q .non (upd (upd H e (.ext (ExcF e C (some dx)))) dx (.xd [(F, y)]))
theorem se_init {st : Stmt} {f : Addr} {fd : FuncData} {qual : Str} (F : FunD K "__init__" qual st f fd) (hm : mg "ValueError" = none) (S : FnScope ["self", "why"] ["self", "why"] (defScope st)) (hg : (defScope st).names.lookup ("ValueError" : Str) = some .globalImplicit) {p1 p2 p3 p4 p5 p6 : Pos}
    (e : defBody st = [.Expr (.Call (.Attribute (.Name "ValueError" p1) "__init__" p2) [.Name "self" p3, .Name "why" p4] [] p5) p6])
    (ht : ∀ env : Env, ∃ pl, eval (.Call (.Attribute (.Name "ValueError" p1) "__init__" p2) [.Name "self" p3, .Name "why" p4] [] p5) env = (do
      let ov ← eval (.Name "ValueError" p1) env
      standAt p2.atName
      let (f, first) ← holding [ov] (getMethod ov "__init__" pl)
      callWith p5 f first (backTo p5 (starEach [.Name "self" p3, .Name "why" p4] env)) (backToKw p5 (keywordEach [] env)))) : FnOk P w K mg base CX0 1 f fd ["self", "why"] (spSE K) := by
  refine F.ok S (fun vs H Q E h => ?_) fun cdv A outer s H vs Q E hr h => ?_
  · obtain ⟨_, _, _, rfl, _⟩ := h; rfl
  · rw [e]
    obtain ⟨e, C, y, rfl, hE, xc, q⟩ := h
    have v0 := S.par "self" (by simp)
    have v1 := S.par "why" (by simp)
    obtain ⟨pl, ht⟩ := ht (cxOf CX0 P w K mg base ["self", "why"] qual (defScope st) f cdv A outer s H E).env
    refine ⟨_, pss_one (ps_expr (pe_veInit hg hm (pa_cons (pe_var (i := 0) rfl (v0.imp_right .inl)) (pa_cons (pe_var (i := 1) rfl (v1.imp_right .inl)) pa_nil)) (ht := ht))), ?_⟩
    exact ⟨.ref e, rfl, y, rfl, e, C, y, rfl, hE, xc, q⟩
theorem xf_init {st : Stmt} {f f0 C0 : Addr} {fd fd0 : FuncData} {qual : Str} {n : Str} (F : FunD K "__init__" qual st f fd) (hmx : mg "StepError" = some (.ref C0)) (c : ClsFn K C0 f0 "__init__") (F0 : FnOk P w K mg base CX0 1 f0 fd0 ["self", "why"] (spSE K)) (b0 : Binds K fd0 ["self", "why"] [])
    (S : FnScope ["self", n] ["self", n] (defScope st)) (hg : (defScope st).names.lookup ("StepError" : Str) = some .globalImplicit) (hd : (n == ("__debug__" : Str)) = false) (hcd : (n == ("__classdict__" : Str)) = false)
    {x : Str} {k : Nat} {p1 p2 p3 p4 p5 p6 p7 p8 p9 p10 : Pos} (e : defBody st = [.Expr (.Call (.Attribute (.Name "StepError" p1) "__init__" p2) [.Name "self" p3, .Constant (.str x) k p4] [] p5) p6, .Assign [.Attribute (.Name "self" p7) n p8] (.Name n p9) p10])
    (ht : ∀ env : Env, ∃ pl, eval (.Call (.Attribute (.Name "StepError" p1) "__init__" p2) [.Name "self" p3, .Constant (.str x) k p4] [] p5) env = (do
      let ov ← eval (.Name "StepError" p1) env
      standAt p2.atName
      let (f, first) ← holding [ov] (getMethod ov "__init__" pl)
      callWith p5 f first (backTo p5 (starEach [.Name "self" p3, .Constant (.str x) k p4] env)) (backToKw p5 (keywordEach [] env)))) : FnOk P w K mg base CX0 2 f fd ["self", n] (spXF K n) := by
  refine F.ok S (fun vs H Q E h => ?_) fun cdv A outer s H vs Q E hr h => ?_
  · obtain ⟨_, _, _, rfl, _⟩ := h; rfl
  · rw [e]
    obtain ⟨e, C, y, rfl, hE, xc, na, q⟩ := h
    have v0 := S.par "self" (by simp)
    have v1 := S.par n (by simp)
    obtain ⟨pl, ht⟩ := ht (cxOf CX0 P w K mg base ["self", n] qual (defScope st) f cdv A outer s H E).nox.env
    refine ⟨_, PSs.nox (pss_cons (ps_expr (pe_clsInit hg hmx c F0 hr b0 .nil pass0 (pa_cons (pe_var (i := 0) rfl (v0.imp_right .inl)) (pa_cons pe_str pa_nil)) (ht := ht))) (pss_one (ps_xf (pe_var (i := 0) rfl (v0.imp_right .inl)) (pe_var (i := 1) rfl (v1.imp_right .inl) hd hcd)))), ?_⟩
    refine ⟨.ref e, rfl, e, C, .str x, rfl, hE, xc, y, rfl, .ref e, rfl, e, C, rfl, hE, xc, na, fun dx h1 h2 => q dx h1 h2⟩
def spMk (C : Addr) : Option Str → Sp
  | none => fun vs H Q _ => ∃ e y, vs = [V.ref e, y] ∧ H e = some (.ext (ExcF e C none)) ∧ Q .non H
  | some F => fun vs H Q _ => ∃ e y, vs = [V.ref e, y] ∧ H e = some (.ext (ExcF e C none)) ∧ ∀ dx, H dx = none → dx ≠ e → Q .non (upd (upd H e (.ext (ExcF e C (some dx)))) dx (.xd [(F, y)]))
def CtX (P : Program) (w : World) (K : PySem.W.Frag) (mg : Str → Option Value) (base : Heap) (x : Str) (C : Addr) (fn : Option Str) : Prop :=
  ∃ f fd ps, mg x = some (.ref C) ∧ ExMk K C f ∧ Binds K fd ps [] ∧ FnOk P w K mg base CX0 2 f fd ps (spMk C fn) ∧ ∀ n, fn = some n → NoAttr K C n
theorem ctx_plain {x : Str} {C f : Addr} {fd : FuncData} (hm : mg x = some (.ref C)) (M : ExMk K C f) (F : FnOk P w K mg base CX0 1 f fd ["self", "why"] (spSE K)) (b : Binds K fd ["self", "why"] []) : CtX P w K mg base x C none :=
  ⟨f, fd, _, hm, M, b, (F.imp (sp' := spMk C none) fun vs H Q E ⟨e, y, h1, h2, h3⟩ => ⟨e, C, y, h1, h2, M.c, h3⟩).mono (by omega), fun n z => by cases z⟩
theorem ctx_field {x n : Str} {C f : Addr} {fd : FuncData} (hm : mg x = some (.ref C)) (M : ExMk K C f) (na : NoAttr K C n) (F : FnOk P w K mg base CX0 2 f fd ["self", n] (spXF K n)) (b : Binds K fd ["self", n] []) : CtX P w K mg base x C (some n) :=
  ⟨f, fd, _, hm, M, b, F.imp fun vs H Q E ⟨e, y, h1, h2, h3⟩ => ⟨e, C, y, h1, h2, M.c, na, h3⟩, fun m z => by cases z; exact na⟩
end
end L2
set_option linter.all false
set_option maxRecDepth 100000
namespace L2
open PySem PySem.Spec PyProof.Rows
abbrev ZK := Addr → Option Addr → Hp → Prop
def XP (X : Cx) (pins : List (Addr × Obj)) (σ : St) (Z : ZK) (ev : Value) (s' : Shared) : Prop :=
  ∃ s1 H1, Inv X pins σ H1 s1 ∧ CXX X.prog X.w X.stack H1 s1 (fun ev od H' => ∃ e, ev = .ref e ∧ Z e od H') ev s'
section
variable {X : Cx} {pins : List (Addr × Obj)} {σ : St} {H : Hp} {s : Shared}
theorem Inv.above (I : Inv X pins σ H s) {T : Addr} (hT : s.heap.objs.size ≤ T) : X.s_0.heap.objs.size ≤ T ∧ T ≠ X.env.locals ∧ (∀ x c, X.env.cells.lookup x = some c → c ≠ T) ∧ ∀ p ∈ X.pn ++ pins, p.1 ≠ T := by
  refine ⟨Nat.le_trans I.sz hT, fun z => ?_, fun x c q z => ?_, fun p hp z => ?_⟩
  · rw [z] at hT; exact absurd (Nat.lt_of_lt_of_le I.lt hT) (Nat.lt_irrefl _)
  · obtain ⟨v, o, ho, _⟩ := I.cell x c q
    rw [z] at ho; exact absurd (Nat.lt_of_lt_of_le (Heap.lt_size ho) hT) (Nat.lt_irrefl _)
  · have := Heap.lt_size (I.pin p hp).1
    rw [z] at this; exact absurd (Nat.lt_of_lt_of_le this hT) (Nat.lt_irrefl _)
theorem caught {Z : ZK} {ev : Value} {s' : Shared} {E : Value → Shared → Prop} {Q : Unit → Shared → Prop} (hst : X.stack = X.env :: X.outer) (hfr : X.env.frame = some X.env.locals) (h : XP X pins σ Z ev s')
    (q : ∀ e C od H' s₃ t T, ev = .ref e → Inv X pins σ H' s₃ → H' e = some (.ext (ExcP e C od)) → ExObj s₃.heap e C od t (.ref T) → TbAt s₃.heap T → H' T = none → (X.s_0.heap.objs.size ≤ T ∧ T ≠ X.env.locals ∧ (∀ x c, X.env.cells.lookup x = some c → c ≠ T) ∧ ∀ p ∈ X.pn ++ pins, p.1 ≠ T) → Z e od H' → Q () s₃) :
    wpAny (model X.prog X.w) X.A (noteFrame ev X.env) (fun _ s₂ => wpAny (model X.prog X.w) X.A (setFlight ev none) Q E s₂) E s' := by
  obtain ⟨s1, H1, I, e, C, od, t, T, H', rfl, hos, hb, un, hok, hne, hE, he, hT, hTn, hTs, e', ee, hz⟩ := h
  cases ee
  have J := I.call' (ch := []) hos un hok hb (fun b z => absurd z (by simp))
  have hTe : T ≠ e := fun z => by rw [z, hE] at hTn; cases hTn
  have hJs : s'.heap.FunFrames X.base (X.env :: X.outer) := hst ▸ J.stack
  refine note_next_X (hst ▸ J.ok.frames) hJs hfr he rfl rfl hT hTe fun T' h' L => ?_
  rw [← hst] at L
  have hT' := J.hok.fresh L.new
  obtain ⟨n1, n2, n3, n4⟩ := J.above L.new
  have tr : ∀ b u, H' b = some u → b ∉ X.stack.filterMap (·.frame) := fun b u qb hm => by rw [J.stkFree b hm] at qb; cases qb
  have hok' : HOk X.prog X.w H' h' := fun b u qb => by
    by_cases z : b = e
    · subst z; rw [hE] at qb; cases qb; exact excP_ok (tb := .ref T') L.exc
    · refine (J.hok b u qb).stay (fun c v hc qc => ?_) (fun c r => r) fun c xs r => r
      have hc' : ∃ u, H' c = some u := by
        rcases hc with rfl | hc
        · exact ⟨_, qb⟩
        · exact ⟨_, hc⟩
      obtain ⟨u', hc'⟩ := hc'
      refine L.keep c v qc ?_ (fun y => by cases y; rw [hTn] at hc'; cases hc') (tr c u' hc')
      rintro rfl
      rcases hc with rfl | hc
      · exact z rfl
      · rw [hE] at hc; cases hc
  have J2 : Inv X pins σ H' { s' with heap := h' } := J.call' (ch := [T]) rfl (show Un (frs X.stack) [T] H' H' s'.heap h' from ⟨fun b o qb nb hb hx => L.keep b o qb (fun z => by rw [z, hE] at nb; cases nb) (fun y => hx (by cases y; simp)) hb, fun b o qb nb hb hx => L.slot b o qb (fun z => by rw [z, hE] at nb; cases nb) (fun y => hx (by cases y; simp)), fun b o qb nb hx => nb, fun b o qb hx => by
    by_cases z : b = e
    · subst z; exact ⟨_, L.exc⟩
    · obtain ⟨sl, y⟩ := L.slot b o qb z (fun y => hx (by cases y; simp)); exact ⟨_, y⟩, fun b xs r => r, fun b o xs r => r, fun b ps r => ⟨#[], by rw [Array.append_empty]; exact r⟩⟩) hok' J.bare (fun b hb => by
      have : b = T := by simpa using hb
      subst this
      obtain ⟨m1, m2, m3, m4⟩ := I.above hTs
      exact ⟨.inr m1, m2, m3, m4⟩)
  exact q e C od H' _ t T' rfl J2 hE L.exc L.tb hT' ⟨n1, n2, n3, n4⟩ hz
abbrev Cx.hnd (X : Cx) (o : Option Value) : Cx := { X with A := X.A.mark o, calm := false, xe := fun _ _ => False }
theorem Inv.hnd (I : Inv X pins σ H s) (o : Option Value) : Inv (X.hnd o) pins σ H s :=
  ⟨⟨I.ok.mod, I.ok.kind, I.ok.glob, I.ok.blt, I.ok.above, I.ok.inj, I.ok.has, I.ok.cab, fun z => (Bool.noConfusion z), I.ok.frames, I.ok.stk, I.ok.exf, I.ok.bs, I.ok.bsz, I.ok.noex, I.ok.exfs, I.ok.funs, I.ok.frf⟩, I.os, I.bare, I.base, I.loc, I.cell, I.free, I.freeC, I.pin, I.hok, I.len⟩
theorem Inv.unhnd {o : Option Value} (ok : X.Ok) (I : Inv (X.hnd o) pins σ H s) : Inv X pins σ H s :=
  ⟨ok, I.os, I.bare, I.base, I.loc, I.cell, I.free, I.freeC, I.pin, I.hok, I.len⟩
theorem name_goes {M : Model} {A : Around} {E : Value → Shared → Prop} {i : Nat} {n : Str} {pos : Pos} {Q : Unit → Shared → Prop} (I : Inv X pins σ H s) (hN : X.N.Nodup) (hi : X.N[i]? = some n) (hk : X.env.scope.names.lookup n = some .local)
    (h : ∀ s', Inv X pins (σ.set i none) H s' → Q () s') : wpAny M A (do bindName X.env n .none; unbindBehindTheSuite X.env n pos) Q E s := by
  refine wpAny_bind (wpAny_bindName (store_ok I hN hi (.inl hk) (v := .non) rfl (fun s1 I1 => ?_) (.inr hk)))
  have hl : X.env.kindOf n = some .local := hk
  have hcls : (X.env.scope.kind == .class || (X.env.scope.kind == .module && X.env.locals != X.env.globals)) = false := by rw [I.ok.kind]; rfl
  unfold unbindBehindTheSuite
  refine wpAny_onRaise ?_
  unfold unbindName
  refine wpAny_bind (wpAny_point (wpAny_bind ?_))
  unfold deleteName
  simp only [hl, hcls]
  rw [if_neg (by decide)]
  obtain ⟨m, hn, hlc⟩ := id I1.loc
  have iσ : i < σ.length := by rw [I.len]; exact (List.getElem?_eq_some_iff.mp hi).1
  have hm : m n ≠ none := by
    obtain ⟨u, _, z⟩ := hlc i n .non hi (List.getElem?_set_self iσ) (.inl hk)
    rcases z with ⟨_, z⟩ | ⟨z, _⟩
    · rw [z]; simp
    · rw [hl] at z; rcases z with z | z <;> cases z
  have hm' : (m n).isSome = true := by cases q : m n with | none => exact absurd q hm | some _ => rfl
  refine wpAny_bind (wpAny_nsDel_keeps hn fun h' v hn' hs => ?_)
  simp only [if_true, hm', Bool.not_true, Bool.false_eq_true, if_false]
  refine wpAny_pure (wpAny_point (h _ ?_))
  have cne := I1.cne
  obtain ⟨oL, _, _, hoL, _⟩ := id hn
  have tracked : HOk X.prog X.w H h' := fun b ob e => by
    refine (I1.hok b ob e).stay (fun c w' hc q => (hs.2 c ?_).trans q) (fun _ q => q) fun _ _ q => q
    have hf := I1.free
    rintro rfl
    rcases hc with z | hc
    · rw [z] at hf; rw [hf] at e; cases e
    · rw [hf] at hc; cases hc
  refine ⟨I1.ok, I1.os, I1.bare, ⟨fun b o e n hb hx => ?_, fun b o e n hb hx => ?_, I1.base.free, fun b o e hx => ?_, I1.base.tups, I1.base.frzs, I1.base.tbls⟩, ⟨_, hn', fun j y v' e1 e2 e3 => ?_⟩, fun y c e => ?_, I1.free, I1.freeC, fun p hp => ?_, tracked, by simpa using I1.len⟩
  · exact (hs.2 b (Nat.ne_of_lt (Nat.lt_of_lt_of_le (Heap.lt_size e) I1.ok.above))).trans (I1.base.keep b o e n hb hx)
  · obtain ⟨sl, e1⟩ := I1.base.slot b o e n hb hx
    exact ⟨sl, (hs.2 b (Nat.ne_of_lt (Nat.lt_of_lt_of_le (Heap.lt_size e) I1.ok.above))).trans e1⟩
  · obtain ⟨o', e1⟩ := I1.base.there b o e hx
    exact ⟨o', (hs.2 b (Nat.ne_of_lt (Nat.lt_of_lt_of_le (Heap.lt_size e) I1.ok.above))).trans e1⟩
  · by_cases hj : j = i
    · subst hj
      rw [List.getElem?_set_self iσ] at e2
      cases e2
    · rw [List.getElem?_set_ne (Ne.symm hj)] at e2
      obtain ⟨u', r', q⟩ := hlc j y v' e1 (by rw [List.getElem?_set_ne (Ne.symm hj)]; exact e2) e3
      refine ⟨u', r', ?_⟩
      rcases q with ⟨k, e⟩ | ⟨k, c, e, z⟩
      · refine .inl ⟨k, ?_⟩
        have : y ≠ n := fun e => hj (nodup_ix hN e1 (e ▸ hi))
        simp [this, e]
      · exact .inr ⟨k, c, e, z.sameBut hs (cne y c e)⟩
  · obtain ⟨w', z⟩ := I1.cell y c e
    exact ⟨w', z.sameBut hs (cne y c e)⟩
  · obtain ⟨e, n, ne, nf, d⟩ := I1.pin p hp
    exact ⟨(hs.2 p.1 ne).trans e, n, ne, nf, d⟩
end
end L2
set_option linter.all false
set_option maxRecDepth 100000
namespace L2
open PySem PySem.Spec PyProof.Rows
abbrev ZS := St → ZK
abbrev TEB := VK → ZK → St → Hp → Prop
abbrev TSB := Ends → ZS → St → Hp → Prop
def PEB (X : Cx) (e : Expr) (t : TEB) : Prop := ∀ (pins : List (Addr × Obj)) (s : Shared) (σ : St) (H : Hp) (Q : VK) (Z : ZK), Inv X pins σ H s → t Q Z σ H → wpAny (model X.prog X.w) X.A (eval e X.env) (EP X pins σ Q) (XP X pins σ Z) s
def PSB (X : Cx) (st : Stmt) (t : TSB) : Prop := ∀ (pins : List (Addr × Obj)) (s : Shared) (σ : St) (H : Hp) (D : Ends) (Z : ZS), Inv X pins σ H s → t D Z σ H → wpAny (model X.prog X.w) X.A (exec st X.env) (SP X pins D) (fun ev s' => ∃ σ', XP X pins σ' (Z σ') ev s') s
def zE (Z : ZK) : XK := fun ev od H' => ∃ e, ev = .ref e ∧ Z e od H'
section
variable {X : Cx} {k : Nat} {f Cc : Addr} {fd : FuncData} {ps : List Str} {sp : Sp} {dvs : List V} {ds : List Value} {x n kn cx : Str} {p pos pos' pc pk pn pa ph : Pos} {e c : Expr} {es : List Expr} {t : TA} {tc : TT} {te : TEB} {tb ub : TSB} {st su : Stmt}
def tCallB (sp : Sp) (dvs : List V) (t : TA) : TEB := fun Q Z σ H => t σ H fun vs H1 => sp (vs ++ dvs) H1 Q (zE Z)
theorem peb_call (hno : ∀ e s, ¬X.xe e s) (F : FnOk X.prog X.w X.K X.mg X.base (CXX X.prog X.w) k f fd ps sp) (hr : Room k X.A) (hg : Gl X x) (hm : X.mg x = some (.ref f)) (hk : PySem.W.keepIn X.K (.ref f) = true) (hb : Binds X.K fd ps ds) (hd : Vals dvs ds)
    (ha : PA X (e :: es) t) (hdb : (x == ("__debug__" : Str)) = false := by decide) (he : starEach (e :: es) X.env = (false, eval e X.env) :: starEach es X.env := by rfl) (hpl : (backTo pos (starEach es X.env)).any (·.1) = false := by rfl) :
    PEB X (.Call (.Name x p) (e :: es) [] pos) (tCallB sp dvs t) := by
  intro pins s σ H Q Z I h
  refine wpAny_Call_Name_kw (ld_glob I hg hm ?_ hdb)
  refine PySem.W.callWith_K (h₀ := X.base) I.ok.mod.kin hk (wpAny_mono (ha pos pins s σ H _ I h) (fun us s1 ⟨vs, H1, I1, r, q⟩ => ⟨I1.kIn, ?_⟩) fun e s z => absurd z (hno e s)) he hpl
  have r2 : Vals (vs ++ dvs) (us ++ ds) := r.append hd
  have hl : (us ++ ds).length = ps.length := by rw [← r2.length]; exact F.len _ _ _ _ q
  refine wpAny_call (codeAny_mono (F.run X.A X.stack s1 H1 ⟨[] ++ us, []⟩ (us ++ ds) (vs ++ dvs) Q (zE Z) hr I1.env0 (hb s1 us I1.kIn hl) r2 q) fun r s' hq => ?_)
  cases r with
  | error e => exact ⟨s1, H1, I1, hq⟩
  | ok fl =>
    cases fl with
    | ret u => exact I1.after hq
    | next => exact False.elim hq
    | brk => exact False.elim hq
    | cont => exact False.elim hq
def tMakeB (C : Addr) (sp : Sp) (dvs : List V) (t : TA) : TEB := fun Q Z σ H => t σ H fun vs H1 => ∀ x dx, H1 x = none → H1 dx = none → dx ≠ x →
  sp (.ref x :: (vs ++ dvs)) (upd (upd H1 dx (.own x)) x (.ins C dx [])) (fun v H2 => v = .non ∧ Q (.ref x) H2) (zE Z)
theorem peb_make {C : Addr} (hno : ∀ e s, ¬X.xe e s) (M : Mk X.K C f) (F : FnOk X.prog X.w X.K X.mg X.base (CXX X.prog X.w) k f fd ps sp) (hr : Room (k + 1) X.A) (hg : Gl X x) (hm : X.mg x = some (.ref C)) (hb : Binds X.K fd ps ds) (hd : Vals dvs ds)
    (ha : PA X (e :: es) t) (hdb : (x == ("__debug__" : Str)) = false := by decide) (he : starEach (e :: es) X.env = (false, eval e X.env) :: starEach es X.env := by rfl) (hpl : (backTo pos (starEach es X.env)).any (·.1) = false := by rfl) :
    PEB X (.Call (.Name x p) (e :: es) [] pos) (tMakeB C sp dvs t) := by
  intro pins s σ H Q Z I h
  refine wpAny_Call_Name_kw (ld_glob I hg hm ?_ hdb)
  refine PySem.W.callWith_K (h₀ := X.base) I.ok.mod.kin M.kp (wpAny_mono (ha pos pins s σ H _ I h) (fun us s1 ⟨vs, H1, I1, r, q⟩ => ⟨I1.kIn, ?_⟩) fun e s z => absurd z (hno e s)) he hpl
  have hq := q (s1.heap.objs.size + 1) s1.heap.objs.size (I1.hok.fresh (Nat.le_succ _)) (I1.hok.fresh (Nat.le_refl _)) (Nat.ne_of_lt (Nat.lt_succ_self _))
  have I2 := Inv.made (C := C) I1
  have r2 : Vals (V.ref (s1.heap.objs.size + 1) :: (vs ++ dvs)) (Value.ref (s1.heap.objs.size + 1) :: (us ++ ds)) := .cons rfl (r.append hd)
  have hl : (Value.ref (s1.heap.objs.size + 1) :: us ++ ds).length = ps.length := by
    have e := r2.length
    rw [F.len _ _ _ _ hq] at e
    exact e.symm
  refine wpAny_call (make_map (f := f) I1.kIn M.makes M.init (beq_iff_eq.mp M.fn) (codeAny_mono (F.run _ X.stack _ _ ⟨Value.ref (s1.heap.objs.size + 1) :: us, []⟩ (Value.ref (s1.heap.objs.size + 1) :: (us ++ ds)) _ _ (zE Z) (hr.make C us [])
    (I2.env0.make C us []) (hb _ (Value.ref (s1.heap.objs.size + 1) :: us) I2.kIn hl) r2 hq) fun r s' hq' => ?_))
  cases r with
  | error e => exact ⟨_, _, I2, hq'⟩
  | ok fl =>
    cases fl with
    | ret u =>
      obtain ⟨v, H', I3, rv, ev, q3⟩ := I2.after hq'
      subst ev
      exact ⟨rv, ⟨V.ref (s1.heap.objs.size + 1), H', I3, rfl, q3⟩⟩
    | next => exact False.elim hq'
    | brk => exact False.elim hq'
    | cont => exact False.elim hq'
def tSetB (te : TEB) (i : Nat) : TSB := fun D Z σ H => te (fun x H1 => D.nx (σ.set i (some x)) H1) (Z σ) σ H
theorem psb_set {i : Nat} (hN : X.N.Nodup) (hi : X.N[i]? = some x) (hx : Loc X.env.scope x) (he : PEB X e te) (hs : swapsWith e (some (.Name x pos')) pos.line X.env = pure false := by rfl) (hf : X.fn x = true ∨ X.env.scope.names.lookup x = some .local := by first | exact .inl rfl | exact .inr rfl | assumption) :
    PSB X (.Assign [.Name x pos'] e pos) (tSetB te i) := by
  intro pins s σ H D Z I h
  refine wpAny_Assign_Name (wpAny_mono (he pins s σ H _ _ I h) (fun v s1 ⟨y, H1, I1, r1, q1⟩ => ?_) fun ev s' z => ⟨σ, z⟩) hs
  exact store_ok I1 hN hi hx r1 (fun s2 I2 => ⟨_, H1, I2, q1⟩) hf
def tDropB (te : TEB) : TSB := fun D Z σ H => te (fun _ H1 => D.nx σ H1) (Z σ) σ H
theorem psb_expr (he : PEB X e te) (hs : swapsWith e none pos.line X.env = pure false := by rfl) : PSB X (.Expr e pos) (tDropB te) := by
  intro pins s σ H D Z I h
  exact wpAny_Expr_any (wpAny_mono (he pins s σ H _ _ I h) (fun v s1 ⟨x, H1, I1, r1, q1⟩ => ⟨σ, H1, I1, q1⟩) fun ev s' z => ⟨σ, z⟩) I.quiet hs
theorem one_b {pins : List (Addr × Obj)} {s : Shared} {σ : St} {H : Hp} {D : Ends} {Z : ZS} (h1 : PSB X st tb) (I : Inv X pins σ H s) (h : tb D Z σ H) : wpAny (model X.prog X.w) X.A (execs [st] X.env) (SP X pins D) (fun ev s' => ∃ σ', XP X pins σ' (Z σ') ev s') s := by
  refine wpAny_execs_cons (thn (h1 pins s σ H D Z I h) fun f s1 q => ?_)
  cases f with
  | next => exact wpAny_execs_nil q
  | ret v => exact q
  | brk => exact q
  | cont => exact q
def tIfB (c : TT) (t u : TSB) : TSB := fun D Z σ H => c σ H fun b H1 => if b = true then t D Z σ H1 else u D Z σ H1
theorem psb_if (hno : ∀ e s, ¬X.xe e s) (hc : PT X c tc) (ha : PSB X st tb) (hb : PSB X su ub) : PSB X (.If c [st] [su] pos) (tIfB tc tb ub) := by
  intro pins s σ H D Z I h
  refine wpAny_If (wpAny_mono (hc pins s σ H _ I h) (fun d s1 ⟨H1, I1, q1⟩ => ?_) fun e s z => absurd z (hno e s))
  cases d with
  | true => exact one_b ha I1 q1
  | false => exact one_b hb I1 q1
theorem psb_of {ts : TS} (hno : ∀ e s, ¬X.xe e s) (h : PS X st ts) : PSB X st (fun D _ σ H => ts D σ H) := fun pins s σ H D Z I q => wpAny_mono (h pins s σ H D I q) (fun _ _ x => x) fun e s z => absurd z (hno e s)
def tTry (K : PySem.W.Frag) (Cc : Addr) (i j : Nat) (tb : TSB) : TS := fun D σ H => tb D (fun σ' e _ H' => ∃ C od, H' e = some (.ext (ExcP e C od)) ∧ PySem.W.exmOne K (.ref C) (.ref Cc) = some true ∧ D.nx (((σ'.set i (some (.ref e))).set j (some (.ref e))).set i none) H') σ H
theorem ps_try {i j : Nat} (hst : X.stack = X.env :: X.outer) (hfr : X.env.frame = some X.env.locals) (hb : PSB X st tb) (hg : Gl X cx) (hmc : X.mg cx = some (.ref Cc)) (hN : X.N.Nodup) (hi : X.N[i]? = some n) (hn : X.env.scope.names.lookup n = some .local) (hj : X.N[j]? = some kn) (hk : Loc X.env.scope kn)
    (hdb : (cx == ("__debug__" : Str)) = false := by decide) (hs : swapsWith (.Name n pn) (some (.Name kn pk)) pa.line X.env = pure false := by rfl) (hf : X.fn kn = true ∨ X.env.scope.names.lookup kn = some .local := by first | exact .inl rfl | exact .inr rfl | assumption)
    (hd : (n == ("__debug__" : Str)) = false := by decide) (hcd : (n == ("__classdict__" : Str)) = false := by decide) :
    PS X (.Try [st] [.ExceptHandler (some (.Name cx pc)) (some n) [.Assign [.Name kn pk] (.Name n pn) pa] ph] [] [] pos) (tTry X.K Cc i j tb) := by
  intro pins s σ H D I h
  refine wpAny_Try_except (wpAny_mono (one_b hb I h) (fun f s1 q => ?_) fun ev s1 z => ?_)
  · cases f with
    | next => exact wpAny_execs_nil q
    | ret v => exact q
    | brk => exact q
    | cont => exact q
  · obtain ⟨σ', z⟩ := z
    refine caught hst hfr z fun e C od H' s₃ t T eq J hE he hT hTn ⟨n1, n2, n3, n4⟩ hz => ?_
    subst eq
    obtain ⟨C', od', hE', hx, q⟩ := hz
    have hC : C' = C := by
      rw [hE] at hE'
      have e1 : ExcP e C od = ExcP e C' od' := HO.ext.inj (Option.some.inj hE')
      have e2 : ExcP e C' od' s₃.heap := by rw [← e1]; exact ⟨t, .ref T, he⟩
      obtain ⟨t', tb', e3⟩ := e2
      have he : s₃.heap.get? e = _ := he
      rw [he] at e3
      simp only [Option.some.injEq, Obj.mk.injEq, Value.ref.injEq] at e3
      exact e3.1.symm
    subst hC
    have hmk := J.hnd (some (.ref e))
    refine wpAny_handleBy_cons (codeAny_handlers_test (ld_glob (X := X.hnd (some (.ref e))) hmk hg hmc ?_ hdb)) (by intro q; cases q)
    have LT : PySem.W.Looks (model X.prog X.w) s₃.heap (typeOf (.ref e)) (.ref C') := (PySem.W.Looks.ld he).andThen .now
    refine (PySem.W.exm_one J.kIn LT hx).here ?_
    refine codeAny_handlers_suite_as ?_
    obtain ⟨oT, ts, hgT, hdT, h3⟩ := hT
    refine wpAny_setFlight_none he rfl rfl hgT hdT (Array.getElem?_eq_some_iff.mp h3).1 ?_
    have hTe : T ≠ e := fun z => by rw [z, hE] at hTn; cases hTn
    have J2 : Inv (X.hnd (some (.ref e))) pins σ' H' { s₃ with heap := s₃.heap.update T (Obj.mapFields (·.setIfInBounds 3 .none)) } :=
      hmk.turned (it := T) (t' := s₃.toks) (fun b o hb qb => (Heap.get?_update_ne _ _ _ _ hb).trans qb) hTn n2 (.inr n1) n3 n4
    refine store_ok (X := X.hnd (some (.ref e))) J2 hN hi (.inl hn) (v := .ref e) rfl (fun s4 J4 => ?_) (.inr hn)
    have iσ : i < σ'.length := by rw [J2.len]; exact (List.getElem?_eq_some_iff.mp hi).1
    have body : PSs (X.hnd (some (.ref e))) [.Assign [.Name kn pk] (.Name n pn) pa] (tAsg (tVar i) (gName j)) := pss_one (ps_set hN hj hk (pe_var hi (.inl hn) hd hcd) hs hf)
    refine wpAny_mono (body pins s4 _ H' { nx := fun σ'' H'' => σ'' = (σ'.set i (some (.ref e))).set j (some (.ref e)) ∧ H'' = H', rt := fun _ _ => False } J4 ⟨.ref e, List.getElem?_set_self iσ, rfl, rfl⟩) (fun f s5 q5 => ?_) fun ev s5 q5 => q5.elim
    cases f with
    | ret v => obtain ⟨_, _, _, _, _, q⟩ := q5; exact q.elim
    | brk => obtain ⟨_, _, _, q⟩ := q5; exact q.elim
    | cont => obtain ⟨_, _, _, q⟩ := q5; exact q.elim
    | next =>
      obtain ⟨σ'', H'', J5, rfl, rfl⟩ := q5
      exact name_goes (J5.unhnd J.ok) hN hi hn fun s6 J6 => ⟨_, _, J6, q⟩
end
end L2
set_option linter.all false
set_option maxRecDepth 100000
namespace PySem.W
open PySem PySem.Calls PyProof.Rows Builtin Builtin.ObjectAttr
section
variable {prog : Program} {w : World} {A : Around} {E : Value → Shared → Prop} {s : Shared} {K : Frag} {x C : Addr} {ox : Obj} {od : Option Obj} {name : Str} {expr : Bool}
theorem exc_entryB {tk : Tok} {g a : Value} {Q : Fin → Shared → Prop} (X : K.In s.heap) (I : InstAt s.heap x ox C od) (hf : findObj K C od name = some (.bind g a))
    (hq : wpAny (model prog w) A (call g [a, .ref x, .ref C]) (fun v s' => Q (.done (.ret v)) s') E s) :
    wpAny (model prog w) A (Builtin.«object.__getattribute__» ⟨[.ref x, .str name tk], []⟩) Q E s := by
  obtain ⟨hh', g', d, t, os⟩ := s
  have L0 := I.type (M := model prog w)
  have L1 := looks_find (M := model prog w) X I hf
  unfold Builtin.«object.__getattribute__»
  refine wpAny_bind (wpAny_pure (wpAny_bind (wpAny_pure (wpAny_bind (L0.at (wpAny_bind (L1.at ?_)))))))
  show wpAny _ _ (bindTo g a (.ref x) (.ref C)) _ _ _
  unfold bindTo
  dsimp only
  exact wpAny_bind (wpAny_holding (wpAny_mono hq (fun _ _ z => wpAny_pure z) fun _ _ z => z))
theorem exc_byB {tk : Tok} {fill : Bool} {g a : Value} {Q : Value → Shared → Prop} (X : K.In s.heap) (I : InstAt s.heap x ox C od) (hga : findIn K (.ref C) "__getattribute__" = some (some (.builtin "BaseException.__getattribute__"))) (hgt : findIn K (.ref C) "__getattr__" = some none)
    (hB : mroIn K C (.type "BaseException") = some true) (hf : findObj K C od name = some (.bind g a))
    (h : ∀ A E, wpAny (model prog w) A (call g [a, .ref x, .ref C]) (fun v s' => v = .ref C ∧ Q (.ref C) s') E s) : wpAny (model prog w) A (getAttrBy (.ref x) (.str name tk) fill expr) Q E s := by
  obtain ⟨hp, g', d, t, os⟩ := s
  have L0 := I.type (M := model prog w)
  have L1 := looks_findIn (M := model prog w) X hga
  have L2 := looks_findIn (M := model prog w) X hgt
  have hx0 : (expr && onTheHeap (Value.builtin "BaseException.__getattribute__")) = false := by cases expr <;> rfl
  have hx2 : (Value.builtin "BaseException.__getattribute__" == Value.builtin "object.__getattribute__") = false := by decide +kernel
  unfold getAttrBy
  refine wpAny_holding (wpAny_bind (L0.at (wpAny_bind (L1.at ?_))))
  dsimp only
  rw [hx2, Bool.and_false, if_neg Bool.false_ne_true]
  unfold getAttrByItsOwn hookBefore
  rw [if_pos (show onTheHeap (Value.ref C) = true from rfl)]
  refine wpAny_bind (L2.at (wpAny_bind (wpAny_attempt (wpAny_holding ?_))))
  unfold callGetattribute
  rw [hx0, if_neg Bool.false_ne_true]
  unfold boundAndCalled
  rw [F.attr_ValueError.ga.bind]
  refine wpAny_bind (wpAny_pure ?_)
  refine wpAny_call (codeAny_call_builtin F.attr_ValueError.ga.plain F.entry_bexc_ga (check_bga X I hB (exc_entryB X I hf (wpAny_mono (h _ _) (fun v s' z => ?_) fun _ _ z => z))))
  obtain ⟨rfl, z⟩ := z
  exact wpAny_pure z
end
end PySem.W
namespace PySem.W
open PySem PySem.Calls PyProof.Rows Builtin Builtin.ObjectAttr
theorem oc_get {K : Frag} : specialIn K (.builtin "object.__class__") "__get__" = some (some (.builtin "getset_descriptor.__get__")) := by first | kernel_rfl | rfl
theorem oc_takes {K : Frag} : takesIn K (.builtin "object.__class__") = some true := by first | kernel_rfl | rfl
theorem findObj_dataO {K : Frag} {C : Addr} {od : Option Obj} {name : Str} {a g : Value} (hc : (clsIn K C).isSome = true) (ha : findIn K (.ref C) name = some (some a)) (hg : specialIn K a "__get__" = some (some g)) (ht : takesIn K a = some true) : findObj K C od name = some (.bind g a) := by
  obtain ⟨cd, hc⟩ := Option.isSome_iff_exists.mp hc
  unfold findObj
  rw [hc, Option.bind_some, ha, Option.bind_some]
  simp [hg, ht]
section
variable {prog : Program} {w : World} {A : Around} {E : Value → Shared → Prop} {s : Shared} {K : Frag} {x C : Addr} {ox : Obj} {od : Option Obj}
theorem exc_class {Q : Option Value → Shared → Prop} (X : K.In s.heap) (I : InstAt s.heap x ox C od) (c : L2.ExC K C) (h : Q (some (.ref C)) { s with toks := s.toks + 1 }) : wpAny (model prog w) A (getAttr? (.ref x) "__class__") Q E s := by
  obtain ⟨cd, bm, hcd, hm, hdi, hb, hv, hob, _⟩ := c.cls
  have mr : ∀ T, bm.contains T = true → mroIn K C T = some true := fun T q => by
    unfold mroIn
    rw [hcd, Option.bind_some, hm, if_neg (by simp), List.contains_cons, q, Bool.or_true]
  unfold getAttr? getAttrBy?
  refine wpAny_bind (wpAny_mkText (wpAny_bind (wpAny_attempt ?_)))
  refine exc_byB (s := { s with toks := s.toks + 1 }) (g := .builtin "getset_descriptor.__get__") (a := .builtin "object.__class__") X I c.ga c.gt (mr _ hb) (findObj_dataO (by rw [hcd]; rfl) c.cl oc_get oc_takes) fun A E => ?_
  exact wpAny_call (class_get (s := { s with toks := s.toks + 1 }) (ox := ox) (od := od) X I (mr _ hob) ⟨rfl, wpAny_pure h⟩)
theorem kitx_exc (c : L2.ExC K C) : KitX K (.ref x) (.ref C) (fun h => ∃ ox, InstAt h x ox C none ∨ ∃ od, InstAt h x ox C (some od)) where
  ty := fun _ _ _ ⟨ox, I⟩ => I.elim (fun I => I.type) fun ⟨od, I⟩ => I.type
  it := fun _ _ X _ => by
    obtain ⟨cd, bm, hcd, _⟩ := c.cls
    unfold clsIn at hcd
    split at hcd
    · rename_i c' d' cd' sl' ho
      intro A' Q' E' s' k q
      unfold isType loadHead
      exact wpAny_bind (wpAny_loadPart (k _ _ (X _ _ ho)) (wpAny_pure q))
    · cases hcd
  ne := fun h tp dd its n sl X htp => by
    obtain ⟨cd, bm, hcd, _⟩ := c.cls
    refine Bool.eq_false_iff.mpr fun q => ?_
    have e : C = tp := Value.ref.inj (beq_iff_eq.mp q)
    subst e
    unfold clsIn at hcd
    split at hcd
    · rename_i c' d' cd' sl' ho
      have z := (X _ _ ho).symm.trans htp
      cases z
    · cases hcd
  ca := fun X ⟨ox, I⟩ k => I.elim (fun I => exc_class X I c k) fun ⟨od, I⟩ => exc_class X I c k
end
end PySem.W
namespace L2
open PySem PySem.Spec PyProof.Rows
section
variable {X : Cx} {pins : List (Addr × Obj)} {σ : St} {H : Hp} {s : Shared}
def XdAt (H : Hp) : Option Addr → List (Str × V) → Prop
  | none, fs => fs = []
  | some dx, fs => H dx = some (.xd fs)
theorem exc_inst {e C : Addr} {od : Option Addr} {fs : List (Str × V)} (I : Inv X pins σ H s) (hE : H e = some (.ext (ExcP e C od))) (hd : XdAt H od fs) :
    ∃ ox odo, PySem.W.InstAt s.heap e ox C odo ∧ ∀ f v, fs.lookup f = some v → ∃ o u, odo = some o ∧ RelV v u ∧ PySem.W.lookIn f o = some (some u) := by
  obtain ⟨⟨t, tb, he⟩, _⟩ := I.hok e _ hE
  cases od with
  | none =>
    have : fs = [] := hd
    subst this
    exact ⟨_, none, ⟨he, rfl, rfl, trivial⟩, fun f v z => by cases z⟩
  | some dx =>
    have hd : H dx = some (.xd fs) := hd
    obtain ⟨mA, hn, hr⟩ := (show ObjOk X.prog X.w H s.heap dx (.xd fs) from I.hok dx _ hd)
    obtain ⟨o, ho, hl⟩ := lookIn_ns hn
    refine ⟨_, some o, ⟨he, rfl, rfl, ho⟩, fun f v z => ?_⟩
    have := hr f
    rw [z] at this
    cases q : mA f with
    | none => rw [q] at this; exact absurd this id
    | some u => rw [q] at this; exact ⟨o, u, rfl, this, by rw [hl, q]⟩
variable {e o : Expr} {ta : TE} {f : Str} {pos : Pos}
def tXGet (K : PySem.W.Frag) (ta : TE) (f : Str) : TE := fun σ H Q => ta σ H fun x H1 => ∃ a C od fs v, x = .ref a ∧ H1 a = some (.ext (ExcP a C od)) ∧ XdAt H1 od fs ∧ ExC K C ∧ NoAttr K C f ∧ fs.lookup f = some v ∧ Q v H1
theorem pe_xget (ha : PE X e ta) (hb : attributeBase e f X.env (eval e X.env) = eval e X.env) : PE X (.Attribute e f pos) (tXGet X.K ta f) := by
  intro pins s σ H Q I h
  refine attr_of hb (thn (ha pins s σ H _ I h) fun u s1 ⟨x, H1, I1, rx, a, C, od, fs, v, ex, hE, hd, c, na, hl, q⟩ => ?_)
  subst ex
  obtain rfl : u = Value.ref a := rx
  obtain ⟨ox, odo, J, lk⟩ := exc_inst I1 hE hd
  obtain ⟨ob, u, rfl, ru, hlk⟩ := lk f v hl
  obtain ⟨cd, bm, hcd, hm, hdi, hB, hv, hob, _⟩ := c.cls
  have mr : PySem.W.mroIn X.K C (.type "BaseException") = some true := by
    unfold PySem.W.mroIn
    rw [hcd, Option.bind_some, hm, if_neg (by simp), List.contains_cons, hB, Bool.or_true]
  have hh : PySem.W.hasDictIn X.K C = true := by unfold PySem.W.hasDictIn; rw [hcd]; exact hdi
  exact PySem.W.exc_get I1.kIn J c.ga c.gt mr (PySem.W.findObj_own hh (na : PySem.W.findIn X.K (.ref C) f = some none) rfl hlk) (handed_of ru) ⟨v, H1, I1.tok _, ru, q⟩
def rIsX (K : PySem.W.Frag) : List V → Hp → VK → Prop := fun xs H Q => ∃ (a C : Addr) (od : Option Addr) (fs : List (Str × V)) (cv : V) (c : Value) (b : Bool), xs = [.ref a, cv] ∧ (∀ u, RelV cv u → u = c) ∧ H a = some (.ext (ExcP a C od)) ∧ XdAt H od fs ∧ ExC K C ∧ PySem.W.kitOne K (.ref C) c = some b ∧ Q (.bl b) H
theorem call_isX : CallR X (.builtin "isinstance") (rIsX X.K) := by
  intro pins s σ H xs us Q I r h
  obtain ⟨a, C, od, fs, cv, c, b, rfl, hc, hE, hd, xc, e, q⟩ := h
  cases r with
  | cons r rr =>
    cases rr with
    | cons r2 r3 =>
      cases r3
      have := hc _ r2
      subst this
      obtain rfl : _ = Value.ref a := r
      obtain ⟨ox, odo, J, _⟩ := exc_inst I hE hd
      refine PySem.W.kia_one (PySem.W.kitx_exc xc) I.kIn ⟨ox, ?_⟩ e (fun z => nomatch z) fun tk => ⟨.bl b, H, I.tok tk, rfl, q⟩
      cases odo with
      | none => exact .inl J
      | some o => exact .inr ⟨o, J⟩
end
end L2
set_option linter.all false
set_option maxRecDepth 100000
set_option maxHeartbeats 4000000
namespace BV
open PySem PySem.Spec L2
inductive D where
  | non | bl (b : Bool) | int (i : Int) | str (x : Str)
  | tup (ds : List D) | lst (ds : List D)
  | dk (ks : List Key) (ds : List D)
  | dt (ks : List (List Key)) (ds : List D)
  | kind (sq : List Int)
  | fn (x : Str)
  | kt (ds : List D)
  | ty (n : String)
  | ks (ds : List D)
  | exc (c : Str) (ns : List Str) (ds : List D)
structure Wd where
  K : PySem.W.Frag
  mg : Str → Option Value
  C : Addr
abbrev Av := Addr → Prop
def ImmO : HO → Prop
  | .tup _ => True
  | .ins _ _ _ => True
  | .ext _ => True
  | .xd _ => True
  | _ => False
def KTup (K : PySem.W.Frag) (a : Addr) (xs : List V) : Prop := ∃ (o : Obj) (its : Array Value) (n : Nat), K.lookup a = some o ∧ o.cls = .type "tuple" ∧ o.data = .seq its n ∧ its.size ≤ sizeLine ∧ Vals xs its.toList
def KLst (K : PySem.W.Frag) (a : Addr) (xs : List V) : Prop := ∃ (o : Obj) (its : Array Value) (n : Nat), K.lookup a = some o ∧ o.cls = .type "list" ∧ o.dict = none ∧ o.data = .seq its n ∧ its.size ≤ sizeLine ∧ Vals xs its.toList
def TupA (W : Wd) (A : Av) (H : Hp) (p : Addr) (vs : List V) : Prop := ¬A p ∧ H p = some (.tup vs)
def LstA (W : Wd) (A : Av) (H : Hp) (p : Addr) (vs : List V) : Prop := ¬A p ∧ Rd H p (.lst vs)
def XdA (A : Av) (H : Hp) : Option Addr → List (Str × V) → Prop
  | none, fs => fs = []
  | some dx, fs => ¬A dx ∧ H dx = some (.xd fs)
mutual
/-- v in H reads as d, over nothing in A that may change -/
def Rp (W : Wd) (A : Av) (H : Hp) : D → V → Prop
  | .non, v => v = .non
  | .bl b, v => v = .bl b
  | .int i, v => v = .int i
  | .str x, v => v = .str x
  | .tup ds, v => ∃ p vs, v = .ref p ∧ TupA W A H p vs ∧ RpL W A H ds vs
  | .lst ds, v => ∃ p vs, v = .ref p ∧ LstA W A H p vs ∧ RpL W A H ds vs
  | .dk ks ds, v => ∃ p vs, v = .ref p ∧ ¬A p ∧ Rd H p (.dK (ks.zip vs)) ∧ ks.length = ds.length ∧ RpL W A H ds vs
  | .dt ks ds, v => ∃ p vs, v = .ref p ∧ ¬A p ∧ Rd H p (.dT (ks.zip vs)) ∧ ks.length = ds.length ∧ RpL W A H ds vs
  | .kind sq, v => ∃ p dx t, v = .ref p ∧ ¬A p ∧ H p = some (.ins W.C dx (Toy.flds t sq.length)) ∧ TupA W A H t (sq.map V.int)
  | .fn x, v => ∃ f, v = .ref f ∧ W.mg x = some (.ref f)
  | .kt ds, v => ∃ p vs, v = .ref p ∧ KTup W.K p vs ∧ RpL W A H ds vs
  | .ty n, v => v = .ty n
  | .ks ds, v => ∃ p vs, v = .ref p ∧ ((¬A p ∧ Rd H p (.lst vs)) ∨ KLst W.K p vs) ∧ RpL W A H ds vs
  | .exc c ns ds, v => ∃ p C od vs, v = .ref p ∧ ¬A p ∧ W.mg c = some (.ref C) ∧ (ExC W.K C ∧ ∀ n ∈ ns, NoAttr W.K C n) ∧ H p = some (.ext (ExcP p C od)) ∧ XdA A H od (ns.zip vs) ∧ ns.length = ds.length ∧ RpL W A H ds vs
def RpL (W : Wd) (A : Av) (H : Hp) : List D → List V → Prop
  | [], vs => vs = []
  | d :: ds, vs => ∃ v r, vs = v :: r ∧ Rp W A H d v ∧ RpL W A H ds r
end
def CellO : HO → Prop
  | .lst _ => True
  | .dK _ => True
  | .dT _ => True
  | _ => False
structure Kp (A : Av) (H H' : Hp) : Prop where
  im : ∀ q o, ¬A q → H q = some o → ImmO o → H' q = some o
  rd : ∀ q u, ¬A q → CellO u → Rd H q u → Rd H' q u
theorem Kp.same {A : Av} {H H' : Hp} (s : Same H H') : Kp A H H' := ⟨fun q o _ h _ => s q o h, fun q u _ _ r => by
  rcases r with r | ⟨o, r⟩
  · exact .inl (s _ _ r)
  · exact .inr ⟨o, s _ _ r⟩⟩
theorem Kp.refl {A : Av} {H : Hp} : Kp A H H := ⟨fun _ _ _ h _ => h, fun _ _ _ _ r => r⟩
theorem Kp.trans {A : Av} {H H1 H2 : Hp} (a : Kp A H H1) (b : Kp A H1 H2) : Kp A H H2 := ⟨fun q o n h i => b.im q o n (a.im q o n h i) i, fun q u n c r => b.rd q u n c (a.rd q u n c r)⟩
theorem Kp.upd {A : Av} {H : Hp} {p : Addr} {o : HO} (h : A p) : Kp A H (L2.upd H p o) := by
  have ne : ∀ q, ¬A q → q ≠ p := fun q n e => n (by rw [e]; exact h)
  refine ⟨fun q o n h' _ => by rw [upd_ne (ne q n)]; exact h', fun q u n _ r => ?_⟩
  unfold Rd
  rw [upd_ne (ne q n)]; exact r
theorem TupA.kp {W : Wd} {A : Av} {H H' : Hp} {p : Addr} {vs : List V} (k : Kp A H H') (h : TupA W A H p vs) : TupA W A H' p vs := ⟨h.1, k.im _ _ h.1 h.2 trivial⟩
theorem LstA.kp {W : Wd} {A : Av} {H H' : Hp} {p : Addr} {vs : List V} (k : Kp A H H') (h : LstA W A H p vs) : LstA W A H' p vs := ⟨h.1, k.rd _ _ h.1 trivial h.2⟩
theorem XdA.kp {A : Av} {H H' : Hp} {od : Option Addr} {fs : List (Str × V)} (k : Kp A H H') (h : XdA A H od fs) : XdA A H' od fs := by
  cases od with
  | none => exact h
  | some dx => exact ⟨h.1, k.im _ _ h.1 h.2 trivial⟩
mutual
theorem Rp.kp {W : Wd} {A : Av} {H H' : Hp} (k : Kp A H H') : ∀ (d : D) (v : V), Rp W A H d v → Rp W A H' d v
  | .non, v, h => by unfold Rp at h ⊢; exact h
  | .bl b, v, h => by unfold Rp at h ⊢; exact h
  | .int i, v, h => by unfold Rp at h ⊢; exact h
  | .str x, v, h => by unfold Rp at h ⊢; exact h
  | .tup ds, v, h => by unfold Rp at h ⊢; obtain ⟨p, vs, e, t, r⟩ := h; exact ⟨p, vs, e, t.kp k, RpL.kp k ds vs r⟩
  | .lst ds, v, h => by unfold Rp at h ⊢; obtain ⟨p, vs, e, t, r⟩ := h; exact ⟨p, vs, e, t.kp k, RpL.kp k ds vs r⟩
  | .dk ks ds, v, h => by unfold Rp at h ⊢; obtain ⟨p, vs, e, n, t, l, r⟩ := h; exact ⟨p, vs, e, n, k.rd _ _ n trivial t, l, RpL.kp k ds vs r⟩
  | .dt ks ds, v, h => by unfold Rp at h ⊢; obtain ⟨p, vs, e, n, t, l, r⟩ := h; exact ⟨p, vs, e, n, k.rd _ _ n trivial t, l, RpL.kp k ds vs r⟩
  | .kind sq, v, h => by unfold Rp at h ⊢; obtain ⟨p, dx, t, e, n, q, r⟩ := h; exact ⟨p, dx, t, e, n, k.im _ _ n q trivial, r.kp k⟩
  | .fn x, v, h => by unfold Rp at h ⊢; exact h
  | .kt ds, v, h => by unfold Rp at h ⊢; obtain ⟨p, vs, e, t, r⟩ := h; exact ⟨p, vs, e, t, RpL.kp k ds vs r⟩
  | .ty n, v, h => by unfold Rp at h ⊢; exact h
  | .ks ds, v, h => by unfold Rp at h ⊢; obtain ⟨p, vs, e, t, r⟩ := h; exact ⟨p, vs, e, t.imp (fun t => ⟨t.1, k.rd _ _ t.1 trivial t.2⟩) id, RpL.kp k ds vs r⟩
  | .exc c ns ds, v, h => by unfold Rp at h ⊢; obtain ⟨p, C, od, vs, e, n, m, x, q, d, l, r⟩ := h; exact ⟨p, C, od, vs, e, n, m, x, k.im _ _ n q trivial, d.kp k, l, RpL.kp k ds vs r⟩
theorem RpL.kp {W : Wd} {A : Av} {H H' : Hp} (k : Kp A H H') : ∀ (ds : List D) (vs : List V), RpL W A H ds vs → RpL W A H' ds vs
  | [], vs, h => by unfold RpL at h ⊢; exact h
  | d :: ds, vs, h => by unfold RpL at h ⊢; obtain ⟨v, r, e, a, b⟩ := h; exact ⟨v, r, e, Rp.kp k d v a, RpL.kp k ds r b⟩
end
def Ex (H : Hp) (A A' : Av) : Prop := ∀ q, A' q → A q ∨ H q = none
theorem TupA.ex {W : Wd} {A A' : Av} {H : Hp} {p : Addr} {vs : List V} (k : Ex H A A') (h : TupA W A H p vs) : TupA W A' H p vs := ⟨fun a => (k p a).elim h.1 (fun z => by rw [h.2] at z; cases z), h.2⟩
theorem Rd.some {H : Hp} {p : Addr} {u : HO} (r : Rd H p u) : H p ≠ none := by
  rcases r with r | ⟨o, r⟩ <;> rw [r] <;> simp
theorem LstA.ex {W : Wd} {A A' : Av} {H : Hp} {p : Addr} {vs : List V} (k : Ex H A A') (h : LstA W A H p vs) : LstA W A' H p vs := ⟨fun a => (k p a).elim h.1 (fun z => absurd z (Rd.some h.2)), h.2⟩
theorem XdA.ex {A A' : Av} {H : Hp} {od : Option Addr} {fs : List (Str × V)} (k : Ex H A A') (h : XdA A H od fs) : XdA A' H od fs := by
  cases od with
  | none => exact h
  | some dx => exact ⟨fun a => (k dx a).elim h.1 (fun z => by rw [h.2] at z; cases z), h.2⟩
mutual
theorem Rp.ex {W : Wd} {A A' : Av} {H : Hp} (k : Ex H A A') : ∀ (d : D) (v : V), Rp W A H d v → Rp W A' H d v
  | .non, v, h => by unfold Rp at h ⊢; exact h
  | .bl b, v, h => by unfold Rp at h ⊢; exact h
  | .int i, v, h => by unfold Rp at h ⊢; exact h
  | .str x, v, h => by unfold Rp at h ⊢; exact h
  | .tup ds, v, h => by unfold Rp at h ⊢; obtain ⟨p, vs, e, t, r⟩ := h; exact ⟨p, vs, e, t.ex k, RpL.ex k ds vs r⟩
  | .lst ds, v, h => by unfold Rp at h ⊢; obtain ⟨p, vs, e, t, r⟩ := h; exact ⟨p, vs, e, t.ex k, RpL.ex k ds vs r⟩
  | .dk ks ds, v, h => by unfold Rp at h ⊢; obtain ⟨p, vs, e, n, t, l, r⟩ := h; exact ⟨p, vs, e, fun a => (k p a).elim n (fun z => absurd z (Rd.some t)), t, l, RpL.ex k ds vs r⟩
  | .dt ks ds, v, h => by unfold Rp at h ⊢; obtain ⟨p, vs, e, n, t, l, r⟩ := h; exact ⟨p, vs, e, fun a => (k p a).elim n (fun z => absurd z (Rd.some t)), t, l, RpL.ex k ds vs r⟩
  | .kind sq, v, h => by unfold Rp at h ⊢; obtain ⟨p, dx, t, e, n, q, r⟩ := h; exact ⟨p, dx, t, e, fun a => (k p a).elim n (fun z => by rw [q] at z; cases z), q, r.ex k⟩
  | .fn x, v, h => by unfold Rp at h ⊢; exact h
  | .kt ds, v, h => by unfold Rp at h ⊢; obtain ⟨p, vs, e, t, r⟩ := h; exact ⟨p, vs, e, t, RpL.ex k ds vs r⟩
  | .ty n, v, h => by unfold Rp at h ⊢; exact h
  | .ks ds, v, h => by unfold Rp at h ⊢; obtain ⟨p, vs, e, t, r⟩ := h; exact ⟨p, vs, e, t.imp (fun t => ⟨fun a => (k p a).elim t.1 (fun z => absurd z (Rd.some t.2)), t.2⟩) id, RpL.ex k ds vs r⟩
  | .exc c ns ds, v, h => by unfold Rp at h ⊢; obtain ⟨p, C, od, vs, e, n, m, x, q, d, l, r⟩ := h; exact ⟨p, C, od, vs, e, fun a => (k p a).elim n (fun z => by rw [q] at z; cases z), m, x, q, d.ex k, l, RpL.ex k ds vs r⟩
theorem RpL.ex {W : Wd} {A A' : Av} {H : Hp} (k : Ex H A A') : ∀ (ds : List D) (vs : List V), RpL W A H ds vs → RpL W A' H ds vs
  | [], vs, h => by unfold RpL at h ⊢; exact h
  | d :: ds, vs, h => by unfold RpL at h ⊢; obtain ⟨v, r, e, a, b⟩ := h; exact ⟨v, r, e, Rp.ex k d v a, RpL.ex k ds r b⟩
end
end BV
set_option linter.all false
set_option maxRecDepth 100000
set_option maxHeartbeats 4000000
namespace BV
open PySem PySem.Spec L2
inductive Sl where
  | u | f (d : D) | o (d : D)
abbrev Env := List Sl
abbrev EF := Env → Option D
abbrev TF := Env → Option Bool
abbrev AF := Env → Option (List D)
def Cell (W : Wd) (A : Av) (H : Hp) (p : Addr) : D → Prop
  | .lst ds => ∃ vs, H p = some (.lst vs) ∧ RpL W A H ds vs
  | .dk ks ds => ∃ vs, H p = some (.dK (ks.zip vs)) ∧ ks.length = ds.length ∧ RpL W A H ds vs
  | .dt ks ds => ∃ vs, H p = some (.dT (ks.zip vs)) ∧ ks.length = ds.length ∧ RpL W A H ds vs
  | _ => False
theorem Cell.kp {W : Wd} {A : Av} {H H' : Hp} {p : Addr} {d : D} (k : Kp A H H') (e : ∀ o, H p = some o → H' p = some o) (h : Cell W A H p d) : Cell W A H' p d := by
  cases d <;> first | exact h | skip
  · obtain ⟨vs, a, b⟩ := h; exact ⟨vs, e _ a, RpL.kp k _ _ b⟩
  · obtain ⟨vs, a, l, b⟩ := h; exact ⟨vs, e _ a, l, RpL.kp k _ _ b⟩
  · obtain ⟨vs, a, l, b⟩ := h; exact ⟨vs, e _ a, l, RpL.kp k _ _ b⟩
theorem Cell.ex {W : Wd} {A A' : Av} {H : Hp} {p : Addr} {d : D} (k : Ex H A A') (h : Cell W A H p d) : Cell W A' H p d := by
  cases d <;> first | exact h | skip
  · obtain ⟨vs, a, b⟩ := h; exact ⟨vs, a, RpL.ex k _ _ b⟩
  · obtain ⟨vs, a, l, b⟩ := h; exact ⟨vs, a, l, RpL.ex k _ _ b⟩
  · obtain ⟨vs, a, l, b⟩ := h; exact ⟨vs, a, l, RpL.ex k _ _ b⟩
theorem Cell.rp {W : Wd} {A : Av} {H : Hp} {p : Addr} {d : D} (n : ¬A p) (h : Cell W A H p d) : Rp W A H d (.ref p) := by
  cases d <;> first | exact absurd h id | (unfold Rp; skip)
  · obtain ⟨vs, a, b⟩ := h; exact ⟨p, vs, rfl, ⟨n, .inl a⟩, b⟩
  · obtain ⟨vs, a, l, b⟩ := h; exact ⟨p, vs, rfl, n, .inl a, l, b⟩
  · obtain ⟨vs, a, l, b⟩ := h; exact ⟨p, vs, rfl, n, .inl a, l, b⟩
theorem Cell.some {W : Wd} {A : Av} {H : Hp} {p : Addr} {d : D} (h : Cell W A H p d) : H p ≠ none := by
  cases d <;> first | exact absurd h id | skip
  · obtain ⟨vs, a, b⟩ := h; rw [a]; simp
  · obtain ⟨vs, a, l, b⟩ := h; rw [a]; simp
  · obtain ⟨vs, a, l, b⟩ := h; rw [a]; simp
def isCt : D → Bool
  | .lst _ => true
  | .dk _ _ => true
  | .dt _ _ => true
  | _ => false
def AX (A : Av) (H : Hp) : Prop := ∀ q, A q → ∃ o, H q = some o ∧ CellO o
theorem AX.ne {A : Av} {H : Hp} {p : Addr} (ax : AX A H) (n : H p = none) : ¬A p := fun a => by obtain ⟨o, h, _⟩ := ax p a; rw [n] at h; cases h
structure SE (W : Wd) (A : Av) (H : Hp) (σ : St) (ρ : Env) : Prop where
  len : σ.length = ρ.length
  fz : ∀ (i : Nat) (d : D), ρ[i]? = some (.f d) → ∃ v, σ[i]? = some (some v) ∧ Rp W A H d v
  ow : ∀ (i : Nat) (d : D), ρ[i]? = some (.o d) → ∃ p, σ[i]? = some (some (.ref p)) ∧ A p ∧ Cell W A H p d
  ax : AX A H
theorem SE.kp {W : Wd} {A : Av} {H H' : Hp} {σ : St} {ρ : Env} (h : SE W A H σ ρ) (k : Kp A H H') (e : ∀ q o, A q → H q = some o → H' q = some o) : SE W A H' σ ρ :=
  ⟨h.len, fun i d q => let ⟨v, a, b⟩ := h.fz i d q; ⟨v, a, Rp.kp k d v b⟩, fun i d q => let ⟨p, a, b, c⟩ := h.ow i d q; ⟨p, a, b, c.kp k (fun o z => e p o b z)⟩, fun q a => let ⟨o, z, c⟩ := h.ax q a; ⟨o, e q o a z, c⟩⟩
theorem SE.same {W : Wd} {A : Av} {H H' : Hp} {σ : St} {ρ : Env} (h : SE W A H σ ρ) (s : Same H H') : SE W A H' σ ρ := h.kp (.same s) fun q o _ z => s q o z
theorem SE.ex {W : Wd} {A A' : Av} {H : Hp} {σ : St} {ρ : Env} (h : SE W A H σ ρ) (k : Ex H A A') (i : ∀ q, A q → A' q) (x : AX A' H) : SE W A' H σ ρ :=
  ⟨h.len, fun j d q => let ⟨v, a, b⟩ := h.fz j d q; ⟨v, a, Rp.ex k d v b⟩, fun j d q => let ⟨p, a, b, c⟩ := h.ow j d q; ⟨p, a, i p b, c.ex k⟩, x⟩
def Rw (W : Wd) (A : Av) (H : Hp) (d : D) (v : V) : Prop := Rp W A H d v ∨ ∃ p, v = .ref p ∧ A p ∧ Cell W A H p d
theorem Rw.same {W : Wd} {A : Av} {H H' : Hp} {d : D} {v : V} (h : Rw W A H d v) (s : Same H H') : Rw W A H' d v := by
  rcases h with h | ⟨p, e, a, c⟩
  · exact .inl (Rp.kp (.same s) _ _ h)
  · exact .inr ⟨p, e, a, c.kp (.same s) fun o z => s _ _ z⟩
inductive Md where
  | f | s | w
  deriving DecidableEq
def Fr (W : Wd) (A : Av) (H H' : Hp) (d : D) (v : V) : Prop := Rp W A H' d v ∧ (isCt d = true → ∃ p, v = .ref p ∧ H p = none ∧ Cell W (fun q => A q ∨ q = p) H' p d)
def rep (W : Wd) (A : Av) (H H' : Hp) (d : D) (v : V) : Md → Prop
  | .f => Fr W A H H' d v
  | .s => Rp W A H' d v
  | .w => Rw W A H' d v
theorem rep.w {W : Wd} {A : Av} {H H' : Hp} {d : D} {v : V} : ∀ {m : Md}, rep W A H H' d v m → Rw W A H' d v
  | .f, h => .inl h.1
  | .s, h => .inl h
  | .w, h => h
theorem Fr.of {W : Wd} {A : Av} {H H1 H' : Hp} {d : D} {p : Addr} (ax : AX A H) (n : H p = none) (c : Cell W (fun q => A q ∨ q = p) H' p d) : Fr W A H H' d (.ref p) :=
  ⟨(c.ex (A' := A) fun q a => .inl (.inl a)).rp (ax.ne n), fun _ => ⟨p, rfl, n, c⟩⟩
theorem none_of {H H1 : Hp} {p : Addr} (s : Same H H1) (n : H1 p = none) : H p = none := by
  cases h : H p with
  | none => rfl
  | some o => rw [s p o h] at n; cases n
theorem Fr.back {W : Wd} {A : Av} {H H1 H' : Hp} {d : D} {v : V} (s : Same H H1) (h : Fr W A H1 H' d v) : Fr W A H H' d v :=
  ⟨h.1, fun e => let ⟨p, a, n, c⟩ := h.2 e; ⟨p, a, none_of s n, c⟩⟩
theorem rep.back {W : Wd} {A : Av} {H H1 H' : Hp} {d : D} {v : V} (s : Same H H1) : ∀ {m : Md}, rep W A H1 H' d v m → rep W A H H' d v m
  | .f, h => Fr.back s h
  | .s, h => h
  | .w, h => h
abbrev wd (X : Cx) (C : Addr) : Wd := ⟨X.K, X.mg, C⟩
def VE (W : Wd) (m : Md) (te : TE) (F : EF) : Prop := ∀ (A : Av) (σ : St) (ρ : Env) (H : Hp) (Q : VK) (d : D), SE W A H σ ρ → F ρ = some d → (∀ v H', Same H H' → rep W A H H' d v m → Q v H') → te σ H Q
def VT (W : Wd) (tt : TT) (F : TF) : Prop := ∀ (A : Av) (σ : St) (ρ : Env) (H : Hp) (Q : Bool → Hp → Prop) (b : Bool), SE W A H σ ρ → F ρ = some b → (∀ H', Same H H' → Q b H') → tt σ H Q
def RwL (W : Wd) (A : Av) (H : Hp) : List D → List V → Prop
  | [], vs => vs = []
  | d :: ds, vs => ∃ v r, vs = v :: r ∧ Rw W A H d v ∧ RwL W A H ds r
def VA (W : Wd) (ta : TA) (F : AF) : Prop := ∀ (A : Av) (σ : St) (ρ : Env) (H : Hp) (Q : List V → Hp → Prop) (ds : List D), SE W A H σ ρ → F ρ = some ds → (∀ vs H', Same H H' → RwL W A H' ds vs → Q vs H') → ta σ H Q
def VB (W : Wd) (ta : TA) (F : AF) : Prop := ∀ (A : Av) (σ : St) (ρ : Env) (H : Hp) (Q : List V → Hp → Prop) (ds : List D), SE W A H σ ρ → F ρ = some ds → (∀ vs H', Same H H' → RpL W A H' ds vs → Q vs H') → ta σ H Q
structure EV (X : Cx) (C : Addr) (m : Md) (e : Expr) (te : TE) (F : EF) : Prop where
  pe : PE X e te
  ve : VE (wd X C) m te F
structure TV (X : Cx) (C : Addr) (e : Expr) (tt : TT) (F : TF) : Prop where
  pt : PT X e tt
  vt : VT (wd X C) tt F
structure AV (X : Cx) (C : Addr) (es : List Expr) (ta : TA) (F : AF) : Prop where
  pa : PA X es ta
  va : VA (wd X C) ta F
structure BV (X : Cx) (C : Addr) (es : List Expr) (ta : TA) (F : AF) : Prop where
  pa : PA X es ta
  vb : VB (wd X C) ta F
theorem Rp.same {W : Wd} {A : Av} {H H' : Hp} {d : D} {v : V} (h : Rp W A H d v) (s : Same H H') : Rp W A H' d v := Rp.kp (.same s) _ _ h
theorem RpL.same {W : Wd} {A : Av} {H H' : Hp} {ds : List D} {vs : List V} (h : RpL W A H ds vs) (s : Same H H') : RpL W A H' ds vs := RpL.kp (.same s) _ _ h
theorem RwL.same {W : Wd} {A : Av} {H H' : Hp} : ∀ {ds : List D} {vs : List V}, RwL W A H ds vs → Same H H' → RwL W A H' ds vs
  | [], _, h, _ => h
  | _ :: _, _, ⟨v, r, e, a, b⟩, s => ⟨v, r, e, a.same s, RwL.same b s⟩
theorem RpL.w {W : Wd} {A : Av} {H : Hp} : ∀ {ds : List D} {vs : List V}, RpL W A H ds vs → RwL W A H ds vs
  | [], _, h => by unfold RpL at h; exact h
  | _ :: _, _, h => by unfold RpL at h; obtain ⟨v, r, e, a, b⟩ := h; exact ⟨v, r, e, .inl a, RpL.w b⟩
def eC (d : D) : EF := fun _ => some d
def eV (i : Nat) : EF := fun ρ => match ρ[i]? with
  | some (.f d) => some d
  | _ => none
def eW (i : Nat) : EF := fun ρ => match ρ[i]? with
  | some (.f d) => some d
  | some (.o d) => some d
  | _ => none
def e1 (f : D → Option D) (a : EF) : EF := fun ρ => (a ρ).bind f
def e2 (f : D → D → Option D) (a b : EF) : EF := fun ρ => (a ρ).bind fun x => (b ρ).bind fun y => f x y
def eN (f : List D → Option D) (as : AF) : EF := fun ρ => (as ρ).bind f
def aNil : AF := fun _ => some []
def aCons (a : EF) (as : AF) : AF := fun ρ => (a ρ).bind fun x => (as ρ).bind fun xs => some (x :: xs)
theorem Same.rfl {H : Hp} : Same H H := fun _ _ h => h
section
variable {X : Cx} {C : Addr}
theorem EV.int {i j pos} : EV X C .f (.Constant (.int i) j pos) (tC (.int i)) (eC (.int i)) := ⟨pe_int, fun A σ ρ H Q d hs e k => by cases e; exact k _ _ Same.rfl ⟨by unfold Rp; rfl, fun z => nomatch z⟩⟩
theorem EV.bl {b j pos} : EV X C .f (.Constant (.bool b) j pos) (tC (.bl b)) (eC (.bl b)) := ⟨pe_bl, fun A σ ρ H Q d hs e k => by cases e; exact k _ _ Same.rfl ⟨by unfold Rp; rfl, fun z => nomatch z⟩⟩
theorem EV.non {j pos} : EV X C .f (.Constant .none j pos) (tC .non) (eC .non) := ⟨pe_non, fun A σ ρ H Q d hs e k => by cases e; exact k _ _ Same.rfl ⟨by unfold Rp; rfl, fun z => nomatch z⟩⟩
theorem EV.str {x j pos} : EV X C .f (.Constant (.str x) j pos) (tC (.str x)) (eC (.str x)) := ⟨pe_str, fun A σ ρ H Q d hs e k => by cases e; exact k _ _ Same.rfl ⟨by unfold Rp; rfl, fun z => nomatch z⟩⟩
theorem EV.v {e : Expr} (i : Nat) (h : PE X e (tVar i)) : EV X C .s e (tVar i) (eV i) := ⟨h, fun A σ ρ H Q d hs e k => by
  unfold eV at e
  cases hr : ρ[i]? with
  | none => rw [hr] at e; cases e
  | some z =>
    rw [hr] at e
    cases z with
    | u => cases e
    | f d' => cases e; obtain ⟨v, a, b⟩ := hs.fz i _ hr; exact ⟨v, a, k v H Same.rfl b⟩
    | o d' => cases e⟩
theorem EV.w {e : Expr} (i : Nat) (h : PE X e (tVar i)) : EV X C .w e (tVar i) (eW i) := ⟨h, fun A σ ρ H Q d hs e k => by
  unfold eW at e
  cases hr : ρ[i]? with
  | none => rw [hr] at e; cases e
  | some z =>
    rw [hr] at e
    cases z with
    | u => cases e
    | f d' => cases e; obtain ⟨v, a, b⟩ := hs.fz i _ hr; exact ⟨v, a, k v H Same.rfl (.inl b)⟩
    | o d' => cases e; obtain ⟨p, a, b, c⟩ := hs.ow i _ hr; exact ⟨_, a, k _ H Same.rfl (.inr ⟨p, rfl, b, c⟩)⟩⟩
theorem AV.nil : AV X C [] tNil aNil := ⟨pa_nil, fun A σ ρ H Q ds hs e k => by cases e; exact k _ _ Same.rfl rfl⟩
theorem AV.cons {e : Expr} {es : List Expr} {m : Md} {te : TE} {ta : TA} {F : EF} {G : AF} (a : EV X C m e te F) (b : AV X C es ta G) (hst : starEach (e :: es) X.env = (false, eval e X.env) :: starEach es X.env := by rfl) : AV X C (e :: es) (tCons te ta) (aCons F G) :=
  ⟨pa_cons a.pe b.pa hst, fun A σ ρ H Q ds hs e k => by
    unfold aCons at e
    obtain ⟨d, e1, e⟩ := Option.bind_eq_some_iff.mp e
    obtain ⟨r, e2, e⟩ := Option.bind_eq_some_iff.mp e
    cases e
    exact a.ve A σ ρ H _ d hs e1 fun v H1 s1 r1 => b.va A σ ρ H1 _ r (hs.same s1) e2 fun vs H2 s2 r2 => k _ _ (s1.trans s2) ⟨v, vs, rfl, r1.w.same s2, r2⟩⟩
theorem BV.nil : BV X C [] tNil aNil := ⟨pa_nil, fun A σ ρ H Q ds hs e k => by cases e; exact k _ _ Same.rfl (by unfold RpL; rfl)⟩
theorem EV.st {e : Expr} {te : TE} {F : EF} (a : EV X C .f e te F) : EV X C .s e te F := ⟨a.pe, fun A σ ρ H Q d hs e k => a.ve A σ ρ H Q d hs e fun v H' s r => k v H' s r.1⟩
theorem BV.cons {e : Expr} {es : List Expr} {te : TE} {ta : TA} {F : EF} {G : AF} (a : EV X C .s e te F) (b : BV X C es ta G) (hst : starEach (e :: es) X.env = (false, eval e X.env) :: starEach es X.env := by rfl) : BV X C (e :: es) (tCons te ta) (aCons F G) :=
  ⟨pa_cons a.pe b.pa hst, fun A σ ρ H Q ds hs e k => by
    unfold aCons at e
    obtain ⟨d, e1, e⟩ := Option.bind_eq_some_iff.mp e
    obtain ⟨r, e2, e⟩ := Option.bind_eq_some_iff.mp e
    cases e
    exact a.ve A σ ρ H _ d hs e1 fun v H1 s1 r1 => b.vb A σ ρ H1 _ r (hs.same s1) e2 fun vs H2 s2 r2 => k _ _ (s1.trans s2) (by unfold RpL; exact ⟨v, vs, rfl, r1.same s2, r2⟩)⟩
end
structure OV (X : Cx) (C : Addr) (m : Md) (f : Value → Value → Sem Value) (r : R2) (g : D → D → Option D) : Prop where
  op : OpR X f r
  ov : ∀ (A : Av) (H : Hp) (x y : V) (a b d : D) (Q : VK), AX A H → Rw (wd X C) A H a x → Rw (wd X C) A H b y → g a b = some d → (∀ v H', Same H H' → rep (wd X C) A H H' d v m → Q v H') → r x y H Q
section
variable {X : Cx} {C : Addr} {a b : Expr} {ta tb : TE} {Fa Fb : EF} {m ma mb : Md} {r : R2} {g : D → D → Option D} {pos : Pos}
theorem ve_op {f : Value → Value → Sem Value} (o : OV X C m f r g) (ha : VE (wd X C) ma ta Fa) (hb : VE (wd X C) mb tb Fb) : VE (wd X C) m (tOp r ta tb) (e2 g Fa Fb) := by
  intro A σ ρ H Q d hs e k
  unfold e2 at e
  obtain ⟨x, ex, e⟩ := Option.bind_eq_some_iff.mp e
  obtain ⟨y, ey, e⟩ := Option.bind_eq_some_iff.mp e
  refine ha A σ ρ H _ x hs ex fun v H1 s1 r1 => hb A σ ρ H1 _ y (hs.same s1) ey fun u H2 s2 r2 => ?_
  exact o.ov A H2 v u x y d Q ((hs.same s1).same s2).ax (r1.w.same s2) r2.w e fun z H3 s3 r3 => k z H3 (s1.trans (s2.trans s3)) (r3.back (s1.trans s2))
theorem EV.op {op : Operator} (o : OV X C m (binaryOp op) r g) (ha : EV X C ma a ta Fa) (hb : EV X C mb b tb Fb) : EV X C m (.BinOp a op b pos) (tOp r ta tb) (e2 g Fa Fb) := ⟨pe_op o.op ha.pe hb.pe, ve_op o ha.ve hb.ve⟩
theorem EV.cmp {op : CmpOp} (o : OV X C m (compareOp op) r g) (ha : EV X C ma a ta Fa) (hb : EV X C mb b tb Fb) (hm : behindInMarks op b = false) : EV X C m (.Compare a [op] [b] pos) (tOp r ta tb) (e2 g Fa Fb) := ⟨pe_cmpR o.op ha.pe hb.pe hm, ve_op o ha.ve hb.ve⟩
end
end BV
set_option linter.all false
set_option maxRecDepth 100000
set_option maxHeartbeats 4000000
namespace BV
open PySem PySem.Spec L2
def Kx (A : Av) (H H' : Hp) : Prop := ∀ q o, ¬A q → H q = some o → H' q = some o
theorem Kx.kp {A : Av} {H H' : Hp} (k : Kx A H H') : Kp A H H' := ⟨fun q o n h _ => k q o n h, fun q u n _ r => by
  rcases r with r | ⟨o, r⟩
  · exact .inl (k _ _ n r)
  · exact .inr ⟨o, k _ _ n r⟩⟩
theorem Same.kx {A : Av} {H H' : Hp} (s : Same H H') : Kx A H H' := fun q o _ h => s q o h
theorem Kp.mono {A A' : Av} {H H' : Hp} (k : Kp A H H') (i : ∀ q, A q → A' q) : Kp A' H H' := ⟨fun q o n => k.im q o fun a => n (i q a), fun q u n => k.rd q u fun a => n (i q a)⟩
theorem Rp.go {W : Wd} {A A' : Av} {H H' : Hp} {d : D} {v : V} (h : Rp W A H d v) (k : Kp A H H') (x : Ex H A A') : Rp W A' H' d v := by
  have h1 : Rp W (fun q => A q ∨ A' q) H d v := Rp.ex (fun q a => a.elim .inl (x q)) d v h
  have h2 := Rp.kp (k.mono (A' := fun q => A q ∨ A' q) fun q a => .inl a) d v h1
  exact Rp.ex (fun q a => .inl (.inr a)) d v h2
theorem RpL.go {W : Wd} {A A' : Av} {H H' : Hp} {d : List D} {v : List V} (h : RpL W A H d v) (k : Kp A H H') (x : Ex H A A') : RpL W A' H' d v := by
  have h1 : RpL W (fun q => A q ∨ A' q) H d v := RpL.ex (fun q a => a.elim .inl (x q)) d v h
  have h2 := RpL.kp (k.mono (A' := fun q => A q ∨ A' q) fun q a => .inl a) d v h1
  exact RpL.ex (fun q a => .inl (.inr a)) d v h2
def ItR (W : Wd) (A : Av) (H1 : Hp) (P : Hp → Prop) (J : It) (ds : List D) : Prop :=
  ∀ (A' : Av) (H : Hp), Ex H1 A A' → AX A' H → P H → ∀ i : Nat, (∀ d, ds[i]? = some d → J.go i H ∧ ∀ x H', J.yld i H x H' → Same H H' ∧ Rp W A' H' d x) ∧ (ds.length ≤ i → J.stop i H)
abbrev LF := Env → Option (List D)
def VI (W : Wd) (b : Bool) (wi : TI) (F : LF) : Prop := ∀ (A : Av) (σ : St) (ρ : Env) (H : Hp) (R : It → Hp → Prop) (ds : List D), SE W A H σ ρ → F ρ = some ds →
  (∀ J H1, Same H H1 → ItR W A H1 (fun H' => if b = true then Kx A H1 H' else Same H1 H') J ds → R J H1) → wi σ H R
theorem VI.weak {W : Wd} {wi : TI} {F : LF} {b : Bool} (h : VI W b wi F) : VI W false wi F := by
  cases b with
  | false => exact h
  | true => exact fun A σ ρ H R ds hs e k => h A σ ρ H R ds hs e fun J H1 s it => k J H1 s fun A' H' ex ax p i => it A' H' ex ax (by simp only [if_true]; simp only [Bool.false_eq_true, if_false] at p; exact Same.kx p) i
structure IV (X : Cx) (C : Addr) (b : Bool) (tg it : Expr) (wi : TI) (F : LF) : Prop where
  pi : PI X tg it wi
  vi : VI (wd X C) b wi F
theorem RpL.get {W : Wd} {A : Av} {H : Hp} : ∀ {ds : List D} {vs : List V} {i : Nat} {d : D}, RpL W A H ds vs → ds[i]? = some d → ∃ v, vs[i]? = some v ∧ Rp W A H d v
  | [], _, i, d, _, e => by simp at e
  | d' :: ds, vs, i, d, h, e => by
    unfold RpL at h
    obtain ⟨v, r, rfl, a, b⟩ := h
    cases i with
    | zero => simp at e; subst e; exact ⟨v, rfl, a⟩
    | succ i => simp at e; obtain ⟨u, h1, h2⟩ := RpL.get b e; exact ⟨u, by simpa using h1, h2⟩
theorem RpL.length {W : Wd} {A : Av} {H : Hp} : ∀ {ds : List D} {vs : List V}, RpL W A H ds vs → vs.length = ds.length
  | [], vs, h => by unfold RpL at h; rw [h]; rfl
  | d :: ds, vs, h => by unfold RpL at h; obtain ⟨v, r, rfl, a, b⟩ := h; simp [RpL.length b]
theorem RpL.append {W : Wd} {A : Av} {H : Hp} : ∀ {ds es : List D} {vs us : List V}, RpL W A H ds vs → RpL W A H es us → RpL W A H (ds ++ es) (vs ++ us)
  | [], es, vs, us, h, k => by unfold RpL at h; subst h; exact k
  | d :: ds, es, vs, us, h, k => by unfold RpL at h; obtain ⟨v, r, rfl, a, b⟩ := h; show RpL W A H (d :: (ds ++ es)) (v :: (r ++ us)); unfold RpL; exact ⟨v, r ++ us, rfl, a, RpL.append b k⟩
theorem RpL.one {W : Wd} {A : Av} {H : Hp} {d : D} {v : V} (h : Rp W A H d v) : RpL W A H [d] [v] := by unfold RpL; exact ⟨v, [], rfl, h, by unfold RpL; rfl⟩
theorem RpL.nil {W : Wd} {A : Av} {H : Hp} : RpL W A H [] [] := by unfold RpL; rfl
theorem RpL.set {W : Wd} {A : Av} {H : Hp} {d : D} {v : V} (h : Rp W A H d v) : ∀ {ds : List D} {vs : List V} (i : Nat), RpL W A H ds vs → RpL W A H (ds.set i d) (vs.set i v)
  | [], vs, i, k => by unfold RpL at k; subst k; exact RpL.nil
  | d' :: ds, vs, i, k => by
    unfold RpL at k
    obtain ⟨u, r, rfl, a, b⟩ := k
    cases i with
    | zero => show RpL W A H (d :: ds) (v :: r); unfold RpL; exact ⟨v, r, rfl, h, b⟩
    | succ i => show RpL W A H (d' :: ds.set i d) (u :: r.set i v); unfold RpL; exact ⟨u, _, rfl, a, RpL.set h i b⟩
theorem RpL.take {W : Wd} {A : Av} {H : Hp} : ∀ {ds : List D} {vs : List V} (n : Nat), RpL W A H ds vs → RpL W A H (ds.take n) (vs.take n)
  | _, _, 0, _ => by simp; exact RpL.nil
  | [], vs, n + 1, k => by unfold RpL at k; subst k; exact RpL.nil
  | d :: ds, vs, n + 1, k => by unfold RpL at k; obtain ⟨u, r, rfl, a, b⟩ := k; show RpL W A H (d :: ds.take n) (u :: r.take n); unfold RpL; exact ⟨u, _, rfl, a, RpL.take n b⟩
theorem RpL.drop {W : Wd} {A : Av} {H : Hp} : ∀ {ds : List D} {vs : List V} (n : Nat), RpL W A H ds vs → RpL W A H (ds.drop n) (vs.drop n)
  | _, _, 0, h => h
  | [], vs, n + 1, k => by unfold RpL at k; subst k; exact RpL.nil
  | d :: ds, vs, n + 1, k => by unfold RpL at k; obtain ⟨u, r, rfl, a, b⟩ := k; exact RpL.drop n b
theorem RpL.reverse {W : Wd} {A : Av} {H : Hp} : ∀ {ds : List D} {vs : List V}, RpL W A H ds vs → RpL W A H ds.reverse vs.reverse
  | [], vs, k => by unfold RpL at k; subst k; exact RpL.nil
  | d :: ds, vs, k => by unfold RpL at k; obtain ⟨u, r, rfl, a, b⟩ := k; rw [List.reverse_cons, List.reverse_cons]; exact RpL.append (RpL.reverse b) (RpL.one a)
theorem RpL.ints {W : Wd} {A : Av} {H : Hp} : ∀ (ns : List Int), RpL W A H (ns.map D.int) (ns.map V.int)
  | [] => RpL.nil
  | n :: ns => by show RpL W A H (D.int n :: ns.map D.int) (V.int n :: ns.map V.int); unfold RpL; exact ⟨_, _, rfl, by unfold Rp; rfl, RpL.ints ns⟩
theorem LstA.sq {W : Wd} {A : Av} {H : Hp} {p : Addr} {vs : List V} (h : LstA W A H p vs) : SqL W.K H p vs := .inl h.2
theorem TupA.sq {W : Wd} {A : Av} {H : Hp} {p : Addr} {vs : List V} (h : TupA W A H p vs) : SqT W.K H p vs := .inl (.inl h.2)
theorem Rw.lstR {W : Wd} {A : Av} {H : Hp} {ds : List D} {v : V} (h : Rw W A H (.lst ds) v) : ∃ p vs, v = .ref p ∧ Rd H p (.lst vs) ∧ RpL W A H ds vs := by
  rcases h with h | ⟨p, e, a, vs, c, r⟩
  · unfold Rp at h; obtain ⟨p, vs, e, l, r⟩ := h; exact ⟨p, vs, e, l.2, r⟩
  · exact ⟨p, vs, e, .inl c, r⟩
theorem Rw.lst {W : Wd} {A : Av} {H : Hp} {ds : List D} {v : V} (h : Rw W A H (.lst ds) v) : ∃ p vs, v = .ref p ∧ SqL W.K H p vs ∧ RpL W A H ds vs :=
  let ⟨p, vs, e, r, l⟩ := h.lstR; ⟨p, vs, e, .inl r, l⟩
theorem Rw.tup {W : Wd} {A : Av} {H : Hp} {ds : List D} {v : V} (h : Rw W A H (.tup ds) v) : ∃ p vs, v = .ref p ∧ TupA W A H p vs ∧ RpL W A H ds vs := by
  rcases h with h | ⟨p, e, a, c⟩
  · unfold Rp at h; exact h
  · exact absurd c id
theorem Rw.kt {W : Wd} {A : Av} {H : Hp} {ds : List D} {v : V} (h : Rw W A H (.kt ds) v) : ∃ p vs, v = .ref p ∧ KTup W.K p vs ∧ RpL W A H ds vs := by
  rcases h with h | ⟨p, e, a, c⟩
  · unfold Rp at h; exact h
  · exact absurd c id
theorem Rw.ks {W : Wd} {A : Av} {H : Hp} {ds : List D} {v : V} (h : Rw W A H (.ks ds) v) : ∃ p vs, v = .ref p ∧ SqL W.K H p vs ∧ RpL W A H ds vs := by
  rcases h with h | ⟨p, e, a, c⟩
  · unfold Rp at h
    obtain ⟨p, vs, e, t, r⟩ := h
    exact ⟨p, vs, e, t.elim (fun t => .inl t.2) .inr, r⟩
  · exact absurd c id
theorem Rw.int {W : Wd} {A : Av} {H : Hp} {i : Int} {v : V} (h : Rw W A H (.int i) v) : v = .int i := by
  rcases h with h | ⟨p, e, a, c⟩
  · unfold Rp at h; exact h
  · exact absurd c id
theorem Rw.bl {W : Wd} {A : Av} {H : Hp} {i : Bool} {v : V} (h : Rw W A H (.bl i) v) : v = .bl i := by
  rcases h with h | ⟨p, e, a, c⟩
  · unfold Rp at h; exact h
  · exact absurd c id
theorem Rw.str {W : Wd} {A : Av} {H : Hp} {i : Str} {v : V} (h : Rw W A H (.str i) v) : v = .str i := by
  rcases h with h | ⟨p, e, a, c⟩
  · unfold Rp at h; exact h
  · exact absurd c id
theorem Rw.non {W : Wd} {A : Av} {H : Hp} {v : V} (h : Rw W A H .non v) : v = .non := by
  rcases h with h | ⟨p, e, a, c⟩
  · unfold Rp at h; exact h
  · exact absurd c id
theorem Rp.int_iff {W : Wd} {A : Av} {H : Hp} {i : Int} {v : V} : Rp W A H (.int i) v ↔ v = .int i := by unfold Rp; exact Iff.rfl
theorem Rp.bl_iff {W : Wd} {A : Av} {H : Hp} {i : Bool} {v : V} : Rp W A H (.bl i) v ↔ v = .bl i := by unfold Rp; exact Iff.rfl
theorem Rp.str_iff {W : Wd} {A : Av} {H : Hp} {i : Str} {v : V} : Rp W A H (.str i) v ↔ v = .str i := by unfold Rp; exact Iff.rfl
theorem Fr.int {W : Wd} {A : Av} {H H' : Hp} {i : Int} : Fr W A H H' (.int i) (.int i) := ⟨Rp.int_iff.mpr rfl, fun z => nomatch z⟩
theorem Fr.bl {W : Wd} {A : Av} {H H' : Hp} {i : Bool} : Fr W A H H' (.bl i) (.bl i) := ⟨Rp.bl_iff.mpr rfl, fun z => nomatch z⟩
theorem Fr.str {W : Wd} {A : Av} {H H' : Hp} {i : Str} : Fr W A H H' (.str i) (.str i) := ⟨Rp.str_iff.mpr rfl, fun z => nomatch z⟩
theorem Fr.non {W : Wd} {A : Av} {H H' : Hp} : Fr W A H H' .non .non := ⟨by unfold Rp; rfl, fun z => nomatch z⟩
theorem Fr.tupN {W : Wd} {A : Av} {H : Hp} {p : Addr} {ds : List D} {vs : List V} (ax : AX A H) (n : H p = none) (r : RpL W A H ds vs) : Same H (upd H p (.tup vs)) ∧ Fr W A H (upd H p (.tup vs)) (.tup ds) (.ref p) := by
  have s : Same H (upd H p (.tup vs)) := Toy.same_upd n
  refine ⟨s, ?_, fun z => nomatch z⟩
  unfold Rp
  exact ⟨p, vs, rfl, ⟨ax.ne n, upd_same⟩, r.same s⟩
theorem Fr.lstN {W : Wd} {A : Av} {H : Hp} {p : Addr} {ds : List D} {vs : List V} (ax : AX A H) (n : H p = none) (r : RpL W A H ds vs) : Same H (upd H p (.lst vs)) ∧ Fr W A H (upd H p (.lst vs)) (.lst ds) (.ref p) := by
  have s : Same H (upd H p (.lst vs)) := Toy.same_upd n
  exact ⟨s, Fr.of (H1 := H) ax n ⟨vs, upd_same, (RpL.ex (fun q a => a.elim .inl fun e => .inr (by rw [e]; exact n)) _ _ r).same s⟩⟩
section
variable {X : Cx} {C : Addr} {tg e : Expr} {te : TE} {F : EF} {m : Md}
def lsD : D → Option (List D)
  | .lst ds => some ds
  | .ks ds => some ds
  | _ => none
def tpD : D → Option (List D)
  | .tup ds => some ds
  | .kt ds => some ds
  | _ => none
def iE (g : D → Option (List D)) (F : EF) : LF := fun ρ => (F ρ).bind g
theorem itl {W : Wd} {A : Av} {H1 : Hp} {P : Hp → Prop} {a : Addr} {vs : List V} {ds : List D} (r : RpL W A H1 ds vs) (k : ∀ H, P H → SqL W.K H a vs ∧ Kp A H1 H) : ItR W A H1 P (Itl W.K a) ds := by
  intro A' H ex ax p i
  obtain ⟨q, kp⟩ := k H p
  refine ⟨fun d hd => ?_, fun hl => ⟨vs, q, by rw [r.length]; exact hl⟩⟩
  obtain ⟨v, hv, rv⟩ := r.get hd
  refine ⟨⟨vs, v, q, hv⟩, fun x H' hy => ?_⟩
  obtain ⟨rfl, hy⟩ := hy
  have e : x = v := by have := hy vs q; rw [hv] at this; exact (Option.some.inj this).symm
  subst e
  refine ⟨Same.rfl, ?_⟩
  exact rv.go kp ex
theorem itt {W : Wd} {A : Av} {H1 : Hp} {P : Hp → Prop} {a : Addr} {vs : List V} {ds : List D} (r : RpL W A H1 ds vs) (k : ∀ H, P H → SqT W.K H a vs ∧ Kp A H1 H) : ItR W A H1 P (Itt W.K a) ds := by
  intro A' H ex ax p i
  obtain ⟨q, kp⟩ := k H p
  refine ⟨fun d hd => ?_, fun hl => ⟨vs, q, by rw [r.length]; exact hl⟩⟩
  obtain ⟨v, hv, rv⟩ := r.get hd
  refine ⟨⟨vs, v, q, hv⟩, fun x H' hy => ?_⟩
  obtain ⟨rfl, hy⟩ := hy
  have e : x = v := by have := hy vs q; rw [hv] at this; exact (Option.some.inj this).symm
  subst e
  exact ⟨Same.rfl, rv.go kp ex⟩
theorem SqL.same {K : PySem.W.Frag} {H H' : Hp} {a : Addr} {xs : List V} (h : SqL K H a xs) (s : Same H H') : SqL K H' a xs := by
  rcases h with h | h
  · exact .inl ((Kp.same (A := fun _ => False) s).rd _ _ id trivial h)
  · exact .inr h
theorem IV.lst (h : EV X C m e te F) : IV X C false tg e (iList X.K te) (iE lsD F) := ⟨pi_list h.pe, fun A σ ρ H R ds hs e k => by
  unfold iE at e
  obtain ⟨d, e1, e⟩ := Option.bind_eq_some_iff.mp e
  cases d <;> first | (cases e; done) | skip
  · cases e
    refine h.ve A σ ρ H _ _ hs e1 fun v H1 s1 r1 => ?_
    obtain ⟨p, vs, rfl, q, r⟩ := r1.w.lst
    refine ⟨p, rfl, ⟨vs, q⟩, k _ H1 s1 (itl r fun H' p' => ?_)⟩
    simp only [Bool.false_eq_true, if_false] at p'
    exact ⟨SqL.same q p', .same p'⟩
  · cases e
    refine h.ve A σ ρ H _ _ hs e1 fun v H1 s1 r1 => ?_
    obtain ⟨p, vs, rfl, q, r⟩ := r1.w.ks
    refine ⟨p, rfl, ⟨vs, q⟩, k _ H1 s1 (itl r fun H' p' => ?_)⟩
    simp only [Bool.false_eq_true, if_false] at p'
    exact ⟨SqL.same q p', .same p'⟩⟩
theorem IV.lstS (h : EV X C .s e te F) : IV X C true tg e (iList X.K te) (iE lsD F) := ⟨pi_list h.pe, fun A σ ρ H R ds hs e k => by
  unfold iE at e
  obtain ⟨d, e1, e⟩ := Option.bind_eq_some_iff.mp e
  cases d <;> first | (cases e; done) | skip
  · cases e
    refine h.ve A σ ρ H _ _ hs e1 fun v H1 s1 r1 => ?_
    have r1 : Rp _ _ _ _ _ := r1
    unfold Rp at r1
    obtain ⟨p, vs, rfl, q, r⟩ := r1
    refine ⟨p, rfl, ⟨vs, q.sq⟩, k _ H1 s1 (itl r fun H' p' => ?_)⟩
    simp only [if_true] at p'
    exact ⟨(q.kp p'.kp).sq, p'.kp⟩
  · cases e
    refine h.ve A σ ρ H _ _ hs e1 fun v H1 s1 r1 => ?_
    have r1 : Rp _ _ _ _ _ := r1
    unfold Rp at r1
    obtain ⟨p, vs, rfl, q, r⟩ := r1
    refine ⟨p, rfl, ⟨vs, q.elim (fun t => .inl t.2) .inr⟩, k _ H1 s1 (itl r fun H' p' => ?_)⟩
    simp only [if_true] at p'
    exact ⟨q.elim (fun t => .inl (p'.kp.rd _ _ t.1 trivial t.2)) .inr, p'.kp⟩⟩
theorem IV.tup (h : EV X C m e te F) : IV X C true tg e (iTup X.K te) (iE tpD F) := ⟨pi_tup h.pe, fun A σ ρ H R ds hs e k => by
  unfold iE at e
  obtain ⟨d, e1, e⟩ := Option.bind_eq_some_iff.mp e
  refine h.ve A σ ρ H _ _ hs e1 fun v H1 s1 r1 => ?_
  cases d <;> first | cases e | skip
  · obtain ⟨p, vs, rfl, q, r⟩ := r1.w.tup
    refine ⟨p, rfl, ⟨vs, q.sq⟩, k _ H1 s1 (itt r fun H' p' => ?_)⟩
    simp only [if_true] at p'
    exact ⟨(q.kp p'.kp).sq, p'.kp⟩
  · obtain ⟨p, vs, rfl, q, r⟩ := r1.w.kt
    refine ⟨p, rfl, ⟨vs, .inr q⟩, k _ H1 s1 (itt r fun H' p' => ?_)⟩
    simp only [if_true] at p'
    exact ⟨.inr q, p'.kp⟩⟩
def rgD (lo : Int) (n : Nat) : List D := (List.range n).map fun (k : Nat) => D.int (lo + (k : Int))
theorem itr {W : Wd} {A : Av} {H1 : Hp} {P : Hp → Prop} {lo : Int} {n : Nat} : ItR W A H1 P (Itr lo n) (rgD lo n) := by
  intro A' H ex ax p i
  have hl : (rgD lo n).length = n := by simp [rgD]
  refine ⟨fun d hd => ?_, fun hn => by rw [hl] at hn; exact hn⟩
  have hi : i < n := by have := (List.getElem?_eq_some_iff.mp hd).1; rw [hl] at this; exact this
  have e : d = .int (lo + i) := by
    unfold rgD at hd
    rw [List.getElem?_map, List.getElem?_range hi] at hd
    exact (Option.some.inj hd).symm
  refine ⟨hi, fun x H' hy => ?_⟩
  obtain ⟨rfl, rfl⟩ := hy
  exact ⟨Same.rfl, by rw [e]; exact Rp.int_iff.mpr rfl⟩
def LR : Int := 1048576
def rg1D : List D → Option (List D)
  | [.int n] => if -LR ≤ n ∧ n ≤ LR then some (rgD 0 n.toNat) else none
  | _ => none
def iA (g : List D → Option (List D)) (F : AF) : LF := fun ρ => (F ρ).bind g
theorem IV.rng1 {a : Expr} {ta : TA} {G : AF} {p pos : Pos} (hg : Gl X "range") (hm : X.mg "range" = none) (h : AV X C [a] ta G) (hst : starEach [a] X.env = [(false, eval a X.env)] := by rfl) : IV X C true tg (.Call (.Name "range" p) [a] [] pos) (iRng1 ta) (iA rg1D G) := ⟨pi_range1 hg hm h.pa hst, fun A σ ρ H R ds hs e k => by
  unfold iA at e
  obtain ⟨d, e1, e⟩ := Option.bind_eq_some_iff.mp e
  refine h.va A σ ρ H _ _ hs e1 fun v H1 s1 r1 => ?_
  unfold rg1D at e
  split at e
  case h_2 => cases e
  case h_1 n =>
    split at e
    case isFalse => cases e
    case isTrue hn =>
      cases e
      obtain ⟨v, r, rfl, a, b⟩ := r1
      cases b
      have := a.int
      subst this
      unfold LR at hn
      exact ⟨n, rfl, by omega, by omega, k _ H1 s1 itr⟩⟩
end
end BV
set_option linter.all false
set_option maxRecDepth 100000
set_option maxHeartbeats 4000000
namespace BV
open PySem PySem.Spec L2
structure Ups (is : List Nat) (σ σ' : St) (ρ ρ' : Env) : Prop where
  ls : σ'.length = σ.length
  lr : ρ'.length = ρ.length
  st : ∀ i, i ∉ is → σ'[i]? = σ[i]? ∧ ρ'[i]? = ρ[i]?
  fz : ∀ i d, i ∈ is → ρ'[i]? ≠ some (.o d)
def VG (W : Wd) (is : List Nat) (g : TG) (B : D → Env → Option Env) : Prop := ∀ (A : Av) (σ : St) (ρ : Env) (H : Hp) (v : V) (d : D) (ρ' : Env) (Q : St → Hp → Prop), SE W A H σ ρ → Rp W A H d v → B d ρ = some ρ' →
  (∀ σ', SE W A H σ' ρ' → Ups is σ σ' ρ ρ' → Q σ' H) → g v σ H Q
def VGs (W : Wd) (is : List Nat) (g : TGs) (B : List D → Env → Option Env) : Prop := ∀ (A : Av) (σ : St) (ρ : Env) (H : Hp) (vs : List V) (ds : List D) (ρ' : Env) (Q : St → Hp → Prop), SE W A H σ ρ → RpL W A H ds vs → B ds ρ = some ρ' →
  (∀ σ', SE W A H σ' ρ' → Ups is σ σ' ρ ρ' → Q σ' H) → g vs σ H Q
def bN (i : Nat) (d : D) (ρ : Env) : Option Env := some (ρ.set i (.f d))
def bNil : List D → Env → Option Env
  | [], ρ => some ρ
  | _, _ => none
def bCons (b : D → Env → Option Env) (c : List D → Env → Option Env) : List D → Env → Option Env
  | d :: ds, ρ => (b d ρ).bind (c ds)
  | [], _ => none
def bTup (c : List D → Env → Option Env) : D → Env → Option Env
  | .tup ds, ρ => c ds ρ
  | _, _ => none
theorem SE.set {W : Wd} {A : Av} {H : Hp} {σ : St} {ρ : Env} (h : SE W A H σ ρ) (i : Nat) {d : D} {v : V} (r : Rp W A H d v) : SE W A H (σ.set i (some v)) (ρ.set i (.f d)) := by
  refine ⟨by rw [List.length_set, List.length_set]; exact h.len, fun j e hj => ?_, fun j e hj => ?_, h.ax⟩
  · by_cases q : i = j
    · subst q
      by_cases l : i < ρ.length
      · rw [List.getElem?_set_self l] at hj
        cases hj
        exact ⟨v, List.getElem?_set_self (by rw [h.len]; exact l), r⟩
      · rw [List.getElem?_eq_none (by rw [List.length_set]; omega)] at hj; cases hj
    · rw [List.getElem?_set_ne q] at hj ⊢; exact h.fz j e hj
  · by_cases q : i = j
    · subst q
      by_cases l : i < ρ.length
      · rw [List.getElem?_set_self l] at hj; cases hj
      · rw [List.getElem?_eq_none (by rw [List.length_set]; omega)] at hj; cases hj
    · rw [List.getElem?_set_ne q] at hj ⊢; exact h.ow j e hj
theorem Ups.set {σ : St} {ρ : Env} (i : Nat) {d : D} {x : Option V} : Ups [i] σ (σ.set i x) ρ (ρ.set i (.f d)) := by
  refine ⟨List.length_set, List.length_set, fun j hj => ?_, fun j e hj => ?_⟩
  · have q : i ≠ j := fun z => hj (by rw [z]; simp)
    rw [List.getElem?_set_ne q, List.getElem?_set_ne q]; exact ⟨rfl, rfl⟩
  · have : j = i := by simpa using hj
    subst this
    by_cases l : j < ρ.length
    · rw [List.getElem?_set_self l]; simp
    · rw [List.getElem?_eq_none (by rw [List.length_set]; omega)]; simp
theorem Ups.refl {σ : St} {ρ : Env} : Ups [] σ σ ρ ρ := ⟨rfl, rfl, fun _ _ => ⟨rfl, rfl⟩, fun _ _ h => nomatch h⟩
theorem Ups.trans {is js : List Nat} {σ σ1 σ2 : St} {ρ ρ1 ρ2 : Env} (a : Ups is σ σ1 ρ ρ1) (b : Ups js σ1 σ2 ρ1 ρ2) : Ups (is ++ js) σ σ2 ρ ρ2 := by
  refine ⟨b.ls.trans a.ls, b.lr.trans a.lr, fun i hi => ?_, fun i d hi e => ?_⟩
  · rw [List.mem_append] at hi
    have h1 := a.st i fun z => hi (.inl z)
    have h2 := b.st i fun z => hi (.inr z)
    exact ⟨h2.1.trans h1.1, h2.2.trans h1.2⟩
  · by_cases hj : i ∈ js
    · exact b.fz i d hj e
    · rw [(b.st i hj).2] at e
      rcases List.mem_append.mp hi with z | z
      · exact a.fz i d z e
      · exact hj z
theorem vg_name {W : Wd} (i : Nat) : VG W [i] (gName i) (bN i) := fun A σ ρ H v d ρ' Q hs r e k => by
  unfold bN at e; cases e
  exact k _ (hs.set i r) (Ups.set i)
theorem vgs_nil {W : Wd} : VGs W [] gNil bNil := fun A σ ρ H vs ds ρ' Q hs r e k => by
  cases ds with
  | nil => unfold RpL at r; unfold bNil at e; cases e; exact ⟨r, k _ hs .refl⟩
  | cons d ds => cases e
theorem vgs_cons {W : Wd} {is js : List Nat} {g : TG} {u : TGs} {B : D → Env → Option Env} {B' : List D → Env → Option Env} (a : VG W is g B) (b : VGs W js u B') : VGs W (is ++ js) (gCons g u) (bCons B B') := fun A σ ρ H vs ds ρ' Q hs r e k => by
  cases ds with
  | nil => cases e
  | cons d ds =>
    unfold bCons at e
    obtain ⟨ρ1, e1, e2⟩ := Option.bind_eq_some_iff.mp e
    unfold RpL at r
    obtain ⟨v, w, rfl, r1, r2⟩ := r
    exact ⟨v, w, rfl, a A σ ρ H v d ρ1 _ hs r1 e1 fun σ1 hs1 u1 => b A σ1 ρ1 H w ds ρ' Q hs1 r2 e2 fun σ2 hs2 u2 => k σ2 hs2 (u1.trans u2)⟩
theorem bCons_len {b : D → Env → Option Env} {c : List D → Env → Option Env} {n : Nat} (h : ∀ ds ρ ρ', c ds ρ = some ρ' → ds.length = n) : ∀ ds ρ ρ', bCons b c ds ρ = some ρ' → ds.length = n + 1 := fun ds ρ ρ' e => by
  cases ds with
  | nil => cases e
  | cons d ds => unfold bCons at e; obtain ⟨ρ1, e1, e2⟩ := Option.bind_eq_some_iff.mp e; simp [h _ _ _ e2]
theorem bNil_len : ∀ ds ρ ρ', bNil ds ρ = some ρ' → ds.length = 0 := fun ds ρ ρ' e => by cases ds with
  | nil => rfl
  | cons => cases e
theorem vg_tup {W : Wd} {is : List Nat} {u : TGs} {B : List D → Env → Option Env} {n : Nat} (b : VGs W is u B) (hn : ∀ ds ρ ρ', B ds ρ = some ρ' → ds.length = n) : VG W is (gTup W.K n u) (bTup B) := fun A σ ρ H v d ρ' Q hs r e k => by
  cases d <;> first | cases e | skip
  rename_i ds
  unfold Rp at r
  obtain ⟨p, vs, rfl, t, r⟩ := r
  exact ⟨p, vs, rfl, t.sq, by rw [r.length]; exact hn _ _ _ e, b A σ ρ H vs ds ρ' Q hs r e k⟩
structure GV (X : Cx) (C : Addr) (is : List Nat) (tg : Expr) (g : TG) (B : D → Env → Option Env) : Prop where
  pg : PG X tg g
  vg : VG (wd X C) is g B
structure GsV (X : Cx) (C : Addr) (is : List Nat) (n : Nat) (tg : List Expr) (g : TGs) (B : List D → Env → Option Env) : Prop where
  pg : PGs X tg g
  vg : VGs (wd X C) is g B
  ln : ∀ ds ρ ρ', B ds ρ = some ρ' → ds.length = n
section
variable {X : Cx} {C : Addr}
theorem GV.name {e : Expr} (i : Nat) (h : PG X e (gName i)) : GV X C [i] e (gName i) (bN i) := ⟨h, vg_name i⟩
theorem GsV.nil : GsV X C [] 0 [] gNil bNil := ⟨pgs_nil, vgs_nil, bNil_len⟩
theorem GsV.cons {e : Expr} {es : List Expr} {is js : List Nat} {n : Nat} {g : TG} {u : TGs} {B : D → Env → Option Env} {B' : List D → Env → Option Env} (a : GV X C is e g B) (b : GsV X C js n es u B')
    (hs : (assignEach (e :: es) X.env).map (·.2) = assign e X.env :: (assignEach es X.env).map (·.2) := by rfl) : GsV X C (is ++ js) (n + 1) (e :: es) (gCons g u) (bCons B B') :=
  ⟨pgs_cons a.pg b.pg hs, vgs_cons a.vg b.vg, bCons_len b.ln⟩
theorem GV.tup {es : List Expr} {k n : Nat} {pos : Pos} {is : List Nat} {u : TGs} {B : List D → Env → Option Env} (hc : X.calm = true) (b : GsV X C is n es u B)
    (hn : (assignEach es X.env).length = n := by rfl) (hst : (assignEach es X.env).findIdx? (·.1) = none := by rfl) : GV X C is (.Tuple es k pos) (gTup X.K n u) (bTup B) := ⟨pg_tup hc b.pg hn hst, vg_tup (W := wd X C) b.vg b.ln⟩
end
def wipeE (ρ : Env) : List Nat → Env
  | [] => ρ
  | v :: vs => (wipeE ρ vs).set v .u
theorem wipeE_length (ρ : Env) : ∀ vs : List Nat, (wipeE ρ vs).length = ρ.length
  | [] => rfl
  | v :: vs => by unfold wipeE; rw [List.length_set, wipeE_length ρ vs]
theorem wipe_get (σ : St) (i : Nat) : ∀ vs : List Nat, i ∉ vs → (wipe σ vs)[i]? = σ[i]?
  | [], _ => rfl
  | v :: vs, h => by unfold wipe; rw [List.getElem?_set_ne (fun e => h (by rw [e]; simp)), wipe_get σ i vs (fun z => h (by simp [z]))]
theorem wipe_in (σ : St) (i : Nat) : ∀ vs : List Nat, i ∈ vs → i < σ.length → (wipe σ vs)[i]? = some none
  | [], h, _ => nomatch h
  | v :: vs, h, l => by
    unfold wipe
    by_cases q : v = i
    · subst q; exact List.getElem?_set_self (by rw [wipe_length]; exact l)
    · rw [List.getElem?_set_ne q]
      exact wipe_in σ i vs (by rcases List.mem_cons.mp h with z | z; exact absurd z.symm q; exact z) l
theorem wipeE_some {ρ : Env} {i : Nat} {x : Sl} (hx : x ≠ .u) : ∀ {vs : List Nat}, (wipeE ρ vs)[i]? = some x → ρ[i]? = some x ∧ i ∉ vs
  | [], h => ⟨h, by simp⟩
  | v :: vs, h => by
    unfold wipeE at h
    by_cases hi : v = i
    · subst hi
      by_cases hv : v < (wipeE ρ vs).length
      · rw [List.getElem?_set_self hv] at h; cases h; exact absurd rfl hx
      · rw [List.getElem?_eq_none (by rw [List.length_set]; omega)] at h; cases h
    · rw [List.getElem?_set_ne hi] at h
      obtain ⟨h1, h2⟩ := wipeE_some hx h
      exact ⟨h1, by simp [h2, Ne.symm hi]⟩
theorem SE.wipe {W : Wd} {A : Av} {H : Hp} {σ : St} {ρ : Env} (h : SE W A H σ ρ) (vs : List Nat) : SE W A H (L2.wipe σ vs) (wipeE ρ vs) :=
  ⟨by rw [wipe_length, wipeE_length]; exact h.len, fun i d e => by
    obtain ⟨a, b⟩ := wipeE_some (by simp) e
    rw [wipe_get σ i vs b]; exact h.fz i d a, fun i d e => by
    obtain ⟨a, b⟩ := wipeE_some (by simp) e
    rw [wipe_get σ i vs b]; exact h.ow i d a, h.ax⟩
theorem wipe_ups {is vs : List Nat} {σ σ' : St} {ρ ρ' : Env} (u : Ups is (wipe σ vs) σ' ρ ρ') (h : ∀ i ∈ is, i ∈ vs) : wipe σ' vs = wipe σ vs := by
  have hl : σ'.length = σ.length := by rw [u.ls, wipe_length]
  refine List.ext_getElem? fun i => ?_
  by_cases hi : i ∈ vs
  · by_cases l : i < σ.length
    · rw [wipe_in σ i vs hi l, wipe_in σ' i vs hi (by rw [hl]; exact l)]
    · rw [List.getElem?_eq_none (by rw [wipe_length]; omega), List.getElem?_eq_none (by rw [wipe_length]; omega)]
  · rw [wipe_get σ' i vs hi, (u.st i fun z => hi (h i z)).1]
def lcD (B : D → Env → Option Env) (T : TF) (F : EF) (ρ : Env) : List D → Option (List D)
  | [] => some []
  | d :: ds => (B d ρ).bind fun ρ1 => (T ρ1).bind fun b => if b = true then (F ρ1).bind fun y => (lcD B T F ρ ds).bind fun r => some (y :: r) else lcD B T F ρ ds
def LN : Nat := 1048576
def eLc (I : LF) (B : D → Env → Option Env) (T : TF) (F : EF) (vs : List Nat) : EF := fun ρ => (I ρ).bind fun ds => if ds.length ≤ LN then (lcD B T F (wipeE ρ vs) ds).map D.lst else none
theorem LN_lt {n : Nat} (h : n < LN) : n < sizeLine := Nat.lt_of_lt_of_le h (by decide)
theorem LN_le {n : Nat} (h : n ≤ LN) : n ≤ sizeLine := Nat.le_trans h (by decide)
theorem Ex.of {H : Hp} {A : Av} {q : Addr} (n : H q = none) : Ex H A (fun p => A p ∨ p = q) := fun p a => a.elim .inl fun e => .inr (by rw [e]; exact n)
theorem ve_lc {W : Wd} {b : Bool} {m : Md} {is vs : List Nat} {wi : TI} {g : TG} {tt : TT} {te : TE} {I : LF} {B : D → Env → Option Env} {T : TF} {F : EF} (hi : VI W b wi I) (hg : VG W is g B) (ht : VT W tt T) (he : VE W .s te F) (hv : ∀ i ∈ is, i ∈ vs) :
    VE W .f (tLc wi g tt te vs) (eLc I B T F vs) := by
  intro A σ ρ H Q d hs e k
  unfold eLc at e
  obtain ⟨ds, e1, e⟩ := Option.bind_eq_some_iff.mp e
  split at e
  case isFalse => cases e
  case isTrue hlen =>
  obtain ⟨out, e2, e⟩ := Option.map_eq_some_iff.mp e
  subst e
  refine hi.weak A σ ρ H _ ds hs e1 fun J H1 s1 it => fun D0 hD => ?_
  have hs1 := hs.same s1
  have ex := Ex.of (A := A) hD
  refine ⟨fun i n H2 => i + n = ds.length ∧ Same H1 H2 ∧ ∃ acc done rest, H2 D0 = some (.lst acc) ∧ RpL W (fun p => A p ∨ p = D0) H2 done acc ∧ done.length ≤ i ∧ lcD B T F (wipeE ρ vs) (ds.drop i) = some rest ∧ out = done ++ rest, ⟨ds.length, by omega, Toy.same_upd hD, [], [], out, upd_same, RpL.nil, Nat.le_refl _, e2, rfl⟩, ?_⟩
  rintro i n H2 ⟨hn, s2, acc, done, rest, hacc, hr, hdl, er, eo⟩
  have ax2 : AX (fun p => A p ∨ p = D0) H2 := fun q a => by
    rcases a with a | rfl
    · obtain ⟨o, h1, h2⟩ := hs1.ax q a; exact ⟨o, s2 _ _ h1, h2⟩
    · exact ⟨_, hacc, trivial⟩
  obtain ⟨it1, it2⟩ := it _ H2 ex ax2 (by simp only [Bool.false_eq_true, if_false]; exact s2) i
  cases n with
  | zero =>
    left
    refine ⟨it2 (by omega), k _ H2 (s1.trans s2) ?_⟩
    rw [List.drop_eq_nil_of_le (by omega)] at er
    unfold lcD at er
    cases er
    rw [List.append_nil] at eo
    subst eo
    exact Fr.of (H1 := H) hs.ax (none_of s1 hD) ⟨acc, hacc, hr⟩
  | succ n =>
    right
    have hlt : i < ds.length := by omega
    have hdi : ds[i]? = some ds[i] := List.getElem?_eq_getElem hlt
    rw [List.drop_eq_getElem_cons hlt] at er
    unfold lcD at er
    obtain ⟨ρ1, eb, er⟩ := Option.bind_eq_some_iff.mp er
    obtain ⟨c, et, er⟩ := Option.bind_eq_some_iff.mp er
    obtain ⟨go, yl⟩ := it1 _ hdi
    refine ⟨go, fun H' => Same H1 H' ∧ ∃ acc done rest, H' D0 = some (.lst acc) ∧ RpL W (fun p => A p ∨ p = D0) H' done acc ∧ done.length ≤ i + 1 ∧ lcD B T F (wipeE ρ vs) (ds.drop (i + 1)) = some rest ∧ out = done ++ rest, fun H' ⟨q1, q2⟩ => ⟨n, by omega, by omega, q1, q2⟩, fun x H3 hy => ?_⟩
    obtain ⟨s3, rx⟩ := yl x H3 hy
    have hs3 : SE W (fun p => A p ∨ p = D0) H3 (wipe σ vs) (wipeE ρ vs) := by
      have := (hs1.wipe vs).ex (A' := fun p => A p ∨ p = D0) ex (fun q a => .inl a)
      refine ⟨(hs1.wipe vs).len, fun j e q => ?_, fun j e q => ?_, fun q a => ?_⟩
      · obtain ⟨v, h1, h2⟩ := (hs1.wipe vs).fz j e q
        exact ⟨v, h1, h2.go (Kp.same (s2.trans s3)) ex⟩
      · obtain ⟨p, h1, h2, h3⟩ := (hs1.wipe vs).ow j e q
        exact ⟨p, h1, .inl h2, (h3.ex ex).kp (Kp.same (s2.trans s3)) fun o z => (s2.trans s3) _ _ z⟩
      · obtain ⟨o, h1, h2⟩ := ax2 q a; exact ⟨o, s3 _ _ h1, h2⟩
    refine hg _ (wipe σ vs) (wipeE ρ vs) H3 x _ ρ1 _ hs3 rx eb fun σ1 hs4 up => ⟨wipe_ups up hv, ht _ σ1 ρ1 H3 _ c hs4 et fun H4 s4 => ?_⟩
    have k4 : Same H1 H4 := s2.trans (s3.trans s4)
    have c4 : H4 D0 = some (.lst acc) := s4 _ _ (s3 _ _ hacc)
    have r4 : RpL W (fun p => A p ∨ p = D0) H4 done acc := hr.same (s3.trans s4)
    cases c with
    | false =>
      simp only [Bool.false_eq_true, if_false] at er ⊢
      exact ⟨k4, acc, done, rest, c4, r4, by omega, er, eo⟩
    | true =>
      simp only [if_true] at er ⊢
      obtain ⟨y, ey, er⟩ := Option.bind_eq_some_iff.mp er
      obtain ⟨r2, er2, er⟩ := Option.bind_eq_some_iff.mp er
      cases er
      refine he _ σ1 ρ1 H4 _ y (hs4.same s4) ey fun v H5 s5 rv => ?_
      have c5 := s5 _ _ c4
      have kp5 : Kp (fun p => A p ∨ p = D0) H5 (L2.upd H5 D0 (.lst (acc ++ [v]))) := Kp.upd (.inr rfl)
      refine ⟨acc, c5, LN_lt (by rw [r4.length]; omega), fun q o h => ?_, acc ++ [v], done ++ [y], r2, upd_same, RpL.append (RpL.kp kp5 _ _ (r4.same s5)) (RpL.one (Rp.kp kp5 _ _ rv)), by simp; omega, er2, by rw [eo]; simp⟩
      rw [upd_ne (ne_of_none h hD)]
      exact s5 _ _ (k4 _ _ h)
end BV
set_option linter.all false
set_option maxRecDepth 100000
set_option maxHeartbeats 4000000
namespace BV
open PySem PySem.Spec PyProof.Rows L2
abbrev bt (i : Int) : Nat := Builtin.Int.intBits i
def BM : Nat := 1048576
def BQ : Nat := 8000
section
variable {X : Cx} {C : Addr}
theorem OpR.or {f : Value → Value → Sem Value} {r r' : R2} (h : OpR X f r) (h' : OpR X f r') : OpR X f (fun x y H Q => r x y H Q ∨ r' x y H Q) := fun pins s σ H x y v u Q I rx ry q => q.elim (h pins s σ H x y v u Q I rx ry) (h' pins s σ H x y v u Q I rx ry)
theorem CallR.or {f : Value} {r r' : List V → Hp → VK → Prop} (h : CallR X f r) (h' : CallR X f r') : CallR X f (fun x H Q => r x H Q ∨ r' x H Q) := fun pins s σ H x v Q I rx q => q.elim (h pins s σ H x v Q I rx) (h' pins s σ H x v Q I rx)
theorem PE.or {e : Expr} {t t' : TE} (h : PE X e t) (h' : PE X e t') : PE X e (fun σ H Q => t σ H Q ∨ t' σ H Q) := fun pins s σ H Q I q => q.elim (h pins s σ H Q I) (h' pins s σ H Q I)
theorem PI.or {tg e : Expr} {t t' : TI} (h : PI X tg e t) (h' : PI X tg e t') : PI X tg e (fun σ H Q => t σ H Q ∨ t' σ H Q) := fun pins s σ H Q I q => q.elim (h pins s σ H Q I) (h' pins s σ H Q I)
theorem PS.or {e : Stmt} {t t' : TS} (h : PS X e t) (h' : PS X e t') : PS X e (fun D σ H => t D σ H ∨ t' D σ H) := fun pins s σ H D I q => q.elim (h pins s σ H D I) (h' pins s σ H D I)
def addD : D → D → Option D
  | .int i, .int j => some (.int (i + j))
  | .str a, .str b => if a.length + b.length ≤ LN then some (.str (a ++ b)) else none
  | .tup a, .tup b => if a.length + b.length ≤ LN then some (.tup (a ++ b)) else none
  | .lst a, .lst b => if a.length + b.length ≤ LN then some (.lst (a ++ b)) else none
  | _, _ => none
def rCatR : R2 := fun x y H Q => ∃ l b xs zs, x = .ref l ∧ y = .ref b ∧ Rd H l (.lst xs) ∧ Rd H b (.lst zs) ∧ xs.length + zs.length ≤ sizeLine ∧ ∀ p, H p = none → Q (.ref p) (upd H p (.lst (xs ++ zs)))
theorem op_catR : OpR X (binaryOp .Add) rCatR := by
  intro pins s σ H x y v u Q I rx ry h
  obtain ⟨l, b, xs, zs, rfl, rfl, hH, hB, hz, q⟩ := h
  cases rx
  cases ry
  obtain ⟨z, its, n, r, e⟩ := hH.ok I.hok
  obtain ⟨z2, its2, n2, r2, e2⟩ := hB.ok I.hok
  have l1 := r.length
  have l2 := r2.length
  refine PySem.P.add_list e e2 ?_ (by rw [List.size_toArray, List.size_toArray]; omega)
  have ea : its.toArray ++ its2.toArray = (its ++ its2).toArray := by simp
  rw [ea]
  exact ⟨.ref _, _, I.lnew (t' := s.toks) (r.append r2) (by rw [List.length_append]; omega), rfl, q _ I.fresh⟩
def rAddU (K : PySem.W.Frag) : R2 := fun x y H Q => (rI0 (fun i j => .int (i + j)) x y H Q) ∨ (∃ i j, x = .str i ∧ y = .str j ∧ i.length + j.length ≤ sizeLine ∧ Q (.str (i ++ j)) H) ∨ rCatA K x y H Q ∨ rCatR x y H Q
theorem ov_add : OV X C .f (binaryOp .Add) (rAddU X.K) addD := by
  refine ⟨OpR.or op_add (OpR.or op_add_str (OpR.or op_catA op_catR)), fun A H x y a b d Q ax ra rb e k => ?_⟩
  unfold addD at e
  split at e
  case h_1 i j => cases e; exact .inl ⟨i, j, ra.int, rb.int, k _ H Same.rfl Fr.int⟩
  case h_2 i j =>
    split at e
    case isFalse => cases e
    case isTrue hl => cases e; exact .inr (.inl ⟨i, j, ra.str, rb.str, LN_le hl, k _ H Same.rfl Fr.str⟩)
  case h_3 i j =>
    split at e
    case isFalse => cases e
    case isTrue hl =>
      cases e
      obtain ⟨p, vs, rfl, t1, r1⟩ := ra.tup
      obtain ⟨q, us, rfl, t2, r2⟩ := rb.tup
      refine .inr (.inr (.inl ⟨p, q, vs, us, rfl, rfl, t1.sq, t2.sq, LN_le (by rw [r1.length, r2.length]; exact hl), fun z => ?_, fun z1 z2 => ?_, fun _ _ l hl => ?_⟩))
      · subst z
        have : i = [] := by have := r1.length; simpa using this.symm
        subst this
        exact k _ H Same.rfl ⟨by unfold Rp; exact ⟨q, us, rfl, t2, r2⟩, fun z => nomatch z⟩
      · subst z2
        have : j = [] := by have := r2.length; simpa using this.symm
        subst this
        rw [List.append_nil] at k
        exact k _ H Same.rfl ⟨by unfold Rp; exact ⟨p, vs, rfl, t1, r1⟩, fun z => nomatch z⟩
      · obtain ⟨s, f⟩ := Fr.tupN ax hl (r1.append r2)
        exact k _ _ s f
  case h_4 i j =>
    split at e
    case isFalse => cases e
    case isTrue hl =>
      cases e
      obtain ⟨p, vs, rfl, t1, r1⟩ := ra.lstR
      obtain ⟨q, us, rfl, t2, r2⟩ := rb.lstR
      refine .inr (.inr (.inr ⟨p, q, vs, us, rfl, rfl, t1, t2, LN_le (by rw [r1.length, r2.length]; exact hl), fun l hl => ?_⟩))
      obtain ⟨s, f⟩ := Fr.lstN ax hl (r1.append r2)
      exact k _ _ s f
  case h_5 => cases e
def intD (c : Int → Int → Bool) (g : Int → Int → Int) : D → D → Option D
  | .int i, .int j => if c i j = true then some (.int (g i j)) else none
  | _, _ => none
def cmpI (g : Int → Int → Bool) : D → D → Option D
  | .int i, .int j => some (.bl (g i j))
  | _, _ => none
theorem ov_int {op : Operator} {c : Int → Int → Bool} {Cc : Int → Int → Prop} {g : Int → Int → Int} (h : OpR X (binaryOp op) (rI Cc fun i j => .int (g i j))) (hc : ∀ i j, c i j = true → Cc i j) : OV X C .f (binaryOp op) (rI Cc fun i j => .int (g i j)) (intD c g) := by
  refine ⟨h, fun A H x y a b d Q ax ra rb e k => ?_⟩
  unfold intD at e
  split at e
  case h_1 i j =>
    split at e
    case isFalse => cases e
    case isTrue hl => cases e; exact ⟨i, j, ra.int, rb.int, hc i j hl, k _ H Same.rfl Fr.int⟩
  case h_2 => cases e
theorem ov_int0 {op : Operator} {g : Int → Int → Int} (h : OpR X (binaryOp op) (rI0 fun i j => .int (g i j))) : OV X C .f (binaryOp op) (rI0 fun i j => .int (g i j)) (intD (fun _ _ => true) g) := by
  refine ⟨h, fun A H x y a b d Q ax ra rb e k => ?_⟩
  unfold intD at e
  split at e
  case h_1 i j => simp only [if_true] at e; cases e; exact ⟨i, j, ra.int, rb.int, k _ H Same.rfl Fr.int⟩
  case h_2 => cases e
def subD : D → D → Option D := intD (fun _ _ => true) fun i j => i - j
theorem ov_sub : OV X C .f (binaryOp .Sub) (rI0 fun i j => .int (i - j)) subD := ov_int0 op_sub
def cDiv (_ j : Int) : Bool := decide (j ≠ 0) && decide (bt j ≤ BQ)
def fdivD : D → D → Option D := intD cDiv fun i j => i.fdiv j
theorem op_fdivQ : OpR X (binaryOp .FloorDiv) (rI (fun _ j => j ≠ 0 ∧ bt j ≤ BQ) fun i j => .int (i.fdiv j)) := opI fun i j _ _ _ _ _ hc q => by
  refine floordiv_int hc.1 q (.inl (PyProof.noPylong_of_log2 ?_))
  have h1 : j.natAbs < 2 ^ BQ := PySem.intBits_le_iff.mp hc.2
  have h0 : j.natAbs ≠ 0 := by have := hc.1; omega
  exact Nat.lt_of_lt_of_le ((Nat.log2_lt h0).mpr h1) (by decide)
theorem ov_fdiv : OV X C .f (binaryOp .FloorDiv) (rI (fun _ j => j ≠ 0 ∧ bt j ≤ BQ) fun i j => .int (i.fdiv j)) fdivD := ov_int op_fdivQ fun i j h => by
  unfold cDiv at h
  simp only [Bool.and_eq_true, decide_eq_true_eq] at h
  exact h
def cMod (_ j : Int) : Bool := decide (j ≠ 0)
def modD : D → D → Option D := intD cMod fun i j => i.fmod j
theorem ov_mod : OV X C .f (binaryOp .Mod) (rI (fun _ j => j ≠ 0) fun i j => .int (i.fmod j)) modD := ov_int op_modN fun i j h => of_decide_eq_true h
def cPow (i j : Int) : Bool := decide (0 ≤ j) && decide (j ≤ 1000000) && decide (i.natAbs < 2 ^ 64)
theorem cPow_ok : ∀ i j, cPow i j = true → CPow i j := fun i j h => by
  unfold cPow at h
  simp only [Bool.and_eq_true, decide_eq_true_eq] at h
  exact ⟨h.1.1, h.1.2, h.2⟩
def powD : D → D → Option D := intD cPow fun i j => i ^ j.toNat
theorem ov_pow : OV X C .f (binaryOp .Pow) (rI CPow fun i j => .int (i ^ j.toNat)) powD := ov_int op_pow cPow_ok
def shlD : D → D → Option D := intD cPow fun i j => i * 2 ^ j.toNat
def cMul (i j : Int) : Bool := decide (bt i ≤ BM) && decide (bt j ≤ BM)
def mulD : D → D → Option D
  | .int i, .int j => if cMul i j = true then some (.int (i * j)) else none
  | .lst a, .int k => if 0 ≤ k ∧ k ≤ LR ∧ a.length * k.toNat ≤ LN then some (.lst (List.replicate k.toNat a).flatten) else none
  | _, _ => none
theorem op_mulQ : OpR X (binaryOp .Mult) (rI (fun i j => bt i ≤ BM ∧ bt j ≤ BM) fun i j => .int (i * j)) := opI fun i j _ _ _ _ _ hc q =>
  mul_int q (IntMulOk.of_bits (Nat.le_trans hc.1 (by decide)) (Nat.le_trans hc.2 (by decide)))
theorem RpL.rep {W : Wd} {A : Av} {H : Hp} {ds : List D} {vs : List V} (h : RpL W A H ds vs) : ∀ k : Nat, RpL W A H (List.replicate k ds).flatten (List.replicate k vs).flatten
  | 0 => RpL.nil
  | k + 1 => by rw [List.replicate_succ, List.replicate_succ, List.flatten_cons, List.flatten_cons]; exact h.append (RpL.rep h k)
end
section
variable {X : Cx} {C : Addr}
def rRepR : R2 := fun x y H Q => ∃ l k xs, x = .ref l ∧ y = .int k ∧ Rd H l (.lst xs) ∧ -(2 ^ 63) ≤ k ∧ k < 2 ^ 63 ∧ xs.length * k.toNat ≤ sizeLine ∧ ∀ p, H p = none → Q (.ref p) (upd H p (.lst (List.replicate k.toNat xs).flatten))
theorem op_repR : OpR X (binaryOp .Mult) rRepR := by
  intro pins s σ H x y v u Q I rx ry h
  obtain ⟨l, k, xs, rfl, rfl, hH, h1, h2, hz, q⟩ := h
  cases rx
  obtain ⟨t, rfl⟩ := ry
  obtain ⟨z, its, n, r, e⟩ := hH.ok I.hok
  have hl := r.length
  have hlen : its.toArray.size * k.toNat ≤ sizeLine := by rw [List.size_toArray, ← hl]; exact hz
  have hcap : ¬ its.toArray.size * k.toNat > (2 ^ 63 - 1) / 8 := by
    have : (sizeLine : Nat) ≤ (2 ^ 63 - 1) / 8 := by decide
    omega
  have hfit : ¬ (!Builtin.List.listFitsIndex k) = true := by
    rw [fitsIndex_both h1 h2]
    exact Bool.false_ne_true
  have hlong : ¬ Builtin.List.listTooLong (its.toArray.size * k.toNat) = true := by
    rw [notLongL hlen]
    exact Bool.false_ne_true
  have hnew : List.foldl (fun x1 x2 => x1 ++ x2) #[] (List.replicate (if its.toArray.isEmpty = true then 0 else k.toNat) its.toArray) = (List.replicate k.toNat its).flatten.toArray := by
    have f0 : ∀ m : Nat, List.foldl (fun x1 x2 => x1 ++ x2) #[] (List.replicate m its.toArray) = (List.replicate m its).flatten.toArray := fun m => by
      have := foldl_rep its m []
      rw [List.nil_append] at this
      exact this
    rw [f0]
    cases its with
    | nil => simp
    | cons a r' => rw [if_neg (by simp)]
  refine wpAny_binaryOp_repeat_ref (T := "list") (U := "int") (by decide) ⟨_, e, rfl⟩ (fun s' => typeIs_int s' k t) noFill_list_mul F.fills_int_mul F.slot_int_rmul repeat_list F.slot_int_index.lookup
    (call_meets F.slot_int_rmul (typeIs_int s k t) F.entry_int_rmul (F.args_int_rmul_2 _ _) (int___rmul___int_list k t l its.toArray n)
      ⟨e, rfl, ⟨_, e, rfl⟩, call_meets F.slot_list_mul ⟨_, e, rfl⟩ F.entry_list_mul (F.args_list_mul_2 _ _) (AutoListH.list___mul___list_int_3 l its.toArray n k t hfit hcap hlong) ⟨e, ?_⟩⟩)
  rw [hnew]
  exact ⟨.ref _, _, I.lnew (t' := s.toks) (r.rep k.toNat) (by rw [len_rep, Nat.mul_comm]; exact hz), rfl, q _ I.fresh⟩
def rMulU : R2 := fun x y H Q => (rI (fun i j => bt i ≤ BM ∧ bt j ≤ BM) (fun i j => .int (i * j)) x y H Q) ∨ rRepR x y H Q
theorem ov_mul : OV X C .f (binaryOp .Mult) rMulU mulD := by
  refine ⟨OpR.or op_mulQ op_repR, fun A H x y a b d Q ax ra rb e k => ?_⟩
  unfold mulD at e
  split at e
  case h_1 i j =>
    split at e
    case isFalse => cases e
    case isTrue h =>
      cases e
      unfold cMul at h
      simp only [Bool.and_eq_true, decide_eq_true_eq] at h
      exact .inl ⟨i, j, ra.int, rb.int, h, k _ H Same.rfl Fr.int⟩
  case h_2 i j =>
    split at e
    case isFalse => cases e
    case isTrue h =>
      cases e
      obtain ⟨p, vs, rfl, t1, r1⟩ := ra.lstR
      obtain ⟨h0, h1, h2⟩ := h
      unfold LR at h1
      refine .inr ⟨p, j, vs, rfl, rb.int, t1, by omega, by omega, LN_le (by rw [r1.length]; exact h2), fun l hl => ?_⟩
      obtain ⟨s, f⟩ := Fr.lstN ax hl (r1.rep j.toNat)
      exact k _ _ s f
  case h_3 => cases e
end
section
variable {X : Cx} {C : Addr}
theorem ov_cmpI {op : CmpOp} {g : Int → Int → Bool} (h : OpR X (compareOp op) (rI0 fun i j => .bl (g i j))) : OV X C .f (compareOp op) (rI0 fun i j => .bl (g i j)) (cmpI g) := by
  refine ⟨h, fun A H x y a b d Q ax ra rb e k => ?_⟩
  unfold cmpI at e
  split at e
  case h_1 i j => cases e; exact ⟨i, j, ra.int, rb.int, k _ H Same.rfl Fr.bl⟩
  case h_2 => cases e
def leD : D → D → Option D := cmpI fun i j => decide (i ≤ j)
theorem ov_le : OV X C .f (compareOp .LtE) (rI0 fun i j => .bl (decide (i ≤ j))) leD := ov_cmpI op_le
def gtD : D → D → Option D := cmpI fun i j => decide (j < i)
theorem ov_gt : OV X C .f (compareOp .Gt) (rI0 fun i j => .bl (decide (j < i))) gtD := ov_cmpI op_gt
def geD : D → D → Option D := cmpI fun i j => decide (j ≤ i)
theorem ov_ge : OV X C .f (compareOp .GtE) (rI0 fun i j => .bl (decide (j ≤ i))) geD := ov_cmpI op_ge
def intsD : List D → Option (List Int)
  | [] => some []
  | .int i :: ds => (intsD ds).map (i :: ·)
  | _ => none
theorem intsD_map : ∀ ns : List Int, intsD (ns.map D.int) = some ns
  | [] => rfl
  | n :: ns => by show (intsD (ns.map D.int)).map (n :: ·) = _; rw [intsD_map ns]; rfl
theorem intsD_eq : ∀ {ds : List D} {ns : List Int}, intsD ds = some ns → ds = ns.map D.int
  | [], ns, h => by cases h; rfl
  | .int i :: ds, ns, h => by
    unfold intsD at h
    obtain ⟨r, h1, h2⟩ := Option.map_eq_some_iff.mp h
    subst h2
    rw [intsD_eq h1]; rfl
  | .non :: _, _, h => by cases h
  | .bl _ :: _, _, h => by cases h
  | .str _ :: _, _, h => by cases h
  | .tup _ :: _, _, h => by cases h
  | .lst _ :: _, _, h => by cases h
  | .dk _ _ :: _, _, h => by cases h
  | .dt _ _ :: _, _, h => by cases h
  | .kind _ :: _, _, h => by cases h
  | .fn _ :: _, _, h => by cases h
  | .kt _ :: _, _, h => by cases h
  | .ty _ :: _, _, h => by cases h
  | .ks _ :: _, _, h => by cases h
  | .exc _ _ _ :: _, _, h => by cases h
theorem RpL.ints_inv {W : Wd} {A : Av} {H : Hp} : ∀ {ns : List Int} {vs : List V}, RpL W A H (ns.map D.int) vs → vs = ns.map V.int
  | [], vs, h => by unfold RpL at h; exact h
  | n :: ns, vs, h => by
    have h : RpL W A H (D.int n :: ns.map D.int) vs := h
    unfold RpL at h
    obtain ⟨v, r, rfl, a, b⟩ := h
    rw [Rp.int_iff.mp a, RpL.ints_inv b]; rfl
def ltD : D → D → Option D
  | .int i, .int j => some (.bl (decide (i < j)))
  | .tup a, .tup b => match intsD a, intsD b with
    | some ns, some ms => some (.bl (HT.lexLt ns ms))
    | _, _ => none
  | _, _ => none
mutual
def pd : D → PyData
  | .non => .none
  | .bl b => .bool b
  | .int i => .int i
  | .str x => .str x
  | .tup ds => .tuple (pdL ds)
  | .lst ds => .list (pdL ds)
  | .dk _ _ => .dict []
  | .dt _ _ => .dict []
  | .kind _ => .dict []
  | .fn _ => .dict []
  | .kt ds => .tuple (pdL ds)
  | .ty _ => .dict []
  | .ks _ => .dict []
  | .exc _ _ _ => .dict []
def pdL : List D → List PyData
  | [] => []
  | d :: ds => pd d :: pdL ds
end
mutual
theorem Rp.dp {W : Wd} {A : Av} {H : Hp} : ∀ (d : D) (v : V), Rp W A H d v → (pd d).canLay0 = true → Dp W.K H v (pd d)
  | .non, v, h, _ => by unfold Rp at h; subst h; unfold pd; exact .non
  | .bl b, v, h, _ => by unfold Rp at h; subst h; unfold pd; exact .bl b
  | .int i, v, h, _ => by unfold Rp at h; subst h; unfold pd; exact .int i
  | .str x, v, h, _ => by unfold Rp at h; subst h; unfold pd; exact .str x
  | .tup ds, v, h, c => by
    unfold Rp at h; obtain ⟨p, vs, rfl, t, r⟩ := h; unfold pd at c ⊢; exact .tup t.sq (RpL.dp ds vs r (by simpa [PyData.canLay0] using c))
  | .lst ds, v, h, c => by
    unfold Rp at h; obtain ⟨p, vs, rfl, t, r⟩ := h; unfold pd at c ⊢; exact .lst t.sq (RpL.dp ds vs r (by simpa [PyData.canLay0] using c))
  | .dk _ _, v, h, c => by unfold pd at c; simp [PyData.canLay0] at c
  | .dt _ _, v, h, c => by unfold pd at c; simp [PyData.canLay0] at c
  | .kind _, v, h, c => by unfold pd at c; simp [PyData.canLay0] at c
  | .fn _, v, h, c => by unfold pd at c; simp [PyData.canLay0] at c
  | .ty _, v, h, c => by unfold pd at c; simp [PyData.canLay0] at c
  | .ks _, v, h, c => by unfold pd at c; simp [PyData.canLay0] at c
  | .exc _ _ _, v, h, c => by unfold pd at c; simp [PyData.canLay0] at c
  | .kt ds, v, h, c => by
    unfold Rp at h; obtain ⟨p, vs, rfl, t, r⟩ := h; unfold pd at c ⊢; exact .tup (.inr t) (RpL.dp ds vs r (by simpa [PyData.canLay0] using c))
theorem RpL.dp {W : Wd} {A : Av} {H : Hp} : ∀ (ds : List D) (vs : List V), RpL W A H ds vs → PyData.canLayAll0 (pdL ds) = true → DpAll W.K H vs (pdL ds)
  | [], vs, h, _ => by unfold RpL at h; subst h; unfold pdL; exact .nil
  | d :: ds, vs, h, c => by
    unfold RpL at h; obtain ⟨v, r, rfl, a, b⟩ := h; unfold pdL at c ⊢
    have c' : (pd d).canLay0 = true ∧ PyData.canLayAll0 (pdL ds) = true := by simpa [PyData.canLayAll0] using c
    exact .cons (Rp.dp d v a c'.1) (RpL.dp ds r b c'.2)
end
theorem Rw.dp {W : Wd} {A : Av} {H : Hp} {d : D} {v : V} (h : Rw W A H d v) (c : (pd d).canLay0 = true) : Dp W.K H v (pd d) := by
  rcases h with h | ⟨p, rfl, a, ce⟩
  · exact Rp.dp d v h c
  · cases d <;> first | exact absurd ce id | (unfold pd at c; simp [PyData.canLay0] at c; done) | skip
    obtain ⟨vs, hv, r⟩ := ce
    unfold pd at c ⊢
    exact .lst (SqL.of hv) (RpL.dp _ vs r (by simpa [PyData.canLay0] using c))
def eqB (a b : D) : Option Bool := if SeqAt.shaped (pd a) = true ∧ SeqAt.shaped (pd b) = true then some (PyData.eqv (pd a) (pd b)) else none
def eqD (a b : D) : Option D := (eqB a b).map D.bl
def neD (a b : D) : Option D := (eqB a b).map fun c => D.bl (!c)
theorem ov_eq (hu : X.A.units + 64 < cLine) : OV X C .f (compareOp .Eq) (rEqD X.K) eqD := by
  refine ⟨op_eqD hu, fun A H x y a b d Q ax ra rb e k => ?_⟩
  unfold eqD eqB at e
  split at e
  case isFalse => cases e
  case isTrue h =>
    cases e
    exact ⟨_, _, ra.dp (SeqAt.canLay_of_shaped h.1), rb.dp (SeqAt.canLay_of_shaped h.2), h.1, h.2, k _ H Same.rfl Fr.bl⟩
theorem ov_ne (hu : X.A.units + 64 < cLine) : OV X C .f (compareOp .NotEq) (rNeD X.K) neD := by
  refine ⟨op_neD hu, fun A H x y a b d Q ax ra rb e k => ?_⟩
  unfold neD eqB at e
  split at e
  case isFalse => cases e
  case isTrue h =>
    cases e
    exact ⟨_, _, ra.dp (SeqAt.canLay_of_shaped h.1), rb.dp (SeqAt.canLay_of_shaped h.2), h.1, h.2, k _ H Same.rfl Fr.bl⟩
def isNonB : D → Bool
  | .non => true
  | _ => false
def isND (a b : D) : Option D := if isNonB b = true then some (.bl (isNonB a)) else none
theorem Rw.isNon {W : Wd} {A : Av} {H : Hp} {d : D} {v : V} (h : Rw W A H d v) : decide (v = .non) = isNonB d := by
  rcases h with h | ⟨p, rfl, a, ce⟩
  · cases d <;> unfold Rp at h
    · subst h; rfl
    · subst h; rfl
    · subst h; rfl
    · subst h; rfl
    · obtain ⟨p, vs, rfl, _⟩ := h; rfl
    · obtain ⟨p, vs, rfl, _⟩ := h; rfl
    · obtain ⟨p, vs, rfl, _⟩ := h; rfl
    · obtain ⟨p, vs, rfl, _⟩ := h; rfl
    · obtain ⟨p, vs, t, rfl, _⟩ := h; rfl
    · obtain ⟨p, rfl, _⟩ := h; rfl
    · obtain ⟨p, vs, rfl, _⟩ := h; rfl
    · subst h; rfl
    · obtain ⟨p, vs, rfl, _⟩ := h; rfl
    · obtain ⟨p, C, od, vs, rfl, _⟩ := h; rfl
  · cases d <;> first | exact absurd ce id | rfl
theorem Rw.non_of {W : Wd} {A : Av} {H : Hp} {d : D} {v : V} (h : Rw W A H d v) (e : isNonB d = true) : v = .non := by
  cases d <;> first | cases e | skip
  exact h.non
theorem ov_isN : OV X C .f (compareOp .Is) (fun x y H Q => y = .non ∧ Q (.bl (decide (x = .non))) H) isND := by
  refine ⟨op_isN, fun A H x y a b d Q ax ra rb e k => ?_⟩
  unfold isND at e
  split at e
  case isFalse => cases e
  case isTrue h => cases e; exact ⟨rb.non_of h, by rw [ra.isNon]; exact k _ H Same.rfl Fr.bl⟩
end
end BV
set_option linter.all false
set_option maxRecDepth 100000
set_option maxHeartbeats 4000000
namespace BV
open PySem PySem.Spec PyProof.Rows L2
def fl : D → Option V
  | .non => some .non
  | .bl b => some (.bl b)
  | .int i => some (.int i)
  | .str x => some (.str x)
  | _ => none
def flL : List D → Option (List V)
  | [] => some []
  | d :: ds => (fl d).bind fun v => (flL ds).map (v :: ·)
theorem fl_flat {d : D} {v : V} (h : fl d = some v) : flatV v = true := by cases d <;> cases h <;> rfl
theorem flL_flat : ∀ {ds : List D} {vs : List V}, flL ds = some vs → vs.all flatV = true
  | [], vs, h => by cases h; rfl
  | d :: ds, vs, h => by
    unfold flL at h
    obtain ⟨v, h1, h⟩ := Option.bind_eq_some_iff.mp h
    obtain ⟨r, h2, rfl⟩ := Option.map_eq_some_iff.mp h
    simp [fl_flat h1, flL_flat h2]
theorem flL_ints : ∀ ns : List Int, flL (ns.map D.int) = some (ns.map V.int)
  | [] => rfl
  | n :: ns => by show (flL (ns.map D.int)).map (V.int n :: ·) = _; rw [flL_ints ns]; rfl
theorem Rw.fl {W : Wd} {A : Av} {H : Hp} {d : D} {v x : V} (h : Rw W A H d x) (e : fl d = some v) : x = v := by
  cases d <;> cases e
  · exact h.non
  · exact h.bl
  · exact h.int
  · exact h.str
theorem RpL.fl {W : Wd} {A : Av} {H : Hp} : ∀ {ds : List D} {vs us : List V}, RpL W A H ds us → flL ds = some vs → us = vs
  | [], vs, us, h, e => by cases e; unfold RpL at h; exact h
  | d :: ds, vs, us, h, e => by
    unfold flL at e
    obtain ⟨v, h1, e⟩ := Option.bind_eq_some_iff.mp e
    obtain ⟨r, h2, rfl⟩ := Option.map_eq_some_iff.mp e
    unfold RpL at h
    obtain ⟨w, t, rfl, a, b⟩ := h
    rw [Rw.fl (.inl a) h1, RpL.fl b h2]
def seqD : D → Option (List D)
  | .lst ds => some ds
  | .tup ds => some ds
  | .kt ds => some ds
  | .ks ds => some ds
  | _ => none
def inD (neg : Bool) (a b : D) : Option D := (fl a).bind fun v => (seqD b).bind fun ds => (flL ds).map fun us => .bl (if neg = true then !inV v us else inV v us)
theorem Rw.seq {W : Wd} {A : Av} {H : Hp} {d : D} {ds : List D} {v : V} (h : Rw W A H d v) (e : seqD d = some ds) : ∃ p vs, v = .ref p ∧ (SqL W.K H p vs ∨ SqT W.K H p vs) ∧ RpL W A H ds vs := by
  cases d <;> cases e
  · obtain ⟨p, vs, e, t, r⟩ := h.tup; exact ⟨p, vs, e, .inr t.sq, r⟩
  · obtain ⟨p, vs, e, t, r⟩ := h.lst; exact ⟨p, vs, e, .inl t, r⟩
  · obtain ⟨p, vs, e, t, r⟩ := h.kt; exact ⟨p, vs, e, .inr (.inr t), r⟩
  · obtain ⟨p, vs, e, t, r⟩ := h.ks; exact ⟨p, vs, e, .inl t, r⟩
section
variable {X : Cx} {C : Addr}
theorem in_ok {A : Av} {H : Hp} {x y : V} {a b d : D} {Q : VK} {neg : Bool} (ra : Rw (wd X C) A H a x) (rb : Rw (wd X C) A H b y) (e : inD neg a b = some d) (k : ∀ v H', Same H H' → rep (wd X C) A H H' d v .f → Q v H') : rIn X.K neg x y H Q := by
  unfold inD at e
  obtain ⟨v, e1, e⟩ := Option.bind_eq_some_iff.mp e
  obtain ⟨ds, e2, e⟩ := Option.bind_eq_some_iff.mp e
  obtain ⟨us, e3, rfl⟩ := Option.map_eq_some_iff.mp e
  obtain ⟨p, vs, rfl, q, r⟩ := rb.seq e2
  have := ra.fl e1
  subst this
  have := r.fl e3
  subst this
  exact ⟨p, vs, rfl, q, fl_flat e1, flL_flat e3, k _ H Same.rfl Fr.bl⟩
theorem ov_notIn : OV X C .f (compareOp .NotIn) (rIn X.K true) (inD true) := ⟨op_notIn_seq, fun A H x y a b d Q ax ra rb e k => in_ok ra rb e k⟩
def keyD : D → Option Key
  | .int i => some (.inl i)
  | .str x => some (.inr x)
  | _ => none
def keysD : List D → Option (List Key)
  | [] => some []
  | d :: ds => (keyD d).bind fun k => (keysD ds).map (k :: ·)
theorem Rw.key {W : Wd} {A : Av} {H : Hp} {d : D} {x : V} {k : Key} (h : Rw W A H d x) (e : keyD d = some k) : x = kV k := by
  cases d <;> cases e
  · exact h.int
  · exact h.str
theorem RpL.keys {W : Wd} {A : Av} {H : Hp} : ∀ {ds : List D} {ks : List Key} {us : List V}, RpL W A H ds us → keysD ds = some ks → us = ks.map kV
  | [], ks, us, h, e => by cases e; unfold RpL at h; exact h
  | d :: ds, ks, us, h, e => by
    unfold keysD at e
    obtain ⟨v, h1, e⟩ := Option.bind_eq_some_iff.mp e
    obtain ⟨r, h2, rfl⟩ := Option.map_eq_some_iff.mp e
    unfold RpL at h
    obtain ⟨w, t, rfl, a, b⟩ := h
    rw [Rw.key (.inl a) h1, RpL.keys b h2]; rfl
def valD {κ : Type} [DecidableEq κ] (ks : List κ) (ds : List D) (k : κ) : Option D := ((ks.zip ds).find? fun kv => decide (kv.1 = k)).map (·.2)
theorem valD_ok {W : Wd} {A : Av} {H : Hp} {κ : Type} [DecidableEq κ] (k : κ) : ∀ (ks : List κ) {ds : List D} {vs : List V}, RpL W A H ds vs → (valD ks ds k = none ∧ valV (ks.zip vs) k = none) ∨ ∃ d v, valD ks ds k = some d ∧ valV (ks.zip vs) k = some v ∧ Rp W A H d v
  | [], ds, vs, h => .inl ⟨rfl, rfl⟩
  | c :: ks, [], vs, h => by unfold RpL at h; subst h; exact .inl ⟨rfl, rfl⟩
  | c :: ks, d :: ds, vs, h => by
    unfold RpL at h
    obtain ⟨v, r, rfl, a, b⟩ := h
    by_cases e : c = k
    · exact .inr ⟨d, v, by simp [valD, e], by simp [valV, e], a⟩
    · have h1 : valD (c :: ks) (d :: ds) k = valD ks ds k := by simp [valD, e]
      have h2 : valV ((c :: ks).zip (v :: r)) k = valV (ks.zip r) k := by simp [valV, e]
      rw [h1, h2]
      exact valD_ok k ks b
def dgD : D → D → Option (Option D)
  | .dk ks ds, k => (keyD k).map fun k => valD ks ds k
  | .dt ks ds, .tup k => (keysD k).map fun k => valD ks ds k
  | _, _ => none
theorem Rw.dk {W : Wd} {A : Av} {H : Hp} {ks : List Key} {ds : List D} {v : V} (h : Rw W A H (.dk ks ds) v) : ∃ p vs, v = .ref p ∧ Rd H p (.dK (ks.zip vs)) ∧ ks.length = ds.length ∧ RpL W A H ds vs := by
  rcases h with h | ⟨p, e, a, vs, c, l, r⟩
  · unfold Rp at h; obtain ⟨p, vs, e, _, t, l, r⟩ := h; exact ⟨p, vs, e, t, l, r⟩
  · exact ⟨p, vs, e, .inl c, l, r⟩
theorem Rw.dt {W : Wd} {A : Av} {H : Hp} {ks : List (List Key)} {ds : List D} {v : V} (h : Rw W A H (.dt ks ds) v) : ∃ p vs, v = .ref p ∧ Rd H p (.dT (ks.zip vs)) ∧ ks.length = ds.length ∧ RpL W A H ds vs := by
  rcases h with h | ⟨p, e, a, vs, c, l, r⟩
  · unfold Rp at h; obtain ⟨p, vs, e, _, t, l, r⟩ := h; exact ⟨p, vs, e, t, l, r⟩
  · exact ⟨p, vs, e, .inl c, l, r⟩
theorem dget_ok {W : Wd} {A : Av} {H : Hp} {a b : D} {x y : V} {o : Option D} (ra : Rw W A H a x) (rb : Rw W A H b y) (e : dgD a b = some o) : ∃ p ov, x = .ref p ∧ IsD H p ∧ DGet H p y ov ∧ ((o = none ∧ ov = none) ∨ ∃ d v, o = some d ∧ ov = some v ∧ Rp W A H d v) := by
  cases a <;> first | cases e | skip
  · rename_i ks ds
    have e : (keyD b).map (fun k => valD ks ds k) = some o := e
    obtain ⟨k', e1, rfl⟩ := Option.map_eq_some_iff.mp e
    obtain ⟨p, vs, rfl, q, l, r⟩ := ra.dk
    refine ⟨p, valV (ks.zip vs) k', rfl, .inl ⟨_, q⟩, .inl ⟨_, k', q, rb.key e1, rfl⟩, ?_⟩
    rcases valD_ok k' ks r with ⟨h1, h2⟩ | ⟨d, v, h1, h2, h3⟩
    · exact .inl ⟨h1, h2⟩
    · exact .inr ⟨d, v, h1, h2, h3⟩
  · rename_i ks ds
    cases b <;> first | cases e | skip
    rename_i k
    have e : (keysD k).map (fun k => valD ks ds k) = some o := e
    obtain ⟨k', e1, rfl⟩ := Option.map_eq_some_iff.mp e
    obtain ⟨p, vs, rfl, q, l, r⟩ := ra.dt
    obtain ⟨b, us, rfl, t, ru⟩ := rb.tup
    have := ru.keys e1
    subst this
    refine ⟨p, valV (ks.zip vs) k', rfl, .inr ⟨_, q⟩, .inr ⟨_, k', b, q, rfl, t.2, rfl⟩, ?_⟩
    rcases valD_ok k' ks r with ⟨h1, h2⟩ | ⟨d, v, h1, h2, h3⟩
    · exact .inl ⟨h1, h2⟩
    · exact .inr ⟨d, v, h1, h2, h3⟩
def ixD (a b : D) : Option D :=
  match a, b with
  | .lst ds, .int i => atI ds i
  | .tup ds, .int i => atI ds i
  | .kt ds, .int i => atI ds i
  | .ks ds, .int i => atI ds i
  | .str z, .int i => if z.length ≤ LN then (atI z.cps.toList i).map fun c => .str ⟨#[c]⟩ else none
  | a, b => (dgD a b).bind id
theorem RpL.atI {W : Wd} {A : Av} {H : Hp} {ds : List D} {vs : List V} {i : Int} {d : D} (h : RpL W A H ds vs) (e : L2.atI ds i = some d) : ∃ v, L2.atI vs i = some v ∧ Rp W A H d v := by
  unfold L2.atI at e ⊢
  rw [h.length]
  obtain ⟨j, h1, h2⟩ := Option.bind_eq_some_iff.mp e
  rw [h1]
  exact h.get h2
def tIxU (K : PySem.W.Frag) (ta tb : TE) : TE := fun σ H Q => tOp (rIx K) ta tb σ H Q ∨ tDGet ta tb σ H Q
def isDctD : D → Bool
  | .dk _ _ => true
  | .dt _ _ => true
  | _ => false
theorem ix_seq_ok {A : Av} {H : Hp} {x y : V} {a b d : D} {Q : VK} (ra : Rw (wd X C) A H a x) (rb : Rw (wd X C) A H b y) (n : isDctD a = false) (e : ixD a b = some d) (k : ∀ v, Rp (wd X C) A H d v → Q v H) : rIx X.K x y H Q := by
  cases a <;> first | (cases n; done) | (cases b <;> cases e; done) | skip
  · rename_i z
    cases b <;> first | cases e | skip
    rename_i i
    have e : (if z.length ≤ LN then (atI z.cps.toList i).map fun c => D.str ⟨#[c]⟩ else none) = some d := e
    split at e
    case isFalse => cases e
    case isTrue hl =>
    obtain ⟨c, h1, rfl⟩ := Option.map_eq_some_iff.mp e
    exact .inr (.inr ⟨z, i, c, ra.str, rb.int, LN_le hl, h1, k _ (Rp.str_iff.mpr rfl)⟩)
  · rename_i ds
    cases b <;> first | cases e | skip
    rename_i i
    obtain ⟨p, vs, rfl, q, r⟩ := ra.tup
    obtain ⟨z, h1, h2⟩ := r.atI (i := i) (d := d) e
    exact .inr (.inl ⟨p, vs, i, z, rfl, rb.int, q.sq, h1, k z h2⟩)
  · rename_i ds
    cases b <;> first | cases e | skip
    rename_i i
    obtain ⟨p, vs, rfl, q, r⟩ := ra.lst
    obtain ⟨z, h1, h2⟩ := r.atI (i := i) (d := d) e
    exact .inl ⟨p, vs, i, z, rfl, rb.int, q, h1, k z h2⟩
  · rename_i ds
    cases b <;> first | cases e | skip
    rename_i i
    obtain ⟨p, vs, rfl, q, r⟩ := ra.kt
    obtain ⟨z, h1, h2⟩ := r.atI (i := i) (d := d) e
    exact .inr (.inl ⟨p, vs, i, z, rfl, rb.int, .inr q, h1, k z h2⟩)
  · rename_i ds
    cases b <;> first | cases e | skip
    rename_i i
    obtain ⟨p, vs, rfl, q, r⟩ := ra.ks
    obtain ⟨z, h1, h2⟩ := r.atI (i := i) (d := d) e
    exact .inl ⟨p, vs, i, z, rfl, rb.int, q, h1, k z h2⟩
theorem ve_ix {ma mb : Md} {ta tb : TE} {Fa Fb : EF} (ha : VE (wd X C) ma ta Fa) (hb : VE (wd X C) mb tb Fb) : VE (wd X C) .s (tIxU X.K ta tb) (e2 ixD Fa Fb) := by
  intro A σ ρ H Q d hs e k
  unfold e2 at e
  obtain ⟨x, ex, e⟩ := Option.bind_eq_some_iff.mp e
  obtain ⟨y, ey, e⟩ := Option.bind_eq_some_iff.mp e
  cases n : isDctD x with
  | false =>
    left
    refine ha A σ ρ H _ _ hs ex fun v H1 s1 r1 => hb A σ ρ H1 _ _ (hs.same s1) ey fun u H2 s2 r2 => ?_
    exact ix_seq_ok (r1.w.same s2) r2.w n e fun z h => k z H2 (s1.trans s2) h
  | true =>
    right
    have e' : (dgD x y).bind id = some d := by cases x <;> first | (cases n; done) | exact e
    obtain ⟨o, h1, h2⟩ := Option.bind_eq_some_iff.mp e'
    have h2 : o = some d := h2
    subst h2
    refine ha A σ ρ H _ _ hs ex fun v H1 s1 r1 => hb A σ ρ H1 _ _ (hs.same s1) ey fun u H2 s2 r2 => ?_
    obtain ⟨p, ov, rfl, _, g, h⟩ := dget_ok (r1.w.same s2) r2.w h1
    rcases h with ⟨h3, _⟩ | ⟨d', v', h3, rfl, h4⟩
    · cases h3
    · cases h3
      exact ⟨p, v', rfl, g, k v' H2 (s1.trans s2) h4⟩
theorem EV.ix {a b : Expr} {ma mb : Md} {ta tb : TE} {Fa Fb : EF} {pos : Pos} (hu : X.A.units + 1 < cLine) (ha : EV X C ma a ta Fa) (hb : EV X C mb b tb Fb) (hs : PlainIx b) : EV X C .s (.Subscript a b pos) (tIxU X.K ta tb) (e2 ixD Fa Fb) :=
  ⟨PE.or (pe_ix ix_seq ha.pe hb.pe hs) (pe_dget hu ha.pe hb.pe hs), ve_ix ha.ve hb.ve⟩
def e3 (f : D → D → D → Option D) (a b c : EF) : EF := fun ρ => (a ρ).bind fun x => (b ρ).bind fun y => (c ρ).bind fun z => f x y z
end
end BV
set_option linter.all false
set_option maxRecDepth 100000
set_option maxHeartbeats 4000000
namespace BV
open PySem PySem.Spec PyProof.Rows L2
section
variable {X : Cx} {C : Addr} {a b c e : Expr} {es : List Expr} {m ma mb mc : Md} {ta tb tc te : TE} {Fa Fb Fc F : EF} {pos : Pos}
def tupD (ds : List D) : Option D := if ds.length ≤ LN then some (.tup ds) else none
def lstD (ds : List D) : Option D := if ds.length ≤ LN then some (.lst ds) else none
theorem EV.tup {es : List Expr} {x1 : Nat} {t : TA} {G : AF} (h : BV X C es t G) : EV X C .f (.Tuple es x1 pos) (tTup t) (eN tupD G) := ⟨pe_tup h.pa, fun A σ ρ H Q d hs e k => by
  unfold eN at e
  obtain ⟨ds, e1, e⟩ := Option.bind_eq_some_iff.mp e
  unfold tupD at e
  split at e
  case isFalse => cases e
  case isTrue hl =>
  cases e
  refine h.vb A σ ρ H _ ds hs e1 fun vs H1 s1 r1 => ⟨LN_le (by rw [r1.length]; exact hl), fun p hp => ?_⟩
  obtain ⟨s2, f⟩ := Fr.tupN (hs.same s1).ax hp r1
  exact k _ _ (s1.trans s2) (f.back s1)⟩
theorem EV.lst {es : List Expr} {t : TA} {G : AF} (h : BV X C es t G) : EV X C .f (.List es pos) (tLst t) (eN lstD G) := ⟨pe_lst h.pa, fun A σ ρ H Q d hs e k => by
  unfold eN at e
  obtain ⟨ds, e1, e⟩ := Option.bind_eq_some_iff.mp e
  unfold lstD at e
  split at e
  case isFalse => cases e
  case isTrue hl =>
  cases e
  refine h.vb A σ ρ H _ ds hs e1 fun vs H1 s1 r1 => ⟨LN_le (by rw [r1.length]; exact hl), fun p hp => ?_⟩
  obtain ⟨s2, f⟩ := Fr.lstN (hs.same s1).ax hp r1
  exact k _ _ (s1.trans s2) (f.back s1)⟩
def cntD : D → Option D
  | .kind sq => some (.int sq.length)
  | _ => none
def sqrD : D → Option D
  | .kind sq => some (.tup (sq.map D.int))
  | _ => none
theorem Rw.kind {W : Wd} {A : Av} {H : Hp} {sq : List Int} {v : V} (h : Rw W A H (.kind sq) v) : ∃ p dx t, v = .ref p ∧ ¬A p ∧ H p = some (.ins W.C dx (Toy.flds t sq.length)) ∧ TupA W A H t (sq.map V.int) := by
  rcases h with h | ⟨p, e, a, c⟩
  · unfold Rp at h; exact h
  · exact absurd c id
theorem EV.cnt (T : Toy.KC X.K C) (h : EV X C m e te F) (hb : attributeBase e ("count" : Str) X.env (eval e X.env) = eval e X.env := by rfl) : EV X C .f (.Attribute e ("count" : Str) pos) (tFld X.K te ("count" : Str)) (e1 cntD F) := ⟨pe_fld h.pe hb, fun A σ ρ H Q d hs e k => by
  unfold e1 at e
  obtain ⟨x, e1, e⟩ := Option.bind_eq_some_iff.mp e
  cases x <;> first | (cases e; done) | skip
  cases e
  refine h.ve A σ ρ H _ _ hs e1 fun v H1 s1 r1 => ?_
  obtain ⟨p, dx, t, rfl, n, hp, ht⟩ := r1.w.kind
  exact ⟨p, C, dx, _, _, rfl, hp, T.cl, T.nC, Toy.flds_c _ _, k _ H1 s1 Fr.int⟩⟩
theorem EV.sqr (T : Toy.KC X.K C) (h : EV X C m e te F) (hb : attributeBase e ("squares" : Str) X.env (eval e X.env) = eval e X.env := by rfl) : EV X C .f (.Attribute e ("squares" : Str) pos) (tFld X.K te ("squares" : Str)) (e1 sqrD F) := ⟨pe_fld h.pe hb, fun A σ ρ H Q d hs e k => by
  unfold e1 at e
  obtain ⟨x, e1, e⟩ := Option.bind_eq_some_iff.mp e
  cases x <;> first | (cases e; done) | skip
  rename_i sq
  cases e
  refine h.ve A σ ρ H _ _ hs e1 fun v H1 s1 r1 => ?_
  obtain ⟨p, dx, t, rfl, n, hp, ht⟩ := r1.w.kind
  exact ⟨p, C, dx, _, _, rfl, hp, T.cl, T.nS, Toy.flds_s _ _, k _ H1 s1 ⟨by unfold Rp; exact ⟨t, _, rfl, ht, RpL.ints sq⟩, fun z => nomatch z⟩⟩⟩
def negD : D → Option D
  | .int i => some (.int (-i))
  | _ => none
def notD : D → Option D
  | .bl b => some (.bl (!b))
  | _ => none
theorem EV.neg (h : EV X C m e te F) : EV X C .f (.UnaryOp .USub e pos) (tUn (rU fun i => .int (-i)) te) (e1 negD F) := ⟨pe_un un_neg h.pe, fun A σ ρ H Q d hs e k => by
  unfold e1 at e
  obtain ⟨x, e1, e⟩ := Option.bind_eq_some_iff.mp e
  cases x <;> first | (cases e; done) | skip
  cases e
  exact h.ve A σ ρ H _ _ hs e1 fun v H1 s1 r1 => ⟨_, r1.w.int, k _ H1 s1 Fr.int⟩⟩
theorem EV.not (h : EV X C m e te F) : EV X C .f (.UnaryOp .Not e pos) (tNotV te) (e1 notD F) := ⟨pe_not h.pe, fun A σ ρ H Q d hs e k => by
  unfold e1 at e
  obtain ⟨x, e1, e⟩ := Option.bind_eq_some_iff.mp e
  cases x <;> first | (cases e; done) | skip
  cases e
  exact h.ve A σ ρ H _ _ hs e1 fun v H1 s1 r1 => ⟨_, r1.w.bl, k _ H1 s1 Fr.bl⟩⟩
def eAnd (a b : EF) : EF := fun ρ => (a ρ).bind fun
  | .bl true => b ρ
  | .bl false => some (.bl false)
  | _ => none
def eOr (a b : EF) : EF := fun ρ => (a ρ).bind fun
  | .bl true => some (.bl true)
  | .bl false => b ρ
  | _ => none
theorem EV.one {op : BoolOp} (h : EV X C m a ta Fa) : EV X C m (.BoolOp op [a] pos) ta Fa := ⟨pe_one h.pe, h.ve⟩
theorem EV.and {rest : List Expr} (ha : EV X C ma a ta Fa) (hb : EV X C .f (.BoolOp .And (b :: rest) pos) tb Fb) : EV X C .f (.BoolOp .And (a :: b :: rest) pos) (tAndV ta tb) (eAnd Fa Fb) := ⟨pe_and ha.pe hb.pe, fun A σ ρ H Q d hs e k => by
  unfold eAnd at e
  obtain ⟨x, e1, e⟩ := Option.bind_eq_some_iff.mp e
  refine ha.ve A σ ρ H _ _ hs e1 fun v H1 s1 r1 => ?_
  cases x <;> first | (cases e; done) | skip
  rename_i q
  refine ⟨q, r1.w.bl, ?_⟩
  cases q with
  | true => simp only [if_true]; exact hb.ve A σ ρ H1 _ _ (hs.same s1) e fun u H2 s2 r2 => k u H2 (s1.trans s2) (Fr.back s1 r2)
  | false => cases e; simp only [Bool.false_eq_true, if_false]; exact k _ H1 s1 Fr.bl⟩
theorem EV.or {rest : List Expr} (ha : EV X C ma a ta Fa) (hb : EV X C .f (.BoolOp .Or (b :: rest) pos) tb Fb) : EV X C .f (.BoolOp .Or (a :: b :: rest) pos) (tOrV ta tb) (eOr Fa Fb) := ⟨pe_or ha.pe hb.pe, fun A σ ρ H Q d hs e k => by
  unfold eOr at e
  obtain ⟨x, e1, e⟩ := Option.bind_eq_some_iff.mp e
  refine ha.ve A σ ρ H _ _ hs e1 fun v H1 s1 r1 => ?_
  cases x <;> first | (cases e; done) | skip
  rename_i q
  refine ⟨q, r1.w.bl, ?_⟩
  cases q with
  | true => cases e; simp only [if_true]; exact k _ H1 s1 Fr.bl
  | false => simp only [Bool.false_eq_true, if_false]; exact hb.ve A σ ρ H1 _ _ (hs.same s1) e fun u H2 s2 r2 => k u H2 (s1.trans s2) (Fr.back s1 r2)⟩
def blB : D → Option Bool
  | .bl b => some b
  | _ => none
def tF (F : EF) : TF := fun ρ => (F ρ).bind blB
theorem blB_eq {d : D} {b : Bool} (h : blB d = some b) : d = .bl b := by cases d <;> first | (cases h; done) | (cases h; rfl)
theorem TV.val (h : EV X C m e te F) (he : ∀ whole, isTrue e X.env whole = (do let v ← whole; standAt e.pos; holding [v] (truthy v)) := by intro _; rfl) : TV X C e (tB te) (tF F) := ⟨pt_val h.pe he, fun A σ ρ H Q b hs e k => by
  unfold tF at e
  obtain ⟨x, e1, e⟩ := Option.bind_eq_some_iff.mp e
  have := blB_eq e
  subst this
  exact h.ve A σ ρ H _ _ hs e1 fun v H1 s1 r1 => ⟨b, r1.w.bl, k H1 s1⟩⟩
theorem TV.cmp {op : CmpOp} {r : R2} {g : D → D → Option D} (o : OV X C m (compareOp op) r g) (ha : EV X C ma a ta Fa) (hb : EV X C mb b tb Fb) (hm : behindInMarks op b = false) : TV X C (.Compare a [op] [b] pos) (tTest (tOp r ta tb)) (tF (e2 g Fa Fb)) := ⟨pt_cmpR o.op ha.pe hb.pe hm, fun A σ ρ H Q c hs e k => by
  unfold tF at e
  obtain ⟨x, e1, e⟩ := Option.bind_eq_some_iff.mp e
  have := blB_eq e
  subst this
  exact ve_op o ha.ve hb.ve A σ ρ H _ _ hs e1 fun v H1 s1 r1 => ⟨c, r1.w.bl, k H1 s1⟩⟩
def trB : D → Option Bool
  | .non => some false
  | .bl b => some b
  | .int i => some (i != 0)
  | .str x => if x.length ≤ LN then some ((x.length : Int) != 0) else none
  | .lst ds => some (!ds.isEmpty)
  | .tup ds => some (!ds.isEmpty)
  | _ => none
def tR (F : EF) : TF := fun ρ => (F ρ).bind trB
theorem RpL.emp {W : Wd} {A : Av} {H : Hp} {ds : List D} {vs : List V} (h : RpL W A H ds vs) : (!vs.isEmpty) = !ds.isEmpty := by
  have := h.length
  cases ds <;> cases vs <;> simp_all
theorem TV.tru (h : EV X C m e te F) (he : ∀ whole, isTrue e X.env whole = (do let v ← whole; standAt e.pos; holding [v] (truthy v)) := by intro _; rfl) : TV X C e (fun σ H Q => te σ H fun x H' => ∃ k, TruV X.K x H' k ∧ Q k H') (tR F) := ⟨pt_truth h.pe he, fun A σ ρ H Q b hs e k => by
  unfold tR at e
  obtain ⟨x, e1, e⟩ := Option.bind_eq_some_iff.mp e
  refine h.ve A σ ρ H _ _ hs e1 fun v H1 s1 r1 => ⟨b, ?_, k H1 s1⟩
  cases x <;> first | (cases e; done) | skip
  · cases e; rw [r1.w.non]; rfl
  · cases e; rw [r1.w.bl]; rfl
  · cases e; rw [r1.w.int]; rfl
  · rename_i z
    have e : (if z.length ≤ LN then some ((z.length : Int) != 0) else none) = some b := e
    split at e
    case isFalse => cases e
    case isTrue hl => cases e; rw [r1.w.str]; exact ⟨LN_le hl, rfl⟩
  · cases e
    obtain ⟨p, vs, rfl, t, r⟩ := r1.w.tup
    exact .inr (.inl ⟨vs, t.sq, r.emp.symm⟩)
  · cases e
    obtain ⟨p, vs, rfl, t, r⟩ := r1.w.lst
    exact .inl ⟨vs, t, r.emp.symm⟩⟩
def tNt (T : TF) : TF := fun ρ => (T ρ).map (!·)
theorem TV.nt {t : TT} {T : TF} (h : TV X C e t T) : TV X C (.UnaryOp .Not e pos) (tNot t) (tNt T) := ⟨pt_not h.pt, fun A σ ρ H Q b hs e k => by
  unfold tNt at e
  obtain ⟨x, e1, rfl⟩ := Option.map_eq_some_iff.mp e
  exact h.vt A σ ρ H _ _ hs e1 fun H1 s1 => k H1 s1⟩
structure WV (X : Cx) (C : Addr) (e : Expr) (tt : TT) (F : TF) : Prop where
  pw : PW X e tt
  vt : VT (wd X C) tt F
theorem WV.tv {t : TT} {T : TF} (h : WV X C e t T) : TV X C e t T := ⟨h.pw.pt, h.vt⟩
def tA (T U : TF) : TF := fun ρ => (T ρ).bind fun b => if b = true then U ρ else some false
def tO (T U : TF) : TF := fun ρ => (T ρ).bind fun b => if b = true then some true else U ρ
theorem WV.or1 {t : TT} {T : TF} (h : TV X C a t T) : WV X C (.BoolOp .Or [a] pos) t T := ⟨pw_or1 h.pt, h.vt⟩
theorem WV.and {rest : List Expr} {t u : TT} {T U : TF} (ha : TV X C a t T) (hb : WV X C (.BoolOp .And (b :: rest) pos) u U) : WV X C (.BoolOp .And (a :: b :: rest) pos) (tAnd t u) (tA T U) := ⟨pw_and ha.pt hb.pw, fun A σ ρ H Q c hs e k => by
  unfold tA at e
  obtain ⟨x, e1, e⟩ := Option.bind_eq_some_iff.mp e
  refine ha.vt A σ ρ H _ _ hs e1 fun H1 s1 => ?_
  cases x with
  | true => simp only [if_true] at e ⊢; exact hb.vt A σ ρ H1 _ _ (hs.same s1) e fun H2 s2 => k H2 (s1.trans s2)
  | false => simp only [Bool.false_eq_true, if_false] at e ⊢; cases e; exact k H1 s1⟩
theorem WV.or {rest : List Expr} {t u : TT} {T U : TF} (ha : TV X C a t T) (hb : WV X C (.BoolOp .Or (b :: rest) pos) u U) : WV X C (.BoolOp .Or (a :: b :: rest) pos) (tOr t u) (tO T U) := ⟨pw_or ha.pt hb.pw, fun A σ ρ H Q c hs e k => by
  unfold tO at e
  obtain ⟨x, e1, e⟩ := Option.bind_eq_some_iff.mp e
  refine ha.vt A σ ρ H _ _ hs e1 fun H1 s1 => ?_
  cases x with
  | true => simp only [if_true] at e ⊢; cases e; exact k H1 s1
  | false => simp only [Bool.false_eq_true, if_false] at e ⊢; exact hb.vt A σ ρ H1 _ _ (hs.same s1) e fun H2 s2 => k H2 (s1.trans s2)⟩
def eIf (T : TF) (a b : EF) : EF := fun ρ => (T ρ).bind fun c => if c = true then a ρ else b ρ
def eCh (g h : D → D → Option D) (a b c : EF) : EF := fun ρ => (a ρ).bind fun x => (b ρ).bind fun y => (g x y).bind fun
  | .bl true => (c ρ).bind fun z => (h y z).bind fun | .bl q => some (.bl q) | _ => none
  | .bl false => some (.bl false)
  | _ => none
theorem ve_chain {op op' : CmpOp} {r r' : R2} {g h : D → D → Option D} (o : OV X C m (compareOp op) r g) (o' : OV X C m (compareOp op') r' h) (ha : VE (wd X C) ma ta Fa) (hb : VE (wd X C) mb tb Fb) (hc : VE (wd X C) mc tc Fc) : VE (wd X C) .f (tChain r r' ta tb tc) (eCh g h Fa Fb Fc) := by
  intro A σ ρ H Q d hs e k
  unfold eCh at e
  obtain ⟨x, ex, e⟩ := Option.bind_eq_some_iff.mp e
  obtain ⟨y, ey, e⟩ := Option.bind_eq_some_iff.mp e
  obtain ⟨z, ez, e⟩ := Option.bind_eq_some_iff.mp e
  refine ha A σ ρ H _ x hs ex fun v H1 s1 r1 => hb A σ ρ H1 _ y (hs.same s1) ey fun u H2 s2 r2 => ?_
  refine o.ov A H2 v u x y z _ ((hs.same s1).same s2).ax (r1.w.same s2) r2.w ez fun w H3 s3 r3 => ?_
  cases z <;> first | (cases e; done) | skip
  rename_i q
  refine ⟨q, r3.w.bl, ?_⟩
  cases q with
  | false => cases e; simp only [Bool.false_eq_true, if_false]; exact k _ H3 (s1.trans (s2.trans s3)) Fr.bl
  | true =>
    simp only [if_true]
    obtain ⟨y2, e2, e⟩ := Option.bind_eq_some_iff.mp e
    obtain ⟨y3, e3, e⟩ := Option.bind_eq_some_iff.mp e
    refine hc A σ ρ H3 _ y2 (((hs.same s1).same s2).same s3) e2 fun w2 H4 s4 r4 => ?_
    refine o'.ov A H4 u w2 y y2 y3 _ ((((hs.same s1).same s2).same s3).same s4).ax (r2.w.same (s3.trans s4)) r4.w e3 fun w3 H5 s5 r5 => ?_
    cases y3 <;> first | (cases e; done) | skip
    cases e
    rw [r5.w.bl]
    exact k _ H5 (s1.trans (s2.trans (s3.trans (s4.trans s5)))) Fr.bl
end
end BV
set_option linter.all false
set_option maxRecDepth 100000
set_option maxHeartbeats 4000000
namespace BV
open PySem PySem.Spec PyProof.Rows L2
section
variable {X : Cx} {C : Addr} {a b c e : Expr} {es : List Expr} {m ma mb mc : Md} {ta tb tc te : TE} {Fa Fb Fc F : EF} {pos : Pos}
theorem EV.chain {op op' : CmpOp} {r r' : R2} {g h : D → D → Option D} (o : OV X C m (compareOp op) r g) (o' : OV X C m (compareOp op') r' h) (ha : EV X C ma a ta Fa) (hb : EV X C mb b tb Fb) (hc : EV X C mc c tc Fc)
    (hm : lastMarks [op, op'] [b, c] = false := by with_unfolding_all rfl) : EV X C .f (.Compare a [op, op'] [b, c] pos) (tChain r r' ta tb tc) (eCh g h Fa Fb Fc) := ⟨pe_chain o.op o'.op ha.pe hb.pe hc.pe hm, ve_chain o o' ha.ve hb.ve hc.ve⟩
theorem TV.chain {op op' : CmpOp} {r r' : R2} {g h : D → D → Option D} (o : OV X C m (compareOp op) r g) (o' : OV X C m (compareOp op') r' h) (ha : EV X C ma a ta Fa) (hb : EV X C mb b tb Fb) (hc : EV X C mc c tc Fc)
    (hm : lastMarks [op, op'] [b, c] = false := by with_unfolding_all rfl) : TV X C (.Compare a [op, op'] [b, c] pos) (tTest (tChain r r' ta tb tc)) (tF (eCh g h Fa Fb Fc)) := ⟨pt_chain o.op o'.op ha.pe hb.pe hc.pe hm, fun A σ ρ H Q q hs e k => by
  unfold tF at e
  obtain ⟨x, e1, e⟩ := Option.bind_eq_some_iff.mp e
  have := blB_eq e
  subst this
  exact ve_chain o o' ha.ve hb.ve hc.ve A σ ρ H _ _ hs e1 fun v H1 s1 r1 => ⟨q, r1.w.bl, k H1 s1⟩⟩
abbrev OF := Env → Option (Option Int)
def VO (W : Wd) (t : TO) (F : OF) : Prop := ∀ (A : Av) (σ : L2.St) (ρ : Env) (H : Hp) (Q : Option Int → Hp → Prop) (o : Option Int), SE W A H σ ρ → F ρ = some o → (∀ H', Same H H' → Q o H') → t σ H Q
structure OPV (X : Cx) (C : Addr) (e : Option Expr) (t : TO) (F : OF) : Prop where
  po : PO X e t
  vo : VO (wd X C) t F
def oN : OF := fun _ => some none
def oS (F : EF) : OF := fun ρ => (F ρ).bind fun | .int i => some (some i) | _ => none
theorem OPV.no : OPV X C none tNoPart oN := ⟨po_none, fun A σ ρ H Q o hs e k => by cases e; exact k H Same.rfl⟩
theorem OPV.so (h : EV X C m e te F) : OPV X C (some e) (tPart te) (oS F) := ⟨po_some h.pe, fun A σ ρ H Q o hs e k => by
  unfold oS at e
  obtain ⟨x, e1, e⟩ := Option.bind_eq_some_iff.mp e
  cases x <;> first | (cases e; done) | skip
  cases e
  exact h.ve A σ ρ H _ _ hs e1 fun v H1 s1 r1 => ⟨_, r1.w.int, k H1 s1⟩⟩
def cutD {α : Type} (xs : List α) (lo hi : Option Int) : List α := (xs.drop (HT.sIx xs.length 0 lo)).take (HT.sIx xs.length xs.length hi - HT.sIx xs.length 0 lo)
def slD : D → Option Int → Option Int → Option D
  | .lst ds, lo, hi => some (.lst (cutD ds lo hi))
  | .ks ds, lo, hi => some (.lst (cutD ds lo hi))
  | .tup ds, lo, hi => some (.tup (cutD ds lo hi))
  | .str z, lo, hi => if z.length ≤ LN then some (.str (cutS z lo hi)) else none
  | _, _, _ => none
def eSl (F : EF) (L U : OF) : EF := fun ρ => (F ρ).bind fun x => (L ρ).bind fun l => (U ρ).bind fun u => slD x l u
def rSlU (K : PySem.W.Frag) : V → Option Int → Option Int → Hp → VK → Prop := fun x lo hi H Q => rSlL K x lo hi H Q ∨ rSlA K x lo hi H Q ∨ rSlS x lo hi H Q
theorem RpL.cut {W : Wd} {A : Av} {H : Hp} {ds : List D} {vs : List V} (h : RpL W A H ds vs) (lo hi : Option Int) : RpL W A H (cutD ds lo hi) (cutV vs lo hi) := by
  unfold cutD cutV
  rw [h.length]
  exact (h.drop _).take _
theorem EV.sl {lo hi : Option Expr} {tl th : TO} {L U : OF} {p2 : Pos} (h : EV X C m e te F) (hl : OPV X C lo tl L) (hh : OPV X C hi th U) : EV X C .f (.Subscript e (.Slice lo hi none p2) pos) (tSl (rSlU X.K) te tl th) (eSl F L U) :=
  ⟨pe_slice (SlR.or sl_list (SlR.or sl_tupA sl_str)) h.pe hl.po hh.po, fun A σ ρ H Q d hs e k => by
    unfold eSl at e
    obtain ⟨x, e1, ea⟩ := Option.bind_eq_some_iff.mp e
    obtain ⟨l, e2, eb⟩ := Option.bind_eq_some_iff.mp ea
    obtain ⟨u, e3, ec⟩ := Option.bind_eq_some_iff.mp eb
    clear e ea eb
    have e := ec
    clear ec
    refine h.ve A σ ρ H _ _ hs e1 fun v H1 s1 r1 => hl.vo A σ ρ H1 _ _ (hs.same s1) e2 fun H2 s2 => hh.vo A σ ρ H2 _ _ ((hs.same s1).same s2) e3 fun H3 s3 => ?_
    have ax := (((hs.same s1).same s2).same s3).ax
    have rw3 := r1.w.same (s2.trans s3)
    have s13 : Same H H3 := s1.trans (s2.trans s3)
    cases x <;> first | (cases e; done) | skip
    · rename_i z
      have e : (if z.length ≤ LN then some (D.str (cutS z l u)) else none) = some d := e
      split at e
      case isFalse => cases e
      case isTrue hz => cases e; exact .inr (.inr ⟨z, rw3.str, LN_le hz, k _ H3 s13 Fr.str⟩)
    · cases e
      obtain ⟨p, vs, rfl, t, r⟩ := rw3.tup
      refine .inr (.inl ⟨p, vs, rfl, t.sq, fun q H' hq => ?_⟩)
      rcases hq with ⟨rfl, rfl, hc⟩ | ⟨hn, rfl⟩
      · refine k _ H' s13 ⟨?_, fun z => nomatch z⟩
        unfold Rp
        exact ⟨q, vs, rfl, t, by have := r.cut l u; rw [hc] at this; exact this⟩
      · obtain ⟨s4, f⟩ := Fr.tupN ax hn (r.cut l u)
        exact k _ _ (s13.trans s4) (f.back s13)
    · cases e
      obtain ⟨p, vs, rfl, t, r⟩ := rw3.lst
      refine .inl ⟨p, vs, rfl, t, fun q hn => ?_⟩
      obtain ⟨s4, f⟩ := Fr.lstN ax hn (r.cut l u)
      exact k _ _ (s13.trans s4) (f.back s13)
    · cases e
      obtain ⟨p, vs, rfl, t, r⟩ := rw3.ks
      refine .inl ⟨p, vs, rfl, t, fun q hn => ?_⟩
      obtain ⟨s4, f⟩ := Fr.lstN ax hn (r.cut l u)
      exact k _ _ (s13.trans s4) (f.back s13)⟩
structure TsV (X : Cx) (C : Addr) (es : List Expr) (tt : TT) (F : TF) : Prop where
  pt : PTs X es tt
  vt : VT (wd X C) tt F
def tYesF : TF := fun _ => some true
theorem TsV.nil : TsV X C [] tYes tYesF := ⟨pts_nil, fun A σ ρ H Q b hs e k => by cases e; exact k H Same.rfl⟩
theorem TsV.one {t : TT} {T : TF} (h : TV X C e t T) : TsV X C [e] t T := ⟨pts_one h.pt, h.vt⟩
theorem EV.lc {elt tg iter : Expr} {ifs : List Expr} {scope : Scope} {own : List (Str × Nat)} {wi : TI} {g : TG} {tt : TT} {te : TE} {bb : Bool} {is : List Nat} {I : LF} {B : D → Env → Option Env} {T : TF} {F : EF}
    (hc : X.calm = true) (hN : X.N.Nodup) (hi : IV X C bb tg iter wi I) (ok : BlkOk X.N X.env.scope scope own)
    (hg : ∀ (s : Shared) (H : Hp) (D : Addr) (cl : List (Str × Addr)) (fp : List Addr), GV (X.blk s H scope (compEnvC scope cl D X.env) fp) C is tg g B)
    (ht : ∀ (s : Shared) (H : Hp) (D : Addr) (cl : List (Str × Addr)) (fp : List Addr), TsV (X.blk s H scope (compEnvC scope cl D X.env) fp) C ifs tt T)
    (he : ∀ (s : Shared) (H : Hp) (D : Addr) (cl : List (Str × Addr)) (fp : List Addr), EV (X.blk s H scope (compEnvC scope cl D X.env) fp) C .s elt te F) (hv : ∀ i ∈ is, i ∈ own.map (·.2)) (hs : ∀ x, foldedSetIterable iter X.env x = pure x := by intro _; rfl) :
    EV X C .f (.ListComp elt [⟨tg, iter, ifs, 0⟩] scope pos) (tLc wi g tt te (own.map (·.2))) (eLc I B T F (own.map (·.2))) :=
  ⟨pe_lc hc hN hi.pi ok (fun s H D cl fp => (hg s H D cl fp).pg) (fun s H D cl fp => (ht s H D cl fp).pt) (fun s H D cl fp => (he s H D cl fp).pe) hs,
   ve_lc (m := .s) hi.vi (hg X.s_0 X.H_0 0 [] []).vg (ht X.s_0 X.H_0 0 [] []).vt (he X.s_0 X.H_0 0 [] []).ve hv⟩
def spV (W : Wd) (m : Md) (n : Nat) (pf : List D → Option D) : Sp := fun vs H Q E => ∃ A ds d, ds.length = n ∧ AX A H ∧ RpL W A H ds vs ∧ pf ds = some d ∧ ∀ v H', Same H H' → rep W A H H' d v m → Q v H'
theorem spV.len {W : Wd} {m : Md} {n : Nat} {pf : List D → Option D} {vs : List V} {H : Hp} {Q : VK} {E : XK} (h : spV W m n pf vs H Q E) : vs.length = n := by
  obtain ⟨A, ds, d, hl, ax, r, _⟩ := h
  rw [r.length, hl]
theorem VB.len {W : Wd} {t : TA} {G : AF} (h : True) : True := trivial
def LenN (n : Nat) (G : AF) : Prop := ∀ ρ ds, G ρ = some ds → ds.length = n
theorem LenN.nil : LenN 0 aNil := fun ρ ds e => by cases e; rfl
theorem LenN.cons {n : Nat} {F : EF} {G : AF} (h : LenN n G) : LenN (n + 1) (aCons F G) := fun ρ ds e => by
  unfold aCons at e
  obtain ⟨x, e1, e⟩ := Option.bind_eq_some_iff.mp e
  obtain ⟨r, e2, e⟩ := Option.bind_eq_some_iff.mp e
  cases e
  simp [h ρ r e2]
theorem EV.call {x : Str} {p : Pos} {k n : Nat} {ps : List Str} {pf : List D → Option D} {t : TA} {G : AF} (c : Ct X.prog X.w X.K X.mg X.base k x ps (spV (wd X C) m n pf)) (hr : Room k X.A) (hg : Gl X x) (ha : BV X C (e :: es) t G) (hl : LenN n G) (hdb : (x == ("__debug__" : Str)) = false := by decide)
    (he : starEach (e :: es) X.env = (false, eval e X.env) :: starEach es X.env := by rfl) (hpl : (backTo pos (starEach es X.env)).any (·.1) = false := by rfl) : EV X C m (.Call (.Name x p) (e :: es) [] pos) (tCall (spV (wd X C) m n pf) [] E0 t) (eN pf G) :=
  ⟨pe_callC c hr hg ha.pa hdb he hpl, fun A σ ρ H Q d hs e k => by
    unfold eN at e
    obtain ⟨ds, e1, e⟩ := Option.bind_eq_some_iff.mp e
    refine ha.vb A σ ρ H _ ds hs e1 fun vs H1 s1 r1 => ?_
    rw [List.append_nil]
    exact ⟨A, ds, d, hl ρ ds e1, (hs.same s1).ax, r1, e, fun v H' s2 r2 => k v H' (s1.trans s2) (r2.back s1)⟩⟩
mutual
def imm : D → Bool
  | .tup ds => immL ds
  | .lst _ => false
  | .dk _ _ => false
  | .dt _ _ => false
  | .kt ds => immL ds
  | .non => true
  | .bl _ => true
  | .int _ => true
  | .str _ => true
  | .kind _ => true
  | .fn _ => true
  | .ty _ => true
  | .ks _ => false
  | .exc _ _ ds => immL ds
def immL : List D → Bool
  | [] => true
  | d :: ds => imm d && immL ds
end
mutual
theorem Rp.imm {W : Wd} {A A' : Av} {H : Hp} (ax : AX A' H) : ∀ (d : D) (v : V), Rp W A H d v → BV.imm d = true → Rp W A' H d v
  | .non, v, h, _ => by unfold Rp at h ⊢; exact h
  | .bl b, v, h, _ => by unfold Rp at h ⊢; exact h
  | .int i, v, h, _ => by unfold Rp at h ⊢; exact h
  | .str x, v, h, _ => by unfold Rp at h ⊢; exact h
  | .tup ds, v, h, e => by
    unfold Rp at h ⊢; obtain ⟨p, vs, hp, t, r⟩ := h; unfold BV.imm at e
    refine ⟨p, vs, hp, ⟨fun a => ?_, t.2⟩, RpL.imm ax ds vs r e⟩
    obtain ⟨o, h1, h2⟩ := ax p a; rw [t.2] at h1; cases h1; exact h2
  | .lst ds, v, h, e => by unfold BV.imm at e; cases e
  | .dk ks ds, v, h, e => by unfold BV.imm at e; cases e
  | .dt ks ds, v, h, e => by unfold BV.imm at e; cases e
  | .kind sq, v, h, e => by
    unfold Rp at h ⊢; obtain ⟨p, dx, t, hp, n, q, r⟩ := h
    refine ⟨p, dx, t, hp, fun a => ?_, q, fun a => ?_, r.2⟩
    · obtain ⟨o, h1, h2⟩ := ax p a; rw [q] at h1; cases h1; exact h2
    · obtain ⟨o, h1, h2⟩ := ax t a; rw [r.2] at h1; cases h1; exact h2
  | .fn x, v, h, _ => by unfold Rp at h ⊢; exact h
  | .kt ds, v, h, e => by unfold Rp at h ⊢; obtain ⟨p, vs, hp, t, r⟩ := h; unfold BV.imm at e; exact ⟨p, vs, hp, t, RpL.imm ax ds vs r e⟩
  | .ty n, v, h, _ => by unfold Rp at h ⊢; exact h
  | .ks ds, v, h, e => by unfold BV.imm at e; cases e
  | .exc c ns ds, v, h, e => by
    unfold Rp at h ⊢; obtain ⟨p, C, od, vs, hp, n, m, x, q, d, l, r⟩ := h; unfold BV.imm at e
    refine ⟨p, C, od, vs, hp, fun a => ?_, m, x, q, ?_, l, RpL.imm ax ds vs r e⟩
    · obtain ⟨o, h1, h2⟩ := ax p a; rw [q] at h1; cases h1; exact h2
    · cases od with
      | none => exact d
      | some dx => exact ⟨fun a => by obtain ⟨o, h1, h2⟩ := ax dx a; rw [d.2] at h1; cases h1; exact h2, d.2⟩
theorem RpL.imm {W : Wd} {A A' : Av} {H : Hp} (ax : AX A' H) : ∀ (ds : List D) (vs : List V), RpL W A H ds vs → immL ds = true → RpL W A' H ds vs
  | [], vs, h, _ => by unfold RpL at h ⊢; exact h
  | d :: ds, vs, h, e => by
    unfold RpL at h ⊢; obtain ⟨v, r, hp, a, b⟩ := h; unfold immL at e
    rw [Bool.and_eq_true] at e
    exact ⟨v, r, hp, Rp.imm ax d v a e.1, RpL.imm ax ds r b e.2⟩
end
def imG (pf : List D → Option D) (ds : List D) : Option D := (pf ds).bind fun d => if imm d = true then some d else none
theorem RwL.rp {W : Wd} {A B : Av} {H : Hp} (hB : ∀ q, B q → A q) : ∀ {ds : List D} {vs : List V}, RwL W A H ds vs → (∀ p, V.ref p ∈ vs → ¬B p) → RpL W B H ds vs
  | [], vs, h, _ => by unfold RpL; exact h
  | d :: ds, vs, ⟨v, r, e, a, b⟩, n => by
    subst e
    unfold RpL
    refine ⟨v, r, rfl, ?_, RwL.rp hB b fun p hp => n p (by simp [hp])⟩
    rcases a with a | ⟨p, rfl, hA, c⟩
    · exact Rp.ex (fun q z => .inl (hB q z)) _ _ a
    · exact (c.ex (A' := B) fun q z => .inl (hB q z)).rp (n p (by simp))
theorem EV.callW {x : Str} {p : Pos} {k n : Nat} {ps : List Str} {pf : List D → Option D} {t : TA} {G : AF} (c : Ct X.prog X.w X.K X.mg X.base k x ps (spV (wd X C) m n pf)) (hr : Room k X.A) (hg : Gl X x) (ha : AV X C (e :: es) t G) (hl : LenN n G) (hdb : (x == ("__debug__" : Str)) = false := by decide)
    (he : starEach (e :: es) X.env = (false, eval e X.env) :: starEach es X.env := by rfl) (hpl : (backTo pos (starEach es X.env)).any (·.1) = false := by rfl) : EV X C .f (.Call (.Name x p) (e :: es) [] pos) (tCall (spV (wd X C) m n pf) [] E0 t) (eN (imG pf) G) :=
  ⟨pe_callC c hr hg ha.pa hdb he hpl, fun A σ ρ H Q d hs e k => by
    unfold eN at e
    obtain ⟨ds, e1, e⟩ := Option.bind_eq_some_iff.mp e
    unfold imG at e
    obtain ⟨d', e2, e⟩ := Option.bind_eq_some_iff.mp e
    split at e
    case isFalse => cases e
    case isTrue hi =>
    obtain rfl := Option.some.inj e
    refine ha.va A σ ρ H _ ds hs e1 fun vs H1 s1 r1 => ?_
    rw [List.append_nil]
    have hs1 := hs.same s1
    refine ⟨fun q => A q ∧ V.ref q ∉ vs, ds, d', hl ρ ds e1, fun q a => hs1.ax q a.1, r1.rp (fun q z => z.1) (fun p hp z => z.2 hp), e2, fun v H' s2 r2 => k v H' (s1.trans s2) ?_⟩
    have ax2 := (hs1.same s2).ax
    have hr2 : Rp (wd X C) (fun q => A q ∧ V.ref q ∉ vs) H' d' v := by
      rcases r2.w with h | ⟨p, rfl, hA, c⟩
      · exact h
      · cases d' <;> first | exact absurd c id | (simp [BV.imm] at hi)
    refine ⟨Rp.imm ax2 _ _ hr2 hi, fun z => ?_⟩
    cases d' <;> first | (cases z; done) | (simp [BV.imm] at hi)⟩
end
end BV
set_option linter.all false
set_option maxRecDepth 100000
set_option maxHeartbeats 4000000
namespace BV
open PySem PySem.Spec PyProof.Rows L2
abbrev LSt := L2.St
inductive Fl where
  | nx (ρ : Env) | rt (d : D) (ρ : Env) | bk (ρ : Env) | ct (ρ : Env) | no
abbrev SF := Env → Fl
def Own (σ : LSt) (ρ : Env) : Av := fun q => ∃ (i : Nat) (d : D), ρ[i]? = some (.o d) ∧ σ[i]? = some (some (.ref q))
def AO (A : Av) (σ : LSt) (ρ : Env) : Av := fun q => A q ∨ Own σ ρ q
structure SR (W : Wd) (A : Av) (ia : List (Nat × Addr)) (H0 H : Hp) (σ : LSt) (ρ : Env) : Prop where
  se : SE W (AO A σ ρ) H σ ρ
  inj : ∀ (i j : Nat) (d e : D) (p : Addr), ρ[i]? = some (.o d) → ρ[j]? = some (.o e) → σ[i]? = some (some (.ref p)) → σ[j]? = some (some (.ref p)) → i = j
  fr : ∀ (i : Nat) (d : D) (p : Addr), ρ[i]? = some (.o d) → σ[i]? = some (some (.ref p)) → (i, p) ∈ ia ∨ H0 p = none
  io : ∀ ip ∈ ia, ∃ d, ρ[ip.1]? = some (.o d) ∧ σ[ip.1]? = some (some (.ref ip.2))
  a0 : AX A H0
  hx : ∀ q, H0 q ≠ none → H q ≠ none
structure Stp (H : Hp) (σ : LSt) (ρ : Env) (H' : Hp) (σ' : LSt) (ρ' : Env) : Prop where
  k : Kx (Own σ ρ) H H'
  n : ∀ q, Own σ' ρ' q → Own σ ρ q ∨ H q = none
theorem Stp.refl {H : Hp} {σ : LSt} {ρ : Env} : Stp H σ ρ H σ ρ := ⟨fun _ _ _ h => h, fun _ h => .inl h⟩
theorem Stp.kx {H H1 H2 : Hp} {σ σ1 : LSt} {ρ ρ1 : Env} (a : Stp H σ ρ H1 σ1 ρ1) (b : Kx (Own σ1 ρ1) H1 H2) : Kx (Own σ ρ) H H2 := fun q o nq h =>
  b q o (fun z => by
    rcases a.n q z with z | z
    · exact nq z
    · rw [h] at z; cases z) (a.k q o nq h)
theorem Stp.trans {H H1 H2 : Hp} {σ σ1 σ2 : LSt} {ρ ρ1 ρ2 : Env} (a : Stp H σ ρ H1 σ1 ρ1) (b : Stp H1 σ1 ρ1 H2 σ2 ρ2) : Stp H σ ρ H2 σ2 ρ2 :=
  ⟨a.kx b.k, fun q z => by
    rcases b.n q z with z | z
    · exact a.n q z
    · by_cases hq : Own σ ρ q
      · exact .inl hq
      · cases h : H q with
        | none => exact .inr rfl
        | some o => rw [a.k q o hq h] at z; cases z⟩
theorem Stp.same {H H1 : Hp} {σ : LSt} {ρ : Env} (s : Same H H1) : Stp H σ ρ H1 σ ρ := ⟨Same.kx s, fun _ h => .inl h⟩
structure RT (W : Wd) (rm : Md) (A : Av) (ia : List (Nat × Addr)) (H0 H : Hp) (d : D) (v : V) (ρ : Env) : Prop where
  r : rep W A H0 H d v rm
  io : ∀ ip ∈ ia, ∃ e, ρ[ip.1]? = some (.o e) ∧ Cell W A H ip.2 e
def Post (W : Wd) (rm : Md) (A : Av) (ia : List (Nat × Addr)) (H0 H : Hp) (σ : LSt) (ρ : Env) (D : Ends) : Fl → Prop
  | .nx ρ' => ∀ σ' H', SR W A ia H0 H' σ' ρ' → Stp H σ ρ H' σ' ρ' → D.nx σ' H'
  | .bk ρ' => ∀ σ' H', SR W A ia H0 H' σ' ρ' → Stp H σ ρ H' σ' ρ' → D.bk σ' H'
  | .ct ρ' => ∀ σ' H', SR W A ia H0 H' σ' ρ' → Stp H σ ρ H' σ' ρ' → D.ct σ' H'
  | .rt d ρ' => ∀ v H', RT W rm A ia H0 H' d v ρ' → Kx (Own σ ρ) H H' → D.rt v H'
  | .no => False
def VS (W : Wd) (rm : Md) (io : List Nat) (ts : TS) (G : SF) : Prop := ∀ (A : Av) (ia : List (Nat × Addr)) (H0 : Hp) (σ : LSt) (ρ : Env) (H : Hp) (D : Ends), ia.map (·.1) = io → SR W A ia H0 H σ ρ → Post W rm A ia H0 H σ ρ D (G ρ) → ts D σ H
structure SV (X : Cx) (C : Addr) (rm : Md) (io : List Nat) (st : Stmt) (ts : TS) (G : SF) : Prop where
  ps : PS X st ts
  vs : VS (wd X C) rm io ts G
structure SsV (X : Cx) (C : Addr) (rm : Md) (io : List Nat) (st : List Stmt) (ts : TS) (G : SF) : Prop where
  ps : PSs X st ts
  vs : VS (wd X C) rm io ts G
theorem SR.same {W : Wd} {A : Av} {ia : List (Nat × Addr)} {H0 H H' : Hp} {σ : LSt} {ρ : Env} (h : SR W A ia H0 H σ ρ) (s : Same H H') : SR W A ia H0 H' σ ρ :=
  ⟨h.se.same s, h.inj, h.fr, h.io, h.a0, fun q z y => by
    cases e : H q with
    | none => exact h.hx q z e
    | some o => rw [s _ _ e] at y; cases y⟩
theorem SR.new {W : Wd} {A : Av} {ia : List (Nat × Addr)} {H0 H : Hp} {σ : LSt} {ρ : Env} (h : SR W A ia H0 H σ ρ) {p : Addr} (n : H p = none) : H0 p = none := by
  cases e : H0 p with
  | none => rfl
  | some o => exact absurd n (h.hx p (by rw [e]; simp))
theorem Post.step {W : Wd} {rm : Md} {A : Av} {ia : List (Nat × Addr)} {H0 H H1 : Hp} {σ σ1 : LSt} {ρ ρ1 : Env} {D : Ends} (a : Stp H σ ρ H1 σ1 ρ1) : ∀ {f : Fl}, Post W rm A ia H0 H σ ρ D f → Post W rm A ia H0 H1 σ1 ρ1 D f
  | .nx ρ', h => fun σ' H' r s => h σ' H' r (a.trans s)
  | .bk ρ', h => fun σ' H' r s => h σ' H' r (a.trans s)
  | .ct ρ', h => fun σ' H' r s => h σ' H' r (a.trans s)
  | .rt d ρ', h => fun v H' r s => h v H' r (a.kx s)
  | .no, h => h
def sSeq (G G' : SF) : SF := fun ρ => match G ρ with
  | .nx ρ1 => G' ρ1
  | f => f
def sNil : SF := fun ρ => .nx ρ
theorem vs_seq {W : Wd} {rm : Md} {io : List Nat} {t u : TS} {G G' : SF} (a : VS W rm io t G) (b : VS W rm io u G') : VS W rm io (tSeq t u) (sSeq G G') := by
  intro A ia H0 σ ρ H D hio hs h
  refine a A ia H0 σ ρ H _ hio hs ?_
  unfold sSeq at h
  cases e : G ρ with
  | nx ρ1 => rw [e] at h; exact fun σ1 H1 s1 p1 => b A ia H0 σ1 ρ1 H1 D hio s1 (Post.step p1 h)
  | rt d ρ1 => rw [e] at h; exact h
  | bk ρ1 => rw [e] at h; exact h
  | ct ρ1 => rw [e] at h; exact h
  | no => rw [e] at h; exact h
def scr (is : List Nat) : Fl → Fl
  | .nx ρ => .nx (wipeE ρ is)
  | .bk ρ => .bk (wipeE ρ is)
  | .ct ρ => .ct (wipeE ρ is)
  | f => f
theorem Own.wipe {σ : LSt} {ρ : Env} {is : List Nat} {q : Addr} (h : Own σ (wipeE ρ is) q) : Own σ ρ q := by
  obtain ⟨i, d, a, b⟩ := h
  exact ⟨i, d, (wipeE_some (by simp) a).1, b⟩
theorem wipeE_get {ρ : Env} {i : Nat} : ∀ {is : List Nat}, i ∉ is → (wipeE ρ is)[i]? = ρ[i]?
  | [], _ => rfl
  | v :: vs, h => by unfold wipeE; rw [List.getElem?_set_ne (fun e => h (by rw [e]; simp)), wipeE_get (fun z => h (by simp [z]))]
theorem SR.wipe {W : Wd} {A : Av} {ia : List (Nat × Addr)} {H0 H : Hp} {σ : LSt} {ρ : Env} (h : SR W A ia H0 H σ ρ) (is : List Nat) (hi : ∀ i ∈ is, i ∉ ia.map (·.1)) : SR W A ia H0 H σ (wipeE ρ is) := by
  have sub : ∀ q, AO A σ (wipeE ρ is) q → AO A σ ρ q := fun q z => z.elim .inl fun z => .inr z.wipe
  refine ⟨⟨by rw [wipeE_length]; exact h.se.len, fun i d e => ?_, fun i d e => ?_, fun q z => h.se.ax q (sub q z)⟩, fun i j d e p a b => h.inj i j d e p (wipeE_some (by simp) a).1 (wipeE_some (by simp) b).1, fun i d p a => h.fr i d p (wipeE_some (by simp) a).1, fun ip hip => ?_, h.a0, h.hx⟩
  · obtain ⟨v, a, b⟩ := h.se.fz i d (wipeE_some (by simp) e).1
    exact ⟨v, a, Rp.ex (fun q z => .inl (sub q z)) _ _ b⟩
  · obtain ⟨p, a, b, c⟩ := h.se.ow i d (wipeE_some (by simp) e).1
    exact ⟨p, a, .inr ⟨i, d, e, a⟩, c.ex fun q z => .inl (sub q z)⟩
  · obtain ⟨d, a, b⟩ := h.io ip hip
    exact ⟨d, by rw [wipeE_get (fun z => hi _ z (List.mem_map.mpr ⟨ip, hip, rfl⟩))]; exact a, b⟩
theorem vs_scr {W : Wd} {rm : Md} {io : List Nat} {t : TS} {G : SF} (is : List Nat) (hi : ∀ i ∈ is, i ∉ io) (a : VS W rm io t G) : VS W rm io t (fun ρ => scr is (G ρ)) := by
  intro A ia H0 σ ρ H D hio hs h
  refine a A ia H0 σ ρ H D hio hs ?_
  have hi' : ∀ i ∈ is, i ∉ ia.map (·.1) := by rw [hio]; exact hi
  have st : ∀ {H' σ' ρ'}, Stp H σ ρ H' σ' ρ' → Stp H σ ρ H' σ' (wipeE ρ' is) := fun s => ⟨s.k, fun q z => s.n q z.wipe⟩
  dsimp only at h
  cases e : G ρ with
  | nx ρ1 => rw [e] at h; exact fun σ1 H1 s1 p1 => h σ1 H1 (s1.wipe is hi') (st p1)
  | rt d ρ1 => rw [e] at h; exact h
  | bk ρ1 => rw [e] at h; exact fun σ1 H1 s1 p1 => h σ1 H1 (s1.wipe is hi') (st p1)
  | ct ρ1 => rw [e] at h; exact fun σ1 H1 s1 p1 => h σ1 H1 (s1.wipe is hi') (st p1)
  | no => rw [e] at h; exact h
section
variable {X : Cx} {C : Addr} {rm : Md} {io : List Nat}
theorem SsV.nil : SsV X C rm io [] tNext sNil := ⟨pss_nil, fun A ia H0 σ ρ H D hio hs h => h σ H hs .refl⟩
theorem SsV.one {st : Stmt} {t : TS} {G : SF} (h : SV X C rm io st t G) : SsV X C rm io [st] t G := ⟨pss_one h.ps, h.vs⟩
theorem SsV.cons {st : Stmt} {sts : List Stmt} {t u : TS} {G G' : SF} (h : SV X C rm io st t G) (k : SsV X C rm io sts u G') : SsV X C rm io (st :: sts) (tSeq t u) (sSeq G G') := ⟨pss_cons h.ps k.ps, vs_seq h.vs k.vs⟩
theorem SsV.scr {sts : List Stmt} {t : TS} {G : SF} (is : List Nat) (hi : ∀ i ∈ is, i ∉ io) (h : SsV X C rm io sts t G) : SsV X C rm io sts t (fun ρ => scr is (G ρ)) := ⟨h.ps, vs_scr is hi h.vs⟩
theorem SV.scr {st : Stmt} {t : TS} {G : SF} (is : List Nat) (hi : ∀ i ∈ is, i ∉ io) (h : SV X C rm io st t G) : SV X C rm io st t (fun ρ => BV.scr is (G ρ)) := ⟨h.ps, vs_scr is hi h.vs⟩
end
theorem SR.ups {W : Wd} {A : Av} {ia : List (Nat × Addr)} {H0 H : Hp} {σ σ' : LSt} {ρ ρ' : Env} {is : List Nat} (h : SR W A ia H0 H σ ρ) (s : SE W (AO A σ ρ) H σ' ρ') (u : Ups is σ σ' ρ ρ') (hi : ∀ i ∈ is, i ∉ ia.map (·.1)) : SR W A ia H0 H σ' ρ' ∧ Stp H σ ρ H σ' ρ' := by
  have back : ∀ (i : Nat) (d : D), ρ'[i]? = some (Sl.o d) → ρ[i]? = some (Sl.o d) ∧ σ'[i]? = σ[i]? := fun i d e => by
    by_cases z : i ∈ is
    · exact absurd e (u.fz i d z)
    · have := u.st i z; exact ⟨this.2 ▸ e, this.1⟩
  have sub : ∀ q, Own σ' ρ' q → Own σ ρ q := fun q ⟨i, d, a, b⟩ => by
    obtain ⟨a', b'⟩ := back i d a
    exact ⟨i, d, a', b' ▸ b⟩
  have sub2 : ∀ q, AO A σ' ρ' q → AO A σ ρ q := fun q z => z.elim .inl fun z => .inr (sub q z)
  refine ⟨⟨⟨s.len, fun i d e => ?_, fun i d e => ?_, fun q z => s.ax q (sub2 q z)⟩, fun i j d e p a b c f => ?_, fun i d p a b => ?_, fun ip hip => ?_, h.a0, h.hx⟩, ⟨fun _ _ _ z => z, fun q z => .inl (sub q z)⟩⟩
  · obtain ⟨v, a, b⟩ := s.fz i d e
    exact ⟨v, a, Rp.ex (fun q z => .inl (sub2 q z)) _ _ b⟩
  · obtain ⟨p, a, b, c⟩ := s.ow i d e
    exact ⟨p, a, .inr ⟨i, d, e, a⟩, c.ex fun q z => .inl (sub2 q z)⟩
  · obtain ⟨a', a2⟩ := back i d a
    obtain ⟨b', b2⟩ := back j e b
    exact h.inj i j d e p a' b' (a2 ▸ c) (b2 ▸ f)
  · obtain ⟨a', a2⟩ := back i d a
    exact h.fr i d p a' (a2 ▸ b)
  · obtain ⟨d, a, b⟩ := h.io ip hip
    have hn : ip.1 ∉ is := fun z => hi _ z (List.mem_map.mpr ⟨ip, hip, rfl⟩)
    have := u.st ip.1 hn
    exact ⟨d, by rw [this.2]; exact a, by rw [this.1]; exact b⟩
def sAsg (F : EF) (B : D → Env → Option Env) : SF := fun ρ => match (F ρ).bind fun d => B d ρ with
  | some ρ' => .nx ρ'
  | none => .no
theorem vs_asg {W : Wd} {rm : Md} {io is : List Nat} {te : TE} {g : TG} {F : EF} {B : D → Env → Option Env} (he : VE W .s te F) (hg : VG W is g B) (hi : ∀ i ∈ is, i ∉ io) : VS W rm io (tAsg te g) (sAsg F B) := by
  intro A ia H0 σ ρ H D hio hs h
  unfold sAsg at h
  cases e : (F ρ).bind fun d => B d ρ with
  | none => rw [e] at h; exact absurd h id
  | some ρ' =>
    rw [e] at h
    obtain ⟨d, e1, e2⟩ := Option.bind_eq_some_iff.mp e
    refine he _ σ ρ H _ d hs.se e1 fun v H1 s1 r1 => ?_
    have hs1 := hs.same s1
    refine hg _ σ ρ H1 v d ρ' _ hs1.se r1 e2 fun σ' se up => ?_
    obtain ⟨a, b⟩ := hs1.ups se up (by rw [hio]; exact hi)
    exact h σ' H1 a ((Stp.same s1).trans b)
def sOwn (i : Nat) (F : EF) : SF := fun ρ => match F ρ with
  | some d => if isCt d = true then .nx (ρ.set i (.o d)) else .no
  | none => .no
theorem set_get {α : Type} {l : List α} {i j : Nat} {x y : α} (h : (l.set i x)[j]? = some y) : (i = j ∧ j < l.length ∧ y = x) ∨ (i ≠ j ∧ l[j]? = some y) := by
  by_cases z : i = j
  · subst z
    by_cases l' : i < l.length
    · rw [List.getElem?_set_self l'] at h; exact .inl ⟨rfl, l', (Option.some.inj h).symm⟩
    · rw [List.getElem?_eq_none (by rw [List.length_set]; omega)] at h; cases h
  · rw [List.getElem?_set_ne z] at h; exact .inr ⟨z, h⟩
theorem SR.own {W : Wd} {A : Av} {ia : List (Nat × Addr)} {H0 H : Hp} {σ : LSt} {ρ : Env} {i : Nat} {p : Addr} {d : D} (h : SR W A ia H0 H σ ρ) (hi : i ∉ ia.map (·.1)) (H1 : Hp) (s : Same H H1) (n : H p = none) (c : Cell W (fun q => AO A σ ρ q ∨ q = p) H1 p d) :
    SR W A ia H0 H1 (σ.set i (some (.ref p))) (ρ.set i (.o d)) ∧ Stp H σ ρ H1 (σ.set i (some (.ref p))) (ρ.set i (.o d)) := by
  have h1 := h.same s
  have np : ¬AO A σ ρ p := h.se.ax.ne n
  have own : ∀ q, Own (σ.set i (some (.ref p))) (ρ.set i (.o d)) q → q = p ∨ Own σ ρ q := fun q ⟨j, e, a, b⟩ => by
    rcases set_get b with ⟨z, l, b⟩ | ⟨z, b⟩
    · cases b; exact .inl rfl
    · rcases set_get a with ⟨z', _⟩ | ⟨_, a⟩
      · exact absurd z' z
      · exact .inr ⟨j, e, a, b⟩
  have ao : ∀ q, AO A (σ.set i (some (.ref p))) (ρ.set i (.o d)) q → AO A σ ρ q ∨ q = p := fun q z => by
    rcases z with z | z
    · exact .inl (.inl z)
    · rcases own q z with rfl | z
      · exact .inr rfl
      · exact .inl (.inr z)
  have ex : Ex H (AO A σ ρ) (AO A (σ.set i (some (.ref p))) (ρ.set i (.o d))) := fun q z => by
    rcases ao q z with z | rfl
    · exact .inl z
    · exact .inr n
  have cc : Cell W (AO A (σ.set i (some (.ref p))) (ρ.set i (.o d))) H1 p d := c.ex fun q z => .inl (ao q z)
  refine ⟨⟨⟨by rw [List.length_set, List.length_set]; exact h.se.len, fun j e a => ?_, fun j e a => ?_, fun q z => ?_⟩, fun j k e f q a b x y => ?_, fun j e q a b => ?_, fun ip hip => ?_, h.a0, h1.hx⟩, Same.kx s, fun q z => (own q z).elim (fun z => .inr (by rw [z]; exact n)) .inl⟩
  · rcases set_get a with ⟨_, _, a⟩ | ⟨z, a⟩
    · cases a
    · obtain ⟨v, b, r⟩ := h.se.fz j e a
      exact ⟨v, by rw [List.getElem?_set_ne z]; exact b, r.go (.same s) ex⟩
  · rcases set_get a with ⟨z, l, a'⟩ | ⟨z, a'⟩
    · cases a'
      subst z
      refine ⟨p, List.getElem?_set_self (by rw [h.se.len]; exact l), .inr ⟨i, d, a, List.getElem?_set_self (by rw [h.se.len]; exact l)⟩, cc⟩
    · obtain ⟨q, b, _, r⟩ := h.se.ow j e a'
      have b' : (σ.set i (some (V.ref p)))[j]? = some (some (.ref q)) := by rw [List.getElem?_set_ne z]; exact b
      refine ⟨q, b', .inr ⟨j, e, a, b'⟩, (r.ex ex).kp (.same s) fun o y => s _ _ y⟩
  · rcases ao q z with z | rfl
    · exact h1.se.ax q z
    · have := cc.some
      cases d <;> first | exact absurd cc id | skip
      · obtain ⟨vs, y, _⟩ := cc; exact ⟨_, y, trivial⟩
      · obtain ⟨vs, y, _⟩ := cc; exact ⟨_, y, trivial⟩
      · obtain ⟨vs, y, _⟩ := cc; exact ⟨_, y, trivial⟩
  · have old : ∀ (j : Nat) (e : D), ρ[j]? = some (.o e) → σ[j]? ≠ some (some (.ref p)) := fun j e u w => np (.inr ⟨j, e, u, w⟩)
    rcases set_get x with ⟨z1, l1, x'⟩ | ⟨z1, x'⟩
    · rcases set_get y with ⟨z2, l2, y'⟩ | ⟨z2, y'⟩
      · exact z1.symm.trans z2
      · cases x'
        rcases set_get b with ⟨z3, _⟩ | ⟨_, b'⟩
        · exact absurd z3 z2
        · exact absurd y' (old k f b')
    · rcases set_get y with ⟨z2, l2, y'⟩ | ⟨z2, y'⟩
      · cases y'
        rcases set_get a with ⟨z3, _⟩ | ⟨_, a'⟩
        · exact absurd z3 z1
        · exact absurd x' (old j e a')
      · rcases set_get a with ⟨z3, _⟩ | ⟨_, a'⟩
        · exact absurd z3 z1
        · rcases set_get b with ⟨z3, _⟩ | ⟨_, b'⟩
          · exact absurd z3 z2
          · exact h.inj j k e f q a' b' x' y'
  · rcases set_get b with ⟨z, l, b'⟩ | ⟨z, b'⟩
    · cases b'; exact .inr (h.new n)
    · rcases set_get a with ⟨z3, _⟩ | ⟨_, a'⟩
      · exact absurd z3 z
      · exact h.fr j e q a' b'
  · obtain ⟨e, a, b⟩ := h.io ip hip
    have hn : i ≠ ip.1 := fun z => hi (by rw [z]; exact List.mem_map.mpr ⟨ip, hip, rfl⟩)
    exact ⟨e, by rw [List.getElem?_set_ne hn]; exact a, by rw [List.getElem?_set_ne hn]; exact b⟩
theorem vs_own {W : Wd} {rm : Md} {io : List Nat} {te : TE} {F : EF} {i : Nat} (he : VE W .f te F) (hi : i ∉ io) : VS W rm io (tAsg te (gName i)) (sOwn i F) := by
  intro A ia H0 σ ρ H D hio hs h
  unfold sOwn at h
  cases e : F ρ with
  | none => rw [e] at h; exact absurd h id
  | some d =>
    rw [e] at h
    dsimp only at h
    split at h
    case isFalse => exact absurd h id
    case isTrue hc =>
    refine he _ σ ρ H _ d hs.se e fun v H1 s1 r1 => ?_
    obtain ⟨p, rfl, n, c⟩ := r1.2 hc
    obtain ⟨a, b⟩ := hs.own (by rw [hio]; exact hi) H1 s1 n c
    exact h _ H1 a b
end BV
set_option linter.all false
set_option maxRecDepth 100000
set_option maxHeartbeats 4000000
namespace BV
open PySem PySem.Spec PyProof.Rows L2
def fz1 (i : Nat) (ρ : Env) : Env := match ρ[i]? with
  | some (.o d) => ρ.set i (.f d)
  | _ => ρ
theorem SR.fz {W : Wd} {A : Av} {ia : List (Nat × Addr)} {H0 H : Hp} {σ : LSt} {ρ : Env} (h : SR W A ia H0 H σ ρ) (i : Nat) (hi : i ∉ ia.map (·.1)) : SR W A ia H0 H σ (fz1 i ρ) ∧ (∀ q, Own σ (fz1 i ρ) q → Own σ ρ q) := by
  unfold fz1
  cases e : ρ[i]? with
  | none => exact ⟨h, fun q z => z⟩
  | some z =>
    cases z with
    | u => exact ⟨h, fun q z => z⟩
    | f d => exact ⟨h, fun q z => z⟩
    | o d =>
      dsimp only
      obtain ⟨p, hp, _, c⟩ := h.se.ow i d e
      have own : ∀ q, Own σ (ρ.set i (.f d)) q → Own σ ρ q ∧ q ≠ p := fun q ⟨j, f, a, b⟩ => by
        rcases set_get a with ⟨_, _, a⟩ | ⟨z, a⟩
        · cases a
        · exact ⟨⟨j, f, a, b⟩, fun y => by subst y; exact z (h.inj i j d f q e a hp b)⟩
      have hA : ¬A p := by
        rcases h.fr i d p e hp with z | z
        · exact absurd (List.mem_map.mpr ⟨_, z, rfl⟩) hi
        · exact h.a0.ne z
      have sub : ∀ q, AO A σ (ρ.set i (.f d)) q → AO A σ ρ q := fun q z => z.elim .inl fun z => .inr (own q z).1
      have np : ¬AO A σ (ρ.set i (.f d)) p := fun z => z.elim hA fun z => (own p z).2 rfl
      refine ⟨⟨⟨by rw [List.length_set]; exact h.se.len, fun j f a => ?_, fun j f a => ?_, fun q z => h.se.ax q (sub q z)⟩, fun j k f g q a b x y => ?_, fun j f q a b => ?_, fun ip hip => ?_, h.a0, h.hx⟩, fun q z => (own q z).1⟩
      · rcases set_get a with ⟨z, l, a'⟩ | ⟨z, a'⟩
        · cases a'
          subst z
          exact ⟨.ref p, hp, (c.ex fun q z => .inl (sub q z)).rp np⟩
        · obtain ⟨v, b, r⟩ := h.se.fz j f a'
          exact ⟨v, b, Rp.ex (fun q z => .inl (sub q z)) _ _ r⟩
      · rcases set_get a with ⟨_, _, a'⟩ | ⟨z, a'⟩
        · cases a'
        · obtain ⟨q, b, _, r⟩ := h.se.ow j f a'
          exact ⟨q, b, .inr ⟨j, f, a, b⟩, r.ex fun q z => .inl (sub q z)⟩
      · rcases set_get a with ⟨_, _, a'⟩ | ⟨_, a'⟩
        · cases a'
        · rcases set_get b with ⟨_, _, b'⟩ | ⟨_, b'⟩
          · cases b'
          · exact h.inj j k f g q a' b' x y
      · rcases set_get a with ⟨_, _, a'⟩ | ⟨_, a'⟩
        · cases a'
        · exact h.fr j f q a' b
      · obtain ⟨f, a, b⟩ := h.io ip hip
        have hn : i ≠ ip.1 := fun z => hi (by rw [z]; exact List.mem_map.mpr ⟨ip, hip, rfl⟩)
        exact ⟨f, by rw [List.getElem?_set_ne hn]; exact a, b⟩
theorem Post.sub {W : Wd} {rm : Md} {A : Av} {ia : List (Nat × Addr)} {H0 H : Hp} {σ : LSt} {ρ ρ1 : Env} {D : Ends} (sub : ∀ q, Own σ ρ1 q → Own σ ρ q) : ∀ {f : Fl}, Post W rm A ia H0 H σ ρ D f → Post W rm A ia H0 H σ ρ1 D f
  | .nx ρ', h => fun σ' H' r s => h σ' H' r ⟨fun q o n => s.k q o fun z => n (sub q z), fun q z => (s.n q z).elim (fun z => .inl (sub q z)) .inr⟩
  | .bk ρ', h => fun σ' H' r s => h σ' H' r ⟨fun q o n => s.k q o fun z => n (sub q z), fun q z => (s.n q z).elim (fun z => .inl (sub q z)) .inr⟩
  | .ct ρ', h => fun σ' H' r s => h σ' H' r ⟨fun q o n => s.k q o fun z => n (sub q z), fun q z => (s.n q z).elim (fun z => .inl (sub q z)) .inr⟩
  | .rt d ρ', h => fun v H' r s => h v H' r fun q o n => s q o fun z => n (sub q z)
  | .no, h => h
theorem vs_fz {W : Wd} {rm : Md} {io : List Nat} {ts : TS} {G : SF} (i : Nat) (hi : i ∉ io) (h : VS W rm io ts G) : VS W rm io ts (fun ρ => G (fz1 i ρ)) := by
  intro A ia H0 σ ρ H D hio hs k
  obtain ⟨a, b⟩ := hs.fz i (by rw [hio]; exact hi)
  exact h A ia H0 σ _ H D hio a (Post.sub b k)
theorem SV.fz {X : Cx} {C : Addr} {rm : Md} {io : List Nat} {st : Stmt} {t : TS} {G : SF} (i : Nat) (hi : i ∉ io) (h : SV X C rm io st t G) : SV X C rm io st t (fun ρ => G (fz1 i ρ)) := ⟨h.ps, vs_fz i hi h.vs⟩
def sRet (F : EF) : SF := fun ρ => match F ρ with
  | some d => .rt d ρ
  | none => .no
theorem SR.ret {W : Wd} {A : Av} {ia : List (Nat × Addr)} {H0 H : Hp} {σ : LSt} {ρ : Env} (h : SR W A ia H0 H σ ρ) : ∀ ip ∈ ia, ∃ e, ρ[ip.1]? = some (.o e) ∧ Cell W A H ip.2 e := fun ip hip => by
  obtain ⟨d, a, b⟩ := h.io ip hip
  obtain ⟨p, x, _, c⟩ := h.se.ow ip.1 d a
  rw [b] at x; cases x
  exact ⟨d, a, c.ex fun q z => .inl (.inl z)⟩
theorem rep.out {W : Wd} {A A' : Av} {H0 H H1 : Hp} {d : D} {v : V} (sub : ∀ q, A q → A' q) (nw : ∀ p, H p = none → H0 p = none) : ∀ {m : Md}, m ≠ .w → rep W A' H H1 d v m → rep W A H0 H1 d v m
  | .f, _, h => ⟨Rp.ex (fun q z => .inl (sub q z)) _ _ h.1, fun e => let ⟨p, a, n, c⟩ := h.2 e; ⟨p, a, nw p n, c.ex fun q z => .inl (z.elim (fun z => .inl (sub q z)) .inr)⟩⟩
  | .s, _, h => Rp.ex (fun q z => .inl (sub q z)) _ _ h
  | .w, n, _ => absurd rfl n
theorem vs_ret {W : Wd} {rm : Md} {io : List Nat} {te : TE} {F : EF} (hm : rm ≠ .w) (he : VE W rm te F) : VS W rm io (tRet te) (sRet F) := by
  intro A ia H0 σ ρ H D hio hs h
  unfold sRet at h
  cases e : F ρ with
  | none => rw [e] at h; exact absurd h id
  | some d =>
    rw [e] at h
    refine he _ σ ρ H _ d hs.se e fun v H1 s1 r1 => ?_
    exact h v H1 ⟨r1.out (fun q z => .inl z) (fun p => hs.new) hm, (hs.same s1).ret⟩ (Same.kx s1)
def sRetO (i : Nat) : SF := fun ρ => match ρ[i]? with
  | some (.o d) => .rt d ρ
  | _ => .no
theorem vs_retO {W : Wd} {rm : Md} {io : List Nat} {i : Nat} (hm : rm ≠ .w) (hi : i ∉ io) : VS W rm io (tRet (tVar i)) (sRetO i) := by
  intro A ia H0 σ ρ H D hio hs h
  unfold sRetO at h
  cases e : ρ[i]? with
  | none => rw [e] at h; exact absurd h id
  | some z =>
    rw [e] at h
    cases z with
    | u => exact absurd h id
    | f d => exact absurd h id
    | o d =>
      obtain ⟨p, hp, _, c⟩ := hs.se.ow i d e
      have h0 : H0 p = none := by
        rcases hs.fr i d p e hp with z | z
        · exact absurd (List.mem_map.mpr ⟨_, z, rfl⟩) (by rw [hio]; exact hi)
        · exact z
      have f : Fr W A H0 H d (.ref p) := Fr.of (H1 := H) hs.a0 h0 (c.ex fun q z => .inl (z.elim .inl fun z => .inr (by subst z; exact ⟨i, d, e, hp⟩)))
      refine ⟨_, hp, h _ H ⟨?_, hs.ret⟩ fun _ _ _ z => z⟩
      cases rm with
      | f => exact f
      | s => exact f.1
      | w => exact absurd rfl hm
def sIf (T : TF) (G G' : SF) : SF := fun ρ => match T ρ with
  | some true => G ρ
  | some false => G' ρ
  | none => .no
theorem vs_if {W : Wd} {rm : Md} {io : List Nat} {tt : TT} {t u : TS} {T : TF} {G G' : SF} (ht : VT W tt T) (a : VS W rm io t G) (b : VS W rm io u G') : VS W rm io (tIfS tt t u) (sIf T G G') := by
  intro A ia H0 σ ρ H D hio hs h
  unfold sIf at h
  cases e : T ρ with
  | none => rw [e] at h; exact absurd h id
  | some c =>
    rw [e] at h
    refine ht _ σ ρ H _ c hs.se e fun H1 s1 => ?_
    cases c with
    | true => simp only [if_true]; exact a A ia H0 σ ρ H1 D hio (hs.same s1) (Post.step (Stp.same s1) h)
    | false => simp only [Bool.false_eq_true, if_false]; exact b A ia H0 σ ρ H1 D hio (hs.same s1) (Post.step (Stp.same s1) h)
def sE (F : EF) : SF := fun ρ => match F ρ with
  | some _ => .nx ρ
  | none => .no
theorem vs_e {W : Wd} {rm m : Md} {io : List Nat} {te : TE} {F : EF} (he : VE W m te F) : VS W rm io (tDrop te) (sE F) := by
  intro A ia H0 σ ρ H D hio hs h
  unfold sE at h
  cases e : F ρ with
  | none => rw [e] at h; exact absurd h id
  | some d => rw [e] at h; exact he _ σ ρ H _ d hs.se e fun v H1 s1 r1 => h σ H1 (hs.same s1) (Stp.same s1)
def sNo : SF := fun _ => .no
def sBk : SF := fun ρ => .bk ρ
def sCt : SF := fun ρ => .ct ρ
theorem vs_no {W : Wd} {rm : Md} {io : List Nat} {ts : TS} : VS W rm io ts sNo := fun A ia H0 σ ρ H D hio hs h => absurd h id
theorem vs_nx {W : Wd} {rm : Md} {io : List Nat} : VS W rm io tNext sNil := fun A ia H0 σ ρ H D hio hs h => h σ H hs .refl
theorem vs_bk {W : Wd} {rm : Md} {io : List Nat} : VS W rm io tBreak sBk := fun A ia H0 σ ρ H D hio hs h => h σ H hs .refl
theorem vs_ct {W : Wd} {rm : Md} {io : List Nat} : VS W rm io tCont sCt := fun A ia H0 σ ρ H D hio hs h => h σ H hs .refl
def whN (T : TF) (G : SF) : Nat → SF
  | 0, _ => .no
  | n + 1, ρ => match T ρ with
    | none => .no
    | some false => .nx ρ
    | some true => match G ρ with
      | .nx ρ1 => whN T G n ρ1
      | .ct ρ1 => whN T G n ρ1
      | .bk ρ1 => .nx ρ1
      | f => f
open Classical in
noncomputable def sWh (T : TF) (G : SF) : SF := fun ρ => if h : ∃ n, whN T G n ρ ≠ .no then whN T G (choose h) ρ else .no
theorem whN_mono {T : TF} {G : SF} : ∀ {n k : Nat} {ρ : Env}, n ≤ k → whN T G n ρ ≠ .no → whN T G k ρ = whN T G n ρ
  | 0, k, ρ, _, h => absurd rfl h
  | n + 1, 0, ρ, hk, _ => by omega
  | n + 1, k + 1, ρ, hk, h => by
    unfold whN at h ⊢
    cases e : T ρ with
    | none => rfl
    | some c =>
      cases c with
      | false => rfl
      | true =>
        rw [e] at h
        dsimp only at h ⊢
        cases g : G ρ with
        | nx ρ1 => rw [g] at h; exact whN_mono (by omega) h
        | ct ρ1 => rw [g] at h; exact whN_mono (by omega) h
        | bk ρ1 => rfl
        | rt d ρ1 => rfl
        | no => rfl
theorem sWh_of {T : TF} {G : SF} {n : Nat} {ρ : Env} (h : whN T G n ρ ≠ .no) : sWh T G ρ = whN T G n ρ := by
  have hx : ∃ n, whN T G n ρ ≠ .no := ⟨n, h⟩
  unfold sWh
  rw [dif_pos hx]
  have h2 := Classical.choose_spec hx
  rcases Nat.le_total n (Classical.choose hx) with l | l
  · exact whN_mono l h
  · exact (whN_mono l h2).symm
theorem sWh_ex {T : TF} {G : SF} {ρ : Env} (h : sWh T G ρ ≠ .no) : ∃ n, whN T G n ρ ≠ .no := by
  unfold sWh at h
  split at h
  case isTrue hx => exact hx
  case isFalse => exact absurd rfl h
theorem sWh_eq {T : TF} {G : SF} {ρ : Env} : sWh T G ρ = match T ρ with
    | none => .no
    | some false => .nx ρ
    | some true => match G ρ with
      | .nx ρ1 => sWh T G ρ1
      | .ct ρ1 => sWh T G ρ1
      | .bk ρ1 => .nx ρ1
      | f => f := by
  cases e : T ρ with
  | none =>
    unfold sWh
    split
    case isTrue hx =>
      obtain ⟨n, hn⟩ := id hx
      cases n with
      | zero => exact absurd rfl hn
      | succ n => unfold whN at hn; rw [e] at hn; exact absurd rfl hn
    case isFalse => rfl
  | some c =>
    cases c with
    | false => rw [sWh_of (n := 1) (by unfold whN; rw [e]; simp)]; unfold whN; rw [e]
    | true =>
      have key : ∀ n, whN T G (n + 1) ρ = match G ρ with
        | .nx ρ1 => whN T G n ρ1
        | .ct ρ1 => whN T G n ρ1
        | .bk ρ1 => .nx ρ1
        | f => f := fun n => by conv => lhs; unfold whN; rw [e]
      have go : ∀ ρ1, (∀ n, whN T G (n + 1) ρ = whN T G n ρ1) → sWh T G ρ = sWh T G ρ1 := fun ρ1 hk => by
        by_cases hx : sWh T G ρ1 = .no
        · rw [hx]
          unfold sWh
          split
          case isTrue hy =>
            obtain ⟨n, hn⟩ := id hy
            cases n with
            | zero => exact absurd rfl hn
            | succ n => rw [hk n] at hn; rw [sWh_of hn] at hx; exact absurd hx hn
          case isFalse => rfl
        · obtain ⟨n, hn⟩ := sWh_ex hx
          rw [sWh_of hn, sWh_of (n := n + 1) (by rw [hk]; exact hn), hk]
      dsimp only
      cases g : G ρ with
      | nx ρ1 => exact go ρ1 fun n => by rw [key, g]
      | ct ρ1 => exact go ρ1 fun n => by rw [key, g]
      | bk ρ1 => dsimp only; rw [sWh_of (n := 1) (by rw [key, g]; simp), key, g]
      | rt d ρ1 => dsimp only; rw [sWh_of (n := 1) (by rw [key, g]; simp), key, g]
      | no =>
        dsimp only
        unfold sWh
        split
        case isTrue hy =>
          obtain ⟨n, hn⟩ := id hy
          cases n with
          | zero => exact absurd rfl hn
          | succ n => rw [key, g] at hn; exact absurd rfl hn
        case isFalse => rfl
theorem vs_wh {W : Wd} {rm : Md} {io : List Nat} {tt : TT} {tb : TS} {T : TF} {G : SF} (ht : VT W tt T) (hb : VS W rm io tb G) : VS W rm io (tWhile tt tb) (sWh T G) := by
  intro A ia H0 σ ρ H D hio hs h
  have hne : sWh T G ρ ≠ .no := fun e => by rw [e] at h; exact h
  obtain ⟨n, hn⟩ := sWh_ex hne
  rw [sWh_of hn] at h
  refine ⟨fun m σ' H' => ∃ ρ', SR W A ia H0 H' σ' ρ' ∧ whN T G m ρ' ≠ .no ∧ Post W rm A ia H0 H' σ' ρ' D (whN T G m ρ'), ⟨n, ρ, hs, hn, h⟩, ?_⟩
  rintro m σ1 H1 ⟨ρ1, hs1, hn1, h1⟩
  cases m with
  | zero => exact absurd rfl hn1
  | succ m =>
    unfold whN at hn1 h1
    cases e : T ρ1 with
    | none => rw [e] at hn1; exact absurd rfl hn1
    | some c =>
      rw [e] at hn1 h1
      refine ht _ σ1 ρ1 H1 _ c hs1.se e fun H2 s2 => ?_
      have hs2 := hs1.same s2
      cases c with
      | false => simp only [Bool.false_eq_true, if_false]; exact h1 σ1 H2 hs2 (Stp.same s2)
      | true =>
        simp only [if_true]
        refine ⟨fun σ' H' => ∃ ρ', SR W A ia H0 H' σ' ρ' ∧ whN T G m ρ' ≠ .no ∧ Post W rm A ia H0 H' σ' ρ' D (whN T G m ρ'), fun σ' H' z => ⟨m, by omega, z⟩, hb A ia H0 σ1 ρ1 H2 _ hio hs2 ?_⟩
        dsimp only at hn1 h1
        cases g : G ρ1 with
        | nx ρ2 => rw [g] at hn1 h1; exact fun σ' H' s p => ⟨ρ2, s, hn1, Post.step ((Stp.same s2).trans p) h1⟩
        | ct ρ2 => rw [g] at hn1 h1; exact fun σ' H' s p => ⟨ρ2, s, hn1, Post.step ((Stp.same s2).trans p) h1⟩
        | bk ρ2 => rw [g] at hn1 h1; exact fun σ' H' s p => h1 σ' H' s ((Stp.same s2).trans p)
        | rt d ρ2 => rw [g] at hn1 h1; exact fun v H' r p => h1 v H' r ((Stp.same s2).kx p)
        | no => rw [g] at hn1; exact absurd rfl hn1
def forD (B : D → Env → Option Env) (G : SF) : List D → SF
  | [], ρ => .nx ρ
  | d :: ds, ρ => match B d ρ with
    | none => .no
    | some ρ1 => match G ρ1 with
      | .nx ρ2 => forD B G ds ρ2
      | .ct ρ2 => forD B G ds ρ2
      | .bk ρ2 => .nx ρ2
      | f => f
def sFor (I : LF) (B : D → Env → Option Env) (G : SF) : SF := fun ρ => match I ρ with
  | some ds => forD B G ds ρ
  | none => .no
theorem vs_for {W : Wd} {rm : Md} {io is : List Nat} {wi : TI} {g : TG} {tb : TS} {I : LF} {B : D → Env → Option Env} {G : SF} (hi : VI W true wi I) (hg : VG W is g B) (hb : VS W rm io tb G) (ho : ∀ i ∈ is, i ∉ io) : VS W rm io (tFor wi g tb) (sFor I B G) := by
  intro A ia H0 σ ρ H D hio hs h
  unfold sFor at h
  cases e : I ρ with
  | none => rw [e] at h; exact absurd h id
  | some ds =>
  rw [e] at h
  refine hi _ σ ρ H _ ds hs.se e fun J H1 s1 it => ?_
  have hs1 := hs.same s1
  refine ⟨fun i n σ' H' => i + n = ds.length ∧ ∃ ρ', SR W A ia H0 H' σ' ρ' ∧ Stp H1 σ ρ H' σ' ρ' ∧ Post W rm A ia H0 H' σ' ρ' D (forD B G (ds.drop i) ρ'), ⟨ds.length, by omega, ρ, hs1, .refl, Post.step (Stp.same s1) h⟩, ?_⟩
  rintro i n σ2 H2 ⟨hn, ρ2, hs2, st2, p2⟩
  have kx : Kx (AO A σ ρ) H1 H2 := fun q o nq z => st2.k q o (fun y => nq (.inr y)) z
  have ex : Ex H1 (AO A σ ρ) (AO A σ2 ρ2) := fun q z => by
    rcases z with z | z
    · exact .inl (.inl z)
    · rcases st2.n q z with z | z
      · exact .inl (.inr z)
      · exact .inr z
  obtain ⟨it1, it2⟩ := it _ H2 ex hs2.se.ax (by simp only [if_true]; exact kx) i
  cases n with
  | zero =>
    left
    refine ⟨it2 (by omega), ?_⟩
    rw [List.drop_eq_nil_of_le (by omega)] at p2
    exact p2 σ2 H2 hs2 .refl
  | succ n =>
    right
    have hlt : i < ds.length := by omega
    obtain ⟨go, yl⟩ := it1 _ (List.getElem?_eq_getElem hlt)
    rw [List.drop_eq_getElem_cons hlt] at p2
    unfold forD at p2
    refine ⟨go, fun σ' H' => ∃ ρ', SR W A ia H0 H' σ' ρ' ∧ Stp H1 σ ρ H' σ' ρ' ∧ Post W rm A ia H0 H' σ' ρ' D (forD B G (ds.drop (i + 1)) ρ'), fun σ' H' z => ⟨n, by omega, by omega, z⟩, fun x H3 hy => ?_⟩
    obtain ⟨s3, rx⟩ := yl x H3 hy
    have hs3 := hs2.same s3
    cases eb : B ds[i] ρ2 with
    | none => rw [eb] at p2; exact absurd p2 id
    | some ρ3 =>
      rw [eb] at p2
      dsimp only at p2
      refine hg _ σ2 ρ2 H3 x _ ρ3 _ hs3.se rx eb fun σ3 se up => ?_
      obtain ⟨hs4, st4⟩ := hs3.ups se up (by rw [hio]; exact ho)
      have st : Stp H2 σ2 ρ2 H3 σ3 ρ3 := (Stp.same s3).trans st4
      refine hb A ia H0 σ3 ρ3 H3 _ hio hs4 ?_
      cases eg : G ρ3 with
      | nx ρ5 => rw [eg] at p2; exact fun σ' H' s p => ⟨ρ5, s, st2.trans (st.trans p), Post.step (st.trans p) p2⟩
      | ct ρ5 => rw [eg] at p2; exact fun σ' H' s p => ⟨ρ5, s, st2.trans (st.trans p), Post.step (st.trans p) p2⟩
      | bk ρ5 => rw [eg] at p2; exact fun σ' H' s p => p2 σ' H' s (st.trans p)
      | rt d ρ5 => rw [eg] at p2; exact fun v H' r p => p2 v H' r (st.kx p)
      | no => rw [eg] at p2; exact absurd p2 id
end BV
set_option linter.all false
set_option maxRecDepth 100000
set_option maxHeartbeats 4000000
namespace BV
open PySem PySem.Spec PyProof.Rows L2
theorem Cell.co {W : Wd} {A : Av} {H : Hp} {p : Addr} {d : D} (c : Cell W A H p d) : ∃ o, H p = Option.some o ∧ CellO o := by
  cases d <;> first | exact absurd c id | skip
  · obtain ⟨vs, y, _⟩ := c; exact ⟨_, y, trivial⟩
  · obtain ⟨vs, y, _⟩ := c; exact ⟨_, y, trivial⟩
  · obtain ⟨vs, y, _⟩ := c; exact ⟨_, y, trivial⟩
theorem SR.put {W : Wd} {A : Av} {ia : List (Nat × Addr)} {H0 H H1 : Hp} {σ : LSt} {ρ : Env} {i : Nat} {p : Addr} {d d2 : D} {o2 : HO} (h : SR W A ia H0 H σ ρ) (hr : ρ[i]? = some (.o d)) (hp : σ[i]? = some (some (.ref p))) (s : Same H H1) (c : Cell W (AO A σ ρ) (upd H1 p o2) p d2) :
    SR W A ia H0 (upd H1 p o2) σ (ρ.set i (.o d2)) ∧ Stp H σ ρ (upd H1 p o2) σ (ρ.set i (.o d2)) ∧ (∀ q, AO A σ (ρ.set i (.o d2)) q ↔ AO A σ ρ q) := by
  have h1 := h.same s
  have li : i < ρ.length := (List.getElem?_eq_some_iff.mp hr).1
  have own : ∀ q, Own σ (ρ.set i (.o d2)) q ↔ Own σ ρ q := fun q => by
    constructor
    · rintro ⟨j, f, a, b⟩
      rcases set_get a with ⟨z, _, a⟩ | ⟨z, a⟩
      · subst z; exact ⟨i, d, hr, b⟩
      · exact ⟨j, f, a, b⟩
    · rintro ⟨j, f, a, b⟩
      by_cases z : i = j
      · subst z; exact ⟨i, d2, List.getElem?_set_self li, b⟩
      · exact ⟨j, f, by rw [List.getElem?_set_ne z]; exact a, b⟩
  have ao : ∀ q, AO A σ (ρ.set i (.o d2)) q ↔ AO A σ ρ q := fun q => or_congr Iff.rfl (own q)
  have hA : AO A σ ρ p := .inr ⟨i, d, hr, hp⟩
  have kp : Kp (AO A σ ρ) H1 (upd H1 p o2) := Kp.upd hA
  have exi : Ex (upd H1 p o2) (AO A σ ρ) (AO A σ (ρ.set i (.o d2))) := fun q z => .inl ((ao q).mp z)
  refine ⟨⟨⟨by rw [List.length_set]; exact h.se.len, fun j f a => ?_, fun j f a => ?_, fun q z => ?_⟩, fun j k f g q a b x y => ?_, fun j f q a b => ?_, fun ip hip => ?_, h.a0, fun q z y => ?_⟩, ⟨fun q o n z => ?_, fun q z => .inl ((own q).mp z)⟩, ao⟩
  · rcases set_get a with ⟨_, _, a'⟩ | ⟨z, a'⟩
    · cases a'
    · obtain ⟨v, b, r⟩ := h1.se.fz j f a'
      exact ⟨v, b, Rp.ex exi _ _ (Rp.kp kp _ _ r)⟩
  · rcases set_get a with ⟨z, _, a'⟩ | ⟨z, a'⟩
    · cases a'; subst z; exact ⟨p, hp, (ao p).mpr hA, c.ex exi⟩
    · obtain ⟨q, b, hq, r⟩ := h1.se.ow j f a'
      have hne : q ≠ p := fun y => by subst y; exact z (h.inj i j d f q hr a' hp b)
      exact ⟨q, b, (ao q).mpr hq, (r.kp kp fun o y => by rw [upd_ne hne]; exact y).ex exi⟩
  · by_cases y : q = p
    · subst y; exact c.co
    · rw [upd_ne y]; exact h1.se.ax q ((ao q).mp z)
  · have a' : ∃ f, ρ[j]? = some (.o f) := by
      rcases set_get a with ⟨z, _, _⟩ | ⟨_, a'⟩
      · subst z; exact ⟨d, hr⟩
      · exact ⟨f, a'⟩
    have b' : ∃ g, ρ[k]? = some (.o g) := by
      rcases set_get b with ⟨z, _, _⟩ | ⟨_, b'⟩
      · subst z; exact ⟨d, hr⟩
      · exact ⟨g, b'⟩
    obtain ⟨f', a'⟩ := a'
    obtain ⟨g', b'⟩ := b'
    exact h.inj j k f' g' q a' b' x y
  · rcases set_get a with ⟨z, _, _⟩ | ⟨_, a'⟩
    · subst z; exact h.fr i d q hr b
    · exact h.fr j f q a' b
  · obtain ⟨f, a, b⟩ := h.io ip hip
    by_cases z : i = ip.1
    · exact ⟨d2, by rw [← z]; exact List.getElem?_set_self li, b⟩
    · exact ⟨f, by rw [List.getElem?_set_ne z]; exact a, b⟩
  · by_cases e : q = p
    · subst e; rw [upd_same] at y; cases y
    · rw [upd_ne e] at y; exact h1.hx q z y
  · have e : q ≠ p := fun y => n (by subst y; exact ⟨i, d, hr, hp⟩)
    rw [upd_ne e]; exact s _ _ z
abbrev XF := Env → Option (D × Env)
def VX (W : Wd) (io : List Nat) (te : TE) (G : XF) : Prop := ∀ (A : Av) (ia : List (Nat × Addr)) (H0 : Hp) (σ : LSt) (ρ : Env) (H : Hp) (Q : VK) (d : D) (ρ' : Env), ia.map (·.1) = io → SR W A ia H0 H σ ρ → G ρ = some (d, ρ') →
  (∀ v H', SR W A ia H0 H' σ ρ' → Stp H σ ρ H' σ ρ' → Rp W (AO A σ ρ') H' d v → Q v H') → te σ H Q
structure XV (X : Cx) (C : Addr) (io : List Nat) (e : Expr) (te : TE) (G : XF) : Prop where
  pe : PE X e te
  vx : VX (wd X C) io te G
def LM (r : V → List V → Hp → VK → Prop) (g : List D → List D → Option (List D × D)) : Prop :=
  ∀ (W : Wd) (A : Av) (H : Hp) (p : Addr) (vs : List V) (ds : List D) (args : List D) (us : List V) (ds' : List D) (res : D) (Q : VK), H p = some (.lst vs) → RpL W A H ds vs → RpL W A H args us → g ds args = some (ds', res) →
    (∀ vs' v, RpL W A H ds' vs' → Rp W A H res v → Q v (upd H p (.lst vs'))) → r (.ref p) us H Q
def xL (i : Nat) (g : List D → List D → Option (List D × D)) (G : AF) : XF := fun ρ => match ρ[i]? with
  | some (.o (.lst ds)) => (G ρ).bind fun args => (g ds args).bind fun r => some (r.2, ρ.set i (.o (.lst r.1)))
  | _ => none
theorem xL_inv {i : Nat} {g : List D → List D → Option (List D × D)} {G : AF} {ρ ρ' : Env} {d : D} (h : xL i g G ρ = some (d, ρ')) : ∃ ds args ds', ρ[i]? = some (.o (.lst ds)) ∧ G ρ = some args ∧ g ds args = some (ds', d) ∧ ρ' = ρ.set i (.o (.lst ds')) := by
  unfold xL at h
  split at h
  case h_1 ds e =>
    obtain ⟨args, e1, h⟩ := Option.bind_eq_some_iff.mp h
    obtain ⟨r, e2, h⟩ := Option.bind_eq_some_iff.mp h
    cases h
    exact ⟨ds, args, r.1, e, e1, e2, rfl⟩
  case h_2 => cases h
theorem vx_lm {W : Wd} {io : List Nat} {i : Nat} {r : V → List V → Hp → VK → Prop} {g : List D → List D → Option (List D × D)} {ta : TA} {G : AF} (lm : LM r g) (ha : VB W ta G) : VX W io (tBM W.K "list" r (tVar i) ta) (xL i g G) := by
  intro A ia H0 σ ρ H Q d ρ' hio hs e k
  obtain ⟨ds, args, ds', hr, e1, e2, rfl⟩ := xL_inv e
  obtain ⟨p, hp, _, vs, hc, rl⟩ := hs.se.ow i _ hr
  refine ⟨.ref p, hp, .inl ⟨rfl, vs, SqL.of hc⟩, ha _ σ ρ H _ args hs.se e1 fun us H1 s1 r1 => ?_⟩
  refine lm W _ H1 p vs ds args us ds' d Q (s1 _ _ hc) (rl.same s1) r1 e2 fun vs' v rl' rv => ?_
  have hA : AO A σ ρ p := .inr ⟨i, _, hr, hp⟩
  obtain ⟨a, b, c⟩ := hs.put (o2 := .lst vs') (d2 := .lst ds') hr hp s1 ⟨vs', upd_same, RpL.kp (Kp.upd hA) _ _ rl'⟩
  exact k v _ a b (Rp.ex (fun q z => .inl ((c q).mp z)) _ _ (Rp.kp (Kp.upd hA) _ _ rv))
def gApp : List D → List D → Option (List D × D)
  | ds, [d] => if ds.length < LN then some (ds ++ [d], .non) else none
  | _, _ => none
theorem Rp.nonI {W : Wd} {A : Av} {H : Hp} : Rp W A H .non .non := by unfold Rp; rfl
theorem lm_append : LM rAppend gApp := fun W A H p vs ds args us ds' res Q hp r ra e k => by
  unfold gApp at e
  split at e
  case h_2 => cases e
  case h_1 d =>
  split at e
  case isFalse => cases e
  case isTrue hl =>
  cases e
  unfold RpL at ra
  obtain ⟨v, t, rfl, a, b⟩ := ra
  unfold RpL at b
  subst b
  exact ⟨p, vs, v, rfl, rfl, hp, LN_lt (by rw [r.length]; exact hl), k _ _ (r.append (RpL.one a)) Rp.nonI⟩
def gIns : List D → List D → Option (List D × D)
  | ds, [.int i, d] => if 0 ≤ i ∧ i ≤ (ds.length : Int) ∧ ds.length < 1000 then some (ds.take i.toNat ++ d :: ds.drop i.toNat, .non) else none
  | _, _ => none
def rIns : V → List V → Hp → VK → Prop := fun x vs H Q => ∃ l xs i y, x = .ref l ∧ vs = [.int i, y] ∧ H l = some (.lst xs) ∧ 0 ≤ i ∧ i ≤ (xs.length : Int) ∧ xs.length < 1000 ∧ Q .non (upd H l (.lst (xs.take i.toNat ++ y :: xs.drop i.toNat)))
theorem RpL.consI {W : Wd} {A : Av} {H : Hp} {d : D} {v : V} {ds : List D} {vs : List V} (a : Rp W A H d v) (b : RpL W A H ds vs) : RpL W A H (d :: ds) (v :: vs) := by unfold RpL; exact ⟨v, vs, rfl, a, b⟩
theorem lm_insert : LM rIns gIns := fun W A H p vs ds args us ds' res Q hp r ra e k => by
  unfold gIns at e
  split at e
  case h_2 => cases e
  case h_1 i d =>
  split at e
  case isFalse => cases e
  case isTrue hl =>
  cases e
  unfold RpL at ra
  obtain ⟨v, t, rfl, a, b⟩ := ra
  unfold RpL at b
  obtain ⟨v2, t2, rfl, a2, b2⟩ := b
  unfold RpL at b2
  subst b2
  rw [Rp.int_iff.mp a]
  exact ⟨p, vs, i, v2, rfl, rfl, hp, hl.1, by rw [r.length]; exact hl.2.1, by rw [r.length]; exact hl.2.2, k _ _ ((r.take _).append (RpL.consI a2 (r.drop _))) Rp.nonI⟩
def sX (G : XF) : SF := fun ρ => match G ρ with
  | some r => .nx r.2
  | none => .no
theorem vs_x {W : Wd} {rm : Md} {io : List Nat} {te : TE} {G : XF} (h : VX W io te G) : VS W rm io (tDrop te) (sX G) := by
  intro A ia H0 σ ρ H D hio hs k
  unfold sX at k
  cases e : G ρ with
  | none => rw [e] at k; exact absurd k id
  | some r => rw [e] at k; exact h A ia H0 σ ρ H _ r.1 r.2 hio hs e fun v H' s p _ => k σ H' s p
def putD {κ : Type} [DecidableEq κ] (ks : List κ) (ds : List D) (k : κ) (d : D) : List κ × List D :=
  if k ∈ ks then (ks, (ks.zip ds).map fun kv => if kv.1 = k then d else kv.2) else (ks ++ [k], ds ++ [d])
theorem any_mem {κ : Type} [DecidableEq κ] (k : κ) : ∀ (ks : List κ) (vs : List V), ks.length = vs.length → ((ks.zip vs).any fun kv => decide (kv.1 = k)) = decide (k ∈ ks)
  | [], [], _ => rfl
  | c :: ks, v :: vs, h => by
    have := any_mem k ks vs (by simpa using h)
    simp only [List.zip_cons_cons, List.any_cons, this, List.mem_cons]
    by_cases e : c = k
    · simp [e]
    · simp [e, Ne.symm e]
theorem put_ok {W : Wd} {A : Av} {H : Hp} {κ : Type} [DecidableEq κ] (k : κ) {d : D} {v : V} (rv : Rp W A H d v) (ks : List κ) {ds : List D} {vs : List V} (hl : ks.length = ds.length) (r : RpL W A H ds vs) :
    ∃ vs', putK (ks.zip vs) k v = (putD ks ds k d).1.zip vs' ∧ (putD ks ds k d).1.length = (putD ks ds k d).2.length ∧ RpL W A H (putD ks ds k d).2 vs' := by
  unfold putK putD
  rw [any_mem k ks vs (by rw [r.length]; exact hl)]
  by_cases hk : k ∈ ks
  · rw [decide_eq_true hk, if_pos rfl, if_pos hk]
    refine ⟨(ks.zip vs).map fun kv => if kv.1 = k then v else kv.2, ?_, ?_, ?_⟩
    · have : ∀ (ks : List κ) (vs : List V), ks.length = vs.length → (ks.zip vs).map (fun kv => if kv.1 = k then (kv.1, v) else kv) = ks.zip ((ks.zip vs).map fun kv => if kv.1 = k then v else kv.2) := by
        intro ks
        induction ks with
        | nil => intro vs _; rfl
        | cons c ks ih =>
          intro vs h
          cases vs with
          | nil => simp at h
          | cons u us =>
            simp only [List.zip_cons_cons, List.map_cons, List.cons.injEq]
            refine ⟨?_, ih us (by simpa using h)⟩
            by_cases e : c = k <;> simp [e]
      exact this ks vs (by rw [r.length]; exact hl)
    · simp [hl]
    · clear hk
      have : ∀ (ks : List κ) (ds : List D) (vs : List V), ks.length = ds.length → RpL W A H ds vs → RpL W A H ((ks.zip ds).map fun kv => if kv.1 = k then d else kv.2) ((ks.zip vs).map fun kv => if kv.1 = k then v else kv.2) := by
        intro ks
        induction ks with
        | nil => intro ds vs _ _; exact RpL.nil
        | cons c ks ih =>
          intro ds vs h r
          cases ds with
          | nil => simp at h
          | cons u us =>
            unfold RpL at r
            obtain ⟨w, t, rfl, a, b⟩ := r
            simp only [List.zip_cons_cons, List.map_cons]
            refine RpL.consI ?_ (ih us t (by simpa using h) b)
            by_cases e : c = k
            · simp only [e, if_true]; exact rv
            · simp only [e, if_false]; exact a
      exact this ks ds vs hl r
  · rw [decide_eq_false hk, if_neg (by simp), if_neg hk]
    refine ⟨vs ++ [v], ?_, by simp [hl], r.append (RpL.one rv)⟩
    rw [List.zip_append (by rw [r.length]; exact hl)]
    rfl
def setD (x k d : D) : Option D := match x, k with
  | .lst ds, .int i => (ixN ds.length i).map fun j => .lst (ds.set j d)
  | .dk ks ds, k => (keyD k).bind fun k => if ds.length < LN then some (.dk (putD ks ds k d).1 (putD ks ds k d).2) else none
  | .dt ks ds, .tup k => (keysD k).bind fun k => if ds.length < LN then some (.dt (putD ks ds k d).1 (putD ks ds k d).2) else none
  | _, _ => none
def sSet (i : Nat) (K V : EF) : SF := fun ρ => match ρ[i]? with
  | some (.o x) => match (V ρ).bind fun d => (K ρ).bind fun k => setD x k d with
    | some x' => .nx (ρ.set i (.o x'))
    | none => .no
  | _ => .no
def tSetU (ty tv : TE) (i : Nat) : TS := fun D σ H => tAsg tv (gSub (tVar i) ty rSetL) D σ H ∨ sDPut (tVar i) ty tv D σ H
theorem vs_set {W : Wd} {rm m : Md} {io : List Nat} {i : Nat} {ty tv : TE} {K V : EF} (hk : VE W m ty K) (hv : VE W .s tv V) : VS W rm io (tSetU ty tv i) (sSet i K V) := by
  intro A ia H0 σ ρ H D hio hs h
  unfold sSet at h
  cases hr : ρ[i]? with
  | none => rw [hr] at h; exact absurd h id
  | some z =>
  rw [hr] at h
  cases z with
  | u => exact absurd h id
  | f d => exact absurd h id
  | o x =>
  dsimp only at h
  cases e : (V ρ).bind fun d => (K ρ).bind fun k => setD x k d with
  | none => rw [e] at h; exact absurd h id
  | some x' =>
  rw [e] at h
  obtain ⟨d, ev, ea⟩ := Option.bind_eq_some_iff.mp e
  obtain ⟨k, ek, es⟩ := Option.bind_eq_some_iff.mp ea
  clear e ea
  obtain ⟨p, hp, _, c⟩ := hs.se.ow i _ hr
  have hA : AO A σ ρ p := .inr ⟨i, _, hr, hp⟩
  cases x <;> first | exact absurd c id | skip
  · rename_i ds
    left
    refine hv _ σ ρ H _ d hs.se ev fun v H1 s1 r1 => ⟨_, hp, hk _ σ ρ H1 _ k (hs.same s1).se ek fun u H2 s2 r2 => ?_⟩
    have r1 : Rp W (AO A σ ρ) H1 d v := r1
    cases k <;> first | (cases es; done) | skip
    rename_i j
    have es : (ixN ds.length j).map (fun j => BV.D.lst (ds.set j d)) = some x' := es
    obtain ⟨n, e1, rfl⟩ := Option.map_eq_some_iff.mp es
    obtain ⟨vs, hc, rl⟩ := c
    have s12 : Same H H2 := s1.trans s2
    refine ⟨p, vs, j, n, rfl, r2.w.int, s12 _ _ hc, by rw [rl.length]; exact e1, ?_⟩
    obtain ⟨a, b, _⟩ := hs.put (o2 := .lst (vs.set n v)) (d2 := .lst (ds.set n d)) hr hp s12 ⟨_, upd_same, RpL.kp (Kp.upd hA) _ _ (RpL.set (r1.same s2) n (rl.same s12))⟩
    exact h _ _ a b
  · rename_i ks ds
    right
    refine hv _ σ ρ H _ d hs.se ev fun v H1 s1 r1 => ⟨_, hp, hk _ σ ρ H1 _ k (hs.same s1).se ek fun u H2 s2 r2 => ?_⟩
    have r1 : Rp W (AO A σ ρ) H1 d v := r1
    have es : (keyD k).bind (fun k => if ds.length < LN then some (BV.D.dk (putD ks ds k d).1 (putD ks ds k d).2) else none) = some x' := by cases k <;> exact es
    obtain ⟨k', e1, e2⟩ := Option.bind_eq_some_iff.mp es
    split at e2
    case isFalse => cases e2
    case isTrue hl =>
    cases e2
    obtain ⟨vs, hc, l, rl⟩ := c
    have s12 : Same H H2 := s1.trans s2
    obtain ⟨vs', q1, q2, q3⟩ := put_ok k' (r1.same s2) ks l (rl.same s12)
    refine ⟨p, upd H2 p (.dK (putK (ks.zip vs) k' v)), rfl, .inl ⟨_, k', s12 _ _ hc, r2.w.key e1, LN_lt (by rw [List.length_zip, rl.length, l]; omega), rfl⟩, ?_⟩
    obtain ⟨a, b, _⟩ := hs.put (o2 := .dK (putK (ks.zip vs) k' v)) (d2 := .dk (putD ks ds k' d).1 (putD ks ds k' d).2) hr hp s12 ⟨vs', by rw [q1]; exact upd_same, q2, RpL.kp (Kp.upd hA) _ _ q3⟩
    exact h _ _ a b
  · rename_i ks ds
    right
    refine hv _ σ ρ H _ d hs.se ev fun v H1 s1 r1 => ⟨_, hp, hk _ σ ρ H1 _ k (hs.same s1).se ek fun u H2 s2 r2 => ?_⟩
    have r1 : Rp W (AO A σ ρ) H1 d v := r1
    cases k <;> first | (cases es; done) | skip
    rename_i kk
    have es : (keysD kk).bind (fun k => if ds.length < LN then some (BV.D.dt (putD ks ds k d).1 (putD ks ds k d).2) else none) = some x' := es
    obtain ⟨k', e1, e2⟩ := Option.bind_eq_some_iff.mp es
    split at e2
    case isFalse => cases e2
    case isTrue hl =>
    cases e2
    obtain ⟨vs, hc, l, rl⟩ := c
    have s12 : Same H H2 := s1.trans s2
    obtain ⟨vs', q1, q2, q3⟩ := put_ok k' (r1.same s2) ks l (rl.same s12)
    obtain ⟨b, us, rfl, t, ru⟩ := r2.w.tup
    have := ru.keys e1
    subst this
    refine ⟨p, upd H2 p (.dT (putK (ks.zip vs) k' v)), rfl, .inr ⟨_, k', b, s12 _ _ hc, rfl, t.2, LN_lt (by rw [List.length_zip, rl.length, l]; omega), rfl⟩, ?_⟩
    obtain ⟨a, b, _⟩ := hs.put (o2 := .dT (putK (ks.zip vs) k' v)) (d2 := .dt (putD ks ds k' d).1 (putD ks ds k' d).2) hr hp s12 ⟨vs', by rw [q1]; exact upd_same, q2, RpL.kp (Kp.upd hA) _ _ q3⟩
    exact h _ _ a b
def sDel (i : Nat) (K : EF) : SF := fun ρ => match ρ[i]?, K ρ with
  | some (.o (.lst ds)), some (.int j) => if 0 ≤ j ∧ j < (ds.length : Int) ∧ ds.length < 1000 then .nx (ρ.set i (.o (.lst (ds.eraseIdx j.toNat)))) else .no
  | _, _ => .no
theorem RpL.erase {W : Wd} {A : Av} {H : Hp} : ∀ {ds : List D} {vs : List V} (n : Nat), RpL W A H ds vs → RpL W A H (ds.eraseIdx n) (vs.eraseIdx n)
  | [], vs, n, h => by unfold RpL at h; subst h; exact RpL.nil
  | d :: ds, vs, n, h => by
    unfold RpL at h
    obtain ⟨v, r, rfl, a, b⟩ := h
    cases n with
    | zero => exact b
    | succ n => exact RpL.consI a (RpL.erase n b)
theorem vs_del {W : Wd} {rm m : Md} {io : List Nat} {i : Nat} {ty : TE} {K : EF} (hk : VE W m ty K) : VS W rm io (sLDel (tVar i) ty) (sDel i K) := by
  intro A ia H0 σ ρ H D hio hs h
  unfold sDel at h
  split at h
  case h_2 => exact absurd h id
  case h_1 ds j hr ek =>
  split at h
  case isFalse => exact absurd h id
  case isTrue hl =>
  obtain ⟨p, hp, _, vs, hc, rl⟩ := hs.se.ow i _ hr
  have hA : AO A σ ρ p := .inr ⟨i, _, hr, hp⟩
  refine ⟨_, hp, hk _ σ ρ H _ _ hs.se ek fun u H1 s1 r1 => ⟨p, vs, j.toNat, rfl, ?_, s1 _ _ hc, by rw [rl.length]; omega, by rw [rl.length]; omega, ?_⟩⟩
  · rw [r1.w.int]; congr 1; omega
  · obtain ⟨a, b, _⟩ := hs.put (o2 := .lst (vs.eraseIdx j.toNat)) (d2 := .lst (ds.eraseIdx j.toNat)) hr hp s1 ⟨_, upd_same, RpL.kp (Kp.upd hA) _ _ ((rl.same s1).erase _)⟩
    exact h _ _ a b
end BV
set_option linter.all false
set_option maxRecDepth 100000
set_option maxHeartbeats 4000000
namespace BV
open PySem PySem.Spec PyProof.Rows L2
def env0 (n : Nat) (ds : List D) : Env := ds.map Sl.f ++ List.replicate (n - ds.length) Sl.u
def runF (n : Nat) (G : SF) (ds : List D) : Option D := match G (env0 n ds) with
  | .rt d _ => some d
  | .nx _ => some .non
  | _ => none
theorem env0_get {n : Nat} {ds : List D} {i : Nat} {z : Sl} (h : (env0 n ds)[i]? = some z) : (∃ d, ds[i]? = some d ∧ z = .f d) ∨ z = .u := by
  unfold env0 at h
  by_cases hi : i < ds.length
  · rw [List.getElem?_append_left (by simpa using hi), List.getElem?_map] at h
    obtain ⟨d, h1, h2⟩ := Option.map_eq_some_iff.mp h
    exact .inl ⟨d, h1, h2.symm⟩
  · rw [List.getElem?_append_right (by simpa using hi)] at h
    have := List.mem_of_getElem? h
    exact .inr (List.eq_of_mem_replicate this)
theorem SR.start0 {W : Wd} {A : Av} {H : Hp} {N : List Str} {ds : List D} {vs : List V} (ax : AX A H) (r : RpL W A H ds vs) : SR W A [] H H (L2.start N vs) (env0 N.length ds) ∧ ∀ q, ¬Own (L2.start N vs) (env0 N.length ds) q := by
  have no : ∀ (i : Nat) (d : D), (env0 N.length ds)[i]? ≠ some (.o d) := fun i d e => by
    rcases env0_get e with ⟨_, _, z⟩ | z <;> cases z
  have own : ∀ q, ¬Own (L2.start N vs) (env0 N.length ds) q := fun q ⟨i, d, a, _⟩ => no i d a
  have ao : ∀ q, AO A (L2.start N vs) (env0 N.length ds) q → A q := fun q z => z.elim id fun z => absurd z (own q)
  have hl := r.length
  refine ⟨⟨⟨?_, fun i d e => ?_, fun i d e => absurd e (no i d), fun q z => ax q (ao q z)⟩, fun i j d e p a => absurd a (no i d), fun i d p a => absurd a (no i d), (fun ip h => absurd h (by simp)), ax, fun q z => z⟩, own⟩
  · unfold L2.start env0
    simp [hl]
  · rcases env0_get e with ⟨d', h1, z⟩ | z
    · cases z
      obtain ⟨v, h2, h3⟩ := r.get h1
      refine ⟨v, ?_, Rp.ex (fun q z => .inl (ao q z)) _ _ h3⟩
      have hi : i < vs.length := (List.getElem?_eq_some_iff.mp h2).1
      unfold L2.start
      rw [List.getElem?_append_left (by simpa using hi), List.getElem?_map, h2]; rfl
    · cases z
theorem val_of {P : Program} {w : World} {K : PySem.W.Frag} {mg : Str → Option Value} {base : Heap} {k : Nat} {x : Str} {st : Stmt} {ps N : List Str} {C : Addr} {m : Md} {G : SF} (d : L2.Df K mg x st ps) (S : FnScope N ps (defScope st)) (hm : m ≠ .w)
    (hb : ∀ (f : Addr) (cdv : Value) (A : Around) (outer : List PySem.Env) (s : Shared) (H : Hp) (E : XK), Room k (A.deeper (envOfC x (defScope st) s.heap.objs.size f cdv)) → ∃ t, SsV (cxOf CX0 P w K mg base N x (defScope st) f cdv A outer s H E).nox C m [] (defBody st) t G) :
    L2.Ct P w K mg base (k + 1) x ps (spV ⟨K, mg, C⟩ m ps.length (runF N.length G)) := by
  refine d.ct S (fun vs H Q E h => h.len) (fun f cdv A outer s H vs Q E hr h => ?_)
  obtain ⟨t, sv⟩ := hb f cdv A outer s H E hr
  refine ⟨t, sv.ps, ?_⟩
  obtain ⟨Av, ds, d', hl, ax, r, e, q⟩ := h
  obtain ⟨sr, own⟩ := SR.start0 (N := N) ax r
  refine sv.vs Av [] H _ _ H _ rfl sr ?_
  unfold runF at e
  cases g : G (env0 N.length ds) with
  | rt d2 ρ2 =>
    rw [g] at e
    cases e
    intro v H' rt kx
    exact q v H' (fun b o h => kx b o (own b) h) rt.r
  | nx ρ2 =>
    rw [g] at e
    cases e
    intro σ' H' s' p
    refine q .non H' (fun b o h => p.k b o (own b) h) ?_
    cases m with
    | f => exact Fr.non
    | s => show Rp _ _ _ _ _; unfold Rp; rfl
    | w => exact absurd rfl hm
  | bk ρ2 => rw [g] at e; cases e
  | ct ρ2 => rw [g] at e; cases e
  | no => rw [g] at e; cases e
theorem ct_none {P : Program} {w : World} {K : PySem.W.Frag} {mg : Str → Option Value} {base : Heap} {k k' n : Nat} {x : Str} {ps : List Str} {W W' : Wd} {m m' : Md} {pf : List D → Option D} {pf' : List D → Option D} (c : L2.Ct P w K mg base k x ps (spV W' m' n pf')) (h : ∀ ds, pf ds = none := by intro _; rfl) (hk : k ≤ k' := by omega) : L2.Ct P w K mg base k' x ps (spV W m n pf) :=
  (c.imp fun vs H Q E ⟨A, ds, d, hl, ax, r, e, q⟩ => by rw [h] at e; cases e).mono hk
section
variable {X : Cx} {C : Addr} {rm m ma mb : Md} {io is : List Nat} {e a b c : Expr} {te ta tb : TE} {F Fa Fb : EF} {pos : Pos}
theorem SV.set {i : Nat} {x : Str} {pos' : Pos} (he : EV X C .s e te F) (hN : X.N.Nodup) (hx : X.N[i]? = some x) (hl : Loc X.env.scope x) (hi : i ∉ io) (hs : swapsWith e (some (.Name x pos')) pos.line X.env = pure false := by rfl) (hf : X.fn x = true ∨ X.env.scope.names.lookup x = some .local := by first | exact .inl rfl | exact .inr rfl | assumption) :
    SV X C rm io (.Assign [.Name x pos'] e pos) (tAsg te (gName i)) (sAsg F (bN i)) := ⟨ps_set hN hx hl he.pe hs hf, vs_asg he.ve (vg_name i) fun j hj => (show j = i by simpa using hj) ▸ hi⟩
theorem SV.own {i : Nat} {x : Str} {pos' : Pos} (he : EV X C .f e te F) (hN : X.N.Nodup) (hx : X.N[i]? = some x) (hl : Loc X.env.scope x) (hi : i ∉ io) (hs : swapsWith e (some (.Name x pos')) pos.line X.env = pure false := by rfl) (hf : X.fn x = true ∨ X.env.scope.names.lookup x = some .local := by first | exact .inl rfl | exact .inr rfl | assumption) :
    SV X C rm io (.Assign [.Name x pos'] e pos) (tAsg te (gName i)) (sOwn i F) := ⟨ps_set hN hx hl he.pe hs hf, vs_own he.ve hi⟩
theorem SV.ex (he : EV X C m e te F) (hs : swapsWith e none pos.line X.env = pure false := by rfl) : SV X C rm io (.Expr e pos) (tDrop te) (sE F) := ⟨ps_expr he.pe hs, vs_e he.ve⟩
theorem SV.x {G : XF} (he : XV X C io e te G) (hs : swapsWith e none pos.line X.env = pure false := by rfl) : SV X C rm io (.Expr e pos) (tDrop te) (sX G) := ⟨ps_expr he.pe hs, vs_x he.vx⟩
theorem SV.ret (hm : rm ≠ .w) (he : EV X C rm e te F) : SV X C rm io (.Return (some e) pos) (tRet te) (sRet F) := ⟨ps_ret he.pe, vs_ret hm he.ve⟩
theorem SV.retO {i : Nat} (hm : rm ≠ .w) (he : PE X e (tVar i)) (hi : i ∉ io) : SV X C rm io (.Return (some e) pos) (tRet (tVar i)) (sRetO i) := ⟨ps_ret he, vs_retO hm hi⟩
theorem SV.ite {c : Expr} {t u : List Stmt} {tc : TT} {T : TF} {ts us : TS} {G G' : SF} (hc : TV X C c tc T) (ha : SsV X C rm io t ts G) (hb : SsV X C rm io u us G') : SV X C rm io (.If c t u pos) (tIfS tc ts us) (sIf T G G') := ⟨ps_if hc.pt ha.ps hb.ps, vs_if hc.vt ha.vs hb.vs⟩
theorem SV.wh {c : Expr} {t : List Stmt} {tc : TT} {T : TF} {ts : TS} {G : SF} (hp : PassesOwn (model X.prog X.w) X.A X.env X.xe) (hc : TV X C c tc T) (ha : SsV X C rm io t ts G) : SV X C rm io (.While c t [] pos) (tWhile tc ts) (sWh T G) := ⟨ps_while hp hc.pt ha.ps, vs_wh hc.vt ha.vs⟩
theorem SV.fo {tg it : Expr} {t : List Stmt} {wi : TI} {I : LF} {g : TG} {B : D → Env → Option Env} {ts : TS} {G : SF} (hp : PassesOwn (model X.prog X.w) X.A X.env X.xe) (hc : X.calm = true) (hi : IV X C true tg it wi I) (hg : GV X C is tg g B) (hb : SsV X C rm io t ts G) (ho : ∀ i ∈ is, i ∉ io)
    (hs : ∀ x, foldedSetIterable it X.env x = pure x := by intro _; rfl) : SV X C rm io (.For tg it t [] pos) (tFor wi g ts) (sFor I B G) := ⟨ps_for hp hc hi.pi hg.pg hb.ps hs, vs_for hi.vi hg.vg hb.vs ho⟩
theorem SV.no {st : Stmt} : SV X C rm io st tNever sNo := ⟨ps_never, vs_no⟩
theorem SV.bk : SV X C rm io (.Break pos) tBreak sBk := ⟨ps_break, vs_bk⟩
theorem SV.ct : SV X C rm io (.Continue pos) tCont sCt := ⟨ps_continue, vs_ct⟩
structure IpV (X : Cx) (C : Addr) (op : Operator) (t : TIp) (g : D → D → Option D) : Prop where
  ip : PIp X op t
  iv : ∀ (A : Av) (H : Hp) (x y : V) (a b d : D) (Q : VK), Rw (wd X C) A H a x → Rw (wd X C) A H b y → g a b = some d → (∀ v, Rp (wd X C) A H d v → Q v H) → t x y H Q
def sPar (i j : Nat) (G : AF) : SF := fun ρ => match G ρ with
  | some [x, y] => .nx ((ρ.set i (.f x)).set j (.f y))
  | _ => .no
theorem vs_par {i j : Nat} {ta : TA} {G : AF} (ha : VB (wd X C) ta G) (hi : i ∉ io) (hj : j ∉ io) : VS (wd X C) rm io (tPar i j ta) (sPar i j G) := by
  intro A ia H0 σ ρ H D hio hs h
  unfold sPar at h
  split at h
  case h_2 => exact absurd h id
  case h_1 x y e =>
  refine ha _ σ ρ H _ _ hs.se e fun vs H1 s1 r1 => ?_
  unfold RpL at r1
  obtain ⟨v, t, rfl, a, r1⟩ := r1
  unfold RpL at r1
  obtain ⟨u, t, rfl, b, r1⟩ := r1
  unfold RpL at r1
  subst r1
  have hs1 := hs.same s1
  obtain ⟨sa, sb⟩ := hs1.ups ((hs1.se.set i a).set j b) ((Ups.set i).trans (Ups.set j)) (by
    rw [hio]
    intro k hk
    rcases List.mem_append.mp hk with hk | hk
    · have : k = i := by simpa using hk
      subst this; exact hi
    · have : k = j := by simpa using hk
      subst this; exact hj)
  exact ⟨v, u, rfl, h _ H1 sa ((Stp.same s1).trans sb)⟩
theorem SV.par {i j : Nat} {x y : Str} {px py pt : Pos} {kt k2 pt2} {ta : TA} {G : AF} (hc : X.calm = true) (hN : X.N.Nodup) (hxi : X.N[i]? = some x) (hyj : X.N[j]? = some y) (hij : i ≠ j)
    (hx : X.env.scope.names.lookup x = some .local) (hy : X.env.scope.names.lookup y = some .local) (ha : BV X C [a, b] ta G) (hi : i ∉ io) (hj : j ∉ io)
    (hw : swappedStores [.Tuple [.Name x px, .Name y py] kt pt] (.Tuple [a, b] k2 pt2) X.env = pure (some [x, y]))
    (hs : swapsWithSole [.Tuple [.Name x px, .Name y py] kt pt] (.Tuple [a, b] k2 pt2) pos.line X.env = pure false := by rfl) : SV X C rm io (.Assign [.Tuple [.Name x px, .Name y py] kt pt] (.Tuple [a, b] k2 pt2) pos) (tPar i j ta) (sPar i j G) := ⟨ps_par hc hN hxi hyj hij hx hy ha.pa hw hs, vs_par ha.vb hi hj⟩
theorem SV.put {o k v : Expr} {i : Nat} {ty tv : TE} {Fk Fv : EF} {pos' : Pos} (hu : X.A.units + 1 < cLine) (ho : PE X o (tVar i)) (hk : EV X C m k ty Fk) (hv : EV X C .s v tv Fv) (hg : PG X (.Subscript o k pos') (gSub (tVar i) ty rSetL)) (hs1 : swapsWith v (some (.Subscript o k pos')) pos.line X.env = pure false := by rfl)
    (hs : swapsWithSole [.Subscript o k pos'] v pos.line X.env = pure false := by rfl) (hw : swappedStores [.Subscript o k pos'] v X.env = pure none := by rfl) (h1 : (assignEach [.Subscript o k pos'] X.env).map (·.2) = [assign (.Subscript o k pos') X.env] := by rfl) :
    SV X C rm io (.Assign [.Subscript o k pos'] v pos) (tSetU ty tv i) (sSet i Fk Fv) := ⟨PS.or (ps_asg hv.pe hg hs hw h1) (ps_dput hu ho hk.pe hv.pe hs1), vs_set hk.ve hv.ve⟩
theorem SV.del {o k : Expr} {i : Nat} {ty : TE} {Fk : EF} {tpos : Pos} (ho : PE X o (tVar i)) (hk : EV X C m k ty Fk) : SV X C rm io (.Delete [.Subscript o k tpos] pos) (sLDel (tVar i) ty) (sDel i Fk) := ⟨ps_ldel ho hk.pe, vs_del hk.ve⟩
end
end BV
set_option linter.all false
set_option maxRecDepth 100000
set_option maxHeartbeats 4000000
namespace L2
open PySem PySem.Spec PyProof.Rows PySem.W
section
variable {X : Cx} {pins : List (Addr × Obj)} {σ : St} {H : Hp} {s : Shared}
end
end L2
namespace BV
open PySem PySem.Spec PyProof.Rows L2
structure CV (X : Cx) (C : Addr) (m : Md) (f : Value) (r : List V → Hp → VK → Prop) (g : List D → Option D) : Prop where
  cr : CallR X f r
  cv : ∀ (A : Av) (H : Hp) (vs : List V) (ds : List D) (d : D) (Q : VK), AX A H → RwL (wd X C) A H ds vs → g ds = some d → (∀ v H', Same H H' → rep (wd X C) A H H' d v m → Q v H') → r vs H Q
section
variable {X : Cx} {C : Addr} {m : Md} {e : Expr} {es : List Expr} {pos p : Pos}
theorem ve_cv {f : Value} {r : List V → Hp → VK → Prop} {g : List D → Option D} {ta : TA} {G : AF} (c : CV X C m f r g) (ha : VA (wd X C) ta G) : VE (wd X C) m (tCB r ta) (eN g G) := by
  intro A σ ρ H Q d hs e k
  unfold eN at e
  obtain ⟨ds, e1, e⟩ := Option.bind_eq_some_iff.mp e
  exact ha A σ ρ H _ ds hs e1 fun vs H1 s1 r1 => c.cv A H1 vs ds d Q (hs.same s1).ax r1 e fun v H2 s2 r2 => k v H2 (s1.trans s2) (r2.back s1)
theorem EV.cb {x : Str} {id : String} {r : List V → Hp → VK → Prop} {g : List D → Option D} {ta : TA} {G : AF} (c : CV X C m (.builtin id) r g) (hg : Gl X x) (hm : X.mg x = none) (hv : bootBuiltins x = some (.builtin id)) (ha : AV X C (e :: es) ta G) (hn : x ≠ "__name__" := by decide) (hdb : (x == ("__debug__" : Str)) = false := by decide)
    (he : starEach (e :: es) X.env = (false, eval e X.env) :: starEach es X.env := by rfl) (hpl : (backTo pos (starEach es X.env)).any (·.1) = false := by rfl) : EV X C m (.Call (.Name x p) (e :: es) [] pos) (tCB r ta) (eN g G) := ⟨pe_callB c.cr hg hm hv ha.pa hn hdb he hpl, ve_cv c ha.va⟩
theorem EV.cty {x : Str} {id : String} {r : List V → Hp → VK → Prop} {g : List D → Option D} {ta : TA} {G : AF} (c : CV X C m (.type id) r g) (hg : Gl X x) (hm : X.mg x = none) (hv : bootBuiltins x = some (.type id)) (ha : AV X C (e :: es) ta G) (hn : x ≠ "__name__" := by decide) (hdb : (x == ("__debug__" : Str)) = false := by decide)
    (he : starEach (e :: es) X.env = (false, eval e X.env) :: starEach es X.env := by rfl) (hpl : (backTo pos (starEach es X.env)).any (·.1) = false := by rfl) : EV X C m (.Call (.Name x p) (e :: es) [] pos) (tCB r ta) (eN g G) := ⟨pe_callTy c.cr hg hm hv ha.pa hn hdb he hpl, ve_cv c ha.va⟩
theorem EV.ty {x : Str} {T : String} (hg : Gl X x) (hm : X.mg x = none) (hb : bootBuiltins x = some (.type T)) (hn : x ≠ Str.ofString "__name__" := by decide) (hd : (x == Str.ofString "__debug__") = false := by decide) : EV X C .f (.Name x pos) (tC (.ty T)) (eC (.ty T)) := ⟨pe_ty hg hm hb hn hd, fun A σ ρ H Q d hs e k => by
  cases e; exact k _ _ Same.rfl ⟨by unfold Rp; rfl, fun z => nomatch z⟩⟩
theorem RwL.one {W : Wd} {A : Av} {H : Hp} {d : D} {vs : List V} (h : RwL W A H [d] vs) : ∃ v, vs = [v] ∧ Rw W A H d v := by
  obtain ⟨v, r, rfl, a, b⟩ := h
  cases b
  exact ⟨v, rfl, a⟩
theorem RwL.two {W : Wd} {A : Av} {H : Hp} {d e : D} {vs : List V} (h : RwL W A H [d, e] vs) : ∃ v u, vs = [v, u] ∧ Rw W A H d v ∧ Rw W A H e u := by
  obtain ⟨v, r, rfl, a, b⟩ := h
  obtain ⟨u, rfl, c⟩ := RwL.one b
  exact ⟨v, u, rfl, a, c⟩
def lenD : List D → Option D
  | [.str z] => if z.length ≤ LN then some (.int z.length) else none
  | [d] => (seqD d).map fun ds => .int ds.length
  | _ => none
def rLenU (K : PySem.W.Frag) : List V → Hp → VK → Prop := fun xs H Q => (∃ p ys, xs = [.ref p] ∧ (SqL K H p ys ∨ SqT K H p ys) ∧ Q (.int ys.length) H) ∨ (∃ z, xs = [.str z] ∧ z.length ≤ sizeLine ∧ Q (.int z.length) H)
theorem cv_len : CV X C .f (.builtin "len") (rLenU X.K) lenD := ⟨CallR.or call_len_seq call_len_str, fun A H vs ds d Q ax r e k => by
  unfold lenD at e
  split at e
  case h_1 z =>
    split at e
    case isFalse => cases e
    case isTrue hl => cases e; obtain ⟨v, rfl, a⟩ := r.one; exact .inr ⟨z, by rw [a.str], LN_le hl, k _ H Same.rfl Fr.int⟩
  case h_2 d' _ =>
    obtain ⟨es, e1, rfl⟩ := Option.map_eq_some_iff.mp e
    obtain ⟨v, rfl, a⟩ := r.one
    obtain ⟨p, us, rfl, q, rl⟩ := a.seq e1
    refine .inl ⟨p, us, rfl, q, ?_⟩
    rw [rl.length]
    exact k _ H Same.rfl Fr.int
  case h_3 => cases e⟩
def tupleD : List D → Option D
  | [.lst ds] => some (.tup ds)
  | [.tup ds] => some (.tup ds)
  | _ => none
def rTupU (K : PySem.W.Frag) : List V → Hp → VK → Prop := fun xs H Q => ∃ p ys, xs = [.ref p] ∧ ((SqL K H p ys ∧ ∀ l, H l = none → Q (.ref l) (upd H l (.tup ys))) ∨ (SqT K H p ys ∧ Q (.ref p) H))
theorem cv_tuple : CV X C .f (.type "tuple") (rTupU X.K) tupleD := ⟨call_tuple_of, fun A H vs ds d Q ax r e k => by
  unfold tupleD at e
  split at e
  case h_1 es =>
    cases e
    obtain ⟨v, rfl, a⟩ := r.one
    obtain ⟨p, us, rfl, q, rl⟩ := a.lst
    refine ⟨p, us, rfl, .inl ⟨q, fun l hl => ?_⟩⟩
    obtain ⟨s, f⟩ := Fr.tupN ax hl rl
    exact k _ _ s f
  case h_2 es =>
    cases e
    obtain ⟨v, rfl, a⟩ := r.one
    obtain ⟨p, us, rfl, q, rl⟩ := a.tup
    exact ⟨p, us, rfl, .inr ⟨q.sq, k _ H Same.rfl ⟨by unfold Rp; exact ⟨p, us, rfl, q, rl⟩, fun z => nomatch z⟩⟩⟩
  case h_3 => cases e⟩
def listD : List D → Option D
  | [d] => (seqD d).map D.lst
  | _ => none
def rLstU (K : PySem.W.Frag) : List V → Hp → VK → Prop := fun xs H Q => ∃ p ys, xs = [.ref p] ∧ (SqL K H p ys ∨ SqT K H p ys) ∧ ∀ l, H l = none → Q (.ref l) (upd H l (.lst ys))
theorem cv_list : CV X C .f (.type "list") (rLstU X.K) listD := ⟨call_list_of, fun A H vs ds d Q ax r e k => by
  unfold listD at e
  split at e
  case h_1 d' =>
    obtain ⟨es, e1, rfl⟩ := Option.map_eq_some_iff.mp e
    obtain ⟨v, rfl, a⟩ := r.one
    obtain ⟨p, us, rfl, q, rl⟩ := a.seq e1
    refine ⟨p, us, rfl, q, fun l hl => ?_⟩
    obtain ⟨s, f⟩ := Fr.lstN ax hl rl
    exact k _ _ s f
  case h_2 => cases e⟩
def absD : List D → Option D
  | [.int i] => some (.int (if i < 0 then -i else i))
  | _ => none
def int1D : List D → Option D
  | [.int i] => some (.int i)
  | [.bl b] => some (.int (if b = true then 1 else 0))
  | _ => none
def tyN : D → Option String
  | .non => some "NoneType"
  | .bl _ => some "bool"
  | .int _ => some "int"
  | .str _ => some "str"
  | .tup _ => some "tuple"
  | .lst _ => some "list"
  | _ => none
def isiT (t c : String) : Option Bool := match c with
  | "int" => some (t == "int" || t == "bool")
  | "bool" => some (t == "bool")
  | "str" => some (t == "str")
  | "tuple" => some (t == "tuple")
  | "list" => some (t == "list")
  | _ => none
def isiD : List D → Option D
  | [d, .ty c] => (tyN d).bind fun t => (isiT t c).map D.bl
  | _ => none
theorem Rw.tyOf {W : Wd} {A : Av} {H : Hp} {d : D} {v : V} {t : String} (h : Rw W A H d v) (e : tyN d = some t) : TyOf W.K H v (.type t) := by
  cases d <;> first | (cases e; done) | skip
  · cases e; rw [h.non]; exact .non
  · cases e; rw [h.bl]; exact .bl _
  · cases e; rw [h.int]; exact .int _
  · cases e; rw [h.str]; exact .str _
  · cases e; obtain ⟨p, vs, rfl, q, _⟩ := h.tup; exact .tup q.2
  · cases e
    obtain ⟨p, vs, rfl, q, _⟩ := h.lstR
    rcases q with q | ⟨o, q⟩
    · exact .lst q
    · exact .frz q
theorem tyN_mem {d : D} {t : String} (e : tyN d = some t) : t = "NoneType" ∨ t = "bool" ∨ t = "int" ∨ t = "str" ∨ t = "tuple" ∨ t = "list" := by
  cases d <;> cases e <;> simp
theorem isiT_ok {K : PySem.W.Frag} {t c : String} {b : Bool} (ht : t = "NoneType" ∨ t = "bool" ∨ t = "int" ∨ t = "str" ∨ t = "tuple" ∨ t = "list") (e : isiT t c = some b) : PySem.W.kitOne K (.type t) (.type c) = some b := by
  unfold isiT at e
  split at e
  all_goals first | (cases e; done) | skip
  all_goals (cases e; rcases ht with rfl | rfl | rfl | rfl | rfl | rfl <;> rfl)
theorem cv_isi : CV X C .f (.builtin "isinstance") (rIsi X.K) isiD := ⟨call_isi, fun A H vs ds d Q ax r e k => by
  unfold isiD at e
  split at e
  case h_1 d' c =>
    obtain ⟨t, e1, e⟩ := Option.bind_eq_some_iff.mp e
    obtain ⟨b, e2, rfl⟩ := Option.map_eq_some_iff.mp e
    obtain ⟨v, u, rfl, a, b'⟩ := r.two
    have hu : u = .ty c := by
      rcases b' with h | ⟨p, _, _, h⟩
      · unfold Rp at h; exact h
      · exact absurd h id
    subst hu
    exact ⟨v, c, .type t, b, rfl, a.tyOf e1, isiT_ok (tyN_mem e1) e2, k _ H Same.rfl Fr.bl⟩
  case h_2 => cases e⟩
def blenD : D → Option D
  | .int i => some (.int (bt i))
  | _ => none
end
end BV
set_option linter.all false
set_option maxRecDepth 100000
set_option maxHeartbeats 4000000
namespace BV
open PySem PySem.Spec PyProof.Rows L2
section
variable {X : Cx} {C : Addr} {tg e e2 : Expr} {te : TE} {F : EF} {m : Md} {p pos : Pos}
def iSeq (K : PySem.W.Frag) (te : TE) : TI := fun σ H R => iList K te σ H R ∨ iTup K te σ H R
theorem VI.cases {W : Wd} {te : TE} {F : EF} {b : Bool} (h1 : VI W b (iList W.K te) (iE lsD F)) (h2 : VI W b (iTup W.K te) (iE tpD F)) : VI W b (iSeq W.K te) (iE seqD F) := fun A σ ρ H R ds hs e k => by
  unfold iE at e
  obtain ⟨d, e1, e⟩ := Option.bind_eq_some_iff.mp e
  cases d <;> first | (cases e; done) | skip
  · exact .inr (h2 A σ ρ H R ds hs (by unfold iE; rw [e1]; exact e) k)
  · exact .inl (h1 A σ ρ H R ds hs (by unfold iE; rw [e1]; exact e) k)
  · exact .inr (h2 A σ ρ H R ds hs (by unfold iE; rw [e1]; exact e) k)
  · exact .inl (h1 A σ ρ H R ds hs (by unfold iE; rw [e1]; exact e) k)
theorem IV.seq (h : EV X C m e te F) : IV X C false tg e (iSeq X.K te) (iE seqD F) := ⟨PI.or (pi_list h.pe) (pi_tup h.pe), VI.cases (W := wd X C) (IV.lst (tg := tg) h).vi (IV.tup (tg := tg) h).vi.weak⟩
theorem IV.seqS (h : EV X C .s e te F) : IV X C true tg e (iSeq X.K te) (iE seqD F) := ⟨PI.or (pi_list h.pe) (pi_tup h.pe), VI.cases (W := wd X C) (IV.lstS (tg := tg) h).vi (IV.tup (tg := tg) h).vi⟩
def enD (ds : List D) : List D := (List.range ds.length).zipWith (fun (i : Nat) (d : D) => D.tup [.int (i : Int), d]) ds
theorem enD_get {ds : List D} {i : Nat} {z : D} (h : (enD ds)[i]? = some z) : ∃ d, ds[i]? = some d ∧ z = .tup [.int (i : Int), d] := by
  unfold enD at h
  rw [List.getElem?_zipWith] at h
  cases hd : ds[i]? with
  | none => rw [hd] at h; cases hx : (List.range ds.length)[i]? <;> rw [hx] at h <;> cases h
  | some d =>
    have hi : i < ds.length := (List.getElem?_eq_some_iff.mp hd).1
    rw [hd, List.getElem?_range hi] at h
    exact ⟨d, rfl, (Option.some.inj h).symm⟩
theorem enD_length (ds : List D) : (enD ds).length = ds.length := by unfold enD; simp
theorem Rp.pair {W : Wd} {A : Av} {H : Hp} {T : Addr} {a b : D} {x y : V} (ax : AX A H) (n : H T = none) (r1 : Rp W A H a x) (r2 : Rp W A H b y) : Same H (upd H T (.tup [x, y])) ∧ Rp W A (upd H T (.tup [x, y])) (.tup [a, b]) (.ref T) := by
  obtain ⟨s, f⟩ := Fr.tupN ax n (RpL.consI r1 (RpL.one r2))
  exact ⟨s, f.1⟩
theorem ite {W : Wd} {A : Av} {H1 : Hp} {P : Hp → Prop} {a : Addr} {vs : List V} {ds : List D} (r : RpL W A H1 ds vs) (k : ∀ H, P H → SqL W.K H a vs ∧ Kp A H1 H) : ItR W A H1 P (Ite W.K a) (enD ds) := by
  intro A' H ex ax p i
  obtain ⟨q, kp⟩ := k H p
  refine ⟨fun z hz => ?_, fun hl => ⟨vs, q, by rw [r.length]; rw [enD_length] at hl; exact hl⟩⟩
  obtain ⟨d, hd, rfl⟩ := enD_get hz
  obtain ⟨v, hv, rv⟩ := r.get hd
  refine ⟨⟨vs, v, q, hv⟩, fun x H' hy => ?_⟩
  obtain ⟨T, y, rfl, n, rfl, hy⟩ := hy
  have e : y = v := by have := hy vs q; rw [hv] at this; exact (Option.some.inj this).symm
  subst e
  exact Rp.pair ax n (Rp.int_iff.mpr rfl) (rv.go kp ex)
def enuD : List D → Option (List D)
  | [.lst ds] => some (enD ds)
  | _ => none
def zpD (xs ys : List D) : List D := xs.zipWith (fun a b => .tup [a, b]) ys
theorem itz {W : Wd} {A : Av} {H1 : Hp} {P : Hp → Prop} {a b : Addr} {vs us : List V} {ds es : List D} (r : RpL W A H1 ds vs) (r' : RpL W A H1 es us) (k : ∀ H, P H → SqL W.K H a vs ∧ SqL W.K H b us ∧ Kp A H1 H) : ItR W A H1 P (Itz W.K a b) (zpD ds es) := by
  intro A' H ex ax p i
  obtain ⟨q, q', kp⟩ := k H p
  have hl : (zpD ds es).length = min ds.length es.length := by unfold zpD; simp
  refine ⟨fun z hz => ?_, fun hn => ⟨vs, us, q, q', by rw [r.length, r'.length]; rw [hl] at hn; omega⟩⟩
  unfold zpD at hz
  rw [List.getElem?_zipWith] at hz
  cases hd : ds[i]? with
  | none => rw [hd] at hz; cases hz
  | some d =>
  cases hd' : es[i]? with
  | none => rw [hd, hd'] at hz; cases hz
  | some d' =>
  rw [hd, hd'] at hz
  obtain rfl : D.tup [d, d'] = z := Option.some.inj hz
  obtain ⟨v, hv, rv⟩ := r.get hd
  obtain ⟨v', hv', rv'⟩ := r'.get hd'
  refine ⟨⟨vs, us, v, v', q, q', hv, hv'⟩, fun x H' hy => ?_⟩
  obtain ⟨T, y, y', rfl, n, rfl, hy, hy'⟩ := hy
  have e : y = v := by have := hy vs q; rw [hv] at this; exact (Option.some.inj this).symm
  have e' : y' = v' := by have := hy' us q'; rw [hv'] at this; exact (Option.some.inj this).symm
  subst e e'
  exact Rp.pair ax n (rv.go kp ex) (rv'.go kp ex)
theorem itzt {W : Wd} {A : Av} {H1 : Hp} {P : Hp → Prop} {a b : Addr} {vs us : List V} {ds es : List D} (r : RpL W A H1 ds vs) (r' : RpL W A H1 es us) (k : ∀ H, P H → SqT W.K H a vs ∧ SqT W.K H b us ∧ Kp A H1 H) : ItR W A H1 P (Itzt W.K a b) (zpD ds es) := by
  intro A' H ex ax p i
  obtain ⟨q, q', kp⟩ := k H p
  have hl : (zpD ds es).length = min ds.length es.length := by unfold zpD; simp
  refine ⟨fun z hz => ?_, fun hn => ⟨vs, us, q, q', by rw [r.length, r'.length]; rw [hl] at hn; omega⟩⟩
  unfold zpD at hz
  rw [List.getElem?_zipWith] at hz
  cases hd : ds[i]? with
  | none => rw [hd] at hz; cases hz
  | some d =>
  cases hd' : es[i]? with
  | none => rw [hd, hd'] at hz; cases hz
  | some d' =>
  rw [hd, hd'] at hz
  obtain rfl : D.tup [d, d'] = z := Option.some.inj hz
  obtain ⟨v, hv, rv⟩ := r.get hd
  obtain ⟨v', hv', rv'⟩ := r'.get hd'
  refine ⟨⟨vs, us, v, v', q, q', hv, hv'⟩, fun x H' hy => ?_⟩
  obtain ⟨T, y, y', rfl, n, rfl, hy, hy'⟩ := hy
  have e : y = v := by have := hy vs q; rw [hv] at this; exact (Option.some.inj this).symm
  have e' : y' = v' := by have := hy' us q'; rw [hv'] at this; exact (Option.some.inj this).symm
  subst e e'
  exact Rp.pair ax n (rv.go kp ex) (rv'.go kp ex)
def zipD : List D → Option (List D)
  | [.lst xs, .lst ys] => some (zpD xs ys)
  | [.tup xs, .tup ys] => some (zpD xs ys)
  | _ => none
def iZipU (K : PySem.W.Frag) (ta : TA) : TI := fun σ H R => iZip K ta σ H R ∨ iZipT K ta σ H R
theorem vi_zip {ta : TA} {G : AF} (h : VA (wd X C) ta G) : VI (wd X C) false (iZipU X.K ta) (iA zipD G) := fun A σ ρ H R ds hs e k => by
  unfold iA at e
  obtain ⟨d, e1, e⟩ := Option.bind_eq_some_iff.mp e
  unfold zipD at e
  split at e
  case h_3 => cases e
  case h_1 xs ys =>
    cases e
    left
    refine h A σ ρ H _ _ hs e1 fun vs H1 s1 r1 => ?_
    obtain ⟨v, u, rfl, a, b⟩ := r1.two
    obtain ⟨p, us, rfl, q, r⟩ := a.lst
    obtain ⟨p', us', rfl, q', r'⟩ := b.lst
    refine ⟨p, p', us, us', rfl, q, q', k _ H1 s1 (itz r r' fun H' p' => ?_)⟩
    simp only [Bool.false_eq_true, if_false] at p'
    exact ⟨SqL.same q p', SqL.same q' p', .same p'⟩
  case h_2 xs ys =>
    cases e
    right
    refine h A σ ρ H _ _ hs e1 fun vs H1 s1 r1 => ?_
    obtain ⟨v, u, rfl, a, b⟩ := r1.two
    obtain ⟨p, us, rfl, q, r⟩ := a.tup
    obtain ⟨p', us', rfl, q', r'⟩ := b.tup
    refine ⟨p, p', us, us', rfl, q.sq, q'.sq, k _ H1 s1 (itzt r r' fun H' p' => ?_)⟩
    simp only [Bool.false_eq_true, if_false] at p'
    exact ⟨(q.kp (.same p')).sq, (q'.kp (.same p')).sq, .same p'⟩
theorem IV.zip {ta : TA} {G : AF} {tpos : Pos} {elts : List Expr} {kk : Nat} (hg : Gl X "zip") (hm : X.mg "zip" = none) (ha : AV X C [e, e2] ta G) (h1 : PI X (.Tuple elts kk tpos) (.Call (.Name "zip" p) [e, e2] [] pos) (iZip X.K ta)) (h2 : PI X (.Tuple elts kk tpos) (.Call (.Name "zip" p) [e, e2] [] pos) (iZipT X.K ta)) :
    IV X C false (.Tuple elts kk tpos) (.Call (.Name "zip" p) [e, e2] [] pos) (iZipU X.K ta) (iA zipD G) := ⟨PI.or h1 h2, vi_zip ha.va⟩
variable {io : List Nat} {o : Expr} {apos cpos : Pos}
theorem XV.app {i : Nat} {ta : TA} {G : AF} (ho : PE X o (tVar i)) (ha : BV X C [e] ta G) (hbase : attributeBase o ("append" : Str) X.env (eval o X.env) = eval o X.env := by rfl)
    (hfew : ((backTo cpos (starEach [e] X.env)).all (fun x => !x.1) && (backToKw cpos (keywordEach [] X.env)).all (fun x => x.1.isSome) && decide ([e].length + ([] : List Keyword).length + (if ([] : List Keyword).isEmpty then 0 else 1) < 30)) = true := by rfl)
    (hline : (apos.endLine == cpos.line) = true := by rfl) (hs : starEach [e] X.env = (false, eval e X.env) :: starEach [] X.env := by rfl) (hplain : (backTo cpos (starEach [] X.env)).any (·.1) = false := by rfl) :
    XV X C io (.Call (.Attribute o ("append" : Str) apos) [e] [] cpos) (tBM X.K "list" rAppend (tVar i) ta) (xL i gApp G) := ⟨pe_bm PySem.F.plainAttrs_list PySem.F.slot_list_append PySem.F.type_list_append mt_append ho ha.pa hbase hfew hline hs hplain, vx_lm (W := wd X C) lm_append ha.vb⟩
theorem XV.ins {i : Nat} {ta : TA} {G : AF} (ho : PE X o (tVar i)) (ha : BV X C [e, e2] ta G) (hbase : attributeBase o ("insert" : Str) X.env (eval o X.env) = eval o X.env := by rfl)
    (hfew : ((backTo cpos (starEach [e, e2] X.env)).all (fun x => !x.1) && (backToKw cpos (keywordEach [] X.env)).all (fun x => x.1.isSome) && decide ([e, e2].length + ([] : List Keyword).length + (if ([] : List Keyword).isEmpty then 0 else 1) < 30)) = true := by rfl)
    (hline : (apos.endLine == cpos.line) = true := by rfl) (hs : starEach [e, e2] X.env = (false, eval e X.env) :: starEach [e2] X.env := by rfl) (hplain : (backTo cpos (starEach [e2] X.env)).any (·.1) = false := by rfl) :
    XV X C io (.Call (.Attribute o ("insert" : Str) apos) [e, e2] [] cpos) (tBM X.K "list" rIns (tVar i) ta) (xL i gIns G) := ⟨pe_bm PySem.F.plainAttrs_list PySem.F.slot_list_insert PySem.F.type_list_insert mt_insert ho ha.pa hbase hfew hline hs hplain, vx_lm (W := wd X C) lm_insert ha.vb⟩
end
end BV
set_option linter.all false
set_option maxRecDepth 100000
set_option maxHeartbeats 4000000
namespace BV
open PySem PySem.Spec PyProof.Rows L2
section
variable {X : Cx} {C : Addr} {tg e e2 : Expr} {te : TE} {F : EF} {m rm : Md} {p pos : Pos} {io : List Nat}
theorem SV.doc {x : Str} {j : Nat} {pos' : Pos} : SV X C rm io (.Expr (.Constant (.str x) j pos) pos') tNext sNil := ⟨ps_doc, vs_nx⟩
theorem ve_lcX {elt iter : Expr} {ifs : List Expr} {scope : Scope} {own : List (Str × Nat)} {wi : TI} {g : TG} {tt : TT} {te : TE} {bb : Bool} {is : List Nat} {I : LF} {B : D → Env → Option Env} {T : TF} {F : EF}
    (hi : IV X C bb tg iter wi I) (hg : ∀ (s : Shared) (H : Hp) (D : Addr) (cl : List (Str × Addr)) (fp : List Addr), GV (X.blk s H scope (compEnvC scope cl D X.env) fp) C is tg g B)
    (ht : ∀ (s : Shared) (H : Hp) (D : Addr) (cl : List (Str × Addr)) (fp : List Addr), TsV (X.blk s H scope (compEnvC scope cl D X.env) fp) C ifs tt T)
    (he : ∀ (s : Shared) (H : Hp) (D : Addr) (cl : List (Str × Addr)) (fp : List Addr), EV (X.blk s H scope (compEnvC scope cl D X.env) fp) C .s elt te F) (hv : ∀ i ∈ is, i ∈ own.map (·.2)) :
    VE (wd X C) .f (tLc wi g tt te (own.map (·.2))) (eLc I B T F (own.map (·.2))) := ve_lc (m := .s) hi.vi (hg X.s_0 X.H_0 0 [] []).vg (ht X.s_0 X.H_0 0 [] []).vt (he X.s_0 X.H_0 0 [] []).ve hv
theorem VE.st {W : Wd} {te : TE} {F : EF} (h : VE W .f te F) : VE W .s te F := fun A σ ρ H Q d hs e k => h A σ ρ H Q d hs e fun v H' s r => k v H' s r.1
theorem SV.ownLc {i : Nat} {y : Str} {py : Pos} {elt iter : Expr} {ifs : List Expr} {scope : Scope} {own : List (Str × Nat)} {spos : Pos} {wi : TI} {g : TG} {tt : TT} {te : TE} {bb : Bool} {is : List Nat} {I : LF} {B : D → Env → Option Env} {T : TF} {F : EF}
    (hc : X.calm = true) (hN : X.N.Nodup) (hi : IV X C bb tg iter wi I) (ok : BlkOk X.N X.env.scope scope own)
    (hg : ∀ (s : Shared) (H : Hp) (D : Addr) (cl : List (Str × Addr)) (fp : List Addr), GV (X.blk s H scope (compEnvC scope cl D X.env) fp) C is tg g B)
    (ht : ∀ (s : Shared) (H : Hp) (D : Addr) (cl : List (Str × Addr)) (fp : List Addr), TsV (X.blk s H scope (compEnvC scope cl D X.env) fp) C ifs tt T)
    (he : ∀ (s : Shared) (H : Hp) (D : Addr) (cl : List (Str × Addr)) (fp : List Addr), EV (X.blk s H scope (compEnvC scope cl D X.env) fp) C .s elt te F) (hv : ∀ i ∈ is, i ∈ own.map (·.2))
    (hy : X.N[i]? = some y) (hyl : X.env.scope.names.lookup y = some .local) (hsw : swapsWith (.ListComp elt [⟨tg, iter, ifs, 0⟩] scope pos) (some (.Name y py)) spos.line X.env = pure true) (ho : i ∉ io) (hs : ∀ x, foldedSetIterable iter X.env x = pure x := by intro _; rfl) :
    SV X C rm io (.Assign [.Name y py] (.ListComp elt [⟨tg, iter, ifs, 0⟩] scope pos) spos) (tAsg (tLc wi g tt te (own.map (·.2))) (gName i)) (sOwn i (eLc I B T F (own.map (·.2)))) :=
  ⟨ps_setLc hc hN hy hyl hsw hi.pi ok (fun s H D cl fp => (hg s H D cl fp).pg) (fun s H D cl fp => (ht s H D cl fp).pt) (fun s H D cl fp => (he s H D cl fp).pe) hs,
   vs_own (ve_lcX hi hg ht he hv) ho⟩
theorem New.same {H H' : Hp} {p : Addr} {o : HO} (n : New H p o H') : Same H H' := n.s
def sqOk (sq : List Int) : Bool := decide (sq.length ≤ 5) && sq.all fun z => decide (z = 1 ∨ z = -1 ∨ z = 0)
def kindD : List D → Option D
  | [.lst ds] => (intsD ds).bind fun sq => if sqOk sq = true then some (.kind sq) else none
  | _ => none
theorem EV.mkK {ta : TA} {G : AF} {k : Nat} {ps : List Str} (c : CtM X.prog X.w X.K X.mg X.base k "Kind" C ps (Toy.spInit X.K C)) (hr : Room (k + 1) X.A) (hg : Gl X "Kind") (ha : AV X C [e] ta G) (he : starEach [e] X.env = (false, eval e X.env) :: starEach [] X.env := by rfl) (hpl : (backTo pos (starEach [] X.env)).any (·.1) = false := by rfl) :
    EV X C .f (.Call (.Name "Kind" p) [e] [] pos) (tMake C (Toy.spInit X.K C) [] E0 ta) (eN kindD G) := ⟨pe_makeC c hr hg ha.pa (by decide) he hpl, fun A σ ρ H Q d hs e k => by
    unfold eN at e
    obtain ⟨ds, e1, e⟩ := Option.bind_eq_some_iff.mp e
    unfold kindD at e
    split at e
    case h_2 => cases e
    case h_1 es =>
    obtain ⟨sq, e2, e⟩ := Option.bind_eq_some_iff.mp e
    split at e
    case isFalse => cases e
    case isTrue hq =>
    cases e
    unfold sqOk at hq
    simp only [Bool.and_eq_true, decide_eq_true_eq, List.all_eq_true] at hq
    refine ha.va A σ ρ H _ _ hs e1 fun vs H1 s1 r1 => ?_
    obtain ⟨v, rfl, a⟩ := r1.one
    obtain ⟨q, us, rfl, sl, rl⟩ := a.lstR
    rw [intsD_eq e2] at rl
    have := rl.ints_inv
    subst this
    intro x dx nx ndx nex
    have es : Same H1 (upd (upd H1 dx (.own x)) x (.ins C dx [])) := fun b o h => by
      rw [upd_ne (ne_of_none h nx), upd_ne (ne_of_none h ndx)]; exact h
    have hne : q ≠ x := fun z => by subst z; exact Rd.some sl nx
    refine ⟨x, dx, q, sq, rfl, upd_same, SqL.same (.inl sl) es, hne, ⟨hq.1, fun z hz => hq.2 z hz⟩, fun H3 kp hk => ⟨rfl, ?_⟩⟩
    have s3 : Same H1 H3 := fun b o h => kp b o (ne_of_none h nx) (es _ _ h)
    have ax3 : AX A H3 := ((hs.same s1).same s3).ax
    obtain ⟨dx', t, h1, h2⟩ := hk
    refine k _ H3 (s1.trans s3) ⟨?_, fun z => nomatch z⟩
    unfold Rp
    refine ⟨x, dx', t, rfl, fun z => ?_, h1, fun z => ?_, h2⟩
    · obtain ⟨o, y1, y2⟩ := ax3 x z; rw [h1] at y1; cases y1; exact y2
    · obtain ⟨o, y1, y2⟩ := ax3 t z; rw [h2] at y1; cases y1; exact y2⟩
def tupsD : List D → Option (List (List Int))
  | [] => some []
  | .tup d :: ds => (intsD d).bind fun ns => (tupsD ds).map (ns :: ·)
  | _ => none
def inlD : List (List Key) → Option (List (List Int))
  | [] => some []
  | k :: ks => (inl1 k).bind fun ns => (inlD ks).map (ns :: ·)
where inl1 : List Key → Option (List Int)
  | [] => some []
  | .inl i :: r => (inl1 r).map (i :: ·)
  | .inr _ :: _ => none
def tuD (ns : List Int) : D := .tup (ns.map D.int)
def sortD : List D → Option D
  | [.lst ds] => match intsD ds with
    | some ns => if ns.length < 64 then some (.lst ((ns.mergeSort (fun a b => decide (a ≤ b))).map D.int)) else none
    | none => (tupsD ds).bind fun nss => if nss.length < 64 then some (.lst ((srt nss).map tuD)) else none
  | [.dt ks _] => (inlD ks).bind fun nss => if nss.length < 64 then some (.lst ((srt nss).map tuD)) else none
  | _ => none
end
end BV
set_option linter.all false
set_option maxRecDepth 100000
set_option maxHeartbeats 4000000
namespace BV
open PySem PySem.Spec PyProof.Rows L2
section
variable {X : Cx} {C : Addr} {a b c e e' : Expr} {es : List Expr} {m ma mb mc rm : Md} {ta tb tc te : TE} {Fa Fb Fc F : EF} {pos p : Pos} {io is : List Nat}
variable (K : PySem.W.Frag) (mg : Str → Option Value)
theorem ov_add' (hK : X.K = K := by rfl) : OV X C .f (binaryOp .Add) (rAddU K) addD := by subst hK; exact ov_add
theorem ov_eq' (hu : X.A.units + 64 < cLine) (hK : X.K = K := by rfl) : OV X C .f (compareOp .Eq) (rEqD K) eqD := by subst hK; exact ov_eq hu
theorem ov_ne' (hu : X.A.units + 64 < cLine) (hK : X.K = K := by rfl) : OV X C .f (compareOp .NotEq) (rNeD K) neD := by subst hK; exact ov_ne hu
theorem ov_notIn' (hK : X.K = K := by rfl) : OV X C .f (compareOp .NotIn) (rIn K true) (inD true) := by subst hK; exact ov_notIn
theorem EV.ix' (hu : X.A.units + 1 < cLine) (ha : EV X C ma a ta Fa) (hb : EV X C mb b tb Fb) (hs : PlainIx b) (hK : X.K = K := by rfl) : EV X C .s (.Subscript a b pos) (tIxU K ta tb) (e2 ixD Fa Fb) := by subst hK; exact EV.ix hu ha hb hs
theorem EV.cnt' (T : Toy.KC X.K C) (h : EV X C m e te F) (hb : attributeBase e ("count" : Str) X.env (eval e X.env) = eval e X.env := by rfl) (hK : X.K = K := by rfl) : EV X C .f (.Attribute e ("count" : Str) pos) (tFld K te ("count" : Str)) (e1 cntD F) := by subst hK; exact EV.cnt T h hb
theorem EV.sqr' (T : Toy.KC X.K C) (h : EV X C m e te F) (hb : attributeBase e ("squares" : Str) X.env (eval e X.env) = eval e X.env := by rfl) (hK : X.K = K := by rfl) : EV X C .f (.Attribute e ("squares" : Str) pos) (tFld K te ("squares" : Str)) (e1 sqrD F) := by subst hK; exact EV.sqr T h hb
theorem TV.tru' (h : EV X C m e te F) (he : ∀ whole, isTrue e X.env whole = (do let v ← whole; standAt e.pos; holding [v] (truthy v)) := by intro _; rfl) (hK : X.K = K := by rfl) : TV X C e (fun σ H Q => te σ H fun x H' => ∃ k, TruV K x H' k ∧ Q k H') (tR F) := by subst hK; exact TV.tru h he
theorem EV.sl' {lo hi : Option Expr} {tl th : TO} {L U : OF} {p2 : Pos} (h : EV X C m e te F) (hl : OPV X C lo tl L) (hh : OPV X C hi th U) (hK : X.K = K := by rfl) : EV X C .f (.Subscript e (.Slice lo hi none p2) pos) (tSl (rSlU K) te tl th) (eSl F L U) := by subst hK; exact EV.sl h hl hh
theorem IV.seq' {tg : Expr} (h : EV X C m e te F) (hK : X.K = K := by rfl) : IV X C false tg e (iSeq K te) (iE seqD F) := by subst hK; exact IV.seq h
theorem IV.seqS' {tg : Expr} (h : EV X C .s e te F) (hK : X.K = K := by rfl) : IV X C true tg e (iSeq K te) (iE seqD F) := by subst hK; exact IV.seqS h
theorem cv_len' (hK : X.K = K := by rfl) : CV X C .f (.builtin "len") (rLenU K) lenD := by subst hK; exact cv_len
theorem cv_tuple' (hK : X.K = K := by rfl) : CV X C .f (.type "tuple") (rTupU K) tupleD := by subst hK; exact cv_tuple
theorem cv_list' (hK : X.K = K := by rfl) : CV X C .f (.type "list") (rLstU K) listD := by subst hK; exact cv_list
theorem cv_isi' (hK : X.K = K := by rfl) : CV X C .f (.builtin "isinstance") (rIsi K) isiD := by subst hK; exact cv_isi
theorem EV.call' {x : Str} {k n : Nat} {ps : List Str} {pf : List D → Option D} {t : TA} {G : AF} (c : Ct X.prog X.w X.K X.mg X.base k x ps (spV ⟨K, mg, C⟩ m n pf)) (hr : Room k X.A) (hg : Gl X x) (ha : BV X C (e :: es) t G) (hl : LenN n G) (hdb : (x == ("__debug__" : Str)) = false := by decide)
    (he : starEach (e :: es) X.env = (false, eval e X.env) :: starEach es X.env := by rfl) (hpl : (backTo pos (starEach es X.env)).any (·.1) = false := by rfl) (hK : X.K = K := by rfl) (hM : X.mg = mg := by rfl) : EV X C m (.Call (.Name x p) (e :: es) [] pos) (tCall (spV ⟨K, mg, C⟩ m n pf) [] E0 t) (eN pf G) := by subst hK hM; exact EV.call c hr hg ha hl hdb he hpl
theorem EV.callW' {x : Str} {k n : Nat} {ps : List Str} {pf : List D → Option D} {t : TA} {G : AF} (c : Ct X.prog X.w X.K X.mg X.base k x ps (spV ⟨K, mg, C⟩ m n pf)) (hr : Room k X.A) (hg : Gl X x) (ha : AV X C (e :: es) t G) (hl : LenN n G) (hdb : (x == ("__debug__" : Str)) = false := by decide)
    (he : starEach (e :: es) X.env = (false, eval e X.env) :: starEach es X.env := by rfl) (hpl : (backTo pos (starEach es X.env)).any (·.1) = false := by rfl) (hK : X.K = K := by rfl) (hM : X.mg = mg := by rfl) : EV X C .f (.Call (.Name x p) (e :: es) [] pos) (tCall (spV ⟨K, mg, C⟩ m n pf) [] E0 t) (eN (imG pf) G) := by subst hK hM; exact EV.callW c hr hg ha hl hdb he hpl
theorem EV.mkK' {ta : TA} {G : AF} {k : Nat} {ps : List Str} (c : CtM X.prog X.w X.K X.mg X.base k "Kind" C ps (Toy.spInit K C)) (hr : Room (k + 1) X.A) (hg : Gl X "Kind") (ha : AV X C [e] ta G) (he : starEach [e] X.env = (false, eval e X.env) :: starEach [] X.env := by rfl) (hpl : (backTo pos (starEach [] X.env)).any (·.1) = false := by rfl) (hK : X.K = K := by rfl) :
    EV X C .f (.Call (.Name "Kind" p) [e] [] pos) (tMake C (Toy.spInit K C) [] E0 ta) (eN kindD G) := by subst hK; exact EV.mkK c hr hg ha he hpl
end
end BV
set_option linter.all false
set_option maxRecDepth 100000
set_option maxHeartbeats 4000000
namespace BV
open PySem PySem.Spec PyProof.Rows L2
theorem sIf_eq {T : TF} {G G' : SF} {ρ : Env} : sIf T G G' ρ = (T ρ).elim .no fun b => if b = true then G ρ else G' ρ := by
  unfold sIf
  cases T ρ with
  | none => rfl
  | some b => cases b <;> rfl
def bd (B : D → Env → Option Env) (G : SF) (d : D) (ρ : Env) : Fl := match B d ρ with
  | none => .no
  | some ρ1 => G ρ1
theorem forD_eq {B : D → Env → Option Env} {G : SF} {d : D} {ds : List D} {ρ : Env} : forD B G (d :: ds) ρ = match bd B G d ρ with
    | .nx ρ2 => forD B G ds ρ2
    | .ct ρ2 => forD B G ds ρ2
    | .bk ρ2 => .nx ρ2
    | f => f := by
  conv => lhs; unfold forD
  unfold bd
  cases B d ρ <;> rfl
theorem forD_cons {B : D → Env → Option Env} {G : SF} {d : D} {ds : List D} {ρ ρ1 : Env} (h : bd B G d ρ = .nx ρ1 ∨ bd B G d ρ = .ct ρ1) : forD B G (d :: ds) ρ = forD B G ds ρ1 := by
  rw [forD_eq]
  rcases h with h | h <;> rw [h]
theorem forD_rt {B : D → Env → Option Env} {G : SF} {d r : D} {ds : List D} {ρ ρ1 : Env} (h : bd B G d ρ = .rt r ρ1) : forD B G (d :: ds) ρ = .rt r ρ1 := by rw [forD_eq, h]
def el (B : D → Env → Option Env) (T : TF) (F : EF) (ρ : Env) (d : D) : Option (Option D) := (B d ρ).bind fun ρ1 => (T ρ1).bind fun b => if b = true then (F ρ1).map some else some none
theorem lcD_el {B : D → Env → Option Env} {T : TF} {F : EF} {ρ : Env} {d : D} {ds : List D} : lcD B T F ρ (d :: ds) = (el B T F ρ d).bind fun o => (lcD B T F ρ ds).map fun r => o.elim r (· :: r) := by
  conv => lhs; unfold lcD
  unfold el
  cases B d ρ with
  | none => rfl
  | some ρ1 =>
    simp only [Option.bind_some]
    cases T ρ1 with
    | none => rfl
    | some b =>
      cases b with
      | false => simp only [Option.bind_some, Bool.false_eq_true, if_false]; cases lcD B T F ρ ds <;> rfl
      | true =>
        simp only [Option.bind_some, if_true]
        cases F ρ1 with
        | none => rfl
        | some y => simp only [Option.bind_some, Option.map_some]; cases lcD B T F ρ ds <;> rfl
theorem lc_of {α : Type} {B : D → Env → Option Env} {T : TF} {F : EF} {ρ : Env} (enc : α → D) (o : α → Option D) : ∀ xs : List α, (∀ x ∈ xs, el B T F ρ (enc x) = some (o x)) → lcD B T F ρ (xs.map enc) = some (xs.filterMap o)
  | [], _ => rfl
  | x :: xs, h => by
    rw [List.map_cons, lcD_el, h x (by simp), lc_of enc o xs fun y hy => h y (by simp [hy])]
    cases e : o x <;> simp [e]
theorem lc_map {α β : Type} {B : D → Env → Option Env} {T : TF} {F : EF} {ρ : Env} (enc : α → D) (f : α → β) (enc' : β → D) (xs : List α) (h : ∀ x ∈ xs, el B T F ρ (enc x) = some (some (enc' (f x)))) : lcD B T F ρ (xs.map enc) = some ((xs.map f).map enc') := by
  rw [lc_of enc (fun x => some (enc' (f x))) xs h]
  congr 1
  induction xs with
  | nil => rfl
  | cons x xs ih => simp [ih fun y hy => h y (by simp [hy])]
theorem eLc_of {I : LF} {B : D → Env → Option Env} {T : TF} {F : EF} {vs : List Nat} {ρ : Env} {ds r : List D} (hi : I ρ = some ds) (hl : ds.length ≤ LN) (h : lcD B T F (wipeE ρ vs) ds = some r) : eLc I B T F vs ρ = some (.lst r) := by
  unfold eLc
  rw [hi, Option.bind_some, if_pos hl, h]; rfl
theorem sFor_of {I : LF} {B : D → Env → Option Env} {G : SF} {ρ : Env} {ds : List D} (hi : I ρ = some ds) : sFor I B G ρ = forD B G ds ρ := by unfold sFor; rw [hi]
theorem law_of {P : Program} {w : World} {K : PySem.W.Frag} {mg : Str → Option Value} {base : Heap} {k : Nat} {st : Stmt} {N : List Str} {C : Addr} {m : Md} {G : SF} {f : Addr} {fd : FuncData} (F : Fun K "law" "law" st f fd) (S : FnScope N ["_law_script"] (defScope st)) (hm : m ≠ .w)
    (hb : ∀ (cdv : Value) (A : Around) (outer : List PySem.Env) (s : Shared) (H : Hp) (E : XK), Room k (A.deeper (envOfC "law" (defScope st) s.heap.objs.size f cdv)) → ∃ t, SsV (cxOf CX0 P w K mg base N "law" (defScope st) f cdv A outer s H E).nox C m [] (defBody st) t G)
    (h : ∀ ns : List Int, ns.length ≤ 63 → runF N.length G [.ks (ns.map D.int)] = some (.bl true)) : FnOk P w K mg base CX0 (k + 1) f fd ["_law_script"] (fun vs H Q _ => ∃ (a : Addr) (ns : List Int), vs = [.ref a] ∧ SqL K H a (ns.map V.int) ∧ ns.length ≤ 63 ∧ ∀ H', Q (.bl true) H') := by
  refine F.ok S (fun vs H Q E h => by obtain ⟨_, _, rfl, _⟩ := h; rfl) (fun cdv A outer s H vs Q E hr q => ?_)
  obtain ⟨t, sv⟩ := hb cdv A outer s H E hr
  refine ⟨t, sv.ps, ?_⟩
  obtain ⟨a, ns, rfl, hS, hl, k'⟩ := q
  have ax : AX (fun _ => False) H := fun q z => absurd z id
  have r : RpL ⟨K, mg, C⟩ (fun _ => False) H [.ks (ns.map D.int)] [.ref a] := RpL.one (by
    unfold Rp
    exact ⟨a, _, rfl, hS.elim (fun t => .inl ⟨id, t⟩) .inr, RpL.ints ns⟩)
  obtain ⟨sr, own⟩ := SR.start0 (N := N) ax r
  refine sv.vs (fun _ => False) [] H _ _ H _ rfl sr ?_
  have e := h ns hl
  unfold runF at e
  cases g : G (env0 N.length [.ks (ns.map D.int)]) with
  | rt d2 ρ2 =>
    rw [g] at e
    cases e
    intro v H' rt kx
    have : v = .bl true := by
      have := rt.r.w.bl
      exact this
    rw [this]
    exact k' H'
  | nx ρ2 => rw [g] at e; cases e
  | bk ρ2 => rw [g] at e; cases e
  | ct ρ2 => rw [g] at e; cases e
  | no => rw [g] at e; cases e
end BV
set_option linter.all false
set_option maxRecDepth 100000
set_option maxHeartbeats 4000000
namespace BV
open PySem PySem.Spec PyProof.Rows L2
def ArgR (W : Wd) (A : Av) (H : Hp) (σ : LSt) (ρ : Env) : List (Option Nat) → List D → List V → Prop
  | [], ds, vs => ds = [] ∧ vs = []
  | some j :: js, ds, vs => ∃ d r v u, ds = d :: r ∧ vs = v :: u ∧ ρ[j]? = some (.o d) ∧ σ[j]? = some (some v) ∧ ArgR W A H σ ρ js r u
  | none :: js, ds, vs => ∃ d r v u, ds = d :: r ∧ vs = v :: u ∧ Rp W A H d v ∧ ArgR W A H σ ρ js r u
theorem ArgR.same {W : Wd} {A : Av} {H H' : Hp} {σ : LSt} {ρ : Env} (s : Same H H') : ∀ {js : List (Option Nat)} {ds : List D} {vs : List V}, ArgR W A H σ ρ js ds vs → ArgR W A H' σ ρ js ds vs
  | [], _, _, h => h
  | some j :: js, _, _, ⟨d, r, v, u, a, b, c, e, f⟩ => ⟨d, r, v, u, a, b, c, e, ArgR.same s f⟩
  | none :: js, _, _, ⟨d, r, v, u, a, b, c, f⟩ => ⟨d, r, v, u, a, b, c.same s, ArgR.same s f⟩
def VR (W : Wd) (js : List (Option Nat)) (ta : TA) (F : AF) : Prop := ∀ (A : Av) (σ : LSt) (ρ : Env) (H : Hp) (Q : List V → Hp → Prop) (ds : List D), SE W A H σ ρ → F ρ = some ds → (∀ vs H', Same H H' → ArgR W A H' σ ρ js ds vs → Q vs H') → ta σ H Q
structure RV (X : Cx) (C : Addr) (js : List (Option Nat)) (es : List Expr) (ta : TA) (F : AF) : Prop where
  pa : PA X es ta
  vr : VR (wd X C) js ta F
def eO (i : Nat) : EF := fun ρ => match ρ[i]? with
  | some (.o d) => some d
  | _ => none
section
variable {X : Cx} {C : Addr} {e : Expr} {es : List Expr}
theorem RV.nil : RV X C [] [] tNil aNil := ⟨pa_nil, fun A σ ρ H Q ds hs e k => by cases e; exact k _ _ Same.rfl ⟨rfl, rfl⟩⟩
theorem RV.cons {js : List (Option Nat)} {te : TE} {ta : TA} {F : EF} {G : AF} (a : EV X C .s e te F) (b : RV X C js es ta G) (hst : starEach (e :: es) X.env = (false, eval e X.env) :: starEach es X.env := by rfl) : RV X C (none :: js) (e :: es) (tCons te ta) (aCons F G) :=
  ⟨pa_cons a.pe b.pa hst, fun A σ ρ H Q ds hs e k => by
    unfold aCons at e
    obtain ⟨d, e1, e⟩ := Option.bind_eq_some_iff.mp e
    obtain ⟨r, e2, e⟩ := Option.bind_eq_some_iff.mp e
    cases e
    exact a.ve A σ ρ H _ d hs e1 fun v H1 s1 r1 => b.vr A σ ρ H1 _ r (hs.same s1) e2 fun vs H2 s2 r2 => k _ _ (s1.trans s2) ⟨d, r, v, vs, rfl, rfl, Rp.same r1 s2, r2⟩⟩
end
structure LentR (W : Wd) (A : Av) (H : Hp) (io : List Nat) (ds : List D) (vs : List V) : Prop where
  len : vs.length = ds.length
  rd : ∀ (i : Nat) (d : D), ds[i]? = some d → i ∉ io → ∃ v, vs[i]? = some v ∧ Rp W A H d v
  lent : ∀ (i : Nat) (d : D), ds[i]? = some d → i ∈ io → ∃ p, vs[i]? = some (.ref p) ∧ A p ∧ Cell W A H p d
  inj : ∀ (i j : Nat) (p : Addr), i ∈ io → j ∈ io → vs[i]? = some (.ref p) → vs[j]? = some (.ref p) → i = j
  bd : ∀ i ∈ io, i < ds.length
def spIo (W : Wd) (m : Md) (n : Nat) (io : List Nat) (pf : List D → Option (D × Env)) : Sp := fun vs H Q E => ∃ A ds d ρ', ds.length = n ∧ AX A H ∧ LentR W A H io ds vs ∧ pf ds = some (d, ρ') ∧
  ∀ v H', (∀ q o, H q = some o → (∀ i ∈ io, vs[i]? ≠ some (.ref q)) → H' q = some o) → (∀ i ∈ io, ∃ p e, vs[i]? = some (.ref p) ∧ ρ'[i]? = some (.o e) ∧ Cell W A H' p e) → rep W A H H' d v m → Q v H'
theorem spIo.len {W : Wd} {m : Md} {n : Nat} {io : List Nat} {pf : List D → Option (D × Env)} {vs : List V} {H : Hp} {Q : VK} {E : XK} (h : spIo W m n io pf vs H Q E) : vs.length = n := by
  obtain ⟨A, ds, d, _, hl, ax, r, _⟩ := h
  rw [r.len, hl]
def puts : List (Nat × D) → Env → Env
  | [], ρ => ρ
  | (j, e) :: r, ρ => puts r (ρ.set j (.o e))
theorem puts_len : ∀ (l : List (Nat × D)) (ρ : Env), (puts l ρ).length = ρ.length
  | [], _ => rfl
  | (j, e) :: r, ρ => by unfold puts; rw [puts_len r, List.length_set]
theorem puts_ne {j : Nat} : ∀ (l : List (Nat × D)) (ρ : Env), j ∉ l.map (·.1) → (puts l ρ)[j]? = ρ[j]?
  | [], _, _ => rfl
  | (i, e) :: r, ρ, h => by
    unfold puts
    rw [puts_ne r _ (fun z => h (by simp [z])), List.getElem?_set_ne (fun z => h (by simp [z]))]
theorem puts_in {j : Nat} {e : D} : ∀ (l : List (Nat × D)) (ρ : Env), (l.map (·.1)).Nodup → (j, e) ∈ l → j < ρ.length → (puts l ρ)[j]? = some (.o e)
  | [], _, _, h, _ => absurd h (by simp)
  | (i, f) :: r, ρ, nd, h, hl => by
    unfold puts
    rw [List.map_cons, List.nodup_cons] at nd
    rcases List.mem_cons.mp h with z | z
    · cases z
      rw [puts_ne r _ nd.1]
      exact List.getElem?_set_self hl
    · exact puts_in r _ nd.2 z (by rw [List.length_set]; exact hl)
theorem SR.puts {W : Wd} {A : Av} {ia : List (Nat × Addr)} {H0 H H' : Hp} {σ : LSt} {ρ : Env} (h : SR W A ia H0 H σ ρ) (l : List (Nat × D)) (nd : (l.map (·.1)).Nodup) (ow : ∀ je ∈ l, ∃ d, ρ[je.1]? = some (.o d))
    (kp : ∀ q o, H q = some o → (∀ je ∈ l, σ[je.1]? ≠ some (some (.ref q))) → H' q = some o) (ce : ∀ je ∈ l, ∀ p, σ[je.1]? = some (some (.ref p)) → Cell W (AO A σ ρ) H' p je.2) :
    SR W A ia H0 H' σ (BV.puts l ρ) ∧ Stp H σ ρ H' σ (BV.puts l ρ) ∧ ∀ q, AO A σ (BV.puts l ρ) q ↔ AO A σ ρ q := by
  have lt : ∀ je ∈ l, je.1 < ρ.length := fun je hj => by obtain ⟨d, h⟩ := ow je hj; exact (List.getElem?_eq_some_iff.mp h).1
  -- a place: changed or as it was
  have look : ∀ (j : Nat) (z : Sl), (BV.puts l ρ)[j]? = some z → (∃ e, (j, e) ∈ l ∧ z = .o e) ∨ (j ∉ l.map (·.1) ∧ ρ[j]? = some z) := fun j z e => by
    by_cases hj : j ∈ l.map (·.1)
    · obtain ⟨je, h1, rfl⟩ := List.mem_map.mp hj
      rw [puts_in l ρ nd h1 (lt je h1)] at e
      exact .inl ⟨je.2, h1, (Option.some.inj e).symm⟩
    · rw [puts_ne l ρ hj] at e; exact .inr ⟨hj, e⟩
  have oldO : ∀ (j : Nat) (d : D), (BV.puts l ρ)[j]? = some (.o d) → ∃ d', ρ[j]? = some (.o d') := fun j d e => by
    rcases look j _ e with ⟨e', h1, _⟩ | ⟨_, h1⟩
    · exact ow (j, e') h1
    · exact ⟨d, h1⟩
  have newO : ∀ (j : Nat) (d : D), ρ[j]? = some (.o d) → ∃ d', (BV.puts l ρ)[j]? = some (.o d') := fun j d e => by
    by_cases hj : j ∈ l.map (·.1)
    · obtain ⟨je, h1, rfl⟩ := List.mem_map.mp hj
      exact ⟨je.2, puts_in l ρ nd h1 (lt je h1)⟩
    · exact ⟨d, by rw [puts_ne l ρ hj]; exact e⟩
  have own : ∀ q, Own σ (BV.puts l ρ) q ↔ Own σ ρ q := fun q => by
    constructor
    · rintro ⟨j, d, a, b⟩; obtain ⟨d', a'⟩ := oldO j d a; exact ⟨j, d', a', b⟩
    · rintro ⟨j, d, a, b⟩; obtain ⟨d', a'⟩ := newO j d a; exact ⟨j, d', a', b⟩
  have ao : ∀ q, AO A σ (BV.puts l ρ) q ↔ AO A σ ρ q := fun q => or_congr Iff.rfl (own q)
  have ch : ∀ q, ¬Own σ ρ q → ∀ je ∈ l, σ[je.1]? ≠ some (some (.ref q)) := fun q n je hj e => by
    obtain ⟨d, h⟩ := ow je hj; exact n ⟨je.1, d, h, e⟩
  have kx : Kx (Own σ ρ) H H' := fun q o n e => kp q o e (ch q n)
  have kpA : Kp (AO A σ ρ) H H' := Kx.kp fun q o n e => kx q o (fun z => n (.inr z)) e
  have exi : Ex H (AO A σ ρ) (AO A σ (BV.puts l ρ)) := fun q z => .inl ((ao q).mp z)
  have exi' : Ex H' (AO A σ ρ) (AO A σ (BV.puts l ρ)) := fun q z => .inl ((ao q).mp z)
  have cell : ∀ (j : Nat) (d : D), (BV.puts l ρ)[j]? = some (.o d) → ∃ p, σ[j]? = some (some (.ref p)) ∧ Cell W (AO A σ ρ) H' p d := fun j d e => by
    rcases look j _ e with ⟨e', h1, z⟩ | ⟨hj, h1⟩
    · cases z
      obtain ⟨d', h2⟩ := ow (j, d) h1
      obtain ⟨p, h3, _, _⟩ := h.se.ow j d' h2
      exact ⟨p, h3, ce (j, d) h1 p h3⟩
    · obtain ⟨p, h3, h4, h5⟩ := h.se.ow j d h1
      refine ⟨p, h3, h5.kp kpA fun o z => kp p o z fun je hje y => ?_⟩
      obtain ⟨d2, h6⟩ := ow je hje
      have := h.inj je.1 j d2 d p h6 h1 y h3
      exact hj (List.mem_map.mpr ⟨je, hje, this⟩)
  have live : ∀ q, H q ≠ none → H' q ≠ none := fun q n => by
    cases e : H q with
    | none => exact absurd e n
    | some o =>
      by_cases z : ∃ je ∈ l, σ[je.1]? = some (some (.ref q))
      · obtain ⟨je, h1, h2⟩ := z
        exact (ce je h1 q h2).some
      · rw [kp q o e fun je hj y => z ⟨je, hj, y⟩]; simp
  refine ⟨⟨⟨by rw [puts_len]; exact h.se.len, fun j d e => ?_, fun j d e => ?_, fun q z => ?_⟩, fun i j d e p a b x y => ?_, fun i d p a b => ?_, fun ip hip => ?_, h.a0, fun q z => live q (h.hx q z)⟩, ⟨kx, fun q z => .inl ((own q).mp z)⟩, ao⟩
  · rcases look j _ e with ⟨_, _, z⟩ | ⟨_, h1⟩
    · cases z
    · obtain ⟨v, h2, h3⟩ := h.se.fz j d h1
      exact ⟨v, h2, h3.go kpA exi⟩
  · obtain ⟨p, h1, h2⟩ := cell j d e
    exact ⟨p, h1, .inr ⟨j, d, e, h1⟩, h2.ex exi'⟩
  · have z' := (ao q).mp z
    rcases z' with z' | z'
    · by_cases y : Own σ ρ q
      · obtain ⟨j, d, a, b⟩ := (own q).mpr y
        obtain ⟨p, h1, h2⟩ := cell j d a
        rw [b] at h1; cases h1; exact h2.co
      · obtain ⟨o, h1, h2⟩ := h.se.ax q (.inl z')
        exact ⟨o, kx q o y h1, h2⟩
    · obtain ⟨j, d, a, b⟩ := (own q).mpr z'
      obtain ⟨p, h1, h2⟩ := cell j d a
      rw [b] at h1; cases h1; exact h2.co
  · obtain ⟨d', a'⟩ := oldO i d a
    obtain ⟨e', b'⟩ := oldO j e b
    exact h.inj i j d' e' p a' b' x y
  · obtain ⟨d', a'⟩ := oldO i d a
    exact h.fr i d' p a' b
  · obtain ⟨d, a, b⟩ := h.io ip hip
    obtain ⟨d', a'⟩ := newO _ d a
    exact ⟨d', a', b⟩
def backs : List (Option Nat) → Env → Option (List (Nat × D))
  | [], _ => some []
  | some j :: js, z :: ρ => match z with
    | .o e => (backs js ρ).map ((j, e) :: ·)
    | _ => none
  | none :: js, _ :: ρ => backs js ρ
  | _, _ => none
def ioOf : List (Option Nat) → List Nat
  | js => (List.range js.length).filter fun i => (js.getD i none).isSome
def xIo (pf : List D → Option (D × Env)) (js : List (Option Nat)) (G : AF) : XF := fun ρ => (G ρ).bind fun ds => (pf ds).bind fun r => (backs js r.2).bind fun l => some (r.1, puts l ρ)
theorem mem_ioOf {js : List (Option Nat)} {i : Nat} : i ∈ ioOf js ↔ ∃ j, js[i]? = some (some j) := by
  unfold ioOf
  simp only [List.mem_filter, List.mem_range, List.getD]
  constructor
  · rintro ⟨h1, h2⟩
    rw [List.getElem?_eq_getElem h1] at h2 ⊢
    cases e : js[i] with
    | none => rw [e] at h2; cases h2
    | some j => exact ⟨j, rfl⟩
  · rintro ⟨j, h⟩
    exact ⟨(List.getElem?_eq_some_iff.mp h).1, by rw [h]; rfl⟩
theorem ArgR.len {W : Wd} {A : Av} {H : Hp} {σ : LSt} {ρ : Env} : ∀ {js : List (Option Nat)} {ds : List D} {vs : List V}, ArgR W A H σ ρ js ds vs → ds.length = js.length ∧ vs.length = js.length
  | [], _, _, ⟨h1, h2⟩ => by subst h1 h2; exact ⟨rfl, rfl⟩
  | some j :: js, _, _, ⟨d, r, v, u, a, b, c, e, f⟩ => by subst a b; have := ArgR.len f; simp [this]
  | none :: js, _, _, ⟨d, r, v, u, a, b, c, f⟩ => by subst a b; have := ArgR.len f; simp [this]
theorem ArgR.at {W : Wd} {A : Av} {H : Hp} {σ : LSt} {ρ : Env} : ∀ {js : List (Option Nat)} {ds : List D} {vs : List V} {i : Nat} {d : D}, ArgR W A H σ ρ js ds vs → ds[i]? = some d → ∃ v, vs[i]? = some v ∧ ((js[i]? = some none ∧ Rp W A H d v) ∨ ∃ j, js[i]? = some (some j) ∧ ρ[j]? = some (.o d) ∧ σ[j]? = some (some v))
  | [], _, _, i, d, ⟨h1, h2⟩, e => by subst h1; simp at e
  | some j :: js, _, _, i, d, ⟨d', r, v, u, a, b, c, e', f⟩, e => by
    subst a b
    cases i with
    | zero => simp at e; subst e; exact ⟨v, rfl, .inr ⟨j, rfl, c, e'⟩⟩
    | succ i => simp only [List.getElem?_cons_succ] at e ⊢; exact ArgR.at f e
  | none :: js, _, _, i, d, ⟨d', r, v, u, a, b, c, f⟩, e => by
    subst a b
    cases i with
    | zero => simp at e; subst e; exact ⟨v, rfl, .inl ⟨rfl, c⟩⟩
    | succ i => simp only [List.getElem?_cons_succ] at e ⊢; exact ArgR.at f e
theorem backs_map : ∀ {js : List (Option Nat)} {ρ : Env} {l : List (Nat × D)}, backs js ρ = some l → l.map (·.1) = js.filterMap id
  | [], _, l, h => by unfold backs at h; cases h; rfl
  | some j :: js, [], l, h => by unfold backs at h; cases h
  | none :: js, [], l, h => by unfold backs at h; cases h
  | some j :: js, z :: ρ, l, h => by
    unfold backs at h
    cases z with
    | u => cases h
    | f d => cases h
    | o e =>
      obtain ⟨r, h1, rfl⟩ := Option.map_eq_some_iff.mp h
      simp [backs_map h1]
  | none :: js, z :: ρ, l, h => by unfold backs at h; simp [backs_map h]
theorem backs_mem {j : Nat} {e : D} : ∀ {js : List (Option Nat)} {ρ : Env} {l : List (Nat × D)}, backs js ρ = some l → (j, e) ∈ l → ∃ i : Nat, js[i]? = some (some j) ∧ ρ[i]? = some (Sl.o e)
  | [], _, l, h, m => by unfold backs at h; cases h; simp at m
  | some k :: js, [], l, h, m => by unfold backs at h; cases h
  | none :: js, [], l, h, m => by unfold backs at h; cases h
  | some k :: js, z :: ρ, l, h, m => by
    unfold backs at h
    cases z with
    | u => cases h
    | f d => cases h
    | o e' =>
      obtain ⟨r, h1, rfl⟩ := Option.map_eq_some_iff.mp h
      rcases List.mem_cons.mp m with m | m
      · cases m; exact ⟨0, rfl, rfl⟩
      · obtain ⟨i, a, b⟩ := backs_mem h1 m; exact ⟨i + 1, a, b⟩
  | none :: js, z :: ρ, l, h, m => by unfold backs at h; obtain ⟨i, a, b⟩ := backs_mem h m; exact ⟨i + 1, a, b⟩
theorem backs_at {j : Nat} : ∀ {js : List (Option Nat)} {ρ : Env} {l : List (Nat × D)} {i : Nat}, backs js ρ = some l → js[i]? = some (some j) → ∃ e, (j, e) ∈ l ∧ ρ[i]? = some (Sl.o e)
  | [], _, l, i, h, m => by simp at m
  | some k :: js, [], l, i, h, m => by unfold backs at h; cases h
  | none :: js, [], l, i, h, m => by unfold backs at h; cases h
  | some k :: js, z :: ρ, l, i, h, m => by
    unfold backs at h
    cases z with
    | u => cases h
    | f d => cases h
    | o e' =>
      obtain ⟨r, h1, rfl⟩ := Option.map_eq_some_iff.mp h
      cases i with
      | zero => simp at m; subst m; exact ⟨e', by simp, rfl⟩
      | succ i =>
        simp only [List.getElem?_cons_succ] at m ⊢
        obtain ⟨e, a, b⟩ := backs_at h1 m
        exact ⟨e, by simp [a], b⟩
  | none :: js, z :: ρ, l, i, h, m => by
    unfold backs at h
    cases i with
    | zero => simp at m
    | succ i =>
      simp only [List.getElem?_cons_succ] at m ⊢
      exact backs_at h m
theorem filterMap_inj : ∀ {js : List (Option Nat)}, (js.filterMap id).Nodup → ∀ {i k j : Nat}, js[i]? = some (some j) → js[k]? = some (some j) → i = k
  | [], _, i, k, j, h, _ => by simp at h
  | z :: js, nd, i, k, j, h1, h2 => by
    have tail : (js.filterMap id).Nodup := by
      cases z with
      | none => simpa using nd
      | some y => simp at nd; exact nd.2
    cases i with
    | zero =>
      simp at h1
      cases k with
      | zero => rfl
      | succ k =>
        subst h1
        simp only [List.getElem?_cons_succ] at h2
        simp at nd
        exact absurd (List.mem_of_getElem? h2) nd.1
    | succ i =>
      simp only [List.getElem?_cons_succ] at h1
      cases k with
      | zero =>
        simp at h2
        subst h2
        simp at nd
        exact absurd (List.mem_of_getElem? h1) nd.1
      | succ k =>
        simp only [List.getElem?_cons_succ] at h2
        rw [filterMap_inj tail h1 h2]
theorem XV.io {X : Cx} {C : Addr} {e : Expr} {es : List Expr} {m : Md} {io0 io : List Nat} {x : Str} {p pos : Pos} {k n : Nat} {ps : List Str} {pf : List D → Option (D × Env)} {t : TA} {G : AF} {js : List (Option Nat)} (c : L2.Ct X.prog X.w X.K X.mg X.base k x ps (spIo (wd X C) m n io pf)) (hr : Room k X.A) (hg : Gl X x) (ha : RV X C js (e :: es) t G)
    (hm : m ≠ .w) (hl : js.length = n) (hio : ioOf js = io) (hnd : (js.filterMap id).Nodup) (hdb : (x == ("__debug__" : Str)) = false := by decide)
    (he : starEach (e :: es) X.env = (false, eval e X.env) :: starEach es X.env := by rfl) (hpl : (backTo pos (starEach es X.env)).any (·.1) = false := by rfl) :
    XV X C io0 (.Call (.Name x p) (e :: es) [] pos) (tCall (spIo (wd X C) m n io pf) [] E0 t) (xIo pf js G) := ⟨pe_callC c hr hg ha.pa hdb he hpl, fun A ia H0 σ ρ H Q d ρ' hi hs e k => by
  unfold xIo at e
  obtain ⟨ds, e1, e⟩ := Option.bind_eq_some_iff.mp e
  obtain ⟨r, e2, e⟩ := Option.bind_eq_some_iff.mp e
  obtain ⟨l, e3, e⟩ := Option.bind_eq_some_iff.mp e
  cases e
  refine ha.vr _ σ ρ H _ ds hs.se e1 fun vs H1 s1 r1 => ?_
  rw [List.append_nil]
  have hs1 := hs.same s1
  obtain ⟨ld, lv⟩ := r1.len
  have lent : LentR (wd X C) (AO A σ ρ) H1 io ds vs := by
    refine ⟨by rw [ld, lv], fun i d hd hn => ?_, fun i d hd hn => ?_, fun i j q h1 h2 h3 h4 => ?_, fun i hi => ?_⟩
    · obtain ⟨v, hv, h | ⟨j, h, _⟩⟩ := r1.at hd
      · exact ⟨v, hv, h.2⟩
      · exact absurd (by rw [← hio]; exact mem_ioOf.mpr ⟨j, h⟩) hn
    · rw [← hio] at hn
      obtain ⟨j, hj⟩ := mem_ioOf.mp hn
      obtain ⟨v, hv, h | ⟨j', h, h1, h2⟩⟩ := r1.at hd
      · rw [hj] at h; cases h.1
      · obtain ⟨q, h3, h4, h5⟩ := hs1.se.ow j' d h1
        rw [h2] at h3; cases h3
        exact ⟨q, hv, h4, h5⟩
    · rw [← hio] at h1 h2
      obtain ⟨a, ha'⟩ := mem_ioOf.mp h1
      obtain ⟨b, hb'⟩ := mem_ioOf.mp h2
      have li : i < ds.length := by rw [ld]; exact (List.getElem?_eq_some_iff.mp ha').1
      have lj : j < ds.length := by rw [ld]; exact (List.getElem?_eq_some_iff.mp hb').1
      obtain ⟨v, hv, h | ⟨a', h, x1, x2⟩⟩ := r1.at (List.getElem?_eq_getElem li)
      · rw [ha'] at h; cases h.1
      · obtain ⟨u, hu, h' | ⟨b', h', y1, y2⟩⟩ := r1.at (List.getElem?_eq_getElem lj)
        · rw [hb'] at h'; cases h'.1
        · rw [h3] at hv; cases hv
          rw [h4] at hu; cases hu
          have := hs.inj a' b' _ _ q x1 y1 x2 y2
          subst this
          exact filterMap_inj hnd h h'
    · rw [← hio] at hi
      obtain ⟨a, ha'⟩ := mem_ioOf.mp hi
      rw [ld]; exact (List.getElem?_eq_some_iff.mp ha').1
  refine ⟨AO A σ ρ, ds, r.1, r.2, by rw [ld]; exact hl, hs1.se.ax, lent, e2, fun v H' kp ce rr => ?_⟩
  -- what the call leaves
  have arg : ∀ {i j : Nat}, js[i]? = some (some j) → ∃ d v, ρ[j]? = some (.o d) ∧ σ[j]? = some (some v) ∧ vs[i]? = some v := fun {i j} h => by
    have li : i < ds.length := by rw [ld]; exact (List.getElem?_eq_some_iff.mp h).1
    obtain ⟨v, hv, h' | ⟨j', h', x1, x2⟩⟩ := r1.at (List.getElem?_eq_getElem li)
    · rw [h] at h'; cases h'.1
    · rw [h] at h'; cases h'; exact ⟨_, v, x1, x2, hv⟩
  obtain ⟨a, b, cc⟩ := hs.puts (H' := H') l (by rw [backs_map e3]; exact hnd) (fun je hj => by
      obtain ⟨i, h1, _⟩ := backs_mem e3 hj
      obtain ⟨d, v, h2, _⟩ := arg h1
      exact ⟨d, h2⟩) (fun q o hq hn => kp q o (s1 _ _ hq) fun i hi z => by
      rw [← hio] at hi
      obtain ⟨j, hj⟩ := mem_ioOf.mp hi
      obtain ⟨d, v, h2, h3, h4⟩ := arg hj
      rw [z] at h4; cases h4
      obtain ⟨e, h5, _⟩ := backs_at e3 hj
      exact hn (j, e) h5 h3) (fun je hj q hq => by
      obtain ⟨i, h1, h2⟩ := backs_mem e3 hj
      obtain ⟨d, v, h3, h4, h5⟩ := arg h1
      obtain ⟨q', e', h6, h7, h8⟩ := ce i (by rw [← hio]; exact mem_ioOf.mpr ⟨_, h1⟩)
      rw [hq] at h4; cases h4
      rw [h5] at h6; cases h6
      rw [h2] at h7; cases h7
      exact h8)
  refine k v H' a b ?_
  have rp : Rp (wd X C) (AO A σ ρ) H' r.1 v := by
    cases m with
    | f => exact rr.1
    | s => exact rr
    | w => exact absurd rfl hm
  exact Rp.ex (fun q z => .inl ((cc q).mp z)) _ _ rp⟩
end BV
set_option linter.all false
set_option maxRecDepth 100000
set_option maxHeartbeats 4000000
namespace BV
open PySem PySem.Spec PyProof.Rows L2
def tkD : D → Option (List Key)
  | .tup k => keysD k
  | _ => none
def dcD (B : D → Env → Option Env) (T : TF) (Fk Fv : EF) (ρ : Env) : List D → List (List Key) × List D → Option (List (List Key) × List D)
  | [], acc => some acc
  | d :: ds, acc => (B d ρ).bind fun ρ1 => (T ρ1).bind fun b => if b = true then (Fk ρ1).bind fun k => (Fv ρ1).bind fun y => (tkD k).bind fun kk => dcD B T Fk Fv ρ ds (putD acc.1 acc.2 kk y) else dcD B T Fk Fv ρ ds acc
def eDc (I : LF) (B : D → Env → Option Env) (T : TF) (Fk Fv : EF) (vs : List Nat) : EF := fun ρ => (I ρ).bind fun ds => if ds.length ≤ LN then (dcD B T Fk Fv (wipeE ρ vs) ds ([], [])).map fun r => D.dt r.1 r.2 else none
theorem putD_len {κ : Type} [DecidableEq κ] {ks : List κ} {ds : List D} {k : κ} {d : D} : (putD ks ds k d).2.length ≤ ds.length + 1 := by
  unfold putD
  split
  · simp; omega
  · simp
theorem ve_dc {W : Wd} {b : Bool} {mk : Md} {is vs : List Nat} {wi : TI} {g : TG} {tt : TT} {tk te : TE} {I : LF} {B : D → Env → Option Env} {T : TF} {Fk Fv : EF} (hi : VI W b wi I) (hg : VG W is g B) (ht : VT W tt T) (hk : VE W mk tk Fk) (he : VE W .s te Fv) (hv : ∀ i ∈ is, i ∈ vs) :
    VE W .f (tDc wi g tt tk te vs) (eDc I B T Fk Fv vs) := by
  intro A σ ρ H Q d hs e k
  unfold eDc at e
  obtain ⟨ds, e1, e⟩ := Option.bind_eq_some_iff.mp e
  split at e
  case isFalse => cases e
  case isTrue hlen =>
  obtain ⟨out, e2, e⟩ := Option.map_eq_some_iff.mp e
  subst e
  refine hi.weak A σ ρ H _ ds hs e1 fun J H1 s1 it => fun D0 hD => ?_
  have hs1 := hs.same s1
  have ex := Ex.of (A := A) hD
  refine ⟨fun i n H2 => i + n = ds.length ∧ Same H1 H2 ∧ ∃ ks us acc, H2 D0 = some (.dT (ks.zip us)) ∧ ks.length = acc.length ∧ RpL W (fun p => A p ∨ p = D0) H2 acc us ∧ acc.length ≤ i ∧ dcD B T Fk Fv (wipeE ρ vs) (ds.drop i) (ks, acc) = some out, ⟨ds.length, by omega, Toy.same_upd hD, [], [], [], upd_same, rfl, RpL.nil, Nat.le_refl _, e2⟩, ?_⟩
  rintro i n H2 ⟨hn, s2, ks, us, acc, hacc, hkl, hr, hdl, er⟩
  have ax2 : AX (fun p => A p ∨ p = D0) H2 := fun q a => by
    rcases a with a | rfl
    · obtain ⟨o, h1, h2⟩ := hs1.ax q a; exact ⟨o, s2 _ _ h1, h2⟩
    · exact ⟨_, hacc, trivial⟩
  obtain ⟨it1, it2⟩ := it _ H2 ex ax2 (by simp only [Bool.false_eq_true, if_false]; exact s2) i
  cases n with
  | zero =>
    left
    refine ⟨it2 (by omega), k _ H2 (s1.trans s2) ?_⟩
    rw [List.drop_eq_nil_of_le (by omega)] at er
    unfold dcD at er
    cases er
    exact Fr.of (H1 := H) hs.ax (none_of s1 hD) ⟨us, hacc, hkl, hr⟩
  | succ n =>
    right
    have hlt : i < ds.length := by omega
    have hdi : ds[i]? = some ds[i] := List.getElem?_eq_getElem hlt
    rw [List.drop_eq_getElem_cons hlt] at er
    unfold dcD at er
    obtain ⟨ρ1, eb, er⟩ := Option.bind_eq_some_iff.mp er
    obtain ⟨c, et, er⟩ := Option.bind_eq_some_iff.mp er
    obtain ⟨go, yl⟩ := it1 _ hdi
    refine ⟨go, fun H' => Same H1 H' ∧ ∃ ks us acc, H' D0 = some (.dT (ks.zip us)) ∧ ks.length = acc.length ∧ RpL W (fun p => A p ∨ p = D0) H' acc us ∧ acc.length ≤ i + 1 ∧ dcD B T Fk Fv (wipeE ρ vs) (ds.drop (i + 1)) (ks, acc) = some out, fun H' ⟨q1, q2⟩ => ⟨n, by omega, by omega, q1, q2⟩, fun x H3 hy => ?_⟩
    obtain ⟨s3, rx⟩ := yl x H3 hy
    have hs3 : SE W (fun p => A p ∨ p = D0) H3 (wipe σ vs) (wipeE ρ vs) := by
      refine ⟨(hs1.wipe vs).len, fun j e q => ?_, fun j e q => ?_, fun q a => ?_⟩
      · obtain ⟨v, h1, h2⟩ := (hs1.wipe vs).fz j e q
        exact ⟨v, h1, h2.go (Kp.same (s2.trans s3)) ex⟩
      · obtain ⟨p, h1, h2, h3⟩ := (hs1.wipe vs).ow j e q
        exact ⟨p, h1, .inl h2, (h3.ex ex).kp (Kp.same (s2.trans s3)) fun o z => (s2.trans s3) _ _ z⟩
      · obtain ⟨o, h1, h2⟩ := ax2 q a; exact ⟨o, s3 _ _ h1, h2⟩
    refine hg _ (wipe σ vs) (wipeE ρ vs) H3 x _ ρ1 _ hs3 rx eb fun σ1 hs4 up => ⟨wipe_ups up hv, ht _ σ1 ρ1 H3 _ c hs4 et fun H4 s4 => ?_⟩
    have k4 : Same H1 H4 := s2.trans (s3.trans s4)
    have c4 := s4 _ _ (s3 _ _ hacc)
    have r4 := hr.same (s3.trans s4)
    cases c with
    | false =>
      simp only [Bool.false_eq_true, if_false] at er ⊢
      exact ⟨k4, ks, us, acc, c4, hkl, r4, by omega, er⟩
    | true =>
      simp only [if_true] at er ⊢
      obtain ⟨kd, ek, era⟩ := Option.bind_eq_some_iff.mp er
      obtain ⟨y, ey, erb⟩ := Option.bind_eq_some_iff.mp era
      obtain ⟨kk, ekk, erc⟩ := Option.bind_eq_some_iff.mp erb
      clear er era erb
      refine hk _ σ1 ρ1 H4 _ kd (hs4.same s4) ek fun kv H5 s5 rk => he _ σ1 ρ1 H5 _ y ((hs4.same s4).same s5) ey fun v H6 s6 rv => ?_
      have c6 := s6 _ _ (s5 _ _ c4)
      have r6 := r4.same (s5.trans s6)
      cases kd <;> first | (cases ekk; done) | skip
      rename_i kd
      obtain ⟨q, ws, rfl, t, rw'⟩ := (rk.w.same s6).tup
      have := rw'.keys ekk
      subst this
      have rv : Rp W (fun p => A p ∨ p = D0) H6 y v := rv
      obtain ⟨us', h1, h2, h3⟩ := put_ok kk rv ks hkl r6
      have kp6 : Kp (fun p => A p ∨ p = D0) H6 (L2.upd H6 D0 (.dT (putK (ks.zip us) kk v))) := Kp.upd (.inr rfl)
      refine ⟨_, ⟨_, kk, q, c6, rfl, t.2, LN_lt (by rw [List.length_zip, r4.length]; omega), rfl⟩, fun b o h => ?_, (putD ks acc kk y).1, us', (putD ks acc kk y).2, by rw [← h1]; exact upd_same, h2, RpL.kp kp6 _ _ h3, Nat.le_trans putD_len (by omega), erc⟩
      rw [upd_ne (ne_of_none h hD)]
      exact s6 _ _ (s5 _ _ (k4 _ _ h))
section
variable {X : Cx} {C : Addr} {tg : Expr} {m mk rm : Md} {pos : Pos} {io : List Nat}
theorem EV.dc {kx vx iter : Expr} {ifs : List Expr} {scope : Scope} {own : List (Str × Nat)} {wi : TI} {g : TG} {tt : TT} {tk te : TE} {bb : Bool} {is : List Nat} {I : LF} {B : D → Env → Option Env} {T : TF} {Fk Fv : EF} (hu : X.A.units + 1 < cLine)
    (hc : X.calm = true) (hN : X.N.Nodup) (hi : IV X C bb tg iter wi I) (ok : BlkOk X.N X.env.scope scope own)
    (hg : ∀ (s : Shared) (H : Hp) (D : Addr) (cl : List (Str × Addr)) (fp : List Addr), GV (X.blk s H scope (compEnvC scope cl D X.env) fp) C is tg g B)
    (ht : ∀ (s : Shared) (H : Hp) (D : Addr) (cl : List (Str × Addr)) (fp : List Addr), TsV (X.blk s H scope (compEnvC scope cl D X.env) fp) C ifs tt T)
    (hk : ∀ (s : Shared) (H : Hp) (D : Addr) (cl : List (Str × Addr)) (fp : List Addr), EV (X.blk s H scope (compEnvC scope cl D X.env) fp) C mk kx tk Fk)
    (he : ∀ (s : Shared) (H : Hp) (D : Addr) (cl : List (Str × Addr)) (fp : List Addr), EV (X.blk s H scope (compEnvC scope cl D X.env) fp) C .s vx te Fv) (hv : ∀ i ∈ is, i ∈ own.map (·.2)) (hs : ∀ x, foldedSetIterable iter X.env x = pure x := by intro _; rfl) :
    EV X C .f (.DictComp kx vx [⟨tg, iter, ifs, 0⟩] scope pos) (tDc wi g tt tk te (own.map (·.2))) (eDc I B T Fk Fv (own.map (·.2))) :=
  ⟨pe_dc hu hc hN hi.pi ok (fun s H D cl fp => (hg s H D cl fp).pg) (fun s H D cl fp => (ht s H D cl fp).pt) (fun s H D cl fp => (hk s H D cl fp).pe) (fun s H D cl fp => (he s H D cl fp).pe) hs,
   ve_dc hi.vi (hg X.s_0 X.H_0 0 [] []).vg (ht X.s_0 X.H_0 0 [] []).vt (hk X.s_0 X.H_0 0 [] []).ve (he X.s_0 X.H_0 0 [] []).ve hv⟩
end
end BV
namespace BV
open PySem PySem.Spec PyProof.Rows L2
section
variable {X : Cx} {C : Addr} {tg a b c : Expr} {p pos : Pos}
end
end BV
set_option linter.all false
set_option maxRecDepth 100000
set_option maxHeartbeats 4000000
namespace BV
open PySem PySem.Spec PyProof.Rows L2
theorem bt_lt {a : Int} (h : a.natAbs < 18446744073709551616) : bt a ≤ 64 := PySem.intBits_le_iff.mpr (by simpa using h)
theorem bt_of {a : Int} {k : Nat} (h : a.natAbs < 2 ^ k) : bt a ≤ k := PySem.intBits_le_iff.mpr h
theorem bt_iff {a : Int} {k : Nat} : bt a ≤ k ↔ a.natAbs < 2 ^ k := PySem.intBits_le_iff
theorem cMul_of {a b : Int} (ha : bt a ≤ 100000) (hb : bt b ≤ 100000) : cMul a b = true := by
  unfold cMul BM
  simp only [Bool.and_eq_true, decide_eq_true_eq]
  omega
theorem mulD_ok {a b : Int} (ha : bt a ≤ 100000) (hb : bt b ≤ 100000) : mulD (.int a) (.int b) = some (.int (a * b)) := by
  show (if cMul a b = true then some (D.int (a * b)) else none) = _
  rw [if_pos (cMul_of ha hb)]
theorem mulD_64 {a b : Int} (ha : a.natAbs < 18446744073709551616) (hb : b.natAbs < 18446744073709551616) : mulD (.int a) (.int b) = some (.int (a * b)) := mulD_ok (Nat.le_trans (bt_lt ha) (by decide)) (Nat.le_trans (bt_lt hb) (by decide))
theorem fdivD_ok {a b : Int} (h0 : 0 < b) (hb : bt b ≤ 8000) : fdivD (.int a) (.int b) = some (.int (a / b)) := by
  show (if cDiv a b = true then some (D.int (a.fdiv b)) else none) = _
  have : cDiv a b = true := by
    unfold cDiv BQ
    simp only [Bool.and_eq_true, decide_eq_true_eq]
    exact ⟨by omega, hb⟩
  rw [if_pos this, Int.fdiv_eq_ediv_of_nonneg a (by omega)]
theorem fdivD_64 {a b : Int} (h0 : 0 < b) (hb : b < 18446744073709551616) : fdivD (.int a) (.int b) = some (.int (a / b)) := fdivD_ok h0 (Nat.le_trans (bt_lt (by omega)) (by decide))
theorem modD_ok {a b : Int} (h0 : 0 < b) : modD (.int a) (.int b) = some (.int (a % b)) := by
  show (if cMod a b = true then some (D.int (a.fmod b)) else none) = _
  have : cMod a b = true := by
    unfold cMod
    simp only [decide_eq_true_eq]
    omega
  rw [if_pos this, Int.fmod_eq_emod_of_nonneg a (by omega)]
theorem addD_int {a b : Int} : addD (.int a) (.int b) = some (.int (a + b)) := rfl
theorem subD_int {a b : Int} : subD (.int a) (.int b) = some (.int (a - b)) := rfl
theorem negD_int {a : Int} : negD (.int a) = some (.int (-a)) := rfl
theorem ltD_int {a b : Int} : ltD (.int a) (.int b) = some (.bl (decide (a < b))) := rfl
theorem leD_int {a b : Int} : leD (.int a) (.int b) = some (.bl (decide (a ≤ b))) := rfl
theorem gtD_int {a b : Int} : gtD (.int a) (.int b) = some (.bl (decide (b < a))) := rfl
theorem geD_int {a b : Int} : geD (.int a) (.int b) = some (.bl (decide (b ≤ a))) := rfl
theorem shaped_int (a : Int) : SeqAt.shaped (PyData.int a) = true := by
  unfold SeqAt.shaped
  rw [PyData.canLay0, PyData.depth]; rfl
theorem shaped_bool (a : Bool) : SeqAt.shaped (PyData.bool a) = true := by
  unfold SeqAt.shaped
  rw [PyData.canLay0, PyData.depth]; rfl
theorem eqB_int {a b : Int} : eqB (.int a) (.int b) = some (decide (a = b)) := by
  unfold eqB pd
  rw [if_pos ⟨shaped_int a, shaped_int b⟩, PyData.eqv]
  congr 1
theorem eqB_bl {a b : Bool} : eqB (.bl a) (.bl b) = some (decide (a = b)) := by
  unfold eqB pd
  rw [if_pos ⟨shaped_bool a, shaped_bool b⟩, PyData.eqv]
  cases a <;> cases b <;> rfl
theorem eqD_int {a b : Int} : eqD (.int a) (.int b) = some (.bl (decide (a = b))) := by unfold eqD; rw [eqB_int]; rfl
theorem neD_int {a b : Int} : neD (.int a) (.int b) = some (.bl (!decide (a = b))) := by unfold neD; rw [eqB_int]; rfl
theorem eqD_bl {a b : Bool} : eqD (.bl a) (.bl b) = some (.bl (decide (a = b))) := by unfold eqD; rw [eqB_bl]; rfl
theorem neD_bl {a b : Bool} : neD (.bl a) (.bl b) = some (.bl (!decide (a = b))) := by unfold neD; rw [eqB_bl]; rfl
theorem powD_ok {a b : Int} (h0 : 0 ≤ b) (h1 : b ≤ 1000000) (h2 : a.natAbs < 18446744073709551616) : powD (.int a) (.int b) = some (.int (a ^ b.toNat)) := by
  show (if cPow a b = true then some (D.int (a ^ b.toNat)) else none) = _
  have : cPow a b = true := by
    unfold cPow
    simp only [Bool.and_eq_true, decide_eq_true_eq]
    exact ⟨⟨h0, h1⟩, by simpa using h2⟩
  rw [if_pos this]
theorem atI0 {α : Type} {x : α} {xs : List α} : atI (x :: xs) (0 : Int) = some x := by
  unfold atI ixN; simp
theorem atI1 {α : Type} {x y : α} {xs : List α} : atI (x :: y :: xs) (1 : Int) = some y := by
  unfold atI ixN
  have h : (0:Int) ≤ 1 := by decide
  have h2 : (1:Int) < (xs.length : Int) + 1 + 1 := by omega
  simp [h, h2]
theorem atI_ok {α : Type} {xs : List α} {i : Int} {j : Nat} {x : α} (h : i = j) (hx : xs[j]? = some x) : atI xs i = some x := by
  subst h; exact atI_nat hx
theorem lenD_lst {ds : List D} : lenD [.lst ds] = some (.int ds.length) := rfl
theorem lenD_tup {ds : List D} : lenD [.tup ds] = some (.int ds.length) := rfl
theorem lenD_ks {ds : List D} : lenD [.ks ds] = some (.int ds.length) := rfl
theorem tupD_ok {ds : List D} (h : ds.length ≤ LN) : tupD ds = some (.tup ds) := if_pos h
theorem lstD_ok {ds : List D} (h : ds.length ≤ LN) : lstD ds = some (.lst ds) := if_pos h
theorem gApp_ok {ds : List D} {d : D} (h : ds.length < LN) : gApp ds [d] = some (ds ++ [d], .non) := if_pos h
theorem sAsg_eq {F : EF} {B : D → Env → Option Env} {ρ : Env} : sAsg F B ρ = ((F ρ).bind fun d => B d ρ).elim .no .nx := by
  unfold sAsg
  cases (F ρ).bind fun d => B d ρ <;> rfl
theorem sRet_eq {F : EF} {ρ : Env} : sRet F ρ = (F ρ).elim .no fun d => .rt d ρ := by
  unfold sRet
  cases F ρ <;> rfl
theorem sX_eq {G : XF} {ρ : Env} : sX G ρ = (G ρ).elim .no fun r => .nx r.2 := by
  unfold sX
  cases G ρ <;> rfl
theorem sOwn_eq {i : Nat} {F : EF} {ρ : Env} : sOwn i F ρ = (F ρ).elim .no fun d => if isCt d = true then .nx (ρ.set i (.o d)) else .no := by
  unfold sOwn
  cases F ρ <;> rfl
end BV
set_option linter.all false
set_option maxRecDepth 100000
set_option maxHeartbeats 4000000
namespace BV
open PySem PySem.Spec PyProof.Rows L2
section
variable {s : Sl} {ρ : Env} {d : D} {i : Nat} {f1 : D → Option D} {f2 : D → D → Option D} {f3 : D → D → D → Option D} {fN : List D → Option D} {a b c : EF} {as : AF} {G G' : SF} {T U : TF} {B : D → Env → Option Env} {X : XF}
theorem xeC : eC d (s :: ρ) = some d := rfl
theorem xeV0 : eV 0 (.f d :: ρ) = some d := rfl
theorem xeVs : eV (i + 1) (s :: ρ) = eV i ρ := rfl
theorem xeW0 : eW 0 (.f d :: ρ) = some d := rfl
theorem xeW1 : eW 0 (.o d :: ρ) = some d := rfl
theorem xeWs : eW (i + 1) (s :: ρ) = eW i ρ := rfl
theorem xeO0 : eO 0 (.o d :: ρ) = some d := rfl
theorem xeOs : eO (i + 1) (s :: ρ) = eO i ρ := rfl
theorem xe1 : e1 f1 a (s :: ρ) = (a (s :: ρ)).bind f1 := rfl
theorem xe2 : e2 f2 a b (s :: ρ) = (a (s :: ρ)).bind fun x => (b (s :: ρ)).bind fun y => f2 x y := rfl
theorem xe3 : e3 f3 a b c (s :: ρ) = (a (s :: ρ)).bind fun x => (b (s :: ρ)).bind fun y => (c (s :: ρ)).bind fun z => f3 x y z := rfl
theorem xeN : eN fN as (s :: ρ) = (as (s :: ρ)).bind fN := rfl
theorem xaN : aNil (s :: ρ) = some [] := rfl
theorem xaC : aCons a as (s :: ρ) = (a (s :: ρ)).bind fun x => (as (s :: ρ)).bind fun xs => some (x :: xs) := rfl
theorem xiE {g : D → Option (List D)} : iE g a (s :: ρ) = (a (s :: ρ)).bind g := rfl
theorem xiA {g : List D → Option (List D)} : iA g as (s :: ρ) = (as (s :: ρ)).bind g := rfl
theorem xtF : tF a (s :: ρ) = (a (s :: ρ)).bind blB := rfl
theorem xtR : tR a (s :: ρ) = (a (s :: ρ)).bind trB := rfl
theorem xtNt : tNt T (s :: ρ) = (T (s :: ρ)).map (!·) := rfl
theorem xtA : tA T U (s :: ρ) = (T (s :: ρ)).bind fun b => if b = true then U (s :: ρ) else some false := rfl
theorem xtO : tO T U (s :: ρ) = (T (s :: ρ)).bind fun b => if b = true then some true else U (s :: ρ) := rfl
theorem xtY : tYesF (s :: ρ) = some true := rfl
theorem xeIf : eIf T a b (s :: ρ) = (T (s :: ρ)).bind fun c => if c = true then a (s :: ρ) else b (s :: ρ) := rfl
theorem xbN : bN i d (s :: ρ) = some ((s :: ρ).set i (.f d)) := rfl
theorem xsSeq : sSeq G G' (s :: ρ) = match G (s :: ρ) with
  | .nx ρ1 => G' ρ1
  | f => f := rfl
theorem xsAsg : sAsg a B (s :: ρ) = ((a (s :: ρ)).bind fun d => B d (s :: ρ)).elim .no .nx := sAsg_eq
theorem xsRet : sRet a (s :: ρ) = (a (s :: ρ)).elim .no fun d => .rt d (s :: ρ) := sRet_eq
theorem xsX : sX X (s :: ρ) = (X (s :: ρ)).elim .no fun r => .nx r.2 := sX_eq
theorem xsOwn : sOwn i a (s :: ρ) = (a (s :: ρ)).elim .no fun d => if isCt d = true then .nx ((s :: ρ).set i (.o d)) else .no := sOwn_eq
theorem xsIf : sIf T G G' (s :: ρ) = (T (s :: ρ)).elim .no fun b => if b = true then G (s :: ρ) else G' (s :: ρ) := sIf_eq
theorem xsNil : sNil (s :: ρ) = .nx (s :: ρ) := rfl
theorem xsBk : sBk (s :: ρ) = .bk (s :: ρ) := rfl
theorem xsCt : sCt (s :: ρ) = .ct (s :: ρ) := rfl
theorem xscr {is : List Nat} : scr is (.nx (s :: ρ)) = .nx (wipeE (s :: ρ) is) := rfl
theorem xscrr {is : List Nat} {ρ' : Env} : scr is (.rt d ρ') = .rt d ρ' := rfl
theorem xscrb {is : List Nat} : scr is (.bk (s :: ρ)) = .bk (wipeE (s :: ρ) is) := rfl
theorem xscrc {is : List Nat} : scr is (.ct (s :: ρ)) = .ct (wipeE (s :: ρ) is) := rfl
theorem xwN : wipeE ρ [] = ρ := rfl
theorem xwC {is : List Nat} : wipeE ρ (i :: is) = (wipeE ρ is).set i .u := rfl
theorem xsPar {j : Nat} : sPar i j as (s :: ρ) = match as (s :: ρ) with
  | some [x, y] => .nx (((s :: ρ).set i (.f x)).set j (.f y))
  | _ => .no := rfl
theorem xL_eq {g : List D → List D → Option (List D × D)} {ds : List D} (h : ρ[i]? = some (.o (.lst ds))) : xL i g as ρ = (as ρ).bind fun xs => (g ds xs).map fun r => (r.2, ρ.set i (.o (.lst r.1))) := by
  unfold xL
  rw [h]
  simp only
  cases as ρ with
  | none => rfl
  | some xs =>
    simp only [Option.bind_some]
    cases g ds xs <;> rfl
theorem xRetO {ds : D} (h : ρ[i]? = some (.o ds)) : sRetO i ρ = .rt ds ρ := by unfold sRetO; rw [h]
theorem xixT {ds : List D} {i : Int} : ixD (.tup ds) (.int i) = atI ds i := rfl
theorem xixL {ds : List D} {i : Int} : ixD (.lst ds) (.int i) = atI ds i := rfl
theorem xixK {ds : List D} {i : Int} : ixD (.ks ds) (.int i) = atI ds i := rfl
theorem xseqT {ds : List D} : seqD (.tup ds) = some ds := rfl
theorem xseqL {ds : List D} : seqD (.lst ds) = some ds := rfl
theorem xseqK {ds : List D} : seqD (.ks ds) = some ds := rfl
theorem xabs {i : Int} : absD [.int i] = some (.int (if i < 0 then -i else i)) := rfl
theorem xint1 {b : Bool} : int1D [.bl b] = some (.int (if b then 1 else 0)) := by cases b <;> rfl
theorem xblen {i : Int} : blenD (.int i) = some (.int (bt i)) := rfl
theorem xbl {b : Bool} : blB (.bl b) = some b := rfl
theorem xtrb {b : Bool} : trB (.bl b) = some b := rfl
theorem xct {ds : List D} : isCt (.lst ds) = true := rfl
theorem xct2 {ks : List (List Key)} {ds : List D} : isCt (.dt ks ds) = true := rfl
theorem xbT {ds : List D} {cc : List D → Env → Option Env} : bTup cc (.tup ds) (s :: ρ) = cc ds (s :: ρ) := rfl
theorem xbC {ds : List D} {cc : List D → Env → Option Env} : bCons B cc (d :: ds) (s :: ρ) = (B d (s :: ρ)).bind fun ρ1 => cc ds ρ1 := rfl
theorem xbNl : bNil [] (s :: ρ) = some (s :: ρ) := rfl
theorem xtupL {ds : List D} : tupleD [.lst ds] = some (.tup ds) := rfl
theorem xeAnd : eAnd a b (s :: ρ) = (a (s :: ρ)).bind fun x => (blB x).bind fun t => if t = true then b (s :: ρ) else some (.bl false) := by
  unfold eAnd
  cases a (s :: ρ) with
  | none => rfl
  | some x => cases x <;> first | rfl | (rename_i t; cases t <;> rfl)
theorem xeOr : eOr a b (s :: ρ) = (a (s :: ρ)).bind fun x => (blB x).bind fun t => if t = true then some (.bl true) else b (s :: ρ) := by
  unfold eOr
  cases a (s :: ρ) with
  | none => rfl
  | some x => cases x <;> first | rfl | (rename_i t; cases t <;> rfl)
theorem xtupT {ds : List D} : tupleD [.tup ds] = some (.tup ds) := rfl
theorem xnot {b : Bool} : notD (.bl b) = some (.bl !b) := rfl
theorem bd_eq {B : D → Env → Option Env} : bd B G d ρ = (B d ρ).elim .no G := by unfold bd; cases B d ρ <;> rfl
end
end BV
set_option linter.all false
set_option maxRecDepth 100000
namespace Toy
open PySem L2
def spLaw (K : PySem.W.Frag) : Sp := fun vs H Q _ => ∃ (a : Addr) (ns : List Int), vs = [.ref a] ∧ SqL K H a (ns.map V.int) ∧ ns.length ≤ 63 ∧ ∀ H', Q (.bl true) H'
end Toy
set_option linter.all false
set_option maxRecDepth 100000
set_option maxHeartbeats 4000000
namespace L2
open PySem PySem.Spec PyProof.Rows
section
variable {prog : Program} {w : World} {A : Around} {E : Value → Shared → Prop} {s : Shared}
end
section
variable {prog : Program} {w : World} {A : Around} {R : Result → Shared → Prop} {I : Addr} {fp wr : List Addr} {n : Nat} {P : Nat → Value → Prop} {St : Nat → Heap → Prop} {kw : List (Str × Value)}
end
section
variable {prog : Program} {w : World} {A : Around} {E : Value → Shared → Prop} {s : Shared}
end
end L2
set_option linter.all false
set_option maxRecDepth 100000
set_option maxHeartbeats 4000000
namespace BV
open PySem PySem.Spec PyProof.Rows L2
section
variable {X : Cx} {C : Addr} {m ma mb : Md} {e e' : Expr} {pos p kp : Pos} {ta tb : TE} {Fa Fb : EF}
end
end BV
set_option linter.all false
set_option maxRecDepth 100000
set_option maxHeartbeats 4000000
namespace BV
open PySem PySem.Spec PyProof.Rows L2
section
variable {X : Cx} {C : Addr} {rm m1 m2 : Md} {io : List Nat} {o o2 k1 k2 e : Expr} {te t1 t2 : TE} {K1 K2 F : EF} {pos pos1 pos2 pt : Pos} {kt : Nat}
end
end BV
set_option linter.all false
set_option maxRecDepth 100000
set_option maxHeartbeats 4000000
namespace BV
open PySem PySem.Spec PyProof.Rows L2
section
variable {X : Cx} {C : Addr} {m : Md} {e st : Expr} {te : TE} {tk : TO} {F : EF} {pos p2 : Pos}
end
end BV
set_option linter.all false
set_option maxRecDepth 100000
set_option maxHeartbeats 4000000
namespace BV
open PySem PySem.Spec PyProof.Rows L2
section
variable {X : Cx} {C : Addr} {m : Md} {e : Expr} {es : List Expr} {tf : TE} {t : TA} {F : EF} {G : AF} {pos p : Pos} {x : Str} {k n : Nat} {ps : List Str}
theorem EV.fnv (hg : Gl X x) (hm : ∃ f, X.mg x = some (.ref f)) (hd : (x == ("__debug__" : Str)) = false := by decide) : EV X C .f (.Name x pos) (tC (.ref hm.choose)) (eC (.fn x)) := ⟨pe_glob hg hm.choose_spec rfl hd, fun A σ ρ H Q d hs e k => by
  cases e
  exact k _ _ Same.rfl ⟨by unfold Rp; exact ⟨_, rfl, hm.choose_spec⟩, fun z => nomatch z⟩⟩
theorem Ct.nm {P : Program} {w : World} {K : PySem.W.Frag} {mg : Str → Option Value} {base : Heap} {k : Nat} {sp : Sp} (c : Ct P w K mg base k x ps sp) : ∃ f, mg x = some (.ref f) := let ⟨f, _, m, _⟩ := c; ⟨f, m⟩
end
end BV
set_option linter.all false
set_option maxRecDepth 100000
set_option maxHeartbeats 4000000
namespace BV
open PySem PySem.Spec PyProof.Rows L2
end BV
set_option linter.all false
set_option maxRecDepth 100000
set_option maxHeartbeats 4000000
namespace BV
open PySem PySem.Spec PyProof.Rows L2
section
variable {X : Cx} {C : Addr} {rm : Md} {io is : List Nat} {tg it e : Expr} {t : List Stmt} {pos : Pos} {g : TG} {ts : TS} {B : D → Env → Option Env} {G : SF} {i : Nat}
end
end BV
set_option linter.all false
set_option maxRecDepth 100000
set_option maxHeartbeats 4000000
namespace L2
open PySem PySem.Spec PyProof.Rows
section
variable {prog : Program} {w : World} {A : Around} {E : Value → Shared → Prop} {s : Shared}
end
end L2
set_option linter.all false
set_option maxRecDepth 100000
set_option maxHeartbeats 4000000
namespace L2
open PySem PySem.Spec PyProof.Rows
section
variable {prog : Program} {w : World} {A : Around} {E : Value → Shared → Prop} {s : Shared}
end
section
variable {prog : Program} {w : World} {A : Around} {R : Result → Shared → Prop}
end
end L2
set_option linter.all false
set_option maxRecDepth 100000
set_option maxHeartbeats 4000000
namespace L2
open PySem PySem.Spec PyProof.Rows
open AutoSeq1 (wpAny_loadPart')
section
variable {prog : Program} {w : World} {A : Around} {E : Value → Shared → Prop} {s : Shared}
end
section
variable {prog : Program} {w : World} {A : Around} {R : Result → Shared → Prop} {X : Cx} {pins : List (Addr × Obj)} {σ : St}
end
namespace F2
end F2
section
variable {prog : Program} {w : World} {A : Around} {E : Value → Shared → Prop} {s : Shared} {X : Cx} {pins : List (Addr × Obj)} {σ : St}
end
end L2
set_option linter.all false
set_option maxRecDepth 100000
set_option maxHeartbeats 4000000
namespace L2
open PySem PySem.Spec PyProof.Rows
end L2
namespace BV
open PySem PySem.Spec PyProof.Rows L2
section
variable {X : Cx} {C : Addr} {e e2 : Expr} {p pos : Pos}
end
end BV
set_option linter.all false
set_option maxRecDepth 100000
set_option maxHeartbeats 4000000
namespace Toy
open PySem L2 BV
def EVs := And.intro @xeC (And.intro @xeV0 (And.intro @xeVs (And.intro @xeW0 (And.intro @xeW1 (And.intro @xeWs (And.intro @xeO0 (And.intro @xeOs (And.intro @xe1 (And.intro @xe2 (And.intro @xe3 (And.intro @xeN (And.intro @xaN (And.intro @xaC (And.intro @xiE (And.intro @xiA (And.intro @xtF (And.intro @xtR (And.intro @xtNt (And.intro @xtA (And.intro @xtO (And.intro @xtY (And.intro @xeIf (And.intro @xeAnd (And.intro @xeOr (And.intro @xbN (And.intro @xsSeq (And.intro @xsAsg (And.intro @xsRet (And.intro @xsX (And.intro @xsOwn (And.intro @xsIf (And.intro @xsNil (And.intro @xsBk (And.intro @xsCt (And.intro @xscr (And.intro @xscrr (And.intro @xscrb (And.intro @xscrc (And.intro @xwN (And.intro @xwC (And.intro @xsPar (And.intro @xixT (And.intro @xixL (And.intro @xixK (And.intro @xseqT (And.intro @xseqL (And.intro @xseqK (And.intro @xabs (And.intro @xint1 (And.intro @xblen (And.intro @xbl (And.intro @xtrb (And.intro @xct (And.intro @xct2 (And.intro @xbT (And.intro @xbC (And.intro @xbNl (And.intro @xtupL (And.intro @xtupT (And.intro @xnot (And.intro @addD_int (And.intro @subD_int (And.intro @negD_int (And.intro @ltD_int (And.intro @leD_int (And.intro @gtD_int (And.intro @geD_int (And.intro @eqD_int (And.intro @neD_int (And.intro @eqD_bl (And.intro @neD_bl (And.intro @atI0 (And.intro @atI1 (And.intro @lenD_lst (And.intro @lenD_tup (@lenD_ks))))))))))))))))))))))))))))))))))))))))))))))))))))))))))))))))))))))))))))
end Toy
set_option linter.all false
set_option maxRecDepth 100000
set_option maxHeartbeats 4000000
namespace L2
open PySem PySem.Spec PyProof.Rows
section
variable {prog : Program} {w : World} {A : Around} {E : Value → Shared → Prop} {s : Shared}
end
section
variable {X : Cx} {pos : Pos}
end
end L2
namespace BV
open PySem PySem.Spec PyProof.Rows L2
section
variable {X : Cx} {C : Addr} {is : List Nat} {pos : Pos}
end
end BV
set_option linter.all false
set_option maxRecDepth 100000
set_option maxHeartbeats 4000000
namespace BV
open PySem PySem.Spec PyProof.Rows L2
section
variable {X : Cx} {C : Addr} {e e2 : Expr} {p pos : Pos}
end
end BV
set_option linter.all false
set_option maxRecDepth 100000
namespace L2
open PySem PySem.Spec PyProof.Rows
end L2
set_option linter.all false
set_option maxRecDepth 100000
namespace L2
open PySem PySem.Spec PyProof.Rows
section
variable {prog : Program} {w : World} {A : Around} {E : Value → Shared → Prop}
end
section
variable {X : Cx}
end
end L2
namespace BV
open PySem PySem.Spec PyProof.Rows L2
section
variable {X : Cx} {C : Addr}
end
end BV
set_option linter.all false
set_option maxRecDepth 100000
namespace BV
open PySem PySem.Spec PyProof.Rows L2
section
variable {X : Cx} {C : Addr} {pos : Pos}
end
end BV
set_option linter.all false
set_option maxRecDepth 100000
namespace L2
open PySem PySem.Spec PyProof.Rows
open PySem.Builtin.SmallTypes (nextOf)
structure Z3Apart (z TI TO i1 i2 i3 l1 l2 l3 : Addr) : Prop where
  TIz : TI ≠ z
  TOz : TO ≠ z
  i1z : i1 ≠ z
  i2z : i2 ≠ z
  i3z : i3 ≠ z
  TITO : TI ≠ TO
  TIi1 : TI ≠ i1
  TIi2 : TI ≠ i2
  TIi3 : TI ≠ i3
  TOi1 : TO ≠ i1
  TOi2 : TO ≠ i2
  TOi3 : TO ≠ i3
  i12 : i1 ≠ i2
  i13 : i1 ≠ i3
  i23 : i2 ≠ i3
  l1 : l1 ≠ z ∧ l1 ≠ TO ∧ l1 ≠ i1 ∧ l1 ≠ i2 ∧ l1 ≠ i3
  l2 : l2 ≠ z ∧ l2 ≠ TO ∧ l2 ≠ i1 ∧ l2 ≠ i2 ∧ l2 ≠ i3
  l3 : l3 ≠ z ∧ l3 ≠ TO ∧ l3 ≠ i1 ∧ l3 ≠ i2 ∧ l3 ≠ i3
section
variable {prog : Program} {w : World} {A : Around} {E : Value → Shared → Prop} {s : Shared} {z TI TO i1 i2 i3 l1 l2 l3 : Addr} {S1 S2 S3 : Nat → Heap → Prop} {xs ys zs : Array Value} {k : Nat}
end
end L2
set_option linter.all false
set_option maxRecDepth 100000
set_option maxHeartbeats 4000000
namespace L2
open PySem PySem.Spec PyProof.Rows
open PySem.Builtin.SmallTypes (nextOf)
section
variable {prog : Program} {w : World} {A : Around} {E : Value → Shared → Prop} {s : Shared} {z TI TO i1 i2 i3 l1 l2 l3 : Addr} {k : Nat} {xs ys zs : Array Value}
end
end L2
set_option linter.all false
set_option maxRecDepth 100000
namespace BV
open PySem PySem.Spec PyProof.Rows L2
theorem RwL.three {W : Wd} {A : Av} {H : Hp} {d e f : D} {vs : List V} (h : RwL W A H [d, e, f] vs) : ∃ v u t, vs = [v, u, t] ∧ Rw W A H d v ∧ Rw W A H e u ∧ Rw W A H f t := by
  obtain ⟨v, r, rfl, a, b⟩ := h
  obtain ⟨u, t, rfl, c, d⟩ := RwL.two b
  exact ⟨v, u, t, rfl, a, c, d⟩
section
variable {X : Cx} {C : Addr} {e e2 e3 : Expr} {p pos : Pos}
end
end BV
set_option linter.all false
set_option maxRecDepth 100000
set_option maxHeartbeats 4000000
namespace L2
open PySem PySem.Spec PyProof.Rows
open AutoSeq1 (wpAny_loadPart')
section
variable {prog : Program} {w : World} {A : Around} {E : Value → Shared → Prop} {s : Shared}
end
end L2
set_option linter.all false
set_option maxRecDepth 100000
set_option maxHeartbeats 4000000
namespace L2
open PySem PySem.Spec PyProof.Rows
end L2
namespace BV
open PySem PySem.Spec PyProof.Rows L2
section
variable {X : Cx} {C : Addr} {tg e e2 : Expr} {te : TE} {F : EF} {m : Md} {p pos : Pos}
theorem BV.va {es : List Expr} {ta : TA} {G : AF} (h : BV X C es ta G) : VA (wd X C) ta G := fun A σ ρ H Q ds hs e k => h.vb A σ ρ H Q ds hs e fun vs H' s r => k vs H' s r.w
end
end BV
set_option linter.all false
set_option maxRecDepth 100000
set_option maxHeartbeats 4000000
namespace L2
open PySem PySem.Spec PyProof.Rows
section
variable {prog : Program} {w : World} {knd : HeapKind prog w (List Key)} {A : Around} {E : Value → Shared → Prop} {s : Shared}
end
end L2
namespace BV
open PySem PySem.Spec PyProof.Rows L2
end BV
set_option linter.all false
set_option maxRecDepth 100000
set_option maxHeartbeats 4000000
namespace BV
open PySem PySem.Spec PyProof.Rows L2
section
variable {X : Cx} {C : Addr} {o e : Expr} {to te : TE} {Fo Fe : EF} {mo me : Md} {apos pos : Pos} {K : PySem.W.Frag}
def eOrS (a b : EF) : EF := fun ρ => (a ρ).bind fun
  | .str x => if x.length ≤ LN then (if ((x.length : Int) != 0) = true then some (.str x) else b ρ) else none
  | _ => none
def tOrS (ta tb : TE) : TE := fun σ H Q => ta σ H fun x H1 => ∃ z, x = .str z ∧ z.length ≤ LN ∧ if ((z.length : Int) != 0) = true then Q (.str z) H1 else tb σ H1 Q
theorem pe_orS {a b : Expr} {ta tb : TE} {rest : List Expr} (ha : PE X a ta) (hb : PE X (.BoolOp .Or (b :: rest) pos) tb) : PE X (.BoolOp .Or (a :: b :: rest) pos) (tOrS ta tb) := by
  intro pins s σ H Q I h
  refine BoolOp_or (thn (ha pins s σ H _ I h) fun v s1 ⟨x, H1, I1, r1, q1⟩ => ?_)
  obtain ⟨z, rfl, hz, q1⟩ := q1
  obtain ⟨t, rfl⟩ := r1
  refine PySem.P.truthy_str (by have h1 : z.length ≤ 1048576 := hz; omega) ?_
  cases hb' : ((z.length : Int) != 0) with
  | false =>
    rw [hb'] at q1
    exact hb pins _ σ H1 Q (I1.tok _) q1
  | true =>
    rw [hb'] at q1
    exact ⟨.str z, H1, I1.tok _, ⟨_, rfl⟩, q1⟩
theorem EV.orS {a b : Expr} {ta tb : TE} {Fa Fb : EF} {ma : Md} {rest : List Expr} (ha : EV X C ma a ta Fa) (hb : EV X C .f (.BoolOp .Or (b :: rest) pos) tb Fb) : EV X C .f (.BoolOp .Or (a :: b :: rest) pos) (tOrS ta tb) (eOrS Fa Fb) := ⟨pe_orS ha.pe hb.pe, fun A σ ρ H Q d hs e k => by
  unfold eOrS at e
  obtain ⟨x, e1, e'⟩ := Option.bind_eq_some_iff.mp e
  clear e
  revert e'; intro e
  refine ha.ve A σ ρ H _ _ hs e1 fun v H1 s1 r1 => ?_
  cases x <;> first | (cases e; done) | skip
  rename_i q
  dsimp only at e
  split at e
  case isFalse => cases e
  case isTrue hl =>
  refine ⟨q, r1.w.str, hl, ?_⟩
  cases hb' : ((q.length : Int) != 0) with
  | true => rw [hb'] at e; cases e; simp only [if_true]; exact k _ H1 s1 Fr.str
  | false => rw [hb'] at e; simp only [Bool.false_eq_true, if_false] at e ⊢; exact hb.ve A σ ρ H1 _ _ (hs.same s1) e fun u H2 s2 r2 => k u H2 (s1.trans s2) (Fr.back s1 r2)⟩
end
end BV
set_option linter.all false
set_option maxRecDepth 100000
set_option maxHeartbeats 4000000
namespace L2
open PySem PySem.Spec PyProof.Rows
section
variable {prog : Program} {w : World} {A : Around} {E : Value → Shared → Prop} {s : Shared}
end
section
variable {X : Cx} {pos sp : Pos} {e1 e2 : Expr}
end
end L2
namespace BV
open PySem PySem.Spec PyProof.Rows L2
section
variable {X : Cx} {C : Addr} {rm : Md} {io is : List Nat} {e e1 e2 : Expr} {te : TE} {F : EF} {pos tp sp : Pos} {k : Nat}
end
end BV
set_option linter.all false
set_option maxRecDepth 100000
set_option maxHeartbeats 4000000
namespace L2
open PySem PySem.Spec PyProof.Rows
end L2
namespace BV
open PySem PySem.Spec PyProof.Rows L2
end BV
set_option linter.all false
set_option maxRecDepth 100000
set_option maxHeartbeats 4000000
namespace L2
open PySem PySem.Spec PyProof.Rows
section
variable {X : Cx} {e : Expr} {te : TE} {tk : TO} {pos p2 : Pos} {st : Expr}
end
end L2
namespace BV
open PySem PySem.Spec PyProof.Rows L2
section
variable {X : Cx} {C : Addr} {m : Md} {e st : Expr} {te : TE} {tk : TO} {F : EF} {pos p2 : Pos}
end
end BV
set_option linter.all false
set_option maxRecDepth 100000
set_option maxHeartbeats 4000000
namespace BV
open PySem PySem.Spec PyProof.Rows L2
def WX (W : Wd) (E : XK) (A : Av) (H : Hp) (x : D) : Prop := ∀ e od H', Same H H' → Rp W A H' x (.ref e) → E (.ref e) od H'
theorem WX.same {W : Wd} {E : XK} {A : Av} {H H1 : Hp} {x : D} (h : WX W E A H x) (s : Same H H1) : WX W E A H1 x := fun e od H' s' r => h e od H' (s.trans s') r
def VEX (W : Wd) (E : XK) (te : TE) (F : EF) : Prop := ∀ (A : Av) (σ : LSt) (ρ : Env) (H : Hp) (Q : VK) (x : D), SE W A H σ ρ → F ρ = some x → WX W E A H x → te σ H Q
def VAX (W : Wd) (E : XK) (ta : TA) (F : EF) : Prop := ∀ (A : Av) (σ : LSt) (ρ : Env) (H : Hp) (Q : List V → Hp → Prop) (x : D), SE W A H σ ρ → F ρ = some x → WX W E A H x → ta σ H Q
def xN : EF := fun _ => none
def xOr {α : Type} (X1 : EF) (F : Env → Option α) (X2 : EF) : EF := fun ρ => match X1 ρ with
  | some x => some x
  | none => (F ρ).bind fun _ => X2 ρ
structure XE (X : Cx) (C : Addr) (E : XK) (m : Md) (e : Expr) (te : TE) (F : EF) (G : EF) : Prop where
  pe : PE X e te
  ve : VE (wd X C) m te F
  vx : VEX (wd X C) E te G
structure XA (X : Cx) (C : Addr) (E : XK) (es : List Expr) (ta : TA) (F : AF) (G : EF) : Prop where
  pa : PA X es ta
  vb : VB (wd X C) ta F
  vx : VAX (wd X C) E ta G
section
variable {X : Cx} {C : Addr} {E : XK} {m ma : Md} {e : Expr} {es : List Expr} {te : TE} {ta : TA} {F Fx : EF} {G : AF} {Gx : EF} {pos : Pos}
theorem vex_no {W : Wd} {te : TE} : VEX W E te xN := fun A σ ρ H Q x hs e k => by cases e
theorem vax_no {W : Wd} {ta : TA} : VAX W E ta xN := fun A σ ρ H Q x hs e k => by cases e
theorem XE.of (h : EV X C m e te F) : XE X C E m e te F xN := ⟨h.pe, h.ve, vex_no⟩
theorem XE.st (h : XE X C E .f e te F Fx) : XE X C E .s e te F Fx := ⟨h.pe, fun A σ ρ H Q d hs e k => h.ve A σ ρ H Q d hs e fun v H' s r => k v H' s r.1, h.vx⟩
theorem XA.of (h : BV X C es ta G) : XA X C E es ta G xN := ⟨h.pa, h.vb, vax_no⟩
theorem XA.cons (a : XE X C E .s e te F Fx) (b : XA X C E es ta G Gx) (hst : starEach (e :: es) X.env = (false, eval e X.env) :: starEach es X.env := by rfl) : XA X C E (e :: es) (tCons te ta) (aCons F G) (xOr Fx F Gx) :=
  ⟨pa_cons a.pe b.pa hst, fun A σ ρ H Q ds hs e k => by
    unfold aCons at e
    obtain ⟨d, e1, e⟩ := Option.bind_eq_some_iff.mp e
    obtain ⟨r, e2, e⟩ := Option.bind_eq_some_iff.mp e
    cases e
    exact a.ve A σ ρ H _ d hs e1 fun v H1 s1 r1 => b.vb A σ ρ H1 _ r (hs.same s1) e2 fun vs H2 s2 r2 => k _ _ (s1.trans s2) (by unfold RpL; exact ⟨v, vs, rfl, r1.same s2, r2⟩),
   fun A σ ρ H Q x hs e k => by
    unfold xOr at e
    cases q : Fx ρ with
    | some y => rw [q] at e; cases e; exact a.vx A σ ρ H _ x hs q k
    | none =>
      rw [q] at e
      obtain ⟨d, e1, e2⟩ := Option.bind_eq_some_iff.mp e
      exact a.ve A σ ρ H _ d hs e1 fun v H1 s1 r1 => b.vx A σ ρ H1 _ x (hs.same s1) e2 (k.same s1)⟩
def spX (W : Wd) (n : Nat) (xf : List D → Option D) : Sp := fun vs H Q E => ∃ A ds x, ds.length = n ∧ AX A H ∧ RpL W A H ds vs ∧ xf ds = some x ∧ WX W E A H x
def spU (W : Wd) (m : Md) (n : Nat) (pf xf : List D → Option D) : Sp := fun vs H Q E => spV W m n pf vs H Q E ∨ spX W n xf vs H Q E
theorem spU.len {W : Wd} {m : Md} {n : Nat} {pf xf : List D → Option D} {vs : List V} {H : Hp} {Q : VK} {E : XK} (h : spU W m n pf xf vs H Q E) : vs.length = n := by
  rcases h with h | ⟨A, ds, x, hl, ax, r, _⟩
  · exact h.len
  · rw [r.length, hl]
def CtU (P : Program) (w : World) (K : PySem.W.Frag) (mg : Str → Option Value) (base : Heap) (k : Nat) (x : Str) (ps : List Str) (sp : Sp) : Prop :=
  ∃ f fd, mg x = some (.ref f) ∧ PySem.W.keepIn K (.ref f) = true ∧ Binds K fd ps [] ∧ FnOk P w K mg base (CXX P w) k f fd ps sp
theorem CtU.mono {P : Program} {w : World} {K : PySem.W.Frag} {mg : Str → Option Value} {base : Heap} {j k : Nat} {x : Str} {ps : List Str} {sp : Sp} (c : CtU P w K mg base j x ps sp) (h : j ≤ k) : CtU P w K mg base k x ps sp := by
  obtain ⟨f, fd, m, kp, b, F⟩ := c
  exact ⟨f, fd, m, kp, b, F.mono h⟩
theorem XE.call {x : Str} {p : Pos} {k n : Nat} {ps : List Str} {pf xf : List D → Option D} (c : CtU X.prog X.w X.K X.mg X.base k x ps (spU (wd X C) m n pf xf)) (hx : Passes (CXX X.prog X.w) X E) (hr : Room k X.A) (hg : Gl X x) (ha : XA X C E (e :: es) ta G Gx) (hl : LenN n G) (hdb : (x == ("__debug__" : Str)) = false := by decide)
    (he : starEach (e :: es) X.env = (false, eval e X.env) :: starEach es X.env := by rfl) (hpl : (backTo pos (starEach es X.env)).any (·.1) = false := by rfl) : XE X C E m (.Call (.Name x p) (e :: es) [] pos) (tCall (spU (wd X C) m n pf xf) [] E ta) (eN pf G) (xOr Gx G (eN xf G)) := by
  obtain ⟨f, fd, mm, kp, b, Fn⟩ := c
  refine ⟨pe_call Fn hr hg mm kp b .nil hx ha.pa hdb he hpl, fun A σ ρ H Q d hs e k => ?_, fun A σ ρ H Q x hs e k => ?_⟩
  · unfold eN at e
    obtain ⟨ds, e1, e⟩ := Option.bind_eq_some_iff.mp e
    refine ha.vb A σ ρ H _ ds hs e1 fun vs H1 s1 r1 => ?_
    rw [List.append_nil]
    exact .inl ⟨A, ds, d, hl ρ ds e1, (hs.same s1).ax, r1, e, fun v H' s2 r2 => k v H' (s1.trans s2) (r2.back s1)⟩
  · unfold xOr at e
    cases q : Gx ρ with
    | some y => rw [q] at e; cases e; exact ha.vx A σ ρ H _ x hs q k
    | none =>
      rw [q] at e
      obtain ⟨ds, e1, e2⟩ := Option.bind_eq_some_iff.mp e
      unfold eN at e2
      rw [e1] at e2
      have e2 : xf ds = some x := e2
      refine ha.vb A σ ρ H _ ds hs e1 fun vs H1 s1 r1 => ?_
      rw [List.append_nil]
      exact .inr ⟨A, ds, x, hl ρ ds e1, (hs.same s1).ax, r1, e2, k.same s1⟩
end
def KX (W : Wd) (E : XK) (A : Av) (σ : LSt) (ρ : Env) (H : Hp) (x : D) : Prop := ∀ e od H', Kx (Own σ ρ) H H' → Rp W A H' x (.ref e) → E (.ref e) od H'
def VSX (W : Wd) (E : XK) (io : List Nat) (ts : TS) (G : EF) : Prop := ∀ (A : Av) (ia : List (Nat × Addr)) (H0 : Hp) (σ : LSt) (ρ : Env) (H : Hp) (D' : Ends) (x : D), ia.map (·.1) = io → SR W A ia H0 H σ ρ → G ρ = some x → KX W E A σ ρ H x → ts D' σ H
theorem KX.step {W : Wd} {E : XK} {A : Av} {σ σ1 : LSt} {ρ ρ1 : Env} {H H1 : Hp} {x : D} (h : KX W E A σ ρ H x) (s : Stp H σ ρ H1 σ1 ρ1) : KX W E A σ1 ρ1 H1 x := fun e od H' k r => h e od H' (s.kx k) r
theorem KX.wx {W : Wd} {E : XK} {A : Av} {σ : LSt} {ρ : Env} {H : Hp} {x : D} (h : KX W E A σ ρ H x) : WX W E (AO A σ ρ) H x := fun e od H' s r => h e od H' (Same.kx s) (Rp.ex (fun q z => .inl (.inl z)) _ _ r)
structure XS (X : Cx) (C : Addr) (E : XK) (rm : Md) (io : List Nat) (st : Stmt) (ts : TS) (G : SF) (Gx : EF) : Prop where
  ps : PS X st ts
  vs : VS (wd X C) rm io ts G
  vx : VSX (wd X C) E io ts Gx
structure XSs (X : Cx) (C : Addr) (E : XK) (rm : Md) (io : List Nat) (st : List Stmt) (ts : TS) (G : SF) (Gx : EF) : Prop where
  ps : PSs X st ts
  vs : VS (wd X C) rm io ts G
  vx : VSX (wd X C) E io ts Gx
def xSeq (X1 : EF) (G : SF) (X2 : EF) : EF := fun ρ => match X1 ρ with
  | some x => some x
  | none => match G ρ with
    | .nx ρ1 => X2 ρ1
    | _ => none
def xIf (T : TF) (X1 X2 : EF) : EF := fun ρ => match T ρ with
  | some true => X1 ρ
  | some false => X2 ρ
  | none => none
def forXD (B : D → Env → Option Env) (G : SF) (X1 : EF) : List D → Env → Option D
  | [], _ => none
  | d :: ds, ρ => match B d ρ with
    | none => none
    | some ρ1 => match X1 ρ1 with
      | some x => some x
      | none => match G ρ1 with
        | .nx ρ2 => forXD B G X1 ds ρ2
        | .ct ρ2 => forXD B G X1 ds ρ2
        | _ => none
def xFor (I : LF) (B : D → Env → Option Env) (G : SF) (X1 : EF) : EF := fun ρ => match I ρ with
  | some ds => forXD B G X1 ds ρ
  | none => none
section
variable {X : Cx} {C : Addr} {E : XK} {rm m : Md} {io is : List Nat} {e : Expr} {te : TE} {F Fx : EF} {pos : Pos}
theorem vsx_no {W : Wd} {ts : TS} : VSX W E io ts xN := fun A ia H0 σ ρ H D' x hio hs e k => by cases e
theorem XS.of {st : Stmt} {ts : TS} {G : SF} (h : SV X C rm io st ts G) : XS X C E rm io st ts G xN := ⟨h.ps, h.vs, vsx_no⟩
theorem XSs.of {st : List Stmt} {ts : TS} {G : SF} (h : SsV X C rm io st ts G) : XSs X C E rm io st ts G xN := ⟨h.ps, h.vs, vsx_no⟩
theorem XSs.one {st : Stmt} {ts : TS} {G : SF} {Gx : EF} (h : XS X C E rm io st ts G Gx) : XSs X C E rm io [st] ts G Gx := ⟨pss_one h.ps, h.vs, h.vx⟩
theorem vsx_seq {W : Wd} {t u : TS} {G : SF} {X1 X2 : EF} (a : VS W rm io t G) (ax : VSX W E io t X1) (bx : VSX W E io u X2) : VSX W E io (tSeq t u) (xSeq X1 G X2) := by
  intro A ia H0 σ ρ H D' x hio hs e k
  unfold xSeq at e
  cases q : X1 ρ with
  | some y => rw [q] at e; cases e; exact ax A ia H0 σ ρ H _ x hio hs q k
  | none =>
    rw [q] at e
    dsimp only at e
    refine a A ia H0 σ ρ H _ hio hs ?_
    cases g : G ρ with
    | nx ρ1 => rw [g] at e; exact fun σ1 H1 s1 p1 => bx A ia H0 σ1 ρ1 H1 D' x hio s1 e (k.step p1)
    | rt d ρ1 => rw [g] at e; cases e
    | bk ρ1 => rw [g] at e; cases e
    | ct ρ1 => rw [g] at e; cases e
    | no => rw [g] at e; cases e
theorem XSs.cons {st : Stmt} {sts : List Stmt} {t u : TS} {G G' : SF} {X1 X2 : EF} (h : XS X C E rm io st t G X1) (k : XSs X C E rm io sts u G' X2) : XSs X C E rm io (st :: sts) (tSeq t u) (sSeq G G') (xSeq X1 G X2) := ⟨pss_cons h.ps k.ps, vs_seq h.vs k.vs, vsx_seq h.vs h.vx k.vx⟩
theorem XSs.scr {sts : List Stmt} {t : TS} {G : SF} {Gx : EF} (is : List Nat) (hi : ∀ i ∈ is, i ∉ io) (h : XSs X C E rm io sts t G Gx) : XSs X C E rm io sts t (fun ρ => BV.scr is (G ρ)) Gx := ⟨h.ps, vs_scr is hi h.vs, h.vx⟩
theorem XS.scr {st : Stmt} {t : TS} {G : SF} {Gx : EF} (is : List Nat) (hi : ∀ i ∈ is, i ∉ io) (h : XS X C E rm io st t G Gx) : XS X C E rm io st t (fun ρ => BV.scr is (G ρ)) Gx := ⟨h.ps, vs_scr is hi h.vs, h.vx⟩
theorem vsx_if {W : Wd} {tt : TT} {t u : TS} {T : TF} {X1 X2 : EF} (ht : VT W tt T) (a : VSX W E io t X1) (b : VSX W E io u X2) : VSX W E io (tIfS tt t u) (xIf T X1 X2) := by
  intro A ia H0 σ ρ H D' x hio hs h k
  unfold xIf at h
  cases q : T ρ with
  | none => rw [q] at h; cases h
  | some c =>
    rw [q] at h
    refine ht _ σ ρ H _ c hs.se q fun H1 s1 => ?_
    cases c with
    | true => simp only [if_true]; exact a A ia H0 σ ρ H1 D' x hio (hs.same s1) h (k.step (Stp.same s1))
    | false => simp only [Bool.false_eq_true, if_false]; exact b A ia H0 σ ρ H1 D' x hio (hs.same s1) h (k.step (Stp.same s1))
theorem XS.ite {c : Expr} {t u : List Stmt} {tc : TT} {T : TF} {ts us : TS} {G G' : SF} {X1 X2 : EF} (hc : TV X C c tc T) (ha : XSs X C E rm io t ts G X1) (hb : XSs X C E rm io u us G' X2) : XS X C E rm io (.If c t u pos) (tIfS tc ts us) (sIf T G G') (xIf T X1 X2) := ⟨ps_if hc.pt ha.ps hb.ps, vs_if hc.vt ha.vs hb.vs, vsx_if hc.vt ha.vx hb.vx⟩
theorem vsx_for {W : Wd} {wi : TI} {g : TG} {tb : TS} {I : LF} {B : D → Env → Option Env} {G : SF} {X1 : EF} (hi : VI W true wi I) (hg : VG W is g B) (hb : VS W rm io tb G) (hx : VSX W E io tb X1) (ho : ∀ i ∈ is, i ∉ io) : VSX W E io (tFor wi g tb) (xFor I B G X1) := by
  intro A ia H0 σ ρ H D' x hio hs h k
  unfold xFor at h
  cases e : I ρ with
  | none => rw [e] at h; cases h
  | some ds =>
  rw [e] at h
  refine hi _ σ ρ H _ ds hs.se e fun J H1 s1 it => ?_
  have hs1 := hs.same s1
  refine ⟨fun i n σ' H' => i + n = ds.length ∧ ∃ ρ', SR W A ia H0 H' σ' ρ' ∧ Stp H1 σ ρ H' σ' ρ' ∧ forXD B G X1 (ds.drop i) ρ' = some x ∧ KX W E A σ' ρ' H' x, ⟨ds.length, by omega, ρ, hs1, .refl, h, k.step (Stp.same s1)⟩, ?_⟩
  rintro i n σ2 H2 ⟨hn, ρ2, hs2, st2, p2, k2⟩
  have kx : Kx (AO A σ ρ) H1 H2 := fun q o nq z => st2.k q o (fun y => nq (.inr y)) z
  have ex : Ex H1 (AO A σ ρ) (AO A σ2 ρ2) := fun q z => by
    rcases z with z | z
    · exact .inl (.inl z)
    · rcases st2.n q z with z | z
      · exact .inl (.inr z)
      · exact .inr z
  obtain ⟨it1, it2⟩ := it _ H2 ex hs2.se.ax (by simp only [if_true]; exact kx) i
  cases n with
  | zero =>
    rw [List.drop_eq_nil_of_le (by omega)] at p2
    cases p2
  | succ n =>
    right
    have hlt : i < ds.length := by omega
    obtain ⟨go, yl⟩ := it1 _ (List.getElem?_eq_getElem hlt)
    rw [List.drop_eq_getElem_cons hlt] at p2
    unfold forXD at p2
    refine ⟨go, fun σ' H' => ∃ ρ', SR W A ia H0 H' σ' ρ' ∧ Stp H1 σ ρ H' σ' ρ' ∧ forXD B G X1 (ds.drop (i + 1)) ρ' = some x ∧ KX W E A σ' ρ' H' x, fun σ' H' z => ⟨n, by omega, by omega, z⟩, fun x' H3 hy => ?_⟩
    obtain ⟨s3, rx⟩ := yl x' H3 hy
    have hs3 := hs2.same s3
    cases eb : B ds[i] ρ2 with
    | none => rw [eb] at p2; cases p2
    | some ρ3 =>
      rw [eb] at p2
      dsimp only at p2
      refine hg _ σ2 ρ2 H3 x' _ ρ3 _ hs3.se rx eb fun σ3 se up => ?_
      obtain ⟨hs4, st4⟩ := hs3.ups se up (by rw [hio]; exact ho)
      have st : Stp H2 σ2 ρ2 H3 σ3 ρ3 := (Stp.same s3).trans st4
      cases q : X1 ρ3 with
      | some y => rw [q] at p2; cases p2; exact hx A ia H0 σ3 ρ3 H3 _ x hio hs4 q (k2.step st)
      | none =>
        rw [q] at p2
        dsimp only at p2
        refine hb A ia H0 σ3 ρ3 H3 _ hio hs4 ?_
        cases eg : G ρ3 with
        | nx ρ5 => rw [eg] at p2; exact fun σ' H' s p => ⟨ρ5, s, st2.trans (st.trans p), p2, k2.step (st.trans p)⟩
        | ct ρ5 => rw [eg] at p2; exact fun σ' H' s p => ⟨ρ5, s, st2.trans (st.trans p), p2, k2.step (st.trans p)⟩
        | bk ρ5 => rw [eg] at p2; cases p2
        | rt d ρ5 => rw [eg] at p2; cases p2
        | no => rw [eg] at p2; cases p2
theorem XS.fo {tg it : Expr} {t : List Stmt} {wi : TI} {I : LF} {g : TG} {B : D → Env → Option Env} {ts : TS} {G : SF} {X1 : EF} (hp : PassesOwn (model X.prog X.w) X.A X.env X.xe) (hc : X.calm = true) (hi : IV X C true tg it wi I) (hg : GV X C is tg g B) (hb : XSs X C E rm io t ts G X1) (ho : ∀ i ∈ is, i ∉ io)
    (hs : ∀ x, foldedSetIterable it X.env x = pure x := by intro _; rfl) : XS X C E rm io (.For tg it t [] pos) (tFor wi g ts) (sFor I B G) (xFor I B G X1) := ⟨ps_for hp hc hi.pi hg.pg hb.ps hs, vs_for hi.vi hg.vg hb.vs ho, vsx_for hi.vi hg.vg hb.vs hb.vx ho⟩
theorem XS.set {i : Nat} {x : Str} {pos' : Pos} (he : XE X C E .s e te F Fx) (hN : X.N.Nodup) (hx : X.N[i]? = some x) (hl : Loc X.env.scope x) (hi : i ∉ io) (hs : swapsWith e (some (.Name x pos')) pos.line X.env = pure false := by rfl) (hf : X.fn x = true ∨ X.env.scope.names.lookup x = some .local := by first | exact .inl rfl | exact .inr rfl | assumption) :
    XS X C E rm io (.Assign [.Name x pos'] e pos) (tAsg te (gName i)) (sAsg F (bN i)) Fx := ⟨ps_set hN hx hl he.pe hs hf, vs_asg he.ve (vg_name i) fun j hj => (show j = i by simpa using hj) ▸ hi, fun A ia H0 σ ρ H D' x hio hs e k => he.vx _ σ ρ H _ x hs.se e k.wx⟩
theorem XS.own {i : Nat} {x : Str} {pos' : Pos} (he : XE X C E .f e te F Fx) (hN : X.N.Nodup) (hx : X.N[i]? = some x) (hl : Loc X.env.scope x) (hi : i ∉ io) (hs : swapsWith e (some (.Name x pos')) pos.line X.env = pure false := by rfl) (hf : X.fn x = true ∨ X.env.scope.names.lookup x = some .local := by first | exact .inl rfl | exact .inr rfl | assumption) :
    XS X C E rm io (.Assign [.Name x pos'] e pos) (tAsg te (gName i)) (sOwn i F) Fx := ⟨ps_set hN hx hl he.pe hs hf, vs_own he.ve hi, fun A ia H0 σ ρ H D' x hio hs e k => he.vx _ σ ρ H _ x hs.se e k.wx⟩
theorem XS.ex (he : XE X C E m e te F Fx) (hs : swapsWith e none pos.line X.env = pure false := by rfl) : XS X C E rm io (.Expr e pos) (tDrop te) (sE F) Fx := ⟨ps_expr he.pe hs, vs_e he.ve, fun A ia H0 σ ρ H D' x hio hs e k => he.vx _ σ ρ H _ x hs.se e k.wx⟩
theorem XS.ret (hm : rm ≠ .w) (he : XE X C E rm e te F Fx) : XS X C E rm io (.Return (some e) pos) (tRet te) (sRet F) Fx := ⟨ps_ret he.pe, vs_ret hm he.ve, fun A ia H0 σ ρ H D' x hio hs e k => he.vx _ σ ρ H _ x hs.se e k.wx⟩
end
end BV
set_option linter.all false
set_option maxRecDepth 100000
set_option maxHeartbeats 4000000
namespace BV
open PySem PySem.Spec PyProof.Rows L2
def exD (c : Str) : Option Str → D → D
  | none, _ => .exc c [] []
  | some f, d => .exc c [f] [d]
def xRaise (c : Str) (fn : Option Str) (F : EF) : EF := fun ρ => (F ρ).map (exD c fn)
section
variable {X : Cx} {C0 : Addr} {E : XK} {rm m : Md} {io is : List Nat} {e : Expr} {te : TE} {F Fx : EF} {pos : Pos}
theorem XS.raise {x : Str} {C : Addr} {fn : Option Str} {p cpos : Pos} (c : CtX X.prog X.w X.K X.mg X.base x C fn) (hex : X.ex = []) (hc : X.calm = true) (xo : XeOk X E) (hr : Room 3 X.A) (hg : Gl X x) (he : EV X C0 .s e te F) (hdb : (x == ("__debug__" : Str)) = false := by decide)
    (hst : starEach [e] X.env = (false, eval e X.env) :: starEach [] X.env := by rfl) (hpl : (backTo cpos (starEach [] X.env)).any (·.1) = false := by rfl) :
    XS X C0 E rm io (.Raise (some (.Call (.Name x p) [e] [] cpos)) none pos) (tRaise C (spMk C fn) [] E L2.E0 (tCons te tNil)) sNo (xRaise x fn F) := by
  obtain ⟨f, fd, ps, hm, M, hb, Fn, hna⟩ := c
  refine ⟨ps_raise hex hc xo M Fn hr hg hm hb .nil pass0 (pa_cons he.pe pa_nil hst) hdb hst hpl, vs_no, fun A ia H0 σ ρ H D' y hio hs e k => ?_⟩
  obtain ⟨d, e1, rfl⟩ := Option.map_eq_some_iff.mp e
  refine he.ve _ σ ρ H _ d hs.se e1 fun v H1 s1 r1 => ?_
  have hs1 := hs.same s1
  intro z hz
  have nz : ¬AO A σ ρ z := fun a => by obtain ⟨o, h, _⟩ := hs1.se.ax z a; rw [hz] at h; cases h
  have r1 : Rp (wd X C0) (AO A σ ρ) H1 d v := r1
  refine ⟨by show 1 ≤ 1000; omega, ?_⟩
  cases fn with
  | none =>
    refine ⟨z, v, rfl, upd_same, rfl, z, none, rfl, upd_same, ?_⟩
    have s2 : Same H1 (upd (upd H1 z (.ext (ExcF z C none))) z (.ext (ExcP z C none))) := by rw [upd_upd]; exact Toy.same_upd hz
    refine k z none _ (Same.kx (s1.trans s2)) ?_
    unfold exD Rp
    exact ⟨z, C, none, [], rfl, fun a => nz (.inl a), hm, ⟨M.c, fun n h => nomatch h⟩, upd_same, rfl, rfl, RpL.nil⟩
  | some n =>
    refine ⟨z, v, rfl, upd_same, fun dx hd hne => ⟨rfl, z, some dx, rfl, ?_, ?_⟩⟩
    · rw [upd_ne (Ne.symm hne), upd_same]
    · have hdx : H1 dx = none := by rw [upd_ne hne] at hd; exact hd
      have s2 : Same H1 (upd (upd (upd (upd H1 z (.ext (ExcF z C none))) z (.ext (ExcF z C (some dx)))) dx (.xd [(n, v)])) z (.ext (ExcP z C (some dx)))) := fun q o h => by
        rw [upd_ne (ne_of_none h hz), upd_ne (ne_of_none h hdx), upd_ne (ne_of_none h hz), upd_ne (ne_of_none h hz)]; exact h
      refine k z (some dx) _ (Same.kx (s1.trans s2)) ?_
      have ndx : ¬AO A σ ρ dx := fun a => by obtain ⟨o, h, _⟩ := hs1.se.ax dx a; rw [hdx] at h; cases h
      unfold exD Rp
      refine ⟨z, C, some dx, [v], rfl, fun a => nz (.inl a), hm, ⟨M.c, fun m h => by rw [List.mem_singleton.mp h]; exact hna n rfl⟩, upd_same, ⟨fun a => ndx (.inl a), ?_⟩, rfl, RpL.one (Rp.ex (fun q a => .inl (.inl a)) _ _ (r1.same s2))⟩
      rw [upd_ne hne, upd_same]; rfl
end
def runX (n : Nat) (G : EF) (ds : List D) : Option D := G (env0 n ds)
theorem CtU.of {P : Program} {w : World} {K : PySem.W.Frag} {mg : Str → Option Value} {base : Heap} {k : Nat} {x : Str} {ps : List Str} {sp : Sp} (c : L2.Ct P w K mg base k x ps sp) : CtU P w K mg base k x ps sp := by
  obtain ⟨f, fd, m, kp, b, F⟩ := c
  refine ⟨f, fd, m, kp, b, F.len, fun A outer s H args us vs Q E hr e0 hb' r hsp => codeAny_mono (F.run A outer s H args us vs Q E hr e0 hb' r hsp) fun r s' h => ?_⟩
  cases r with
  | ok fl => cases fl <;> exact h
  | error e => exact h.elim
theorem CtU.imp {P : Program} {w : World} {K : PySem.W.Frag} {mg : Str → Option Value} {base : Heap} {k : Nat} {x : Str} {ps : List Str} {sp sp' : Sp} (c : CtU P w K mg base k x ps sp) (h : ∀ vs H Q E, sp' vs H Q E → sp vs H Q E) : CtU P w K mg base k x ps sp' := by
  obtain ⟨f, fd, m, kp, b, F⟩ := c
  exact ⟨f, fd, m, kp, b, F.imp h⟩
def VEB (W : Wd) (m : Md) (te : TEB) (F Fx : EF) : Prop := ∀ (A : Av) (σ : LSt) (ρ : Env) (H : Hp) (Q : VK) (Z : ZK), SE W A H σ ρ →
  ((∃ d, F ρ = some d ∧ ∀ v H', Same H H' → rep W A H H' d v m → Q v H') ∨ ∃ x, Fx ρ = some x ∧ ∀ e od H', Same H H' → Rp W A H' x (.ref e) → Z e od H') → te Q Z σ H
structure EB (X : Cx) (C : Addr) (m : Md) (e : Expr) (te : TEB) (F Fx : EF) : Prop where
  pe : PEB X e te
  ve : VEB (wd X C) m te F Fx
structure SB (X : Cx) (C : Addr) (rm : Md) (io : List Nat) (st : Stmt) (ts : TSB) (G : SF) (Gx : EF) : Prop where
  ps : PSB X st ts
  vs : ∀ (A : Av) (ia : List (Nat × Addr)) (H0 : Hp) (σ : LSt) (ρ : Env) (H : Hp) (D' : Ends) (Z : ZS), ia.map (·.1) = io → SR (wd X C) A ia H0 H σ ρ →
    (Post (wd X C) rm A ia H0 H σ ρ D' (G ρ) ∨ ∃ x, Gx ρ = some x ∧ ∀ e od H', Same H H' → Rp (wd X C) (AO A σ ρ) H' x (.ref e) → Z σ e od H') → ts D' Z σ H
section
variable {X : Cx} {C : Addr} {rm m : Md} {io : List Nat} {e : Expr} {es : List Expr} {te : TEB} {ta : TA} {F Fx : EF} {G : AF} {pos : Pos} {st su : Stmt}
theorem EB.strong (h : EB X C .f e te F Fx) : EB X C .s e te F Fx := ⟨h.pe, fun A σ ρ H Q Z hs k => h.ve A σ ρ H Q Z hs (k.imp (fun ⟨d, e, k⟩ => ⟨d, e, fun v H' s r => k v H' s r.1⟩) id)⟩
theorem EB.call {x : Str} {p : Pos} {k n : Nat} {ps : List Str} {pf xf : List D → Option D} (hno : ∀ e s, ¬X.xe e s) (c : CtU X.prog X.w X.K X.mg X.base k x ps (spU (wd X C) m n pf xf)) (hr : Room k X.A) (hg : Gl X x) (ha : BV X C (e :: es) ta G) (hl : LenN n G) (hdb : (x == ("__debug__" : Str)) = false := by decide)
    (he : starEach (e :: es) X.env = (false, eval e X.env) :: starEach es X.env := by rfl) (hpl : (backTo pos (starEach es X.env)).any (·.1) = false := by rfl) : EB X C m (.Call (.Name x p) (e :: es) [] pos) (tCallB (spU (wd X C) m n pf xf) [] ta) (eN pf G) (eN xf G) := by
  obtain ⟨f, fd, mm, kp, b, Fn⟩ := c
  refine ⟨peb_call hno Fn hr hg mm kp b .nil ha.pa hdb he hpl, fun A σ ρ H Q Z hs k => ?_⟩
  rcases k with ⟨d, e, k⟩ | ⟨y, e, k⟩
  · unfold eN at e
    obtain ⟨ds, e1, e⟩ := Option.bind_eq_some_iff.mp e
    refine ha.vb A σ ρ H _ ds hs e1 fun vs H1 s1 r1 => ?_
    rw [List.append_nil]
    exact .inl ⟨A, ds, d, hl ρ ds e1, (hs.same s1).ax, r1, e, fun v H' s2 r2 => k v H' (s1.trans s2) (r2.back s1)⟩
  · unfold eN at e
    obtain ⟨ds, e1, e⟩ := Option.bind_eq_some_iff.mp e
    refine ha.vb A σ ρ H _ ds hs e1 fun vs H1 s1 r1 => ?_
    rw [List.append_nil]
    exact .inr ⟨A, ds, y, hl ρ ds e1, (hs.same s1).ax, r1, e, fun e' od H' s2 r2 => ⟨e', rfl, k e' od H' (s1.trans s2) r2⟩⟩
theorem SB.set {i : Nat} {x : Str} {pos' : Pos} (he : EB X C .s e te F Fx) (hN : X.N.Nodup) (hx : X.N[i]? = some x) (hl : Loc X.env.scope x) (hi : i ∉ io) (hs : swapsWith e (some (.Name x pos')) pos.line X.env = pure false := by rfl) (hf : X.fn x = true ∨ X.env.scope.names.lookup x = some .local := by first | exact .inl rfl | exact .inr rfl | assumption) :
    SB X C rm io (.Assign [.Name x pos'] e pos) (tSetB te i) (sAsg F (bN i)) Fx := by
  refine ⟨psb_set hN hx hl he.pe hs hf, fun A ia H0 σ ρ H D' Z hio hs' k => ?_⟩
  refine he.ve _ σ ρ H _ _ hs'.se (k.imp (fun k => ?_) id)
  unfold sAsg at k
  cases q : F ρ with
  | none => rw [q] at k; exact absurd k id
  | some d =>
    rw [q] at k
    refine ⟨d, rfl, fun v H' s r => ?_⟩
    have h1 := hs'.same s
    obtain ⟨a, b⟩ := h1.ups (h1.se.set i r) (Ups.set i) (by rw [hio]; intro j hj; exact (show j = i by simpa using hj) ▸ hi)
    exact k _ H' a ((Stp.same s).trans b)
theorem SB.ex (he : EB X C m e te F Fx) (hs : swapsWith e none pos.line X.env = pure false := by rfl) : SB X C rm io (.Expr e pos) (tDropB te) (sE F) Fx := by
  refine ⟨psb_expr he.pe hs, fun A ia H0 σ ρ H D' Z hio hs' k => ?_⟩
  refine he.ve _ σ ρ H _ _ hs'.se (k.imp (fun k => ?_) id)
  unfold sE at k
  cases q : F ρ with
  | none => rw [q] at k; exact absurd k id
  | some d => rw [q] at k; exact ⟨d, rfl, fun v H' s r => k σ H' (hs'.same s) (Stp.same s)⟩
theorem SB.ite {c : Expr} {tc : TT} {T : TF} {ts us : TSB} {G G' : SF} {X1 X2 : EF} (hno : ∀ e s, ¬X.xe e s) (hc : TV X C c tc T) (ha : SB X C rm io st ts G X1) (hb : SB X C rm io su us G' X2) : SB X C rm io (.If c [st] [su] pos) (tIfB tc ts us) (sIf T G G') (xIf T X1 X2) := by
  refine ⟨psb_if hno hc.pt ha.ps hb.ps, fun A ia H0 σ ρ H D' Z hio hs k => ?_⟩
  cases q : T ρ with
  | none =>
    rcases k with k | ⟨x, e, _⟩
    · unfold sIf at k; rw [q] at k; exact absurd k id
    · unfold xIf at e; rw [q] at e; cases e
  | some c =>
    refine hc.vt _ σ ρ H _ c hs.se q fun H1 s1 => ?_
    have k' : Post (wd X C) rm A ia H0 H1 σ ρ D' (sIf T G G' ρ) ∨ ∃ x, xIf T X1 X2 ρ = some x ∧ ∀ e od H', Same H1 H' → Rp (wd X C) (AO A σ ρ) H' x (.ref e) → Z σ e od H' :=
      k.imp (fun k => Post.step (Stp.same s1) k) fun ⟨x, e, k⟩ => ⟨x, e, fun e od H' s r => k e od H' (s1.trans s) r⟩
    unfold sIf xIf at k'
    rw [q] at k'
    cases c with
    | true => simp only [if_true]; exact ha.vs A ia H0 σ ρ H1 D' Z hio (hs.same s1) k'
    | false => simp only [Bool.false_eq_true, if_false]; exact hb.vs A ia H0 σ ρ H1 D' Z hio (hs.same s1) k'
def excIn (cs : List Str) : D → Bool
  | .exc c _ _ => cs.contains c
  | _ => false
def sTry (cs : List Str) (i j : Nat) (G : SF) (Gx : EF) : SF := fun ρ => match G ρ with
  | .no => (match Gx ρ with
    | some x => if excIn cs x = true then .nx (wipeE ((ρ.set i (.f x)).set j (.f x)) [i]) else .no
    | none => .no)
  | f => f
theorem Ups.wipe {σ : LSt} {ρ : Env} (i : Nat) : Ups [i] σ (L2.wipe σ [i]) ρ (wipeE ρ [i]) := by
  refine ⟨wipe_length .., wipeE_length .., fun j hj => ⟨wipe_get σ j [i] hj, wipeE_get hj⟩, fun j d hj e => ?_⟩
  exact absurd hj (wipeE_some (by simp) e).2
theorem SV.try_ {i j : Nat} {n kn cx : Str} {pc pk pn pa ph : Pos} {Cc : Addr} {cs : List Str} {ts : TSB} {G : SF} {Gx : EF} (hst : X.stack = X.env :: X.outer) (hfr : X.env.frame = some X.env.locals) (hb : SB X C rm io st ts G Gx) (hg : Gl X cx) (hmc : X.mg cx = some (.ref Cc))
    (hcs : ∀ c ∈ cs, ∀ C', X.mg c = some (.ref C') → PySem.W.exmOne X.K (.ref C') (.ref Cc) = some true) (hN : X.N.Nodup) (hi : X.N[i]? = some n) (hn : X.env.scope.names.lookup n = some .local) (hj : X.N[j]? = some kn) (hk : Loc X.env.scope kn) (hi' : i ∉ io) (hj' : j ∉ io)
    (hdb : (cx == ("__debug__" : Str)) = false := by decide) (hs : swapsWith (.Name n pn) (some (.Name kn pk)) pa.line X.env = pure false := by rfl) (hf : X.fn kn = true ∨ X.env.scope.names.lookup kn = some .local := by first | exact .inl rfl | exact .inr rfl | assumption)
    (hd : (n == ("__debug__" : Str)) = false := by decide) (hcd : (n == ("__classdict__" : Str)) = false := by decide) :
    SV X C rm io (.Try [st] [.ExceptHandler (some (.Name cx pc)) (some n) [.Assign [.Name kn pk] (.Name n pn) pa] ph] [] [] pos) (tTry X.K Cc i j ts) (sTry cs i j G Gx) := by
  refine ⟨ps_try hst hfr hb.ps hg hmc hN hi hn hj hk hdb hs hf hd hcd, fun A ia H0 σ ρ H D' hio hs' k => ?_⟩
  refine hb.vs A ia H0 σ ρ H D' _ hio hs' ?_
  unfold sTry at k
  cases g : G ρ with
  | nx ρ1 => rw [g] at k; exact .inl k
  | rt d ρ1 => rw [g] at k; exact .inl k
  | bk ρ1 => rw [g] at k; exact .inl k
  | ct ρ1 => rw [g] at k; exact .inl k
  | no =>
    rw [g] at k
    dsimp only at k
    cases q : Gx ρ with
    | none => rw [q] at k; exact absurd k id
    | some x =>
      rw [q] at k
      dsimp only at k
      by_cases hx : excIn cs x = true
      · rw [if_pos hx] at k
        refine .inr ⟨x, rfl, fun e od H' s r => ?_⟩
        cases x <;> first | (cases hx; done) | skip
        rename_i c ns ds
        have hmem : c ∈ cs := List.contains_iff_mem.mp hx
        have r0 := r
        unfold Rp at r
        obtain ⟨p, C', od', vs, ep, np, hm, xc, hE, hd', hl, rl⟩ := r
        cases ep
        have hod : H' e = some (.ext (ExcP e C' od')) := hE
        have h1 := hs'.same s
        have se := ((h1.se.set i r0).set j r0).wipe [i]
        obtain ⟨a, b⟩ := h1.ups se (((Ups.set i).trans (Ups.set j)).trans (Ups.wipe i)) (by
          rw [hio]
          intro z hz
          simp only [List.mem_append, List.mem_singleton] at hz
          rcases hz with (rfl | rfl) | rfl <;> assumption)
        exact ⟨C', od', hod, hcs c hmem C' hm, k _ H' a ((Stp.same s).trans b)⟩
      · rw [if_neg hx] at k; exact absurd k id
end
end BV
set_option linter.all false
set_option maxRecDepth 100000
set_option maxHeartbeats 4000000
namespace BV
open PySem PySem.Spec PyProof.Rows L2
def xfD (f : Str) : D → Option D
  | .exc _ ns ds => valD ns ds f
  | _ => none
theorem lookup_val (f : Str) : ∀ (ns : List Str) (vs : List V), (ns.zip vs).lookup f = valV (ns.zip vs) f
  | [], vs => by simp [valV]
  | n :: ns, [] => by simp [valV]
  | n :: ns, v :: vs => by
    by_cases e : n = f
    · subst e; simp [valV, List.lookup]
    · have h : (f == n) = false := beq_false_of_ne (Ne.symm e)
      have ih := lookup_val f ns vs
      simp only [List.zip_cons_cons, List.lookup, h, ih]
      simp [valV, e]
theorem valV_mem {f : Str} {v : V} : ∀ {ns : List Str} {vs : List V}, valV (ns.zip vs) f = some v → f ∈ ns := fun {ns vs} h => by
  unfold valV at h
  cases q : (ns.zip vs).find? fun kv => decide (kv.1 = f) with
  | none => rw [q] at h; cases h
  | some p =>
    have h1 := List.find?_some q
    have h2 := List.mem_of_find?_eq_some q
    have h3 : p.1 = f := of_decide_eq_true h1
    rw [← h3]
    exact (List.of_mem_zip (a := p.1) (b := p.2) h2).1
theorem Rw.exc {W : Wd} {A : Av} {H : Hp} {c : Str} {ns : List Str} {ds : List D} {v : V} (h : Rw W A H (.exc c ns ds) v) : ∃ p C od vs, v = .ref p ∧ W.mg c = some (.ref C) ∧ (ExC W.K C ∧ ∀ n ∈ ns, NoAttr W.K C n) ∧ H p = some (.ext (ExcP p C od)) ∧ XdAt H od (ns.zip vs) ∧ RpL W A H ds vs := by
  rcases h with h | ⟨p, e, a, ce⟩
  · unfold Rp at h
    obtain ⟨p, C, od, vs, e, n, m, x, q, d, l, r⟩ := h
    refine ⟨p, C, od, vs, e, m, x, q, ?_, r⟩
    cases od with
    | none => exact d
    | some dx => exact d.2
  · exact absurd ce id
section
variable {X : Cx} {C : Addr} {m : Md} {e : Expr} {te : TE} {F : EF} {pos : Pos}
theorem EV.xf {f : Str} (he : EV X C m e te F) (hb : attributeBase e f X.env (eval e X.env) = eval e X.env := by rfl) : EV X C .s (.Attribute e f pos) (tXGet X.K te f) (e1 (xfD f) F) := ⟨pe_xget he.pe hb, fun A σ ρ H Q d hs e k => by
  unfold e1 at e
  obtain ⟨x, e1, e2⟩ := Option.bind_eq_some_iff.mp e
  cases x <;> first | (cases e2; done) | skip
  rename_i c ns ds
  have e2 : valD ns ds f = some d := e2
  refine he.ve A σ ρ H _ _ hs e1 fun v H1 s1 r1 => ?_
  obtain ⟨p, C', od, vs, rfl, hm, ⟨xc, na⟩, hE, hd, r⟩ := r1.w.exc
  rcases valD_ok f ns r with ⟨h1, _⟩ | ⟨d', v', h1, h2, h3⟩
  · rw [e2] at h1; cases h1
  · rw [e2] at h1; cases h1
    exact ⟨p, C', od, _, v', rfl, hE, hd, xc, na f (valV_mem h2), by rw [lookup_val]; exact h2, k v' H1 s1 h3⟩⟩
end
def XTab (K : PySem.W.Frag) (mg : Str → Option Value) (tbl : List (Str × Str × Bool)) : Prop := ∀ t ∈ tbl, ∀ C c, mg t.1 = some (.ref C) → mg t.2.1 = some (.ref c) → PySem.W.kitOne K (.ref C) (.ref c) = some t.2.2
def VTab (K : PySem.W.Frag) (mg : Str → Option Value) (cs : List Str) : Prop := ∀ c ∈ cs, ∀ C, mg c = some (.ref C) → PySem.W.kitOne K (.ref C) (.type "ValueError") = some true
theorem XTab.nil {K : PySem.W.Frag} {mg : Str → Option Value} : XTab K mg [] := fun t h => nomatch h
theorem XTab.cons {K : PySem.W.Frag} {mg : Str → Option Value} {tbl : List (Str × Str × Bool)} {x y : Str} {C D : Addr} {b : Bool} (h1 : mg x = some (.ref C)) (h2 : mg y = some (.ref D)) (h : PySem.W.kitOne K (.ref C) (.ref D) = some b) (r : XTab K mg tbl) : XTab K mg ((x, y, b) :: tbl) := fun t ht C' D' a b' => by
  rcases List.mem_cons.mp ht with rfl | ht
  · have a : mg x = _ := a
    have b' : mg y = _ := b'
    rw [h1] at a; rw [h2] at b'; cases a; cases b'; exact h
  · exact r t ht C' D' a b'
theorem VTab.nil {K : PySem.W.Frag} {mg : Str → Option Value} : VTab K mg [] := fun t h => nomatch h
theorem VTab.cons {K : PySem.W.Frag} {mg : Str → Option Value} {cs : List Str} {x : Str} {C : Addr} (h1 : mg x = some (.ref C)) (h : PySem.W.kitOne K (.ref C) (.type "ValueError") = some true) (r : VTab K mg cs) : VTab K mg (x :: cs) := fun t ht C' a => by
  rcases List.mem_cons.mp ht with rfl | ht
  · rw [h1] at a; cases a; exact h
  · exact r t ht C' a
def isiXD (tbl : List (Str × Str × Bool)) (cs : List Str) : List D → Option D
  | [.exc c _ _, .fn x] => (tbl.find? fun t => t.1 == c && t.2.1 == x).map fun t => .bl t.2.2
  | [.exc c _ _, .ty n] => if n = "ValueError" ∧ cs.contains c = true then some (.bl true) else none
  | _ => none
section
variable {X : Cx} {C : Addr}
theorem cv_isiX {K : PySem.W.Frag} {mg : Str → Option Value} {tbl : List (Str × Str × Bool)} {cs : List Str} (ht : XTab K mg tbl) (hv : VTab K mg cs) (hK : X.K = K := by rfl) (hM : X.mg = mg := by rfl) : CV X C .f (.builtin "isinstance") (rIsX K) (isiXD tbl cs) := by
  subst hK; subst hM
  refine ⟨call_isX, fun A H vs ds d Q ax r e k => ?_⟩
  unfold isiXD at e
  split at e
  case h_1 c ns fs x =>
    obtain ⟨t, e1, rfl⟩ := Option.map_eq_some_iff.mp e
    have h1 := List.find?_some e1
    have h2 := List.mem_of_find?_eq_some e1
    simp only [Bool.and_eq_true, beq_iff_eq] at h1
    obtain ⟨v, u, rfl, a, b'⟩ := r.two
    obtain ⟨p, C', od, us, rfl, hm, ⟨xc, _⟩, hE, hd, _⟩ := a.exc
    have hu : ∃ f, u = .ref f ∧ X.mg x = some (.ref f) := by
      rcases b' with h | ⟨p, _, _, h⟩
      · unfold Rp at h; exact h
      · exact absurd h id
    obtain ⟨f, rfl, hf⟩ := hu
    exact ⟨p, C', od, _, .ref f, .ref f, t.2.2, rfl, fun w r => r, hE, hd, xc, ht t h2 C' f (by rw [h1.1]; exact hm) (by rw [h1.2]; exact hf), k _ H Same.rfl Fr.bl⟩
  case h_2 c ns fs n =>
    split at e
    case isFalse => cases e
    case isTrue h =>
      obtain ⟨rfl, hc⟩ := h
      cases e
      obtain ⟨v, u, rfl, a, b'⟩ := r.two
      obtain ⟨p, C', od, us, rfl, hm, ⟨xc, _⟩, hE, hd, _⟩ := a.exc
      have hu : u = .ty "ValueError" := by
        rcases b' with h | ⟨p, _, _, h⟩
        · unfold Rp at h; exact h
        · exact absurd h id
      subst hu
      exact ⟨p, C', od, _, .ty "ValueError", .type "ValueError", true, rfl, fun w r => r, hE, hd, xc, hv c (List.contains_iff_mem.mp hc) C' hm, k _ H Same.rfl Fr.bl⟩
  case h_3 => cases e
end
def idxD (a b : D) : Option D := match a with
  | .lst ds => (flL ds).bind fun vs => (fl b).bind fun v => (vs.findIdx? fun y => eqV y v).map fun (j : Nat) => D.int (j : Int)
  | _ => none
theorem idxD_inv {a b d : D} (e : idxD a b = some d) : ∃ ds vs v, ∃ j : Nat, a = .lst ds ∧ flL ds = some vs ∧ fl b = some v ∧ (vs.findIdx? fun y => eqV y v) = some j ∧ d = .int (j : Int) := by
  unfold idxD at e
  split at e
  case h_1 ds =>
    obtain ⟨us, h1, e⟩ := Option.bind_eq_some_iff.mp e
    obtain ⟨u, h2, e⟩ := Option.bind_eq_some_iff.mp e
    obtain ⟨j, h3, rfl⟩ := Option.map_eq_some_iff.mp e
    exact ⟨ds, us, u, j, rfl, h1, h2, h3, rfl⟩
  case h_2 => cases e
section
variable {X : Cx} {C : Addr} {a b : Expr} {ma mb : Md} {ta tb : TE} {Fa Fb : EF} {apos cpos : Pos}
theorem EV.idx (ha : EV X C ma a ta Fa) (hb : EV X C mb b tb Fb)
    (hbase : attributeBase a "index" X.env (eval a X.env) = eval a X.env := by rfl)
    (hfew : ((backTo cpos (starEach [b] X.env)).all (fun x => !x.1) && (backToKw cpos (keywordEach [] X.env)).all (fun x => x.1.isSome)
      && decide (([b] : List Expr).length + ([] : List Keyword).length + (if ([] : List Keyword).isEmpty then 0 else 1) < 30)) = true := by rfl)
    (hline : (apos.endLine == cpos.line) = true := by rfl) (hs : starEach [b] X.env = (false, eval b X.env) :: starEach [] X.env := by rfl) (hplain : (backTo cpos (starEach [] X.env)).any (·.1) = false := by rfl) :
    EV X C .f (.Call (.Attribute a "index" apos) [b] [] cpos) (tBM X.K "list" (rIndex X.K) ta (tCons tb tNil)) (e2 idxD Fa Fb) :=
  ⟨pe_bm PySem.F.plainAttrs_list PySem.F.slot_list_index PySem.F.type_list_index mt_index ha.pe (pa_cons hb.pe pa_nil hs) hbase hfew hline hs hplain, fun A σ ρ H Q d hs e k => by
    unfold e2 at e
    obtain ⟨x, ex, e⟩ := Option.bind_eq_some_iff.mp e
    obtain ⟨y, ey, e⟩ := Option.bind_eq_some_iff.mp e
    obtain ⟨ds, us, u, j, rfl, h1, h2, h3, rfl⟩ := idxD_inv e
    refine ha.ve A σ ρ H _ _ hs ex fun v H1 s1 r1 => ?_
    obtain ⟨p, vs, rfl, q, r⟩ := r1.w.lst
    refine ⟨.inl ⟨rfl, vs, q⟩, hb.ve A σ ρ H1 _ _ (hs.same s1) ey fun w H2 s2 r2 => ?_⟩
    have r' := RpL.same r s2
    have := r'.fl h1
    subst this
    have := r2.w.fl h2
    subst this
    obtain ⟨hj, hp, hlt⟩ := List.findIdx?_eq_some_iff_getElem.mp h3
    refine ⟨p, vs, w, j, vs[j], rfl, rfl, SqL.same q s2, fl_flat h2, flL_flat h1, List.getElem?_eq_getElem hj, hp, fun i z hi hz => ?_, k _ H2 (s1.trans s2) Fr.int⟩
    obtain ⟨hl, hz⟩ := List.getElem?_eq_some_iff.mp hz
    have := hlt i hi
    rw [hz] at this
    simpa using this⟩
end
section
variable {X : Cx} {C : Addr} {m rm : Md} {io : List Nat} {e : Expr} {te : TE} {F : EF} {st : Stmt} {ts : TS} {G : SF}
theorem SB.of (hno : ∀ e s, ¬X.xe e s) (h : SV X C rm io st ts G) : SB X C rm io st (fun D _ σ H => ts D σ H) G xN := ⟨psb_of hno h.ps, fun A ia H0 σ ρ H D' Z hio hs k => by
  rcases k with k | ⟨x, e, _⟩
  · exact h.vs A ia H0 σ ρ H D' hio hs k
  · cases e⟩
theorem vsx_fz {W : Wd} {E : XK} {io : List Nat} {ts : TS} {Gx : EF} (i : Nat) (hi : i ∉ io) (h : VSX W E io ts Gx) : VSX W E io ts (fun ρ => Gx (fz1 i ρ)) := by
  intro A ia H0 σ ρ H D' x hio hs e k
  obtain ⟨a, b⟩ := hs.fz i (by rw [hio]; exact hi)
  exact h A ia H0 σ _ H D' x hio a e fun e' od H' kx r => k e' od H' (fun q o n => kx q o fun z => n (b q z)) r
theorem XS.fz {E : XK} {Gx : EF} (i : Nat) (hi : i ∉ io) (h : XS X C E rm io st ts G Gx) : XS X C E rm io st ts (fun ρ => G (fz1 i ρ)) (fun ρ => Gx (fz1 i ρ)) := ⟨h.ps, vs_fz i hi h.vs, vsx_fz i hi h.vx⟩
end
def Cau (K : PySem.W.Frag) (mg : Str → Option Value) (cx : Str) (cs : List Str) : Prop := ∃ Cc, mg cx = some (.ref Cc) ∧ ∀ c ∈ cs, ∀ C', mg c = some (.ref C') → PySem.W.exmOne K (.ref C') (.ref Cc) = some true
theorem Cau.nil {K : PySem.W.Frag} {mg : Str → Option Value} {cx : Str} {Cc : Addr} (h : mg cx = some (.ref Cc)) : Cau K mg cx [] := ⟨Cc, h, fun c h => nomatch h⟩
theorem Cau.cons {K : PySem.W.Frag} {mg : Str → Option Value} {cx x : Str} {cs : List Str} {Cc C : Addr} (h : mg cx = some (.ref Cc)) (h1 : mg x = some (.ref C)) (h2 : PySem.W.exmOne K (.ref C) (.ref Cc) = some true) (r : Cau K mg cx cs) : Cau K mg cx (x :: cs) := by
  obtain ⟨Cc', hc, r⟩ := r
  rw [h] at hc; cases hc
  exact ⟨Cc, h, fun t ht C' a => by
    rcases List.mem_cons.mp ht with rfl | ht
    · rw [h1] at a; cases a; exact h2
    · exact r t ht C' a⟩
end BV
set_option linter.all false
set_option maxRecDepth 100000
set_option maxHeartbeats 4000000
namespace Toy
open PySem L2 BV
section
variable {s : Sl} {ρ : BV.Env}
theorem xxN : xN (s :: ρ) = none := rfl
theorem xxOr {α : Type} {X1 X2 : EF} {F : BV.Env → Option α} : xOr X1 F X2 (s :: ρ) = (X1 (s :: ρ)).elim ((F (s :: ρ)).bind fun _ => X2 (s :: ρ)) some := by unfold xOr; cases X1 (s :: ρ) <;> rfl
theorem xxSeq {X1 X2 : EF} {G : SF} : xSeq X1 G X2 (s :: ρ) = (X1 (s :: ρ)).elim (match G (s :: ρ) with
    | .nx ρ1 => X2 ρ1
    | _ => none) some := by unfold xSeq; cases X1 (s :: ρ) <;> rfl
theorem xxIf {T : TF} {X1 X2 : EF} : xIf T X1 X2 (s :: ρ) = (T (s :: ρ)).elim none fun b => if b = true then X1 (s :: ρ) else X2 (s :: ρ) := by
  unfold xIf
  cases T (s :: ρ) with
  | none => rfl
  | some b => cases b <;> rfl
theorem xxRaise {c : Str} {fn : Option Str} {F : EF} : xRaise c fn F (s :: ρ) = (F (s :: ρ)).map (exD c fn) := rfl
theorem xxTry {cs : List Str} {i j : Nat} {G : SF} {Gx : EF} : sTry cs i j G Gx (s :: ρ) = match G (s :: ρ) with
  | .no => (Gx (s :: ρ)).elim .no fun x => if excIn cs x = true then .nx (wipeE (((s :: ρ).set i (.f x)).set j (.f x)) [i]) else .no
  | f => f := by
  unfold sTry
  cases G (s :: ρ) <;> first | rfl | skip
  cases Gx (s :: ρ) <;> rfl
theorem xexD0 {c : Str} {d : D} : exD c none d = .exc c [] [] := rfl
theorem xexD1 {c f : Str} {d : D} : exD c (some f) d = .exc c [f] [d] := rfl
theorem xfD1 {f c : Str} {d : D} : xfD f (.exc c [f] [d]) = some d := by simp [xfD, valD]
end
def EVx := And.intro @xxN (And.intro @xxOr (And.intro @xxSeq (And.intro @xxIf (And.intro @xxRaise (And.intro @xxTry (And.intro @xexD0 (And.intro @xexD1 (@xfD1))))))))
end Toy
set_option linter.all false
set_option maxRecDepth 100000
set_option maxHeartbeats 4000000
namespace L2
open PySem PySem.Spec PyProof.Rows
section
variable {X : Cx}
end
end L2
namespace BV
open PySem PySem.Spec PyProof.Rows L2
section
variable {X : Cx} {C : Addr} {a b : Expr} {ma mb : Md} {ta tb : TE} {Fa Fb : EF} {apos cpos : Pos}
end
end BV
set_option linter.all false
set_option maxRecDepth 100000
set_option maxHeartbeats 4000000
namespace BV
open PySem PySem.Spec PyProof.Rows L2
section
variable {X : Cx} {C : Addr} {tg e : Expr} {te : TE} {F : EF} {m : Md}
def sgD : D → Option (List D)
  | .str x => some (x.cps.toList.map fun c => D.str ⟨#[c]⟩)
  | _ => none
theorem its {W : Wd} {A : Av} {H1 : Hp} {P : Hp → Prop} {x : Str} : ItR W A H1 P (Its x) (x.cps.toList.map fun c => D.str ⟨#[c]⟩) := by
  intro A' H ex ax p i
  refine ⟨fun d hd => ?_, fun hn => by rw [List.length_map, Array.length_toList] at hn; exact hn⟩
  rw [List.getElem?_map] at hd
  obtain ⟨c, hc, rfl⟩ := Option.map_eq_some_iff.mp hd
  have hc' : x.cps[i]? = some c := by rw [← Array.getElem?_toList]; exact hc
  have hi : i < x.cps.size := by
    have := (List.getElem?_eq_some_iff.mp hc).1
    rwa [Array.length_toList] at this
  refine ⟨hi, fun v H' hy => ?_⟩
  obtain ⟨rfl, c', h1, rfl⟩ := hy
  have : c' = c := by rw [hc'] at h1; exact (Option.some.inj h1).symm
  subst this
  exact ⟨Same.rfl, Rp.str_iff.mpr rfl⟩
theorem IV.str (h : EV X C m e te F) : IV X C true tg e (iStr te) (iE sgD F) := ⟨pi_str h.pe, fun A σ ρ H R ds hs e k => by
  unfold iE at e
  obtain ⟨d, e1, e⟩ := Option.bind_eq_some_iff.mp e
  refine h.ve A σ ρ H _ _ hs e1 fun v H1 s1 r1 => ?_
  unfold sgD at e
  split at e
  case h_2 => cases e
  case h_1 x => cases e; exact ⟨x, r1.w.str, k _ H1 s1 its⟩⟩
end
end BV
set_option linter.all false
set_option maxRecDepth 100000
set_option maxHeartbeats 4000000
namespace BV
open PySem PySem.Spec PyProof.Rows L2
structure KIs (K : PySem.W.Frag) (C : Addr) : Prop where
  ca : PySem.W.findIn K (.ref C) "__class__" = some (some (.builtin "object.__class__"))
  mo : PySem.W.mroIn K C (.type "object") = some true
  it : PySem.W.kitOne K (.ref C) (.ref C) = some true
section
variable {X : Cx} {C : Addr}
end
end BV
set_option linter.all false
set_option maxRecDepth 100000
set_option maxHeartbeats 4000000
namespace L2
open PySem PySem.Spec PyProof.Rows
section
variable {X : Cx}
end
end L2
namespace BV
open PySem PySem.Spec PyProof.Rows L2
section
variable {X : Cx} {C : Addr} {a b : Expr} {ma mb : Md} {ta tb : TE} {Fa Fb : EF} {apos cpos : Pos}
end
end BV
set_option linter.all false
set_option maxRecDepth 100000
set_option maxHeartbeats 4000000
namespace BV
open PySem PySem.Spec PyProof.Rows L2
section
variable {P : Program} {w : World} {K : PySem.W.Frag} {mg : Str → Option Value} {base : Heap} {k n : Nat} {x : Str} {st : Stmt} {ps : List Str} {W : Wd} {m : Md} {io : List Nat}
end
end BV
set_option linter.all false
set_option maxRecDepth 100000
set_option maxHeartbeats 4000000
namespace BV
open PySem PySem.Spec PyProof.Rows L2
def xkOf (ns : List Int) : Option D := if 5 < ns.length then some (.exc "NoCount" [] []) else (ns.findIdx? fun z => !decide (-1 ≤ z ∧ z ≤ 1)).map fun (i : Nat) => .exc "NoSquare" ["place"] [.int (i : Int)]
def xkindD : List D → Option D
  | [.lst ds] => (intsD ds).bind xkOf
  | _ => none
def spInitX (W : Wd) : Sp := fun vs H Q E => ∃ (A : Av) (p dx a : Addr) (ns : List Int) (y : D), vs = [.ref p, .ref a] ∧ H p = some (.ins W.C dx []) ∧ AX A H ∧ SqL W.K H a (ns.map V.int) ∧ xkOf ns = some y ∧ WX W E A H y
def spInitU (W : Wd) : Sp := fun vs H Q E => Toy.spInit W.K W.C vs H Q E ∨ spInitX W vs H Q E
def CtMU (P : Program) (w : World) (K : PySem.W.Frag) (mg : Str → Option Value) (base : Heap) (k : Nat) (x : Str) (C : Addr) (ps : List Str) (sp : Sp) : Prop :=
  ∃ f fd, mg x = some (.ref C) ∧ Mk K C f ∧ Binds K fd ps [] ∧ FnOk P w K mg base (CXX P w) k f fd ps sp
section
variable {X : Cx} {C : Addr} {e : Expr} {ta : TA} {G : AF} {p pos : Pos}
theorem EB.mkK {k : Nat} {ps : List Str} (hno : ∀ e s, ¬X.xe e s) (c : CtMU X.prog X.w X.K X.mg X.base k "Kind" C ps (spInitU (wd X C))) (hr : Room (k + 1) X.A) (hg : Gl X "Kind") (ha : AV X C [e] ta G) (he : starEach [e] X.env = (false, eval e X.env) :: starEach [] X.env := by rfl) (hpl : (backTo pos (starEach [] X.env)).any (·.1) = false := by rfl) :
    EB X C .f (.Call (.Name "Kind" p) [e] [] pos) (tMakeB C (spInitU (wd X C)) [] ta) (eN kindD G) (eN xkindD G) := by
  obtain ⟨f, fd, hm, M, b, Fn⟩ := c
  refine ⟨peb_make hno M Fn hr hg hm b .nil ha.pa (by decide) he hpl, fun A σ ρ H Q Z hs k => ?_⟩
  rcases k with ⟨d, e, k⟩ | ⟨y, e, k⟩
  · unfold eN at e
    obtain ⟨ds, e1, e⟩ := Option.bind_eq_some_iff.mp e
    unfold kindD at e
    split at e
    case h_2 => cases e
    case h_1 es =>
    obtain ⟨sq, e2, e⟩ := Option.bind_eq_some_iff.mp e
    split at e
    case isFalse => cases e
    case isTrue hq =>
    cases e
    unfold sqOk at hq
    simp only [Bool.and_eq_true, decide_eq_true_eq, List.all_eq_true] at hq
    refine ha.va A σ ρ H _ _ hs e1 fun vs H1 s1 r1 => ?_
    obtain ⟨v, rfl, a⟩ := r1.one
    obtain ⟨q, us, rfl, sl, rl⟩ := a.lstR
    rw [intsD_eq e2] at rl
    have := rl.ints_inv
    subst this
    intro x dx nx ndx nex
    have es : Same H1 (upd (upd H1 dx (.own x)) x (.ins C dx [])) := fun b o h => by
      rw [upd_ne (ne_of_none h nx), upd_ne (ne_of_none h ndx)]; exact h
    have hne : q ≠ x := fun z => by subst z; exact Rd.some sl nx
    refine .inl ⟨x, dx, q, sq, rfl, upd_same, SqL.same (.inl sl) es, hne, ⟨hq.1, fun z hz => hq.2 z hz⟩, fun H3 kp hk => ⟨rfl, ?_⟩⟩
    have s3 : Same H1 H3 := fun b o h => kp b o (ne_of_none h nx) (es _ _ h)
    have ax3 : AX A H3 := ((hs.same s1).same s3).ax
    obtain ⟨dx', t, h1, h2⟩ := hk
    refine k _ H3 (s1.trans s3) ⟨?_, fun z => nomatch z⟩
    unfold Rp
    refine ⟨x, dx', t, rfl, fun z => ?_, h1, fun z => ?_, h2⟩
    · obtain ⟨o, y1, y2⟩ := ax3 x z; rw [h1] at y1; cases y1; exact y2
    · obtain ⟨o, y1, y2⟩ := ax3 t z; rw [h2] at y1; cases y1; exact y2
  · unfold eN at e
    obtain ⟨ds, e1, e⟩ := Option.bind_eq_some_iff.mp e
    unfold xkindD at e
    split at e
    case h_2 => cases e
    case h_1 es =>
    obtain ⟨ns, e2, e⟩ := Option.bind_eq_some_iff.mp e
    refine ha.va A σ ρ H _ _ hs e1 fun vs H1 s1 r1 => ?_
    obtain ⟨v, rfl, a⟩ := r1.one
    obtain ⟨q, us, rfl, sl, rl⟩ := a.lstR
    rw [intsD_eq e2] at rl
    have := rl.ints_inv
    subst this
    intro x dx nx ndx nex
    have es : Same H1 (upd (upd H1 dx (.own x)) x (.ins C dx [])) := fun b o h => by
      rw [upd_ne (ne_of_none h nx), upd_ne (ne_of_none h ndx)]; exact h
    have ax1 : AX A (upd (upd H1 dx (.own x)) x (.ins C dx [])) := ((hs.same s1).same es).ax
    refine .inr ⟨A, x, dx, q, ns, y, rfl, upd_same, ax1, SqL.same (.inl sl) es, e, fun e' od H' s' r' => ?_⟩
    exact ⟨e', rfl, k e' od H' (s1.trans (es.trans s')) r'⟩
end
end BV
set_option linter.all false
set_option maxRecDepth 100000
set_option maxHeartbeats 4000000
namespace Toy
open PySem L2 BV
noncomputable def g__law_cell_at : SF := (sSeq (sIf (tF (e2 ltD (eV 1) (eN lenD (aCons (eV 0) aNil))))
 (sRet (e2 ixD (eV 0) (eV 1)))
 sNil)
  (sRet (eC (.int 0))))
noncomputable def pf__law_cell_at : List D → Option D := runF 2 g__law_cell_at
noncomputable def g__law_mixed : SF := (sSeq (sAsg (e2 modD (e2 addD (e2 addD (e2 mulD (e2 modD (eV 0) (eC (.int 2147483629))) (eC (.int 16807))) (e2 mulD (eC (.int 69621)) (eV 1))) (eC (.int 11))) (eC (.int 2147483629))) (bN 2))
  (sSeq (sAsg (e2 modD (e2 addD (e2 addD (e2 mulD (eV 2) (eV 2)) (e2 mulD (eC (.int 48271)) (eV 1))) (eC (.int 7))) (eC (.int 2147483629))) (bN 2))
  (sRet (e2 modD (e2 addD (e2 mulD (eV 2) (eV 2)) (eC (.int 69621))) (eC (.int 2147483587))))))
noncomputable def pf__law_mixed : List D → Option D := runF 3 g__law_mixed
noncomputable def g__law_same (pf__law_same : List D → Option D) : SF := (sSeq (fun ρ => scr [2] ((sIf (tO (tR (eN isiD (aCons (eV 1) (aCons (eC (.ty "tuple")) aNil)))) (tR (eN isiD (aCons (eV 1) (aCons (eC (.ty "list")) aNil)))))
 (sSeq (sIf (tO (tF (e2 neD (eN isiD (aCons (eV 0) (aCons (eC (.ty "tuple")) aNil))) (eN isiD (aCons (eV 1) (aCons (eC (.ty "tuple")) aNil))))) (tF (e2 neD (eN isiD (aCons (eV 0) (aCons (eC (.ty "list")) aNil))) (eN isiD (aCons (eV 1) (aCons (eC (.ty "list")) aNil))))))
 (sRet (eC (.bl false)))
 sNil)
  (sSeq (sIf (tF (e2 neD (eN lenD (aCons (eV 0) aNil)) (eN lenD (aCons (eV 1) aNil))))
 (sRet (eC (.bl false)))
 sNil)
  (sSeq (sFor (iA rg1D (aCons (eN lenD (aCons (eV 1) aNil)) aNil)) (bN 2)
  (fun ρ => scr [2] ((sIf (tNt (tR (eN pf__law_same (aCons (e2 ixD (eV 0) (eV 2)) (aCons (e2 ixD (eV 1) (eV 2)) aNil)))))
 (sRet (eC (.bl false)))
 sNil) ρ)))
  (sRet (eC (.bl true))))))
 sNil) ρ))
  (sSeq (sIf (tR (eN isiD (aCons (eV 1) (aCons (eC (.ty "bool")) aNil))))
 (sRet (eAnd (eN isiD (aCons (eV 0) (aCons (eC (.ty "bool")) aNil))) (e2 eqD (eV 0) (eV 1))))
 sNil)
  (sSeq (sIf (tR (eN isiD (aCons (eV 1) (aCons (eC (.ty "int")) aNil))))
 (sRet (eAnd (eN isiD (aCons (eV 0) (aCons (eC (.ty "int")) aNil))) (eAnd (e1 notD (eN isiD (aCons (eV 0) (aCons (eC (.ty "bool")) aNil)))) (e2 eqD (eV 0) (eV 1)))))
 sNil)
  (sSeq (sIf (tR (eN isiD (aCons (eV 1) (aCons (eC (.ty "str")) aNil))))
 (sRet (eAnd (eN isiD (aCons (eV 0) (aCons (eC (.ty "str")) aNil))) (e2 eqD (eV 0) (eV 1))))
 sNil)
  (sRet (eAnd (e2 isND (eV 1) (eC .non)) (e2 isND (eV 0) (eC .non))))))))
noncomputable def pfN__law_same : Nat → List D → Option D
  | 0 => fun _ => none
  | n + 1 => runF 3 (g__law_same (pfN__law_same n))
noncomputable def pf__law_same : List D → Option D := pfN__law_same 8
noncomputable def g__law_numbers : SF := (sSeq (sOwn 2 (eN lstD aNil))
  (sSeq (sAsg (e2 subD (eV 0) (e2 powD (eC (.int 10)) (eC (.int 18)))) (bN 3))
  (sSeq (sFor (iA rg1D (aCons (eV 1) aNil)) (bN 4)
  (fun ρ => scr [4] ((sIf (tF (e2 geD (eV 3) (eC (.int 0))))
 (sSeq (sX (xL 2 gApp (aCons (e2 modD (eV 3) (eC (.int 1000003))) aNil)))
  (sAsg (e2 fdivD (eV 3) (eC (.int 1000003))) (bN 3)))
 (sX (xL 2 gApp (aCons (e2 fdivD (eN pf__law_mixed (aCons (eV 0) (aCons (eV 4) aNil))) (eC (.int 64))) aNil)))) ρ)))
  (sRetO 2))))
noncomputable def pf__law_numbers : List D → Option D := runF 5 g__law_numbers
noncomputable def g__law_lowest : SF := (sSeq (sAsg (eV 1) (bN 2))
  (sSeq (sAsg (eN absD (aCons (eV 0) aNil)) (bN 3))
  (sSeq (sWh (tF (e2 gtD (eV 3) (eC (.int 0))))
  (sPar 2 3 (aCons (eV 3) (aCons (e2 modD (eV 2) (eV 3)) aNil))))
  (sRet (eN tupD (aCons (e2 fdivD (eV 0) (eV 2)) (aCons (e2 fdivD (eV 1) (eV 2)) aNil)))))))
noncomputable def pf__law_lowest : List D → Option D := runF 4 g__law_lowest
noncomputable def g_is_whole : SF := (sRet (eAnd (eN isiD (aCons (eV 0) (aCons (eC (.ty "int")) aNil))) (e1 notD (eN isiD (aCons (eV 0) (aCons (eC (.ty "bool")) aNil))))))
noncomputable def pf_is_whole : List D → Option D := runF 1 g_is_whole
noncomputable def g_is_square : SF := (sRet (eAnd (eN pf_is_whole (aCons (eV 0) aNil)) (eCh leD leD (e1 negD (eC (.int 1))) (eV 0) (eC (.int 1)))))
noncomputable def pf_is_square : List D → Option D := runF 1 g_is_square
noncomputable def g__law_draws : SF := (sSeq (sOwn 2 (eN lstD aNil))
  (sSeq (sAsg (e2 subD (eV 0) (e2 powD (eC (.int 10)) (eC (.int 18)))) (bN 3))
  (sSeq (sFor (iA rg1D (aCons (eV 1) aNil)) (bN 4)
  (fun ρ => scr [4] ((sIf (tF (e2 geD (eV 3) (eC (.int 0))))
 (sSeq (sX (xL 2 gApp (aCons (e2 modD (eV 3) (eC (.int 1000003))) aNil)))
  (sAsg (e2 fdivD (eV 3) (eC (.int 1000003))) (bN 3)))
 (sX (xL 2 gApp (aCons (eN pf__law_mixed (aCons (eV 0) (aCons (eV 4) aNil))) aNil)))) ρ)))
  (sRetO 2))))
noncomputable def pf__law_draws : List D → Option D := runF 5 g__law_draws
noncomputable def g__law_products_v2 : SF := (sSeq (sOwn 1 (eN lstD aNil))
  (sSeq (sFor (iA rg1D (aCons (e2 shlD (eC (.int 1)) (eV 0)) aNil)) (bN 2)
  (fun ρ => scr [2, 3] ((sX (xL 1 gApp (aCons (eN tupleD (aCons (eLc (iA rg1D (aCons (eV 0) aNil)) (bN 3) (tF (e2 eqD (e2 modD (e2 fdivD (eV 2) (e2 shlD (eC (.int 1)) (eV 3))) (eC (.int 2))) (eC (.int 1)))) (eV 3) [3]) aNil)) aNil))) ρ)))
  (sRet (eN sortD (aCons (eW 1) aNil)))))
noncomputable def pf__law_products_v2 : List D → Option D := runF 4 g__law_products_v2
noncomputable def g__law_number : SF := (sSeq (sAsg (e2 fdivD (e2 ixD (eV 0) (e2 addD (eC (.int 5)) (e2 modD (eV 1) (eC (.int 3))))) (e2 shlD (eC (.int 1)) (e2 fdivD (eV 1) (eC (.int 3))))) (bN 2))
  (sSeq (sAsg (e2 addD (eC (.int 1)) (e2 modD (eV 2) (eC (.int 9)))) (bN 3))
  (sSeq (sIf (tF (e2 eqD (e2 modD (e2 fdivD (eV 2) (eC (.int 9))) (eC (.int 2))) (eC (.int 1))))
 (sAsg (e2 subD (eC (.int 0)) (eV 3)) (bN 3))
 sNil)
  (sSeq (sAsg (e2 ixD (eN lstD (aCons (eC (.int 1)) (aCons (eC (.int 1)) (aCons (eC (.int 2)) (aCons (eC (.int 3)) (aCons (eC (.int 6)) (aCons (eC (.int 7)) aNil))))))) (e2 modD (e2 fdivD (eV 2) (eC (.int 18))) (eC (.int 6)))) (bN 4))
  (sSeq (sIf (tF (e2 eqD (e2 modD (e2 fdivD (e2 ixD (eV 0) (eC (.int 0))) (eC (.int 6))) (eC (.int 8))) (eC (.int 1))))
 (sSeq (sAsg (e2 addD (e2 mulD (eV 3) (e2 powD (eC (.int 10)) (eC (.int 18)))) (e2 ixD (eV 0) (e2 addD (eC (.int 5)) (e2 modD (e2 addD (eV 1) (eC (.int 1))) (eC (.int 3)))))) (bN 3))
  (sAsg (e2 addD (eV 4) (e2 mulD (eV 2) (e2 powD (eC (.int 10)) (eC (.int 9))))) (bN 4)))
 sNil)
  (sRet (eN pf__law_lowest (aCons (eV 3) (aCons (eV 4) aNil)))))))))
noncomputable def pf__law_number : List D → Option D := runF 5 g__law_number
noncomputable def g__law_sum_v2 : SF := (sSeq (sAsg (eN pf__law_draws (aCons (eV 0) (aCons (eC (.int 8)) aNil))) (bN 2))
  (sSeq (sAsg (eN pf__law_products_v2 (aCons (eV 1) aNil)) (bN 3))
  (sSeq (sOwn 4 (eN lstD aNil))
  (sSeq (sFor (iA enuD (aCons (eV 3) aNil)) (bTup (bCons (bN 5) (bCons (bN 6) bNil)))
  (fun ρ => scr [5, 6, 7, 8] ((sSeq (sAsg (e2 modD (e2 fdivD (e2 ixD (eV 2) (e2 addD (eC (.int 1)) (e2 modD (eV 5) (eC (.int 4))))) (e2 shlD (eC (.int 1)) (e2 fdivD (eV 5) (eC (.int 4))))) (eC (.int 2))) (bN 7))
  (sSeq (sAsg (e2 modD (e2 fdivD (e2 ixD (eV 2) (e2 addD (eC (.int 1)) (e2 modD (e2 addD (eV 5) (eC (.int 1))) (eC (.int 4))))) (e2 shlD (eC (.int 1)) (e2 addD (eC (.int 9)) (e2 fdivD (eV 5) (eC (.int 4)))))) (eC (.int 2))) (bN 8))
  (sIf (tR (e2 ixD (eN lstD (aCons (eC (.bl false)) (aCons (e2 eqD (eV 5) (e2 modD (e2 ixD (eV 2) (eC (.int 1))) (eN lenD (aCons (eV 3) aNil)))) (aCons (eC (.bl true)) (aCons (e2 eqD (eV 7) (eC (.int 1))) (aCons (e2 eqD (e2 addD (eV 7) (eV 8)) (eC (.int 2))) (aCons (e2 eqD (eV 7) (eC (.int 1))) aNil))))))) (e2 modD (e2 ixD (eV 2) (eC (.int 0))) (eC (.int 6)))))
 (sX (xL 4 gApp (aCons (eN tupD (aCons (eV 6) (aCons (eN pf__law_number (aCons (eV 2) (aCons (eV 5) aNil))) aNil))) aNil)))
 sNil))) ρ)))
  (sRet (eN tupleD (aCons (eW 4) aNil)))))))
noncomputable def pf__law_sum_v2 : List D → Option D := runF 9 g__law_sum_v2
def xtb_k01 : List (Str × Str × Bool) := ("NoCount", "StepError", true) :: ("NoCount", "NoCount", true) :: ("NoCount", "NoSum", false) :: ("NoCount", "NoGrade", false) :: ("NoCount", "NoProduct", false) :: ("NoCount", "NoEven", false) :: ("NoCount", "NoHalves", false) :: ("NoCount", "NoBoards", false) :: ("NoCount", "NoCross", false) :: ("NoCount", "NoKind", false) :: ("NoCount", "NoWord", false) :: ("NoCount", "NoUndo", false) :: ("NoCount", "NoLine", false) :: ("NoCount", "NoSquare", false) :: ("NoCount", "NoFull", false) :: ("NoCount", "NoVector", false) :: ("NoCount", "NoMirror", false) :: ("NoCount", "NoStep", false) :: ("NoCount", "NoPartner", false) :: ("NoCount", "NoTable", false) :: ("NoCount", "NoKeep", false) :: ("NoCount", "BadStep", false) :: ("NoCount", "NoText", false) :: ("NoCount", "NoName", false) :: ("NoSquare", "StepError", true) :: ("NoSquare", "NoCount", false) :: ("NoSquare", "NoSum", false) :: ("NoSquare", "NoGrade", false) :: ("NoSquare", "NoProduct", false) :: ("NoSquare", "NoEven", false) :: ("NoSquare", "NoHalves", false) :: ("NoSquare", "NoBoards", false) :: ("NoSquare", "NoCross", false) :: ("NoSquare", "NoKind", false) :: ("NoSquare", "NoWord", false) :: ("NoSquare", "NoUndo", false) :: ("NoSquare", "NoLine", false) :: ("NoSquare", "NoSquare", true) :: ("NoSquare", "NoFull", false) :: ("NoSquare", "NoVector", false) :: ("NoSquare", "NoMirror", false) :: ("NoSquare", "NoStep", false) :: ("NoSquare", "NoPartner", false) :: ("NoSquare", "NoTable", false) :: ("NoSquare", "NoKeep", false) :: ("NoSquare", "BadStep", false) :: ("NoSquare", "NoText", false) :: ("NoSquare", "NoName", false) :: []
def xcs_k01 : List Str := ["NoCount", "NoSquare"]
noncomputable def g__law_class_v8 : SF := (sSeq (sAsg (eN lstD (aCons (eN (isiXD xtb_k01 xcs_k01) (aCons (eV 0) (aCons (eC (.fn "BadStep")) aNil))) (aCons (eN (isiXD xtb_k01 xcs_k01) (aCons (eV 0) (aCons (eC (.fn "NoBoards")) aNil))) (aCons (eN (isiXD xtb_k01 xcs_k01) (aCons (eV 0) (aCons (eC (.fn "NoCount")) aNil))) (aCons (eN (isiXD xtb_k01 xcs_k01) (aCons (eV 0) (aCons (eC (.fn "NoCross")) aNil))) aNil))))) (bN 1))
  (sSeq (sAsg (e2 addD (eV 1) (eN lstD (aCons (eN (isiXD xtb_k01 xcs_k01) (aCons (eV 0) (aCons (eC (.fn "NoEven")) aNil))) (aCons (eN (isiXD xtb_k01 xcs_k01) (aCons (eV 0) (aCons (eC (.fn "NoFull")) aNil))) (aCons (eN (isiXD xtb_k01 xcs_k01) (aCons (eV 0) (aCons (eC (.fn "NoGrade")) aNil))) (aCons (eN (isiXD xtb_k01 xcs_k01) (aCons (eV 0) (aCons (eC (.fn "NoHalves")) aNil))) aNil)))))) (bN 1))
  (sSeq (sAsg (e2 addD (eV 1) (eN lstD (aCons (eN (isiXD xtb_k01 xcs_k01) (aCons (eV 0) (aCons (eC (.fn "NoKeep")) aNil))) (aCons (eN (isiXD xtb_k01 xcs_k01) (aCons (eV 0) (aCons (eC (.fn "NoKind")) aNil))) (aCons (eN (isiXD xtb_k01 xcs_k01) (aCons (eV 0) (aCons (eC (.fn "NoLine")) aNil))) (aCons (eN (isiXD xtb_k01 xcs_k01) (aCons (eV 0) (aCons (eC (.fn "NoMirror")) aNil))) aNil)))))) (bN 1))
  (sSeq (sAsg (e2 addD (eV 1) (eN lstD (aCons (eN (isiXD xtb_k01 xcs_k01) (aCons (eV 0) (aCons (eC (.fn "NoName")) aNil))) (aCons (eN (isiXD xtb_k01 xcs_k01) (aCons (eV 0) (aCons (eC (.fn "NoPartner")) aNil))) (aCons (eN (isiXD xtb_k01 xcs_k01) (aCons (eV 0) (aCons (eC (.fn "NoProduct")) aNil))) aNil))))) (bN 1))
  (sSeq (sAsg (e2 addD (eV 1) (eN lstD (aCons (eN (isiXD xtb_k01 xcs_k01) (aCons (eV 0) (aCons (eC (.fn "NoSquare")) aNil))) (aCons (eN (isiXD xtb_k01 xcs_k01) (aCons (eV 0) (aCons (eC (.fn "NoStep")) aNil))) (aCons (eN (isiXD xtb_k01 xcs_k01) (aCons (eV 0) (aCons (eC (.fn "NoSum")) aNil))) (aCons (eN (isiXD xtb_k01 xcs_k01) (aCons (eV 0) (aCons (eC (.fn "NoTable")) aNil))) aNil)))))) (bN 1))
  (sSeq (sAsg (e2 addD (eV 1) (eN lstD (aCons (eN (isiXD xtb_k01 xcs_k01) (aCons (eV 0) (aCons (eC (.fn "NoText")) aNil))) (aCons (eN (isiXD xtb_k01 xcs_k01) (aCons (eV 0) (aCons (eC (.fn "NoUndo")) aNil))) (aCons (eN (isiXD xtb_k01 xcs_k01) (aCons (eV 0) (aCons (eC (.fn "NoVector")) aNil))) (aCons (eN (isiXD xtb_k01 xcs_k01) (aCons (eV 0) (aCons (eC (.fn "NoWord")) aNil))) aNil)))))) (bN 1))
  (sSeq (sIf (tO (tNt (tR (eN (isiXD xtb_k01 xcs_k01) (aCons (eV 0) (aCons (eC (.ty "ValueError")) aNil))))) (tO (tNt (tR (eN (isiXD xtb_k01 xcs_k01) (aCons (eV 0) (aCons (eC (.fn "StepError")) aNil))))) (tF (e2 neD (eN lenD (aCons (eLc (iE seqD (eV 1)) (bN 3) (tR (eV 3)) (eV 3) [3]) aNil)) (eC (.int 1))))))
 (sRet (eC (.str "")))
 sNil)
  (sSeq (sAsg (eN lstD (aCons (eC (.str "BadStep")) (aCons (eC (.str "NoBoards")) (aCons (eC (.str "NoCount")) (aCons (eC (.str "NoCross")) (aCons (eC (.str "NoEven")) (aCons (eC (.str "NoFull")) (aCons (eC (.str "NoGrade")) (aCons (eC (.str "NoHalves")) (aCons (eC (.str "NoKeep")) aNil)))))))))) (bN 2))
  (sSeq (sAsg (e2 addD (eV 2) (eN lstD (aCons (eC (.str "NoKind")) (aCons (eC (.str "NoLine")) (aCons (eC (.str "NoMirror")) (aCons (eC (.str "NoName")) (aCons (eC (.str "NoPartner")) (aCons (eC (.str "NoProduct")) (aCons (eC (.str "NoSquare")) (aCons (eC (.str "NoStep")) aNil)))))))))) (bN 2))
  (sRet (e2 ixD (e2 addD (eV 2) (eN lstD (aCons (eC (.str "NoSum")) (aCons (eC (.str "NoTable")) (aCons (eC (.str "NoText")) (aCons (eC (.str "NoUndo")) (aCons (eC (.str "NoVector")) (aCons (eC (.str "NoWord")) aNil)))))))) (e2 idxD (eV 1) (eC (.bl true))))))))))))))
noncomputable def pf__law_class_v8 : List D → Option D := runF 4 g__law_class_v8
noncomputable def g__law_list : SF := (sSeq (sOwn 1 (eLc (iE seqD (eSl (eV 0) oN (oS (e2 modD (e2 ixD (eV 0) (eC (.int 9))) (eC (.int 6)))))) (bN 4) tYesF (e2 ixD (eN lstD (aCons (eC (.int 1)) (aCons (e1 negD (eC (.int 1))) (aCons (eC (.int 0)) aNil)))) (e2 modD (eV 4) (eC (.int 3)))) [4]))
  (sSeq (fun ρ => scr [4] ((sIf (tF (e2 eqD (e2 modD (e2 ixD (eV 0) (eC (.int 10))) (eC (.int 4))) (eC (.int 1))))
 (sOwn 1 (eLc (iE seqD (eSl (eV 0) oN (oS (e2 addD (eC (.int 6)) (e2 modD (e2 fdivD (e2 ixD (eV 0) (eC (.int 10))) (eC (.int 4))) (eC (.int 4))))))) (bN 4) tYesF (e2 ixD (eN lstD (aCons (eC (.int 1)) (aCons (e1 negD (eC (.int 1))) (aCons (eC (.int 0)) aNil)))) (e2 modD (eV 4) (eC (.int 3)))) [4]))
 sNil) ρ))
  (sSeq (fun ρ => scr [2, 3] ((sIf (tO (tF (e2 gtD (e2 modD (e2 ixD (eV 0) (eC (.int 10))) (eC (.int 4))) (eC (.int 1)))) (tF (e2 eqD (e2 modD (e2 fdivD (e2 ixD (eV 0) (eC (.int 11))) (eC (.int 2))) (eC (.int 3))) (eC (.int 1)))))
 (sFor (iA rg1D (aCons (e2 addD (eC (.int 1)) (e2 modD (e2 ixD (eV 0) (eC (.int 11))) (eC (.int 2)))) aNil)) (bN 2)
  (fun ρ => scr [2, 3] ((fun ρ => scr [3] ((sIf (tF (e2 gtD (eN lenD (aCons (eW 1) aNil)) (eC (.int 0))))
 (sSeq (sAsg (e2 addD (eC (.int 2)) (e2 mulD (e2 ixD (eV 0) (e2 addD (eC (.int 12)) (eV 2))) (e2 powD (eC (.int 10)) (eC (.int 30))))) (bN 3))
  (sSet 1 (e2 modD (e2 ixD (eV 0) (e2 addD (eC (.int 14)) (eV 2))) (eN lenD (aCons (eW 1) aNil))) (e2 ixD (eN lstD (aCons (eC (.int 2)) (aCons (e1 negD (eC (.int 2))) (aCons (eV 3) (aCons (e2 subD (eC (.int 0)) (eV 3)) aNil))))) (e2 modD (e2 fdivD (e2 ixD (eV 0) (e2 addD (eC (.int 14)) (eV 2))) (eC (.int 9))) (eC (.int 4))))))
 sNil) ρ)) ρ)))
 sNil) ρ))
  (sRetO 1))))
noncomputable def pf__law_list : List D → Option D := runF 5 g__law_list
noncomputable def g__law_asked_v9 : SF := (sSeq (sAsg (eC .non) (bN 1))
  (sSeq (sAsg (eC .non) (bN 2))
  (sSeq (sTry ["NoCount", "NoSquare"] 3 1 (sAsg (eN kindD (aCons (eV 0) aNil)) (bN 2))
  (eN xkindD (aCons (eV 0) aNil)))
  (sSeq (sIf (tF (e2 isND (eV 1) (eC .non)))
 (sRet (eN tupD (aCons (eC (.str "")) (aCons (eN tupD (aCons (e1 cntD (eV 2)) (aCons (e1 sqrD (eV 2)) aNil))) aNil))))
 sNil)
  (sSeq (sIf (tF (e2 eqD (eN pf__law_class_v8 (aCons (eV 1) aNil)) (eC (.str "NoSquare"))))
 (sRet (eN tupD (aCons (eC (.str "NoSquare")) (aCons (e1 (xfD "place") (eV 1)) aNil))))
 sNil)
  (sRet (eN tupD (aCons (eOrS (eN pf__law_class_v8 (aCons (eV 1) aNil)) (eC (.str "other"))) (aCons (eC .non) aNil)))))))))
noncomputable def pf__law_asked_v9 : List D → Option D := runF 4 g__law_asked_v9
noncomputable def g__law_due_v9 : SF := (sSeq (sIf (tF (e2 gtD (eN lenD (aCons (eV 0) aNil)) (eC (.int 5))))
 (sRet (eN tupD (aCons (eC (.str "NoCount")) (aCons (eC .non) aNil))))
 sNil)
  (sSeq (sFor (iA rg1D (aCons (eN lenD (aCons (eV 0) aNil)) aNil)) (bN 1)
  (fun ρ => scr [1] ((sIf (tF (e2 (inD true) (e2 ixD (eV 0) (eV 1)) (eN tupD (aCons (eC (.int 1)) (aCons (e1 negD (eC (.int 1))) (aCons (eC (.int 0)) aNil))))))
 (sRet (eN tupD (aCons (eC (.str "NoSquare")) (aCons (eV 1) aNil))))
 sNil) ρ)))
  (sRet (eN tupD (aCons (eC (.str "")) (aCons (eN tupD (aCons (eN lenD (aCons (eV 0) aNil)) (aCons (eN tupleD (aCons (eV 0) aNil)) aNil))) aNil))))))
noncomputable def pf__law_due_v9 : List D → Option D := runF 2 g__law_due_v9
noncomputable def g_law_v23 : SF := (sSeq (sAsg (eN kindD (aCons (eN lstD (aCons (eC (.int 0)) (aCons (eC (.int 1)) aNil))) aNil)) (bN 1))
  (sSeq (sFor (iE seqD (e2 addD (eN lstD (aCons (eC (.int 0)) (aCons (eC (.int 4)) aNil))) (eSl (eV 0) oN (oS (eC (.int 20)))))) (bN 2)
  (fun ρ => scr [2, 3, 4, 5, 6] ((sSeq (sAsg (eN pf__law_list (aCons (eN pf__law_numbers (aCons (eV 2) (aCons (eC (.int 16)) aNil))) aNil)) (bN 3))
  (sSeq (sOwn 4 (eN listD (aCons (eV 3) aNil)))
  (sSeq (sAsg (eN pf__law_due_v9 (aCons (eV 3) aNil)) (bN 5))
  (sSeq (sIf (tO (tNt (tR (eN pf__law_same (aCons (eN (imG pf__law_asked_v9) (aCons (eW 4) aNil)) (aCons (eV 5) aNil))))) (tF (e2 neD (eW 4) (eV 3))))
 (sRet (eC (.bl false)))
 sNil)
  (fun ρ => scr [6] ((sIf (tF (e2 eqD (e2 ixD (eV 5) (eC (.int 0))) (eC (.str ""))))
 (sSeq (sAsg (eN kindD (aCons (eW 4) aNil)) (bN 6))
  (sSeq (sX (xL 4 gApp (aCons (eC (.int 1)) aNil)))
  (sIf (tNt (tR (eN pf__law_same (aCons (eN tupD (aCons (e1 cntD (eV 6)) (aCons (e1 sqrD (eV 6)) aNil))) (aCons (e2 ixD (eV 5) (eC (.int 1))) aNil)))))
 (sRet (eC (.bl false)))
 sNil)))
 sNil) ρ)))))) ρ)))
  (sRet (eAnd (e2 eqD (e1 cntD (eV 1)) (eC (.int 2))) (e2 eqD (e1 sqrD (eV 1)) (eN tupD (aCons (eC (.int 0)) (aCons (eC (.int 1)) aNil))))))))
noncomputable def pf_law_v23 : List D → Option D := runF 7 g_law_v23
end Toy
set_option linter.all false
set_option maxRecDepth 100000
set_option maxHeartbeats 4000000
namespace Toy
open PySem L2 BV Ma
def frD (f : Int × Int) : D := .tup [.int f.1, .int f.2]
def tmD (t : Term) : D := .tup [tuD t.1, frD t.2]
def smD (ts : List Term) : D := .tup (ts.map tmD)
theorem tup2 {a b : D} : tupD [a, b] = some (.tup [a, b]) := tupD_ok (by show 2 ≤ 1048576; decide)
theorem lst0 : lstD [] = some (.lst []) := lstD_ok (by show 0 ≤ 1048576; decide)
abbrev S64 (a : Int) : Prop := a.natAbs < 18446744073709551616
theorem low_wh : ∀ (n : Nat) (a b : Int) (s0 s1 : Sl), 0 < a → 0 ≤ b → b.toNat ≤ n → sWh (tF (e2 gtD (eV 3) (eC (.int 0)))) (sPar 2 3 (aCons (eV 3) (aCons (e2 modD (eV 2) (eV 3)) aNil))) [s0, s1, .f (.int a), .f (.int b)] = .nx [s0, s1, .f (.int (gI a b)), .f (.int 0)]
  | 0, a, b, s0, s1, ha, h0, h1 => by
    have : b = 0 := by omega
    subst this
    rw [sWh_eq]
    simp only [EVs, EVx, runX, runF, env0, List.map_cons, List.map_nil, List.length_cons, List.length_nil, List.cons_append, List.nil_append, Nat.reduceAdd, Nat.reduceSub, List.replicate_succ, List.replicate_zero, Option.bind_some, Option.bind_none, Option.elim_some, Option.elim_none, Option.map_some, List.set_cons_zero, List.set_cons_succ, List.getElem?_cons_zero, List.getElem?_cons_succ, if_true, Bool.false_eq_true, if_false]
    have : gI a 0 = a := by unfold gI; rw [Int.gcd_zero_right]; omega
    rw [this]
    simp
  | n + 1, a, b, s0, s1, ha, h0, h1 => by
    rw [sWh_eq]
    by_cases hb : b = 0
    · subst hb
      simp only [EVs, EVx, runX, runF, env0, List.map_cons, List.map_nil, List.length_cons, List.length_nil, List.cons_append, List.nil_append, Nat.reduceAdd, Nat.reduceSub, List.replicate_succ, List.replicate_zero, Option.bind_some, Option.bind_none, Option.elim_some, Option.elim_none, Option.map_some, List.set_cons_zero, List.set_cons_succ, List.getElem?_cons_zero, List.getElem?_cons_succ, if_true, Bool.false_eq_true, if_false]
      have : gI a 0 = a := by unfold gI; rw [Int.gcd_zero_right]; omega
      rw [this]
      simp
    · simp only [EVs, EVx, runX, runF, env0, List.map_cons, List.map_nil, List.length_cons, List.length_nil, List.cons_append, List.nil_append, Nat.reduceAdd, Nat.reduceSub, List.replicate_succ, List.replicate_zero, Option.bind_some, Option.bind_none, Option.elim_some, Option.elim_none, Option.map_some, List.set_cons_zero, List.set_cons_succ, List.getElem?_cons_zero, List.getElem?_cons_succ, if_true, Bool.false_eq_true, if_false]
      have hp : 0 < b := by omega
      simp only [hp, decide_true, modD_ok hp, Option.bind_some, List.set_cons_zero, List.set_cons_succ]
      rw [low_wh n b (a % b) s0 s1 hp (Int.emod_nonneg _ hb) (by have := Int.emod_lt_of_pos a hp; omega)]
      unfold gI
      rw [gcd_mod hp]
end Toy
set_option linter.all false
set_option maxRecDepth 100000
set_option maxHeartbeats 4000000
namespace Toy
open PySem L2 BV Ma
theorem for_ex {α : Type} {B : D → BV.Env → Option BV.Env} {G : SF} (enc : α → D) (P : Nat → BV.Env → Prop) : ∀ (xs : List α) (k : Nat) (ρ : BV.Env), P k ρ → (∀ i x ρ, xs[i]? = some x → P (k + i) ρ → ∃ ρ', (bd B G (enc x) ρ = .nx ρ' ∨ bd B G (enc x) ρ = .ct ρ') ∧ P (k + i + 1) ρ') → ∃ ρ', forD B G (xs.map enc) ρ = .nx ρ' ∧ P (k + xs.length) ρ'
  | [], k, ρ, h, _ => ⟨ρ, rfl, h⟩
  | x :: xs, k, ρ, h, st => by
    obtain ⟨ρ1, a, b⟩ := st 0 x ρ rfl h
    rw [List.map_cons, forD_cons a]
    obtain ⟨ρ2, c, d⟩ := for_ex enc P xs (k + 1) ρ1 b fun i y ρ hy hp => by
      have := st (i + 1) y ρ (by simpa using hy) (by rw [show k + (i + 1) = k + 1 + i by omega]; exact hp)
      rw [show k + (i + 1) + 1 = k + 1 + i + 1 by omega] at this
      exact this
    exact ⟨ρ2, c, by rw [List.length_cons, show k + (xs.length + 1) = k + 1 + xs.length by omega]; exact d⟩
theorem for_exr {B : D → BV.Env → Option BV.Env} {G : SF} (P : Nat → BV.Env → Prop) {n : Nat} {ρ : BV.Env} (h : P 0 ρ) (st : ∀ i ρ, i < n → P i ρ → ∃ ρ', (bd B G (.int (i : Int)) ρ = .nx ρ' ∨ bd B G (.int (i : Int)) ρ = .ct ρ') ∧ P (i + 1) ρ') : ∃ ρ', forD B G (rgD 0 n) ρ = .nx ρ' ∧ P n ρ' := by
  have := for_ex (B := B) (G := G) (fun k : Nat => D.int ((0 : Int) + (k : Int))) P (List.range n) 0 ρ h fun i x ρ hx hp => by
    have hl : i < n := by
      have := (List.getElem?_eq_some_iff.mp hx).1
      simpa using this
    have : x = i := by rw [List.getElem?_range hl] at hx; exact (Option.some.inj hx).symm
    subst this
    simp only [Nat.zero_add, Int.zero_add] at hp ⊢
    exact st x ρ hl hp
  simp only [List.length_range, Nat.zero_add] at this
  exact this
theorem rg1 {n : Nat} (h : n ≤ 100000) : rg1D [.int (n : Int)] = some (rgD 0 n) := by
  show (if -LR ≤ (n : Int) ∧ (n : Int) ≤ LR then some (rgD 0 ((n : Int).toNat)) else none) = _
  unfold LR
  rw [if_pos (by omega)]
  simp
theorem forR {I : LF} {B : D → BV.Env → Option BV.Env} {G : SF} {ρ : BV.Env} {fl : Fl} (hf : sFor I B G ρ = fl) {n : Nat} (hi : I ρ = some (rgD 0 n)) (P : Nat → BV.Env → Prop) (h : P 0 ρ) (st : ∀ i ρ, i < n → P i ρ → ∃ ρ', (bd B G (.int (i : Int)) ρ = .nx ρ' ∨ bd B G (.int (i : Int)) ρ = .ct ρ') ∧ P (i + 1) ρ') : ∃ ρ', fl = .nx ρ' ∧ P n ρ' := by
  obtain ⟨ρ', a, b⟩ := for_exr P h st
  exact ⟨ρ', by rw [← hf, sFor_of hi, a], b⟩
theorem forL {I : LF} {B : D → BV.Env → Option BV.Env} {G : SF} {ρ : BV.Env} {fl : Fl} (hf : sFor I B G ρ = fl) {α : Type} (enc : α → D) {xs : List α} (hi : I ρ = some (xs.map enc)) (P : Nat → BV.Env → Prop) (h : P 0 ρ) (st : ∀ i x ρ, xs[i]? = some x → P i ρ → ∃ ρ', (bd B G (enc x) ρ = .nx ρ' ∨ bd B G (enc x) ρ = .ct ρ') ∧ P (i + 1) ρ') : ∃ ρ', fl = .nx ρ' ∧ P xs.length ρ' := by
  obtain ⟨ρ', a, b⟩ := for_ex enc P xs 0 ρ h fun i x ρ hx hp => by
    simp only [Nat.zero_add] at hp ⊢
    exact st i x ρ hx hp
  exact ⟨ρ', by rw [← hf, sFor_of hi, a], by simpa using b⟩
theorem cell_pf (ns : List Int) {k : Int} (hk : 0 ≤ k) : ∃ z : Int, pf__law_cell_at [.ks (ns.map D.int), .int k] = some (.int z) := by
  unfold pf__law_cell_at g__law_cell_at
  by_cases h : k < (ns.length : Int)
  · have hl : k.toNat < ns.length := by omega
    refine ⟨ns[k.toNat], ?_⟩
    have e : atI (ns.map D.int) k = some (.int ns[k.toNat]) := atI_ok (j := k.toNat) (by omega) (by simp [hl])
    simp only [EVs, EVx, runX, runF, env0, List.map_cons, List.map_nil, List.length_cons, List.length_nil, List.cons_append, List.nil_append, Nat.reduceAdd, Nat.reduceSub, List.replicate_succ, List.replicate_zero, Option.bind_some, Option.bind_none, Option.elim_some, Option.elim_none, Option.map_some, List.set_cons_zero, List.set_cons_succ, List.getElem?_cons_zero, List.getElem?_cons_succ, if_true, Bool.false_eq_true, if_false, List.length_map, h, decide_true, e]
  · refine ⟨0, ?_⟩
    simp only [EVs, EVx, runX, runF, env0, List.map_cons, List.map_nil, List.length_cons, List.length_nil, List.cons_append, List.nil_append, Nat.reduceAdd, Nat.reduceSub, List.replicate_succ, List.replicate_zero, Option.bind_some, Option.bind_none, Option.elim_some, Option.elim_none, Option.map_some, List.set_cons_zero, List.set_cons_succ, List.getElem?_cons_zero, List.getElem?_cons_succ, if_true, Bool.false_eq_true, if_false, List.length_map, h, decide_false]
theorem mixed_pf {c p : Int} (h0 : 0 ≤ p) (h1 : p < 1000) : ∃ z : Int, 0 ≤ z ∧ z < 2147483587 ∧ pf__law_mixed [.int c, .int p] = some (.int z) := by
  unfold pf__law_mixed g__law_mixed
  have e1 : ∀ a : Int, modD (.int a) (.int 2147483629) = some (.int (a % 2147483629)) := fun a => modD_ok (by decide)
  have e2 : ∀ a : Int, modD (.int a) (.int 2147483587) = some (.int (a % 2147483587)) := fun a => modD_ok (by decide)
  have s1 : ∀ a : Int, S64 (a % 2147483629) := fun a => by show (a % 2147483629).natAbs < _; omega
  have s2 : S64 p := by show p.natAbs < _; omega
  have s3 : S64 16807 := by decide
  have s4 : S64 69621 := by decide
  have s5 : S64 48271 := by decide
  simp only [EVs, EVx, runX, runF, env0, List.map_cons, List.map_nil, List.length_cons, List.length_nil, List.cons_append, List.nil_append, Nat.reduceAdd, Nat.reduceSub, List.replicate_succ, List.replicate_zero, Option.bind_some, Option.bind_none, Option.elim_some, Option.elim_none, Option.map_some, List.set_cons_zero, List.set_cons_succ, List.getElem?_cons_zero, List.getElem?_cons_succ, if_true, Bool.false_eq_true, if_false, e1, e2, mulD_64 (s1 _) s3, mulD_64 s4 s2, mulD_64 s5 s2, mulD_64 (s1 _) (s1 _)]
  exact ⟨_, Int.emod_nonneg _ (by decide), Int.emod_lt_of_pos _ (by decide), rfl⟩
abbrev Nums (n : Nat) (ns : List Int) : Prop := ns.length = n ∧ ∀ z ∈ ns, 0 ≤ z ∧ z < 33554432
theorem num_snoc {n : Nat} {ns : List Int} {z : Int} (h : Nums n ns) (h0 : 0 ≤ z) (h1 : z < 33554432) : Nums (n + 1) (ns ++ [z]) := ⟨by simp [h.1], fun y hy => by
  rcases List.mem_append.mp hy with q | q
  · exact h.2 y q
  · have : y = z := by simpa using q
    subst this; exact ⟨h0, h1⟩⟩
theorem ints_snoc (ns : List Int) (z : Int) : ns.map D.int ++ [D.int z] = (ns ++ [z]).map D.int := by simp
theorem numbers_pf (c : Int) {n : Nat} (hn : n ≤ 900) : ∃ ns : List Int, Nums n ns ∧ pf__law_numbers [.int c, .int (n : Int)] = some (.lst (ns.map D.int)) := by
  unfold pf__law_numbers g__law_numbers
  have E1 : ∀ a : Int, modD (.int a) (.int 1000003) = some (.int (a % 1000003)) := fun a => modD_ok (by decide)
  have E2 : ∀ a : Int, fdivD (.int a) (.int 1000003) = some (.int (a / 1000003)) := fun a => fdivD_64 (by decide) (by decide)
  have E3 : ∀ a : Int, fdivD (.int a) (.int 64) = some (.int (a / 64)) := fun a => fdivD_64 (by decide) (by decide)
  have E4 : powD (.int 10) (.int 18) = some (.int (10 ^ 18)) := powD_ok (by decide) (by decide) (by decide)
  simp only [EVs, EVx, runX, runF, env0, List.map_cons, List.map_nil, List.length_cons, List.length_nil, List.cons_append, List.nil_append, Nat.reduceAdd, Nat.reduceSub, List.replicate_succ, List.replicate_zero, Option.bind_some, Option.bind_none, Option.elim_some, Option.elim_none, Option.map_some, List.set_cons_zero, List.set_cons_succ, List.getElem?_cons_zero, List.getElem?_cons_succ, if_true, Bool.false_eq_true, if_false, lst0, E4]
  generalize hf : sFor _ _ _ _ = fl
  obtain ⟨ρ', rfl, ns, r, rfl, hs⟩ := forR hf (n := n) (by simp only [EVs, EVx, runX, runF, env0, List.map_cons, List.map_nil, List.length_cons, List.length_nil, List.cons_append, List.nil_append, Nat.reduceAdd, Nat.reduceSub, List.replicate_succ, List.replicate_zero, Option.bind_some, Option.bind_none, Option.elim_some, Option.elim_none, Option.map_some, List.set_cons_zero, List.set_cons_succ, List.getElem?_cons_zero, List.getElem?_cons_succ, if_true, Bool.false_eq_true, if_false]; exact rg1 (by omega))
    (fun i ρ => ∃ (ns : List Int) (r : Int), ρ = [.f (.int c), .f (.int (n : Int)), .o (.lst (ns.map D.int)), .f (.int r), .u] ∧ Nums i ns) ⟨[], _, rfl, rfl, by simp⟩ (by
      rintro i ρ hi ⟨ns, r, rfl, hs⟩
      have l : (ns.map D.int).length < LN := by rw [List.length_map, hs.1]; show i < 1048576; omega
      have ea : ∀ d, gApp (ns.map D.int) [d] = some (ns.map D.int ++ [d], .non) := fun d => gApp_ok l
      by_cases h : 0 ≤ r
      · refine ⟨[.f (.int c), .f (.int (n : Int)), .o (.lst ((ns ++ [r % 1000003]).map D.int)), .f (.int (r / 1000003)), .u], .inl ?_, _, _, rfl, num_snoc hs (by omega) (by omega)⟩
        simp only [EVs, EVx, runX, runF, env0, List.map_cons, List.map_nil, List.length_cons, List.length_nil, List.cons_append, List.nil_append, Nat.reduceAdd, Nat.reduceSub, List.replicate_succ, List.replicate_zero, Option.bind_some, Option.bind_none, Option.elim_some, Option.elim_none, Option.map_some, List.set_cons_zero, List.set_cons_succ, List.getElem?_cons_zero, List.getElem?_cons_succ, if_true, Bool.false_eq_true, if_false, bd_eq, h, decide_true, xL_eq (i := 2) (ρ := _ :: _ :: _ :: _) rfl, E1, E2, ea, ints_snoc]
      · obtain ⟨z, z0, z1, ez⟩ := mixed_pf (c := c) (p := (i : Int)) (by omega) (by omega)
        refine ⟨[.f (.int c), .f (.int (n : Int)), .o (.lst ((ns ++ [z / 64]).map D.int)), .f (.int r), .u], .inl ?_, _, _, rfl, num_snoc hs (by omega) (by omega)⟩
        simp only [EVs, EVx, runX, runF, env0, List.map_cons, List.map_nil, List.length_cons, List.length_nil, List.cons_append, List.nil_append, Nat.reduceAdd, Nat.reduceSub, List.replicate_succ, List.replicate_zero, Option.bind_some, Option.bind_none, Option.elim_some, Option.elim_none, Option.map_some, List.set_cons_zero, List.set_cons_succ, List.getElem?_cons_zero, List.getElem?_cons_succ, if_true, Bool.false_eq_true, if_false, bd_eq, h, decide_false, xL_eq (i := 2) (ρ := _ :: _ :: _ :: _) rfl, E3, ez, ea, ints_snoc])
  refine ⟨ns, hs, ?_⟩
  simp only [EVs, EVx, runX, runF, env0, List.map_cons, List.map_nil, List.length_cons, List.length_nil, List.cons_append, List.nil_append, Nat.reduceAdd, Nat.reduceSub, List.replicate_succ, List.replicate_zero, Option.bind_some, Option.bind_none, Option.elim_some, Option.elim_none, Option.map_some, List.set_cons_zero, List.set_cons_succ, List.getElem?_cons_zero, List.getElem?_cons_succ, if_true, Bool.false_eq_true, if_false, xRetO (i := 2) (ρ := _ :: _ :: _ :: _) rfl]
theorem nums_at {n : Nat} {ns : List Int} (h : Nums n ns) {i : Int} (h0 : 0 ≤ i) (h1 : i < n) : ∃ z : Int, 0 ≤ z ∧ z < 33554432 ∧ atI (ns.map D.int) i = some (.int z) := by
  have hl : i.toNat < ns.length := by rw [h.1]; omega
  have hz := h.2 _ (List.getElem_mem hl)
  exact ⟨_, hz.1, hz.2, atI_ok (j := i.toNat) (by omega) (by simp [hl])⟩
theorem ints_at {ns : List Int} {i : Int} (h0 : 0 ≤ i) (h1 : i < ns.length) : ∃ z ∈ ns, atI (ns.map D.int) i = some (.int z) := by
  have hl : i.toNat < ns.length := by omega
  exact ⟨_, List.getElem_mem hl, atI_ok (j := i.toNat) (by omega) (by simp [hl])⟩
theorem lst_ok {ds : List D} (h : ds.length ≤ 1000) : lstD ds = some (.lst ds) := lstD_ok (Nat.le_trans h (by show 1000 ≤ 1048576; decide))
abbrev SqV (ns : List Int) : Prop := ns.length ≤ 5 ∧ ∀ z ∈ ns, z = 1 ∨ z = -1 ∨ z = 0
end Toy
set_option linter.all false
set_option maxRecDepth 100000
set_option maxHeartbeats 4000000
namespace Toy
open PySem L2 BV Ma
theorem lcR {I : LF} {B : D → BV.Env → Option BV.Env} {T : TF} {F : EF} {vs : List Nat} {ρ : BV.Env} {o : Option D} (hf : eLc I B T F vs ρ = o) {α : Type} (enc : α → D) {xs : List α} (hi : I ρ = some (xs.map enc)) (hl : xs.length ≤ 100000) (r : α → Option D) (h : ∀ x ∈ xs, el B T F (wipeE ρ vs) (enc x) = some (r x)) : o = some (.lst (xs.filterMap r)) := by
  rw [← hf]
  exact eLc_of hi (by rw [List.length_map]; exact Nat.le_trans hl (by show 100000 ≤ 1048576; decide)) (lc_of enc r xs h)
theorem lcM {I : LF} {B : D → BV.Env → Option BV.Env} {T : TF} {F : EF} {vs : List Nat} {ρ : BV.Env} {o : Option D} (hf : eLc I B T F vs ρ = o) {α β : Type} (enc : α → D) {xs : List α} (hi : I ρ = some (xs.map enc)) (hl : xs.length ≤ 100000) (f : α → β) (enc' : β → D) (h : ∀ x ∈ xs, el B T F (wipeE ρ vs) (enc x) = some (some (enc' (f x)))) : o = some (.lst ((xs.map f).map enc')) := by
  rw [← hf]
  exact eLc_of hi (by rw [List.length_map]; exact Nat.le_trans hl (by show 100000 ≤ 1048576; decide)) (lc_map enc f enc' xs h)
theorem addL {a b : List D} (h : a.length + b.length ≤ 100000) : addD (.lst a) (.lst b) = some (.lst (a ++ b)) := if_pos (Nat.le_trans h (by show 100000 ≤ 1048576; decide))
theorem tups_map : ∀ nss : List (List Int), tupsD (nss.map tuD) = some nss
  | [] => rfl
  | ns :: nss => by
    show (intsD (ns.map D.int)).bind (fun m => (tupsD (nss.map tuD)).map (m :: ·)) = _
    rw [intsD_map, tups_map nss]; rfl
theorem sort_tups {nss : List (List Int)} (h : nss.length < 64) : sortD [.lst (nss.map tuD)] = some (.lst ((srt nss).map tuD)) := by
  cases nss with
  | nil =>
    have e : srt [] = [] := by decide +kernel
    rw [e]
    show (if ([] : List Int).length < 64 then some (D.lst ((([] : List Int).mergeSort (fun a b => decide (a ≤ b))).map D.int)) else none) = _
    simp
  | cons ns nss =>
    show (tupsD ((ns :: nss).map tuD)).bind (fun m => if m.length < 64 then some (D.lst ((srt m).map tuD)) else none) = _
    rw [tups_map]
    simp only [Option.bind_some]
    rw [if_pos h]
theorem enD_map {α : Type} (enc : α → D) (ps : List α) : enD (ps.map enc) = ((List.range ps.length).zip ps).map fun p => D.tup [.int (p.1 : Int), enc p.2] := by
  unfold enD
  rw [List.length_map, List.zip, List.map_zipWith, List.zipWith_map_right]
theorem zip_range {α : Type} {ps : List α} {i : Nat} {x : Nat × α} (h : ((List.range ps.length).zip ps)[i]? = some x) : x.1 = i ∧ ps[i]? = some x.2 := by
  rw [List.zip, List.getElem?_zipWith] at h
  have hi : i < ps.length := by
    refine Decidable.byContradiction fun q => ?_
    rw [List.getElem?_eq_none (l := ps) (by omega)] at h
    cases e : (List.range ps.length)[i]? <;> rw [e] at h <;> cases h
  rw [List.getElem?_range hi, List.getElem?_eq_getElem hi] at h
  cases h
  exact ⟨rfl, by simp⟩
end Toy
set_option linter.all false
set_option maxRecDepth 100000
set_option maxHeartbeats 4000000
namespace Toy
open PySem L2 BV Ma
abbrev ky (k : List Int) : List Key := k.map Sum.inl
abbrev dvs (es : List Term) : List D := es.map fun t => frD t.2
theorem xsSet {ρ : BV.Env} {i : Nat} {x : D} {K V : EF} (h : ρ[i]? = some (.o x)) : sSet i K V ρ = ((V ρ).bind fun d => (K ρ).bind fun k => setD x k d).elim .no fun x' => .nx (ρ.set i (.o x')) := by
  unfold sSet
  rw [h]
  simp only
  cases (V ρ).bind fun d => (K ρ).bind fun k => setD x k d <;> rfl
def SD : Nat → D → Prop
  | 0, d => ∃ i, d = .int i
  | n + 1, d => (∃ i, d = .int i) ∨ (∃ ds, (d = .tup ds ∨ d = .lst ds) ∧ ds.length ≤ 1000 ∧ ∀ x ∈ ds, SD n x)
theorem at_i {ds : List D} {i : Nat} (h : i < ds.length) : atI ds (i : Int) = some ds[i] := atI_ok (j := i) rfl (by simp [h])
theorem isi1 {i : Int} : isiD [.int i, .ty "tuple"] = some (.bl false) ∧ isiD [.int i, .ty "list"] = some (.bl false) ∧ isiD [.int i, .ty "bool"] = some (.bl false) ∧ isiD [.int i, .ty "int"] = some (.bl true) ∧ isiD [.int i, .ty "str"] = some (.bl false) := by
  refine ⟨?_, ?_, ?_, ?_, ?_⟩ <;> (unfold isiD tyN isiT; simp)
theorem isi2 {ds : List D} : isiD [.tup ds, .ty "tuple"] = some (.bl true) ∧ isiD [.tup ds, .ty "list"] = some (.bl false) := by
  refine ⟨?_, ?_⟩ <;> (unfold isiD tyN isiT; simp)
theorem isi3 {ds : List D} : isiD [.lst ds, .ty "tuple"] = some (.bl false) ∧ isiD [.lst ds, .ty "list"] = some (.bl true) := by
  refine ⟨?_, ?_⟩ <;> (unfold isiD tyN isiT; simp)
theorem same_int {pf : List D → Option D} {i : Int} : runF 3 (g__law_same pf) [.int i, .int i] = some (.bl true) := by
  unfold g__law_same
  obtain ⟨a, b, c, d, e⟩ := isi1 (i := i)
  simp only [EVs, EVx, runX, runF, env0, List.map_cons, List.map_nil, List.length_cons, List.length_nil, List.cons_append, List.nil_append, Nat.reduceAdd, Nat.reduceSub, List.replicate_succ, List.replicate_zero, Option.bind_some, Option.bind_none, Option.elim_some, Option.elim_none, Option.map_some, List.set_cons_zero, List.set_cons_succ, List.getElem?_cons_zero, List.getElem?_cons_succ, if_true, Bool.false_eq_true, if_false, a, b, c, d, e, decide_true, Bool.not_false]
theorem same_seq {pf : List D → Option D} {x : D} {ds : List D} (hx : x = .tup ds ∨ x = .lst ds) (hl : ds.length ≤ 1000) (h : ∀ y ∈ ds, pf [y, y] = some (.bl true)) : runF 3 (g__law_same pf) [x, x] = some (.bl true) := by
  unfold g__law_same
  obtain ⟨a, b⟩ := isi2 (ds := ds)
  obtain ⟨a', b'⟩ := isi3 (ds := ds)
  rcases hx with rfl | rfl
  · simp only [EVs, EVx, runX, runF, env0, List.map_cons, List.map_nil, List.length_cons, List.length_nil, List.cons_append, List.nil_append, Nat.reduceAdd, Nat.reduceSub, List.replicate_succ, List.replicate_zero, Option.bind_some, Option.bind_none, Option.elim_some, Option.elim_none, Option.map_some, List.set_cons_zero, List.set_cons_succ, List.getElem?_cons_zero, List.getElem?_cons_succ, if_true, Bool.false_eq_true, if_false, a, b, decide_true, Bool.not_true]
    generalize hf : sFor _ _ _ _ = fl
    obtain ⟨ρ', rfl, rfl⟩ := forR hf (n := ds.length) (by simp only [EVs, EVx, runX, runF, env0, List.map_cons, List.map_nil, List.length_cons, List.length_nil, List.cons_append, List.nil_append, Nat.reduceAdd, Nat.reduceSub, List.replicate_succ, List.replicate_zero, Option.bind_some, Option.bind_none, Option.elim_some, Option.elim_none, Option.map_some, List.set_cons_zero, List.set_cons_succ, List.getElem?_cons_zero, List.getElem?_cons_succ, if_true, Bool.false_eq_true, if_false]; exact rg1 (by omega)) (fun i ρ => ρ = [.f (.tup ds), .f (.tup ds), .u]) rfl (by
      rintro i ρ hi rfl
      refine ⟨_, .inl ?_, rfl⟩
      simp only [EVs, EVx, runX, runF, env0, List.map_cons, List.map_nil, List.length_cons, List.length_nil, List.cons_append, List.nil_append, Nat.reduceAdd, Nat.reduceSub, List.replicate_succ, List.replicate_zero, Option.bind_some, Option.bind_none, Option.elim_some, Option.elim_none, Option.map_some, List.set_cons_zero, List.set_cons_succ, List.getElem?_cons_zero, List.getElem?_cons_succ, if_true, Bool.false_eq_true, if_false, bd_eq, at_i hi, h _ (List.getElem_mem hi), Bool.not_true])
    simp only [EVs, EVx, runX, runF, env0, List.map_cons, List.map_nil, List.length_cons, List.length_nil, List.cons_append, List.nil_append, Nat.reduceAdd, Nat.reduceSub, List.replicate_succ, List.replicate_zero, Option.bind_some, Option.bind_none, Option.elim_some, Option.elim_none, Option.map_some, List.set_cons_zero, List.set_cons_succ, List.getElem?_cons_zero, List.getElem?_cons_succ, if_true, Bool.false_eq_true, if_false]
  · simp only [EVs, EVx, runX, runF, env0, List.map_cons, List.map_nil, List.length_cons, List.length_nil, List.cons_append, List.nil_append, Nat.reduceAdd, Nat.reduceSub, List.replicate_succ, List.replicate_zero, Option.bind_some, Option.bind_none, Option.elim_some, Option.elim_none, Option.map_some, List.set_cons_zero, List.set_cons_succ, List.getElem?_cons_zero, List.getElem?_cons_succ, if_true, Bool.false_eq_true, if_false, a', b', decide_true, Bool.not_true]
    generalize hf : sFor _ _ _ _ = fl
    obtain ⟨ρ', rfl, rfl⟩ := forR hf (n := ds.length) (by simp only [EVs, EVx, runX, runF, env0, List.map_cons, List.map_nil, List.length_cons, List.length_nil, List.cons_append, List.nil_append, Nat.reduceAdd, Nat.reduceSub, List.replicate_succ, List.replicate_zero, Option.bind_some, Option.bind_none, Option.elim_some, Option.elim_none, Option.map_some, List.set_cons_zero, List.set_cons_succ, List.getElem?_cons_zero, List.getElem?_cons_succ, if_true, Bool.false_eq_true, if_false]; exact rg1 (by omega)) (fun i ρ => ρ = [.f (.lst ds), .f (.lst ds), .u]) rfl (by
      rintro i ρ hi rfl
      refine ⟨_, .inl ?_, rfl⟩
      simp only [EVs, EVx, runX, runF, env0, List.map_cons, List.map_nil, List.length_cons, List.length_nil, List.cons_append, List.nil_append, Nat.reduceAdd, Nat.reduceSub, List.replicate_succ, List.replicate_zero, Option.bind_some, Option.bind_none, Option.elim_some, Option.elim_none, Option.map_some, List.set_cons_zero, List.set_cons_succ, List.getElem?_cons_zero, List.getElem?_cons_succ, if_true, Bool.false_eq_true, if_false, bd_eq, at_i hi, h _ (List.getElem_mem hi), Bool.not_true])
    simp only [EVs, EVx, runX, runF, env0, List.map_cons, List.map_nil, List.length_cons, List.length_nil, List.cons_append, List.nil_append, Nat.reduceAdd, Nat.reduceSub, List.replicate_succ, List.replicate_zero, Option.bind_some, Option.bind_none, Option.elim_some, Option.elim_none, Option.map_some, List.set_cons_zero, List.set_cons_succ, List.getElem?_cons_zero, List.getElem?_cons_succ, if_true, Bool.false_eq_true, if_false]
end Toy
set_option linter.all false
set_option maxRecDepth 100000
set_option maxHeartbeats 4000000
namespace Toy
open PySem L2 BV Ma
section
variable {c : Nat} (hc : c < 6)
include hc
end
end Toy
set_option linter.all false
set_option maxRecDepth 100000
set_option maxHeartbeats 4000000
namespace Toy
open PySem L2 BV Ma
theorem xeCh {g h : D → D → Option D} {a b c : EF} {s : Sl} {ρ : BV.Env} : eCh g h a b c (s :: ρ) = (a (s :: ρ)).bind fun x => (b (s :: ρ)).bind fun y => (g x y).bind fun r => (blB r).bind fun t => if t = true then (c (s :: ρ)).bind fun z => (h y z).bind fun r2 => (blB r2).map D.bl else some (.bl false) := by
  unfold eCh
  cases a (s :: ρ) with
  | none => rfl
  | some x =>
    cases b (s :: ρ) with
    | none => rfl
    | some y =>
      simp only [Option.bind_some]
      cases g x y with
      | none => rfl
      | some r =>
        cases r <;> first | rfl | skip
        rename_i t
        cases t
        · rfl
        · simp only [Option.bind_some, xbl, if_true]
          cases c (s :: ρ) with
          | none => rfl
          | some z =>
            simp only [Option.bind_some]
            cases h y z with
            | none => rfl
            | some r2 => cases r2 <;> rfl
theorem whole_pf {i : Int} : pf_is_whole [.int i] = some (.bl true) := by
  unfold pf_is_whole g_is_whole
  obtain ⟨a, b, c, d, e⟩ := isi1 (i := i)
  simp only [EVs, EVx, runX, runF, env0, List.map_cons, List.map_nil, List.length_cons, List.length_nil, List.cons_append, List.nil_append, Nat.reduceAdd, Nat.reduceSub, List.replicate_succ, List.replicate_zero, Option.bind_some, Option.bind_none, Option.elim_some, Option.elim_none, Option.map_some, List.set_cons_zero, List.set_cons_succ, List.getElem?_cons_zero, List.getElem?_cons_succ, if_true, Bool.false_eq_true, if_false, c, d, Bool.not_false]
theorem zlen {α : Type} (p : List α) : (p.zip (p.drop 1)).length ≤ p.length := by
  rw [List.length_zip, List.length_drop]; omega
end Toy
set_option linter.all false
set_option maxRecDepth 100000
set_option maxHeartbeats 4000000
namespace Toy
open PySem L2 BV Ma
end Toy
set_option linter.all false
set_option maxRecDepth 100000
set_option maxHeartbeats 4000000
namespace Toy
open PySem L2 BV Ma
end Toy
set_option linter.all false
set_option maxRecDepth 100000
set_option maxHeartbeats 4000000
namespace Toy
open PySem L2 BV Ma
theorem cut_map {α : Type} (f : α → D) (xs : List α) (lo hi : Option Int) : cutD (xs.map f) lo hi = (cutD xs lo hi).map f := by
  unfold cutD
  rw [List.length_map, List.map_take, List.map_drop]
theorem cut_len {α : Type} (xs : List α) (lo hi : Option Int) : (cutD xs lo hi).length ≤ xs.length := by
  unfold cutD
  rw [List.length_take, List.length_drop]; omega
end Toy
set_option linter.all false
set_option maxRecDepth 100000
set_option maxHeartbeats 4000000
namespace Toy
open PySem L2 BV Ma
theorem kind_pf {sq : List Int} (h : SqV sq) : kindD [.lst (sq.map D.int)] = some (.kind sq) := by
  have e : sqOk sq = true := by
    unfold sqOk
    rw [Bool.and_eq_true, List.all_eq_true]
    exact ⟨decide_eq_true h.1, fun z hz => decide_eq_true (h.2 z hz)⟩
  unfold kindD
  simp [intsD_map, e]
theorem sl_ks {ns : List Int} {lo hi : Option Int} : slD (.ks (ns.map D.int)) lo hi = some (.lst ((cutD ns lo hi).map D.int)) := by
  show some (D.lst (cutD (ns.map D.int) lo hi)) = _
  rw [cut_map]
theorem sl_li {ns : List Int} {lo hi : Option Int} : slD (.lst (ns.map D.int)) lo hi = some (.lst ((cutD ns lo hi).map D.int)) := by
  show some (D.lst (cutD (ns.map D.int) lo hi)) = _
  rw [cut_map]
end Toy
set_option linter.all false
namespace Ma
def rs {α : Type} : List α → (α → Rat) → Rat
  | [], _ => 0
  | x :: l, f => f x + rs l f
variable {α β : Type}
def qv (f : Int × Int) : Rat := Rat.divInt f.1 f.2
def vl (ts : List Term) (k : List Int) : Rat := rs ts fun t => if t.1 = k then qv t.2 else 0
end Ma
set_option linter.all false
set_option maxRecDepth 100000
namespace Toy
open PySem L2 Ma
def prodI (ps : List Int) : Int := ps.foldl (· * ·) 1
theorem foldl_mul (c : Int) : ∀ ps : List Int, ps.foldl (· * ·) c = c * ps.foldl (· * ·) 1
  | [] => by simp
  | p :: ps => by
    rw [List.foldl_cons, List.foldl_cons, foldl_mul (c * p), foldl_mul (1 * p)]
    rw [Int.one_mul, Int.mul_assoc]
theorem prodI_app (a b : List Int) : prodI (a ++ b) = prodI a * prodI b := by
  unfold prodI
  rw [List.foldl_append, foldl_mul]
def Pts (M : Int) (ps : List Int) : Prop := (∀ p ∈ ps, 0 < p) ∧ prodI ps ∣ M
theorem prodI_pos' : ∀ {ps : List Int}, (∀ p ∈ ps, 0 < p) → 0 < prodI ps := by
  intro ps h
  induction ps with
  | nil => decide
  | cons p ps ih =>
    have : prodI (p :: ps) = p * prodI ps := prodI_app [p] ps |>.trans (by unfold prodI; simp)
    rw [this]
    exact Int.mul_pos (h p (by simp)) (ih fun q hq => h q (by simp [hq]))
theorem Pts.take {M : Int} {ps : List Int} (h : Pts M ps) (i : Nat) : Pts M (ps.take i) := by
  refine ⟨fun p hp => h.1 p (List.mem_of_mem_take hp), Int.dvd_trans ⟨prodI (ps.drop i), ?_⟩ h.2⟩
  rw [← prodI_app, List.take_append_drop]
structure GSum (c : Nat) (M : Int) (a : Nat) (ts : List Term) : Prop where
  ris : Ris (keys ts)
  mem : ∀ k ∈ keys ts, k ∈ prods c
  fr : ∀ t ∈ ts, Red t.2 ∧ t.2.1 ≠ 0 ∧ t.2.2 ∣ M ∧ t.2.1.natAbs < 2 ^ a
theorem GSum.len {c : Nat} (hc : c < 6) {M : Int} {a : Nat} {ts : List Term} (h : GSum c M a ts) : ts.length ≤ 32 := by
  have h1 := nodup_le (keys ts) (prods c) (ris_nodup h.ris) h.mem
  have h2 := prods_len c hc
  have h3 : (keys ts).length = ts.length := by unfold keys; rw [List.length_map]
  omega
def KOk (c : Nat) (es : List Term) : Prop := (keys es).Nodup ∧ ∀ k ∈ keys es, k ∈ prods c
theorem KOk.len {c : Nat} (hc : c < 6) {es : List Term} (h : KOk c es) : es.length ≤ 32 := by
  have h1 := nodup_le (keys es) (prods c) h.1 h.2
  have h2 := prods_len c hc
  have h3 : (keys es).length = es.length := by unfold keys; rw [List.length_map]
  omega
end Toy
set_option linter.all false
set_option maxRecDepth 100000
namespace Ma
end Ma
namespace Toy
open PySem L2 Ma
section
variable {fit : List Int → List Int → Bool}
end
section
variable {fit : List Int → List Int → Bool}
end
end Toy
set_option linter.all false
set_option maxRecDepth 100000
set_option maxHeartbeats 4000000
namespace Toy
open PySem L2 BV Ma
theorem bt_mono {a b : Int} (h : a.natAbs ≤ b.natAbs) {k : Nat} (hb : bt b ≤ k) : bt a ≤ k := bt_iff.mpr (Nat.lt_of_le_of_lt h (bt_iff.mp hb))
theorem bt_dvd {a b : Int} (h : a ∣ b) (hb : 0 < b) {k : Nat} (hk : bt b ≤ k) : bt a ≤ k := bt_mono (Nat.le_of_dvd (by omega) (Int.natAbs_dvd_natAbs.mpr h)) hk
theorem bt_mul {a b : Int} {k l : Nat} (ha : bt a ≤ k) (hb : bt b ≤ l) : bt (a * b) ≤ k + l := by
  rw [bt_iff] at *
  rw [Int.natAbs_mul, Nat.pow_add]
  exact Nat.mul_lt_mul_of_lt_of_lt ha hb
theorem bt_one : bt 1 ≤ 1 := bt_iff.mpr (by decide)
theorem bt_le {a : Int} {k l : Nat} (h : bt a ≤ k) (hl : k ≤ l) : bt a ≤ l := Nat.le_trans h hl
theorem Pts.mem {M : Int} (hM : 0 < M) {ps : List Int} (h : Pts M ps) {p : Int} (hp : p ∈ ps) : 0 < p ∧ p ∣ M := by
  refine ⟨h.1 p hp, Int.dvd_trans ?_ h.2⟩
  obtain ⟨a, b, rfl⟩ := List.append_of_mem hp
  exact ⟨prodI a * prodI b, by rw [show a ++ p :: b = a ++ ([p] ++ b) by simp, prodI_app, prodI_app, show prodI [p] = p by simp [prodI]]; ac_rfl⟩
end Toy
set_option linter.all false
set_option maxRecDepth 100000
set_option maxHeartbeats 4000000
namespace Toy
open PySem L2 BV Ma
theorem flL_ints : ∀ ns : List Int, flL (ns.map D.int) = some (ns.map V.int)
  | [] => rfl
  | z :: ns => by
    show (fl (.int z)).bind (fun v => (flL (ns.map D.int)).map (v :: ·)) = _
    rw [flL_ints ns]; rfl
theorem nin_lst {z : Int} {ns : List Int} : inD true (.int z) (.lst (ns.map D.int)) = some (.bl (!decide (z ∈ ns))) := by
  show (flL (ns.map D.int)).map (fun us => D.bl (if true = true then !inV (.int z) us else inV (.int z) us)) = _
  rw [flL_ints]
  simp [inV_ints]
theorem nin_tu {z : Int} {ns : List Int} : inD true (.int z) (tuD ns) = some (.bl (!decide (z ∈ ns))) := nin_lst
theorem fm_filter {α : Type} (enc : α → D) (p : α → Bool) (xs : List α) : xs.filterMap (fun x => if p x = true then some (enc x) else none) = (xs.filter p).map enc := by
  induction xs with
  | nil => rfl
  | cons x xs ih =>
    rw [List.filterMap_cons, List.filter_cons]
    cases p x <;> simp [ih]
theorem lcF {I : LF} {B : D → BV.Env → Option BV.Env} {T : TF} {F : EF} {vs : List Nat} {ρ : BV.Env} {o : Option D} (hf : eLc I B T F vs ρ = o) {α : Type} (enc : α → D) {xs : List α} (hi : I ρ = some (xs.map enc)) (hl : xs.length ≤ 100000) (p : α → Bool) (h : ∀ x ∈ xs, el B T F (wipeE ρ vs) (enc x) = some (if p x = true then some (enc x) else none)) : o = some (.lst ((xs.filter p).map enc)) := by
  rw [← fm_filter]
  exact lcR hf enc hi hl _ h
theorem tup_of {ds : List D} : tupleD [.lst ds] = some (.tup ds) := rfl
end Toy
set_option linter.all false
set_option maxRecDepth 100000
set_option maxHeartbeats 4000000
namespace Toy
open PySem L2 BV Ma
end Toy
set_option linter.all false
set_option maxRecDepth 100000
set_option maxHeartbeats 4000000
namespace Toy
open PySem L2 BV Ma
def LR1 (ps : List Int) (i : Nat) (t : Int) (x : Int × Int) : Prop := ∃ q, 0 < q ∧ x.2 = q * prodI (ps.drop i) ∧ x.1 * prodI ps = t * x.2 ∧ (t ≠ 0 → Int.gcd x.1 q = 1)
theorem LR1.nz {ps : List Int} (hp : ∀ p ∈ ps, 0 < p) {i : Nat} {t : Int} {x : Int × Int} (h : LR1 ps i t x) : t ≠ 0 ↔ x.1 ≠ 0 := by
  obtain ⟨q, q0, e1, e2, _⟩ := h
  have pp := prodI_pos' hp
  have pd := prodI_pos' (ps := ps.drop i) fun p h => hp p (List.mem_of_mem_drop h)
  have x2 : 0 < x.2 := by rw [e1]; exact Int.mul_pos q0 pd
  constructor
  · intro ht hx
    rw [hx, Int.zero_mul] at e2
    rcases Int.mul_eq_zero.mp e2.symm with z | z
    · exact ht z
    · omega
  · intro hx ht
    rw [ht, Int.zero_mul] at e2
    rcases Int.mul_eq_zero.mp e2 with z | z
    · exact hx z
    · omega
theorem gI_eq_of {a b c : Int} (hb : 0 < b) (hc : 0 < c) (h1 : gI a b ∣ c) (h2 : gI a c ∣ b) : gI a b = gI a c := by
  refine Int.dvd_antisymm (by have := gI_pos (a := a) hb; omega) (by have := gI_pos (a := a) hc; omega) ?_ ?_
  · exact Int.dvd_coe_gcd (gI_dl a b) h1
  · exact Int.dvd_coe_gcd (gI_dl a c) h2
theorem LR1.step {ps : List Int} (hp : ∀ p ∈ ps, 0 < p) {i : Nat} {p : Int} (hx : ps[i]? = some p) {s : Int} (hs : 0 < s) (sp : s ∣ p) {t : Int} {x : Int × Int} (h : LR1 ps i t x) (hg : x.1 ≠ 0 → gI x.1 p ∣ s) :
    LR1 ps (i + 1) t (x.1 / gI x.1 s, x.2 / gI x.1 s) := by
  have hnz := h.nz hp
  obtain ⟨q, q0, e1, e2, e3⟩ := h
  have p0 := hp p (List.mem_of_getElem? hx)
  have hi : i < ps.length := (List.getElem?_eq_some_iff.mp hx).1
  have ed : ps.drop i = p :: ps.drop (i + 1) := by
    rw [List.drop_eq_getElem_cons hi]
    congr 1
    rw [List.getElem?_eq_getElem hi] at hx
    exact Option.some.inj hx
  have ep : prodI (ps.drop i) = p * prodI (ps.drop (i + 1)) := by
    rw [ed]
    exact (prodI_app [p] _).trans (by unfold prodI; simp)
  by_cases ht : t = 0
  · have x0 : x.1 = 0 := Decidable.byContradiction fun z => (hnz.mpr z) ht
    have eg : gI x.1 s = s := by rw [x0]; unfold gI; rw [Int.gcd_zero_left]; omega
    rw [eg, x0]
    obtain ⟨m, hm⟩ := sp
    have m0 : 0 < m := Int.pos_of_mul_pos_right (by rw [← hm]; exact p0) (by omega)
    refine ⟨q * m, Int.mul_pos q0 m0, ?_, ?_, fun z => absurd ht z⟩
    · show x.2 / s = _
      rw [e1, ep, hm]
      rw [show q * (s * m * prodI (ps.drop (i + 1))) = s * (q * m * prodI (ps.drop (i + 1))) by ac_rfl]
      exact Int.mul_ediv_cancel_left _ (by omega)
    · show 0 / s * _ = t * _
      rw [ht]; simp
  · have x0 := hnz.mp ht
    have eg : gI x.1 s = gI x.1 p := gI_eq_of hs p0 (Int.dvd_trans (gI_dr _ _) sp) (hg x0)
    rw [eg]
    obtain ⟨d, u, m, ed, d0, f1, f2, f3, f4, hc, m0⟩ := gI_parts (a := x.1) p0
    rw [ed, f3]
    have eb : x.2 / d = q * m * prodI (ps.drop (i + 1)) := by
      rw [e1, ep, f2, show q * (d * m * prodI (ps.drop (i + 1))) = d * (q * m * prodI (ps.drop (i + 1))) by ac_rfl]
      exact Int.mul_ediv_cancel_left _ (by omega)
    refine ⟨q * m, Int.mul_pos q0 m0, eb, ?_, fun _ => ?_⟩
    · show u * prodI ps = t * (x.2 / d)
      rw [eb]
      refine Int.eq_of_mul_eq_mul_left (show d ≠ 0 by omega) ?_
      rw [show d * (u * prodI ps) = (d * u) * prodI ps by ac_rfl, ← f1, e2, e1, ep, f2]
      ac_rfl
    · exact cop_mul (cop_dvd (e3 ht) ⟨d, by rw [f1]; ac_rfl⟩ (Int.dvd_refl _)) hc
theorem LR1.keep {ps : List Int} (hp : ∀ p ∈ ps, 0 < p) {i : Nat} {p : Int} (hx : ps[i]? = some p) {t : Int} {x : Int × Int} (h : LR1 ps i t x) (hg : x.1 ≠ 0 → gI x.1 p ∣ 1) : LR1 ps (i + 1) t x := by
  have := h.step hp hx (s := 1) (by decide) ⟨p, by simp⟩ hg
  have e : gI x.1 1 = 1 := by unfold gI; rw [Int.gcd_one_right]; rfl
  rw [e, Int.ediv_one, Int.ediv_one] at this
  exact this
theorem xb2 {a b : D} {cc : List D → BV.Env → Option BV.Env} {ρ : BV.Env} {s : Sl} : bTup cc (.tup [a, b]) (s :: ρ) = cc [a, b] (s :: ρ) := rfl
end Toy
set_option linter.all false
set_option maxRecDepth 100000
set_option maxHeartbeats 4000000
namespace Toy
open PySem L2 BV Ma
section
variable {sq : List Int} (hs : Sqs sq)
include hs
end
end Toy
set_option linter.all false
set_option maxRecDepth 100000
set_option maxHeartbeats 4000000
namespace Toy
open PySem L2 BV Ma
theorem low_pfB {t b : Int} (hb : 0 < b) (hb2 : bt b ≤ 8000) : pf__law_lowest [.int t, .int b] = some (frD (low t b)) := by
  unfold pf__law_lowest g__law_lowest
  have w := fun s0 s1 => low_wh _ b (if t < 0 then -t else t) s0 s1 hb (by split <;> omega) (Nat.le_refl _)
  have e : gI b (if t < 0 then -t else t) = gI t b := by
    unfold gI
    rw [gcd_abs, Int.gcd_comm]
  rw [e] at w
  simp only [EVs, EVx, runX, runF, env0, List.map_cons, List.map_nil, List.length_cons, List.length_nil, List.cons_append, List.nil_append, Nat.reduceAdd, Nat.reduceSub, List.replicate_succ, List.replicate_zero, Option.bind_some, Option.bind_none, Option.elim_some, Option.elim_none, Option.map_some, List.set_cons_zero, List.set_cons_succ, List.getElem?_cons_zero, List.getElem?_cons_succ, if_true, Bool.false_eq_true, if_false, w, fdivD_ok (gI_pos hb) (bt_dvd (gI_dr t b) hb hb2), tup2, frD, low]
def AtM (N : Nat) (x : Int × Int) : Prop := x.1.natAbs ≤ x.2.natAbs * N
structure PutI (c : Nat) (M : Int) (N : Nat) (es : List Term) : Prop where
  ok : KOk c es
  at_ : ∀ k, Red (at0 es k) ∧ (at0 es k).2 ∣ M ∧ AtM N (at0 es k)
end Toy
set_option linter.all false
set_option maxRecDepth 100000
set_option maxHeartbeats 4000000
namespace Toy
open PySem L2 BV Ma
theorem low_bot {t b : Int} (hb : 0 < b) : (low t b).2 ∣ b := by
  obtain ⟨g, p, q, eg, hg, e1, e2, e3, e4, hc, hq⟩ := gI_parts (a := t) hb
  unfold low
  rw [eg, e4]
  exact ⟨g, by rw [e2]; ac_rfl⟩
end Toy
set_option linter.all false
set_option maxRecDepth 100000
set_option maxHeartbeats 4000000
namespace Toy
open PySem L2 BV Ma
end Toy
set_option linter.all false
set_option maxRecDepth 100000
namespace Toy
open PySem L2 Ma
def odd5 (m : Nat) : Bool := (m.testBit 0).xor ((m.testBit 1).xor ((m.testBit 2).xor ((m.testBit 3).xor (m.testBit 4))))
def par (m n : Nat) : Bool := (odd5 ((m >>> 1) &&& n)).xor ((odd5 ((m >>> 2) &&& n)).xor ((odd5 ((m >>> 3) &&& n)).xor (odd5 ((m >>> 4) &&& n))))
section
variable {c : Nat} (hc : c < 6) {sq : List Int}
include hc
end
end Toy
set_option linter.all false
set_option maxRecDepth 100000
set_option maxHeartbeats 4000000
namespace Toy
open PySem L2 BV Ma
theorem GSum.mono {c : Nat} {M M' : Int} {a a' : Nat} {ts : List Term} (h : GSum c M a ts) (hM : M ∣ M') (ha : a ≤ a') : GSum c M' a' ts := ⟨h.ris, h.mem, fun t ht => ⟨(h.fr t ht).1, (h.fr t ht).2.1, Int.dvd_trans (h.fr t ht).2.2.1 hM, Nat.lt_of_lt_of_le (h.fr t ht).2.2.2 (Nat.pow_le_pow_right (by decide) ha)⟩⟩
end Toy
set_option linter.all false
set_option maxRecDepth 100000
set_option maxHeartbeats 4000000
namespace Toy
open PySem L2 BV Ma
theorem sd_all : ∀ (n : Nat) (d : D), SD n d → PyData.canLay0 (pd d) = true ∧ PyData.depth (pd d) ≤ n + 1 ∧ PyData.eqv (pd d) (pd d) = true
  | 0, d, h => by
    obtain ⟨i, rfl⟩ := h
    exact ⟨by simp [pd, PyData.canLay0], by simp [pd, PyData.depth], by simp [pd, PyData.eqv]⟩
  | n + 1, d, h => by
    rcases h with ⟨i, rfl⟩ | ⟨ds, hd, _, hs⟩
    · exact ⟨by simp [pd, PyData.canLay0], by simp [pd, PyData.depth], by simp [pd, PyData.eqv]⟩
    · have key : ∀ ds : List D, (∀ x ∈ ds, SD n x) → PyData.canLayAll0 (pdL ds) = true ∧ PyData.depthAll (pdL ds) ≤ n + 1 ∧ PyData.eqvAll (pdL ds) (pdL ds) = true := by
        intro ds
        induction ds with
        | nil => exact fun _ => ⟨by simp [pdL, PyData.canLayAll0], by simp [pdL, PyData.depthAll], by simp [pdL, PyData.eqvAll]⟩
        | cons x ds ih =>
          intro h
          obtain ⟨a1, a2, a3⟩ := sd_all n x (h x (by simp))
          obtain ⟨b1, b2, b3⟩ := ih fun y hy => h y (by simp [hy])
          refine ⟨by simp [pdL, PyData.canLayAll0, a1, b1], ?_, by simp [pdL, PyData.eqvAll, a3, b3]⟩
          simp only [pdL, PyData.depthAll]
          omega
      obtain ⟨c1, c2, c3⟩ := key ds hs
      rcases hd with rfl | rfl
      · exact ⟨by simp [pd, PyData.canLay0, c1], by simp only [pd, PyData.depth]; omega, by simp [pd, PyData.eqv, c3]⟩
      · exact ⟨by simp [pd, PyData.canLay0, c1], by simp only [pd, PyData.depth]; omega, by simp [pd, PyData.eqv, c3]⟩
theorem sd_eq {n : Nat} {d : D} (hn : n ≤ 60) (h : SD n d) : eqB d d = some true := by
  obtain ⟨h1, h2, h3⟩ := sd_all n d h
  have : SeqAt.shaped (pd d) = true := by
    unfold SeqAt.shaped
    rw [h1, decide_eq_true (show PyData.depth (pd d) ≤ 64 by omega)]; rfl
  unfold eqB
  rw [if_pos ⟨this, this⟩, h3]
end Toy
set_option linter.all false
set_option maxRecDepth 100000
set_option maxHeartbeats 4000000
namespace Toy
open PySem L2 BV Ma
end Toy
set_option linter.all false
set_option maxRecDepth 100000
set_option maxHeartbeats 4000000
namespace Toy
open PySem L2 BV Ma
theorem cnt_kind {sq : List Int} : cntD (.kind sq) = some (.int (sq.length : Int)) := rfl
theorem set_map {P : List (List Int)} (hn : P.Nodup) {j : Nat} (hj : j < P.length) (e : List Int → Int × Int) (f : Int × Int) : (P.map e).set j f = P.map fun p => if p = P[j] then f else e p := by
  refine List.ext_getElem (by simp) fun i h1 h2 => ?_
  rw [List.getElem_set]
  simp only [List.getElem_map]
  by_cases h : j = i
  · subst h; simp
  · rw [if_neg h, if_neg (fun z => h ((List.getElem_inj hn).mp z).symm)]
end Toy
set_option linter.all false
set_option maxRecDepth 100000
set_option maxHeartbeats 4000000
namespace Toy
open PySem L2 BV Ma
end Toy
set_option linter.all false
set_option maxRecDepth 100000
set_option maxHeartbeats 4000000
namespace Toy
open PySem L2 BV Ma
structure TbOk (P : List (List Int)) (M : Int) (a : Nat) (t : List Int → List Int → Int × Int) : Prop where
  fr : ∀ q ∈ P, ∀ p ∈ P, Red (t q p) ∧ (t q p).2 ∣ M ∧ (t q p).1.natAbs < 2 ^ a
end Toy
set_option linter.all false
set_option maxRecDepth 100000
set_option maxHeartbeats 4000000
namespace Toy
open PySem L2 BV Ma
section
variable {c : Nat} (hc : c < 6) {sq : List Int} (hs : Sqs sq) (hq : sq.length = c) {fit : List Int → List Int → Bool} {fd : D}
include hc hs hq
end
section
variable {sq : List Int} (hs : Sqs sq)
include hs
end
end Toy
set_option linter.all false
set_option maxRecDepth 100000
set_option maxHeartbeats 4000000
namespace Toy
open PySem L2 BV Ma
section
variable {c : Nat} (hc : c < 6) {sq : List Int}
include hc
end
end Toy
set_option linter.all false
set_option maxRecDepth 100000
set_option maxHeartbeats 4000000
namespace Toy
open PySem L2 BV Ma
end Toy
set_option linter.all false
set_option maxRecDepth 100000
set_option maxHeartbeats 4000000
namespace Toy
open PySem L2 BV Ma
section
variable {sq : List Int} (hs : Sqs sq)
include hs
end
end Toy
set_option linter.all false
set_option maxRecDepth 100000
set_option maxHeartbeats 4000000
namespace Toy
open PySem L2 BV Ma
section
variable {sq : List Int} (hs : Sqs sq)
include hs
end
end Toy
set_option linter.all false
set_option maxRecDepth 100000
set_option maxHeartbeats 4000000
namespace Toy
open PySem L2 BV Ma
abbrev Nm (n : Nat) (ns : List Int) : Prop := ns.length = n ∧ ∀ z ∈ ns, 0 ≤ z ∧ z < 2147483629
theorem nm_snoc {n : Nat} {ns : List Int} {z : Int} (h : Nm n ns) (h0 : 0 ≤ z) (h1 : z < 2147483629) : Nm (n + 1) (ns ++ [z]) := ⟨by simp [h.1], fun y hy => by
  rcases List.mem_append.mp hy with q | q
  · exact h.2 y q
  · have : y = z := by simpa using q
    subst this; exact ⟨h0, h1⟩⟩
theorem nm_at {n : Nat} {ns : List Int} (h : Nm n ns) {i : Int} (h0 : 0 ≤ i) (h1 : i < n) : ∃ z : Int, 0 ≤ z ∧ z < 2147483629 ∧ atI (ns.map D.int) i = some (.int z) := by
  obtain ⟨z, hz, e⟩ := ints_at (ns := ns) h0 (by have := h.1; omega)
  exact ⟨z, (h.2 z hz).1, (h.2 z hz).2, e⟩
theorem draws_pf (c : Int) : ∃ z : Int, ∀ n : Nat, n ≤ 900 → ∃ ns : List Int, Nm n ns ∧ (1 ≤ n → atI (ns.map D.int) 0 = some (.int z)) ∧ pf__law_draws [.int c, .int (n : Int)] = some (.lst (ns.map D.int)) := by
  obtain ⟨z0, z00, z01, ez0⟩ := mixed_pf (c := c) (p := 0) (by omega) (by omega)
  refine ⟨if 0 ≤ c - 10 ^ 18 then (c - 10 ^ 18) % 1000003 else z0, fun n hn => ?_⟩
  unfold pf__law_draws g__law_draws
  have E1 : ∀ a : Int, modD (.int a) (.int 1000003) = some (.int (a % 1000003)) := fun a => modD_ok (by decide)
  have E2 : ∀ a : Int, fdivD (.int a) (.int 1000003) = some (.int (a / 1000003)) := fun a => fdivD_64 (by decide) (by decide)
  have E4 : powD (.int 10) (.int 18) = some (.int (10 ^ 18)) := powD_ok (by decide) (by decide) (by decide)
  simp only [EVs, EVx, runX, runF, env0, List.map_cons, List.map_nil, List.length_cons, List.length_nil, List.cons_append, List.nil_append, Nat.reduceAdd, Nat.reduceSub, List.replicate_succ, List.replicate_zero, Option.bind_some, Option.bind_none, Option.elim_some, Option.elim_none, Option.map_some, List.set_cons_zero, List.set_cons_succ, List.getElem?_cons_zero, List.getElem?_cons_succ, if_true, Bool.false_eq_true, if_false, lst0, E4]
  generalize hf : sFor _ _ _ _ = fl
  obtain ⟨ρ', rfl, ns, r, rfl, hs, hz, hr⟩ := forR hf (n := n) (by simp only [EVs, EVx, runX, runF, env0, List.map_cons, List.map_nil, List.length_cons, List.length_nil, List.cons_append, List.nil_append, Nat.reduceAdd, Nat.reduceSub, List.replicate_succ, List.replicate_zero, Option.bind_some, Option.bind_none, Option.elim_some, Option.elim_none, Option.map_some, List.set_cons_zero, List.set_cons_succ, List.getElem?_cons_zero, List.getElem?_cons_succ, if_true, Bool.false_eq_true, if_false]; exact rg1 (by omega))
    (fun i ρ => ∃ (ns : List Int) (r : Int), ρ = [.f (.int c), .f (.int (n : Int)), .o (.lst (ns.map D.int)), .f (.int r), .u] ∧ Nm i ns ∧ (1 ≤ i → ns[0]? = some (if 0 ≤ c - 10 ^ 18 then (c - 10 ^ 18) % 1000003 else z0)) ∧ (i = 0 → r = c - 10 ^ 18)) ⟨[], _, rfl, ⟨rfl, by simp⟩, by omega, fun _ => rfl⟩ (by
      rintro i ρ hi ⟨ns, r, rfl, hs, hz, hr⟩
      have l : (ns.map D.int).length < LN := by rw [List.length_map, hs.1]; show i < 1048576; omega
      have ea : ∀ d, gApp (ns.map D.int) [d] = some (ns.map D.int ++ [d], .non) := fun d => gApp_ok l
      have first : ∀ y : Int, (i = 0 → y = if 0 ≤ c - 10 ^ 18 then (c - 10 ^ 18) % 1000003 else z0) → (ns ++ [y])[0]? = some (if 0 ≤ c - 10 ^ 18 then (c - 10 ^ 18) % 1000003 else z0) := fun y hy => by
        by_cases h : i = 0
        · have : ns = [] := List.length_eq_zero_iff.mp (by rw [hs.1, h])
          rw [this, hy h]; rfl
        · rw [List.getElem?_append_left (by rw [hs.1]; omega)]
          exact hz (by omega)
      by_cases h : 0 ≤ r
      · refine ⟨[.f (.int c), .f (.int (n : Int)), .o (.lst ((ns ++ [r % 1000003]).map D.int)), .f (.int (r / 1000003)), .u], .inl ?_, _, _, rfl, nm_snoc hs (by omega) (by omega), fun _ => first _ fun h0 => ?_, by omega⟩
        · simp only [EVs, EVx, runX, runF, env0, List.map_cons, List.map_nil, List.length_cons, List.length_nil, List.cons_append, List.nil_append, Nat.reduceAdd, Nat.reduceSub, List.replicate_succ, List.replicate_zero, Option.bind_some, Option.bind_none, Option.elim_some, Option.elim_none, Option.map_some, List.set_cons_zero, List.set_cons_succ, List.getElem?_cons_zero, List.getElem?_cons_succ, if_true, Bool.false_eq_true, if_false, bd_eq, h, decide_true, xL_eq (i := 2) (ρ := _ :: _ :: _ :: _) rfl, E1, E2, ea, ints_snoc]
        · rw [hr h0] at h ⊢
          rw [if_pos h]
      · obtain ⟨z, y0, y1, ez⟩ := mixed_pf (c := c) (p := (i : Int)) (by omega) (by omega)
        refine ⟨[.f (.int c), .f (.int (n : Int)), .o (.lst ((ns ++ [z]).map D.int)), .f (.int r), .u], .inl ?_, _, _, rfl, nm_snoc hs (by omega) (by omega), fun _ => first _ fun h0 => ?_, by omega⟩
        · simp only [EVs, EVx, runX, runF, env0, List.map_cons, List.map_nil, List.length_cons, List.length_nil, List.cons_append, List.nil_append, Nat.reduceAdd, Nat.reduceSub, List.replicate_succ, List.replicate_zero, Option.bind_some, Option.bind_none, Option.elim_some, Option.elim_none, Option.map_some, List.set_cons_zero, List.set_cons_succ, List.getElem?_cons_zero, List.getElem?_cons_succ, if_true, Bool.false_eq_true, if_false, bd_eq, h, decide_false, xL_eq (i := 2) (ρ := _ :: _ :: _ :: _) rfl, ez, ea, ints_snoc]
        · rw [if_neg (by rw [← hr h0]; exact h)]
          subst h0
          have e0 : ((0 : Nat) : Int) = 0 := rfl
          rw [e0, ez0] at ez
          cases ez
          rfl)
  refine ⟨ns, hs, fun h1 => ?_, ?_⟩
  · exact atI_ok (j := 0) rfl (by rw [List.getElem?_map, hz h1]; rfl)
  · simp only [EVs, EVx, runX, runF, env0, List.map_cons, List.map_nil, List.length_cons, List.length_nil, List.cons_append, List.nil_append, Nat.reduceAdd, Nat.reduceSub, List.replicate_succ, List.replicate_zero, Option.bind_some, Option.bind_none, Option.elim_some, Option.elim_none, Option.map_some, List.set_cons_zero, List.set_cons_succ, List.getElem?_cons_zero, List.getElem?_cons_succ, if_true, Bool.false_eq_true, if_false, xRetO (i := 2) (ρ := _ :: _ :: _ :: _) rfl]
theorem pick2 {i : Int} (h0 : 0 ≤ i) (h1 : i < 2) : ∃ z : Int, (z = 1 ∨ z = -1 ∨ z = 0) ∧ atI [D.int 1, D.int (-1)] i = some (.int z) := by
  obtain ⟨z, hz, e⟩ := ints_at (ns := [1, -1]) h0 h1
  exact ⟨z, by have : z = 1 ∨ z = -1 := by simpa using hz
               omega, e⟩
def bitsL (c b : Nat) : List Int := ((List.range c).filter fun s => decide (((b : Int) / 2 ^ s) % 2 = 1)).map fun s : Nat => (s : Int)
theorem bits_srt : ∀ c, c < 6 → srt ((List.range (2 ^ c)).map (bitsL c)) = prods c := by decide +kernel
theorem shl_one {k : Nat} (h : k ≤ 100) : shlD (.int 1) (.int (k : Int)) = some (.int (2 ^ k)) := by
  show (if cPow 1 (k : Int) = true then some (D.int (1 * 2 ^ (k : Int).toNat)) else none) = _
  rw [if_pos (by unfold cPow; simp; omega)]
  simp
theorem pow_small {k : Nat} (h : k ≤ 40) : (2 : Int) ^ k ≤ 1099511627776 := by
  have : (2 : Int) ^ k ≤ 2 ^ 40 := by exact_mod_cast Nat.pow_le_pow_right (n := 2) (by decide) h
  simpa using this
theorem pow_posI (k : Nat) : (0 : Int) < 2 ^ k := Int.pow_pos (by decide)
theorem products2_pf {c : Nat} (hc : c < 6) : pf__law_products_v2 [.int (c : Int)] = some (.lst ((prods c).map tuD)) := by
  unfold pf__law_products_v2 g__law_products_v2
  have sh : ∀ {k : Nat}, k ≤ 40 → shlD (.int 1) (.int (k : Int)) = some (.int (2 ^ k)) := fun h => shl_one (by omega)
  have p32 : 2 ^ c ≤ 32 := by
    have := Nat.pow_le_pow_right (n := 2) (by decide) (show c ≤ 5 by omega)
    omega
  simp only [EVs, EVx, runX, runF, env0, List.map_cons, List.map_nil, List.length_cons, List.length_nil, List.cons_append, List.nil_append, Nat.reduceAdd, Nat.reduceSub, List.replicate_succ, List.replicate_zero, Option.bind_some, Option.bind_none, Option.elim_some, Option.elim_none, Option.map_some, List.set_cons_zero, List.set_cons_succ, List.getElem?_cons_zero, List.getElem?_cons_succ, if_true, Bool.false_eq_true, if_false, lst0, sh (show c ≤ 40 by omega)]
  generalize hf : sFor _ _ _ _ = fl
  have e2 : ((2 : Int) ^ c) = ((2 ^ c : Nat) : Int) := by simp
  obtain ⟨ρ', rfl, rfl⟩ := forR hf (n := 2 ^ c) (by simp only [EVs, EVx, runX, runF, env0, List.map_cons, List.map_nil, List.length_cons, List.length_nil, List.cons_append, List.nil_append, Nat.reduceAdd, Nat.reduceSub, List.replicate_succ, List.replicate_zero, Option.bind_some, Option.bind_none, Option.elim_some, Option.elim_none, Option.map_some, List.set_cons_zero, List.set_cons_succ, List.getElem?_cons_zero, List.getElem?_cons_succ, if_true, Bool.false_eq_true, if_false, sh (show c ≤ 40 by omega)]; rw [e2]; exact rg1 (by omega)) (fun i ρ => ρ = [.f (.int (c : Int)), .o (.lst (((List.range i).map (bitsL c)).map tuD)), .u, .u]) rfl (by
    rintro i ρ hi rfl
    refine ⟨_, .inl ?_, rfl⟩
    simp only [EVs, EVx, runX, runF, env0, List.map_cons, List.map_nil, List.length_cons, List.length_nil, List.cons_append, List.nil_append, Nat.reduceAdd, Nat.reduceSub, List.replicate_succ, List.replicate_zero, Option.bind_some, Option.bind_none, Option.elim_some, Option.elim_none, Option.map_some, List.set_cons_zero, List.set_cons_succ, List.getElem?_cons_zero, List.getElem?_cons_succ, if_true, Bool.false_eq_true, if_false, bd_eq, xL_eq (i := 1) (ρ := _ :: _ :: _) rfl]
    generalize hg : eLc _ _ _ _ _ _ = o
    have := lcF hg (fun s : Nat => D.int ((0 : Int) + (s : Int))) (xs := List.range c) (by simp only [EVs, EVx, runX, runF, env0, List.map_cons, List.map_nil, List.length_cons, List.length_nil, List.cons_append, List.nil_append, Nat.reduceAdd, Nat.reduceSub, List.replicate_succ, List.replicate_zero, Option.bind_some, Option.bind_none, Option.elim_some, Option.elim_none, Option.map_some, List.set_cons_zero, List.set_cons_succ, List.getElem?_cons_zero, List.getElem?_cons_succ, if_true, Bool.false_eq_true, if_false]; exact rg1 (by omega)) (by simp; omega) (fun s => decide (((i : Int) / 2 ^ s) % 2 = 1)) (fun s hs => by
      have hs' := List.mem_range.mp hs
      have dv := fdivD_64 (a := (i : Int)) (pow_posI s) (by have := pow_small (k := s) (by omega); omega)
      have md : ∀ a : Int, modD (.int a) (.int 2) = some (.int (a % 2)) := fun a => modD_ok (by decide)
      by_cases q : ((i : Int) / 2 ^ s) % 2 = 1
      · simp only [EVs, EVx, runX, runF, env0, List.map_cons, List.map_nil, List.length_cons, List.length_nil, List.cons_append, List.nil_append, Nat.reduceAdd, Nat.reduceSub, List.replicate_succ, List.replicate_zero, Option.bind_some, Option.bind_none, Option.elim_some, Option.elim_none, Option.map_some, List.set_cons_zero, List.set_cons_succ, List.getElem?_cons_zero, List.getElem?_cons_succ, if_true, Bool.false_eq_true, if_false, el, Int.zero_add, sh (show s ≤ 40 by omega), dv, md, q, decide_true]
      · simp only [EVs, EVx, runX, runF, env0, List.map_cons, List.map_nil, List.length_cons, List.length_nil, List.cons_append, List.nil_append, Nat.reduceAdd, Nat.reduceSub, List.replicate_succ, List.replicate_zero, Option.bind_some, Option.bind_none, Option.elim_some, Option.elim_none, Option.map_some, List.set_cons_zero, List.set_cons_succ, List.getElem?_cons_zero, List.getElem?_cons_succ, if_true, Bool.false_eq_true, if_false, el, Int.zero_add, sh (show s ≤ 40 by omega), dv, md, q, decide_false])
    subst this
    have ea : ∀ d, gApp (((List.range i).map (bitsL c)).map tuD) [d] = some (((List.range i).map (bitsL c)).map tuD ++ [d], .non) := fun d => gApp_ok (by simp; show _ < 1048576; omega)
    have tb : D.tup (((List.range c).filter fun s : Nat => decide (((i : Int) / 2 ^ s) % 2 = 1)).map fun s : Nat => D.int ((0 : Int) + (s : Int))) = tuD (bitsL c i) := by
      unfold tuD bitsL
      rw [List.map_map]
      congr 1
      refine List.map_congr_left fun s _ => ?_
      simp
    simp only [EVs, EVx, runX, runF, env0, List.map_cons, List.map_nil, List.length_cons, List.length_nil, List.cons_append, List.nil_append, Nat.reduceAdd, Nat.reduceSub, List.replicate_succ, List.replicate_zero, Option.bind_some, Option.bind_none, Option.elim_some, Option.elim_none, Option.map_some, List.set_cons_zero, List.set_cons_succ, List.getElem?_cons_zero, List.getElem?_cons_succ, if_true, Bool.false_eq_true, if_false, tup_of, tb, ea, List.range_succ, List.map_append])
  have sl : ((List.range (2 ^ c)).map (bitsL c)).length < 64 := by simp; omega
  simp only [EVs, EVx, runX, runF, env0, List.map_cons, List.map_nil, List.length_cons, List.length_nil, List.cons_append, List.nil_append, Nat.reduceAdd, Nat.reduceSub, List.replicate_succ, List.replicate_zero, Option.bind_some, Option.bind_none, Option.elim_some, Option.elim_none, Option.map_some, List.set_cons_zero, List.set_cons_succ, List.getElem?_cons_zero, List.getElem?_cons_succ, if_true, Bool.false_eq_true, if_false, sort_tups sl]
  rw [bits_srt c hc]
end Toy
set_option linter.all false
set_option maxRecDepth 100000
set_option maxHeartbeats 4000000
namespace Toy
open PySem L2 BV Ma
abbrev NF (f : Int × Int) : Prop := Red f ∧ f.1 ≠ 0 ∧ f.1.natAbs < 2 ^ 90
theorem nf_low {t b : Int} (hb : 0 < b) (ht : t ≠ 0) (h : t.natAbs < 2 ^ 90) : NF (low t b) := ⟨low_red hb, low_nz hb ht, Nat.lt_of_le_of_lt (low_top hb) h⟩
theorem number_pf {ns : List Int} (hn : Nm 8 ns) {d0 : Int} (a0 : atI (ns.map D.int) 0 = some (.int d0)) {k : Nat} (hk : k < 32) :
    ∃ f : Int × Int, NF f ∧ bt f.2 ≤ 62 ∧ (d0 / 6 % 8 ≠ 1 → f.2 ∣ 42) ∧ pf__law_number [.lst (ns.map D.int), .int (k : Int)] = some (frD f) := by
  obtain ⟨x, x0, x1, ax⟩ := nm_at hn (i := 5 + (k : Int) % 3) (by omega) (by omega)
  obtain ⟨y, y0, y1, ay⟩ := nm_at hn (i := 5 + ((k : Int) + 1) % 3) (by omega) (by omega)
  have sh := shl_one (k := k / 3) (by omega)
  have k3 : ((k / 3 : Nat) : Int) = (k : Int) / 3 := by omega
  rw [k3] at sh
  have dv := fdivD_64 (a := x) (pow_posI (k / 3)) (by have := pow_small (k := k / 3) (by omega); omega)
  have n0 : 0 ≤ x / 2 ^ (k / 3) := Int.ediv_nonneg x0 (Int.le_of_lt (pow_posI _))
  have n1 : x / 2 ^ (k / 3) ≤ x := Int.ediv_le_self _ x0
  generalize x / 2 ^ (k / 3) = n at dv n0 n1
  have md : ∀ (a : Int) {b : Int}, 0 < b → modD (.int a) (.int b) = some (.int (a % b)) := fun a b h => modD_ok h
  have dd : ∀ (a : Int) {b : Int}, 0 < b → b < 18446744073709551616 → fdivD (.int a) (.int b) = some (.int (a / b)) := fun a b h h' => fdivD_64 h h'
  obtain ⟨b, hb, eb⟩ := ints_at (ns := [1, 1, 2, 3, 6, 7]) (i := n / 18 % 6) (by omega) (by show _ < (6 : Int); omega)
  have six : ∀ a b c d e f : D, lstD [a, b, c, d, e, f] = some (.lst [a, b, c, d, e, f]) := fun a b c d e f => lst_ok (by simp)
  simp only [List.map_cons, List.map_nil] at eb
  have hb' : b = 1 ∨ b = 2 ∨ b = 3 ∨ b = 6 ∨ b = 7 := by simpa using hb
  have P18 : powD (.int 10) (.int 18) = some (.int 1000000000000000000) := powD_ok (by decide) (by decide) (by decide)
  have P9 : powD (.int 10) (.int 9) = some (.int 1000000000) := powD_ok (by decide) (by decide) (by decide)
  have mn : mulD (.int n) (.int 1000000000) = some (.int (n * 1000000000)) := mulD_64 (by omega) (by decide)
  have small : (low 1 1).2 ∣ 42 := by decide
  have fin : ∀ t : Int, (1 ≤ t ∧ t ≤ 9 ∨ -9 ≤ t ∧ t ≤ -1) → NF (low t b) ∧ bt (low t b).2 ≤ 62 ∧ (low t b).2 ∣ 42 ∧ pf__law_lowest [.int t, .int b] = some (frD (low t b)) := fun t ht => by
    have b0 : 0 < b := by omega
    have bb : bt b ≤ 62 := bt_of (by show b.natAbs < 4611686018427387904; omega)
    refine ⟨nf_low b0 (by omega) (by show t.natAbs < 1237940039285380274899124224; omega), bt_dvd (low_bot b0) b0 bb, Int.dvd_trans (low_bot b0) ?_, low_pfB b0 (bt_le bb (by decide))⟩
    rcases hb' with rfl | rfl | rfl | rfl | rfl <;> decide
  have gre : ∀ t : Int, (1 ≤ t ∧ t ≤ 9 ∨ -9 ≤ t ∧ t ≤ -1) → NF (low (t * 1000000000000000000 + y) (b + n * 1000000000)) ∧ bt (low (t * 1000000000000000000 + y) (b + n * 1000000000)).2 ≤ 62 ∧ pf__law_lowest [.int (t * 1000000000000000000 + y), .int (b + n * 1000000000)] = some (frD (low (t * 1000000000000000000 + y) (b + n * 1000000000))) ∧ mulD (.int t) (.int 1000000000000000000) = some (.int (t * 1000000000000000000)) := fun t ht => by
    have b0 : 0 < b + n * 1000000000 := by omega
    have bb : bt (b + n * 1000000000) ≤ 62 := bt_of (by show (b + n * 1000000000).natAbs < 4611686018427387904; omega)
    exact ⟨nf_low b0 (by omega) (by show (t * 1000000000000000000 + y).natAbs < 1237940039285380274899124224; omega), bt_dvd (low_bot b0) b0 bb, low_pfB b0 (bt_le bb (by decide)), mulD_64 (by omega) (by decide)⟩
  unfold pf__law_number g__law_number
  by_cases g : d0 / 6 % 8 = 1
  · by_cases h : n / 9 % 2 = 1
    · obtain ⟨f1, f2, f3, f4⟩ := gre (0 - (1 + n % 9)) (by omega)
      exact ⟨_, f1, f2, fun q => absurd g q, by simp only [EVs, EVx, runX, runF, env0, List.map_cons, List.map_nil, List.length_cons, List.length_nil, List.cons_append, List.nil_append, Nat.reduceAdd, Nat.reduceSub, List.replicate_succ, List.replicate_zero, Option.bind_some, Option.bind_none, Option.elim_some, Option.elim_none, Option.map_some, List.set_cons_zero, List.set_cons_succ, List.getElem?_cons_zero, List.getElem?_cons_succ, if_true, Bool.false_eq_true, if_false, md _ (show (0 : Int) < 3 by decide), md _ (show (0 : Int) < 9 by decide), md _ (show (0 : Int) < 2 by decide), md _ (show (0 : Int) < 6 by decide), md _ (show (0 : Int) < 8 by decide), dd _ (show (0 : Int) < 3 by decide) (by decide), dd _ (show (0 : Int) < 9 by decide) (by decide), dd _ (show (0 : Int) < 18 by decide) (by decide), dd _ (show (0 : Int) < 6 by decide) (by decide), ax, ay, a0, sh, dv, six, eb, g, h, P18, P9, mn, f3, f4, decide_true, decide_false]⟩
    · obtain ⟨f1, f2, f3, f4⟩ := gre (1 + n % 9) (by omega)
      exact ⟨_, f1, f2, fun q => absurd g q, by simp only [EVs, EVx, runX, runF, env0, List.map_cons, List.map_nil, List.length_cons, List.length_nil, List.cons_append, List.nil_append, Nat.reduceAdd, Nat.reduceSub, List.replicate_succ, List.replicate_zero, Option.bind_some, Option.bind_none, Option.elim_some, Option.elim_none, Option.map_some, List.set_cons_zero, List.set_cons_succ, List.getElem?_cons_zero, List.getElem?_cons_succ, if_true, Bool.false_eq_true, if_false, md _ (show (0 : Int) < 3 by decide), md _ (show (0 : Int) < 9 by decide), md _ (show (0 : Int) < 2 by decide), md _ (show (0 : Int) < 6 by decide), md _ (show (0 : Int) < 8 by decide), dd _ (show (0 : Int) < 3 by decide) (by decide), dd _ (show (0 : Int) < 9 by decide) (by decide), dd _ (show (0 : Int) < 18 by decide) (by decide), dd _ (show (0 : Int) < 6 by decide) (by decide), ax, ay, a0, sh, dv, six, eb, g, h, P18, P9, mn, f3, f4, decide_true, decide_false]⟩
  · by_cases h : n / 9 % 2 = 1
    · obtain ⟨f1, f2, f3, f4⟩ := fin (0 - (1 + n % 9)) (by omega)
      exact ⟨_, f1, f2, fun _ => f3, by simp only [EVs, EVx, runX, runF, env0, List.map_cons, List.map_nil, List.length_cons, List.length_nil, List.cons_append, List.nil_append, Nat.reduceAdd, Nat.reduceSub, List.replicate_succ, List.replicate_zero, Option.bind_some, Option.bind_none, Option.elim_some, Option.elim_none, Option.map_some, List.set_cons_zero, List.set_cons_succ, List.getElem?_cons_zero, List.getElem?_cons_succ, if_true, Bool.false_eq_true, if_false, md _ (show (0 : Int) < 3 by decide), md _ (show (0 : Int) < 9 by decide), md _ (show (0 : Int) < 2 by decide), md _ (show (0 : Int) < 6 by decide), md _ (show (0 : Int) < 8 by decide), dd _ (show (0 : Int) < 3 by decide) (by decide), dd _ (show (0 : Int) < 9 by decide) (by decide), dd _ (show (0 : Int) < 18 by decide) (by decide), dd _ (show (0 : Int) < 6 by decide) (by decide), ax, ay, a0, sh, dv, six, eb, g, h, f4, decide_true, decide_false]⟩
    · obtain ⟨f1, f2, f3, f4⟩ := fin (1 + n % 9) (by omega)
      exact ⟨_, f1, f2, fun _ => f3, by simp only [EVs, EVx, runX, runF, env0, List.map_cons, List.map_nil, List.length_cons, List.length_nil, List.cons_append, List.nil_append, Nat.reduceAdd, Nat.reduceSub, List.replicate_succ, List.replicate_zero, Option.bind_some, Option.bind_none, Option.elim_some, Option.elim_none, Option.map_some, List.set_cons_zero, List.set_cons_succ, List.getElem?_cons_zero, List.getElem?_cons_succ, if_true, Bool.false_eq_true, if_false, md _ (show (0 : Int) < 3 by decide), md _ (show (0 : Int) < 9 by decide), md _ (show (0 : Int) < 2 by decide), md _ (show (0 : Int) < 6 by decide), md _ (show (0 : Int) < 8 by decide), dd _ (show (0 : Int) < 3 by decide) (by decide), dd _ (show (0 : Int) < 9 by decide) (by decide), dd _ (show (0 : Int) < 18 by decide) (by decide), dd _ (show (0 : Int) < 6 by decide) (by decide), ax, ay, a0, sh, dv, six, eb, g, h, f4, decide_true, decide_false]⟩
theorem prodI_bitsB {m : Nat} : ∀ {ns : List Int}, (∀ n ∈ ns, bt n ≤ m) → bt (prodI ns) ≤ ns.length * m + 1 := by
  intro ns h
  induction ns with
  | nil =>
    show bt 1 ≤ 0 * m + 1
    rw [Nat.zero_mul]; exact bt_one
  | cons p ps ih =>
    have : prodI (p :: ps) = p * prodI ps := (prodI_app [p] ps).trans (by unfold prodI; simp)
    rw [this, List.length_cons]
    have := bt_mul (h p (by simp)) (ih fun q hq => h q (by simp [hq]))
    rw [Nat.add_mul, Nat.one_mul]
    omega
theorem prods_small : ∀ c, c ≤ 3 → (prods c).length ≤ 8 := by decide
theorem bools_at {bs : List Bool} {i : Int} (h0 : 0 ≤ i) (h1 : i < bs.length) : ∃ b, atI (bs.map D.bl) i = some (.bl b) := by
  have hl : i.toNat < bs.length := by omega
  exact ⟨bs[i.toNat], atI_ok (j := i.toNat) (by omega) (by simp [hl])⟩
theorem sums_gsum {c : Nat} (hc : c < 6) {ts : List Term} (hk : (keys ts).Sublist (prods c)) {great : Prop} [Decidable great] (hg : ∀ t ∈ ts, NF t.2 ∧ bt t.2.2 ≤ 62 ∧ (¬ great → t.2.2 ∣ 42)) (h3 : great → c ≤ 3) : ∃ M, 0 < M ∧ bt M ≤ 500 ∧ GSum c M 90 ts := by
  have ris : Ris (keys ts) := (ris_of (prods_rising c hc)).sublist hk
  by_cases g : great
  · refine ⟨prodI (ts.map fun t => t.2.2), prodI_pos' fun p hp => ?_, ?_, ris, fun k h => hk.subset h, fun t ht => ⟨(hg t ht).1.1, (hg t ht).1.2.1, ?_, (hg t ht).1.2.2⟩⟩
    · obtain ⟨t, ht, rfl⟩ := List.mem_map.mp hp
      exact (hg t ht).1.1.1
    · have h1 := prodI_bitsB (m := 62) (ns := ts.map fun t => t.2.2) fun n hn => by
        obtain ⟨t, ht, rfl⟩ := List.mem_map.mp hn
        exact (hg t ht).2.1
      have l := hk.length_le
      unfold keys at l
      rw [List.length_map] at h1 l
      have := prods_small c (h3 g)
      exact Nat.le_trans h1 (by omega)
    · obtain ⟨x, y, e⟩ := List.append_of_mem (List.mem_map.mpr ⟨t, ht, rfl⟩ : t.2.2 ∈ ts.map fun t => t.2.2)
      rw [e]
      exact ⟨prodI x * prodI y, by rw [show x ++ t.2.2 :: y = x ++ ([t.2.2] ++ y) by simp, prodI_app, prodI_app, show prodI [t.2.2] = t.2.2 by simp [prodI]]; ac_rfl⟩
  · exact ⟨42, by decide, bt_le (bt_of (k := 6) (by decide)) (by decide), ris, fun k h => hk.subset h, fun t ht => ⟨(hg t ht).1.1, (hg t ht).1.2.1, (hg t ht).2.2 g, (hg t ht).1.2.2⟩⟩
theorem sum2_pf (z : Int) : ∃ d0 : Int, (∃ ms : List Int, atI (ms.map D.int) 0 = some (.int d0) ∧ pf__law_draws [.int z, .int 1] = some (.lst (ms.map D.int))) ∧ ∀ c, c < 6 → (d0 / 6 % 8 = 1 → c ≤ 3) → ∃ M ts, 0 < M ∧ bt M ≤ 500 ∧ GSum c M 90 ts ∧ pf__law_sum_v2 [.int z, .int (c : Int)] = some (smD ts) := by
  obtain ⟨d0, hz⟩ := draws_pf z
  obtain ⟨ms, _, am, em⟩ := hz 1 (by omega)
  refine ⟨d0, ⟨ms, am (Nat.le_refl _), em⟩, fun c hc h3 => ?_⟩
  obtain ⟨ns, hn, a0, en⟩ := hz 8 (by omega)
  have a0 := a0 (by omega)
  have e8 : pf__law_draws [.int z, .int 8] = some (.lst (ns.map D.int)) := en
  unfold pf__law_sum_v2 g__law_sum_v2
  obtain ⟨d1, d10, d11, a1⟩ := nm_at hn (i := 1) (by omega) (by omega)
  have lp := prods_len c hc
  have lp0 : 0 < (prods c).length := (by decide : ∀ c, c < 6 → 0 < (prods c).length) c hc
  have md : ∀ (a : Int) {b : Int}, 0 < b → modD (.int a) (.int b) = some (.int (a % b)) := fun a b h => modD_ok h
  have dd : ∀ (a : Int) {b : Int}, 0 < b → b < 18446744073709551616 → fdivD (.int a) (.int b) = some (.int (a / b)) := fun a b h h' => fdivD_64 h h'
  have six : ∀ a b c d e f : D, lstD [a, b, c, d, e, f] = some (.lst [a, b, c, d, e, f]) := fun a b c d e f => lst_ok (by simp)
  simp only [EVs, EVx, runX, runF, env0, List.map_cons, List.map_nil, List.length_cons, List.length_nil, List.cons_append, List.nil_append, Nat.reduceAdd, Nat.reduceSub, List.replicate_succ, List.replicate_zero, Option.bind_some, Option.bind_none, Option.elim_some, Option.elim_none, Option.map_some, List.set_cons_zero, List.set_cons_succ, List.getElem?_cons_zero, List.getElem?_cons_succ, if_true, Bool.false_eq_true, if_false, products2_pf hc, e8, lst0]
  generalize hf : sFor _ _ _ _ = fl
  obtain ⟨ρ', rfl, ts, rfl, hl, hk, hg⟩ := forL hf (fun p : Nat × List Int => D.tup [.int (p.1 : Int), tuD p.2]) (xs := (List.range (prods c).length).zip (prods c)) (by simp only [EVs, EVx, runX, runF, env0, List.map_cons, List.map_nil, List.length_cons, List.length_nil, List.cons_append, List.nil_append, Nat.reduceAdd, Nat.reduceSub, List.replicate_succ, List.replicate_zero, Option.bind_some, Option.bind_none, Option.elim_some, Option.elim_none, Option.map_some, List.set_cons_zero, List.set_cons_succ, List.getElem?_cons_zero, List.getElem?_cons_succ, if_true, Bool.false_eq_true, if_false]; exact congrArg some (enD_map tuD (prods c)))
    (fun i ρ => ∃ ts : List Term, ρ = [.f (.int z), .f (.int (c : Int)), .f (.lst (ns.map D.int)), .f (.lst ((prods c).map tuD)), .o (.lst (ts.map tmD)), .u, .u, .u, .u] ∧ ts.length ≤ i ∧ (keys ts).Sublist ((prods c).take i) ∧ ∀ t ∈ ts, NF t.2 ∧ bt t.2.2 ≤ 62 ∧ (¬ d0 / 6 % 8 = 1 → t.2.2 ∣ 42))
    ⟨[], rfl, by simp, by simp [keys], by simp⟩ (by
      rintro i ⟨j, p⟩ ρ hx ⟨ts, rfl, hl, hk, hg⟩
      obtain ⟨rfl, hp⟩ := zip_range hx
      simp only at hp
      have hi : j < (prods c).length := (List.getElem?_eq_some_iff.mp hp).1
      have htk : (prods c).take (j + 1) = (prods c).take j ++ [p] := take_snoc hp
      obtain ⟨x, x0, x1, ax⟩ := nm_at hn (i := 1 + (j : Int) % 4) (by omega) (by omega)
      obtain ⟨y, y0, y1, ay⟩ := nm_at hn (i := 1 + ((j : Int) + 1) % 4) (by omega) (by omega)
      have k4 : ((j / 4 : Nat) : Int) = (j : Int) / 4 := by omega
      have k9 : ((9 + j / 4 : Nat) : Int) = 9 + (j : Int) / 4 := by omega
      have sh := shl_one (k := j / 4) (by omega)
      have sh9 := shl_one (k := 9 + j / 4) (by omega)
      rw [k4] at sh
      rw [k9] at sh9
      have dv := fdivD_64 (a := x) (pow_posI (j / 4)) (by have := pow_small (k := j / 4) (by omega); omega)
      have dv9 := fdivD_64 (a := y) (pow_posI (9 + j / 4)) (by have := pow_small (k := 9 + j / 4) (by omega); omega)
      generalize x / 2 ^ (j / 4) = u at dv
      generalize y / 2 ^ (9 + j / 4) = v at dv9
      have l : (ts.map tmD).length < LN := by rw [List.length_map]; show ts.length < 1048576; omega
      have ea : ∀ d, gApp (ts.map tmD) [d] = some (ts.map tmD ++ [d], .non) := fun d => gApp_ok l
      obtain ⟨f, f1, f2, f3, ef⟩ := number_pf hn a0 (k := j) (by omega)
      obtain ⟨b, eb⟩ := bools_at (bs := [false, decide ((j : Int) = d1 % ((prods c).length : Int)), true, decide (u % 2 = 1), decide (u % 2 + v % 2 = 2), decide (u % 2 = 1)]) (i := d0 % 6) (by omega) (by show _ < (6 : Int); omega)
      simp only [List.map_cons, List.map_nil] at eb
      cases b with
      | true =>
        refine ⟨[.f (.int z), .f (.int (c : Int)), .f (.lst (ns.map D.int)), .f (.lst ((prods c).map tuD)), .o (.lst ((ts ++ [(p, f)]).map tmD)), .u, .u, .u, .u], .inl ?_, _, rfl, by simp; omega, ?_, ?_⟩
        · simp only [EVs, EVx, runX, runF, env0, List.map_cons, List.map_nil, List.length_cons, List.length_nil, List.cons_append, List.nil_append, Nat.reduceAdd, Nat.reduceSub, List.replicate_succ, List.replicate_zero, Option.bind_some, Option.bind_none, Option.elim_some, Option.elim_none, Option.map_some, List.set_cons_zero, List.set_cons_succ, List.getElem?_cons_zero, List.getElem?_cons_succ, if_true, Bool.false_eq_true, if_false, bd_eq, xb2, ax, ay, a0, a1, List.length_map, md _ (show (0 : Int) < 4 by decide), md _ (show (0 : Int) < 2 by decide), md _ (show (0 : Int) < 6 by decide), md d1 (show (0 : Int) < ((prods c).length : Int) by omega), dd _ (show (0 : Int) < 4 by decide) (by decide), sh, sh9, dv, dv9, six, eb, xL_eq (i := 4) (ρ := _ :: _ :: _ :: _ :: _ :: _) rfl, ef, tup2, ea, List.map_append, tmD]
        · rw [htk]
          unfold keys at hk ⊢
          rw [List.map_append]
          exact hk.append (List.Sublist.refl _)
        · intro t ht
          rcases List.mem_append.mp ht with q | q
          · exact hg t q
          · have : t = (p, f) := by simpa using q
            subst this; exact ⟨f1, f2, f3⟩
      | false =>
        refine ⟨[.f (.int z), .f (.int (c : Int)), .f (.lst (ns.map D.int)), .f (.lst ((prods c).map tuD)), .o (.lst (ts.map tmD)), .u, .u, .u, .u], .inl ?_, _, rfl, by omega, ?_, hg⟩
        · simp only [EVs, EVx, runX, runF, env0, List.map_cons, List.map_nil, List.length_cons, List.length_nil, List.cons_append, List.nil_append, Nat.reduceAdd, Nat.reduceSub, List.replicate_succ, List.replicate_zero, Option.bind_some, Option.bind_none, Option.elim_some, Option.elim_none, Option.map_some, List.set_cons_zero, List.set_cons_succ, List.getElem?_cons_zero, List.getElem?_cons_succ, if_true, Bool.false_eq_true, if_false, bd_eq, xb2, ax, ay, a0, a1, List.length_map, md _ (show (0 : Int) < 4 by decide), md _ (show (0 : Int) < 2 by decide), md _ (show (0 : Int) < 6 by decide), md d1 (show (0 : Int) < ((prods c).length : Int) by omega), dd _ (show (0 : Int) < 4 by decide) (by decide), sh, sh9, dv, dv9, six, eb]
        · rw [htk]
          exact hk.trans (List.sublist_append_left _ _))
  obtain ⟨M, m0, mb, gs⟩ := sums_gsum hc (hk.trans (List.take_sublist _ _)) hg h3
  refine ⟨M, ts, m0, mb, gs, ?_⟩
  simp only [EVs, EVx, runX, runF, env0, List.map_cons, List.map_nil, List.length_cons, List.length_nil, List.cons_append, List.nil_append, Nat.reduceAdd, Nat.reduceSub, List.replicate_succ, List.replicate_zero, Option.bind_some, Option.bind_none, Option.elim_some, Option.elim_none, Option.map_some, List.set_cons_zero, List.set_cons_succ, List.getElem?_cons_zero, List.getElem?_cons_succ, if_true, Bool.false_eq_true, if_false, smD]
end Toy
set_option linter.all false
set_option maxRecDepth 100000
set_option maxHeartbeats 4000000
namespace Toy
open PySem L2 BV Ma
noncomputable def hd (y : Int) : Int := Classical.choose (sum2_pf y)
noncomputable def cl (ns : List Int) (k : Nat) : Int := Classical.choose (cell_pf ns (k := (k : Int)) (by omega))
end Toy
set_option linter.all false
set_option maxRecDepth 100000
set_option maxHeartbeats 4000000
namespace Toy
open PySem L2 BV Ma
end Toy
set_option linter.all false
set_option maxRecDepth 100000
set_option maxHeartbeats 4000000
namespace Toy
open PySem L2 BV Ma
end Toy
set_option linter.all false
set_option maxRecDepth 100000
set_option maxHeartbeats 4000000
namespace Toy
open PySem L2 BV Ma
end Toy
set_option linter.all false
set_option maxRecDepth 100000
set_option maxHeartbeats 4000000
namespace Toy
open PySem L2 BV Ma
end Toy
set_option linter.all false
set_option maxRecDepth 100000
set_option maxHeartbeats 4000000
namespace Toy
open PySem L2 BV Ma
theorem ixN_k {n k : Nat} (h : k < n) : ixN n (k : Int) = some k := by
  unfold ixN
  rw [if_pos (by omega), if_pos (by omega)]
  simp
end Toy
set_option linter.all false
set_option maxRecDepth 100000
set_option maxHeartbeats 4000000
namespace Toy
open PySem L2 BV Ma
end Toy
set_option linter.all false
set_option maxRecDepth 100000
set_option maxHeartbeats 4000000
namespace Toy
open PySem L2 BV Ma
def Vec (ts : List Term) : Prop := ∀ t ∈ ts, t.1.length = 1
abbrev VG (c : Nat) (T : List Term) : Prop := GSum c 60 70 T ∧ Vec T
end Toy
set_option linter.all false
set_option maxRecDepth 100000
set_option maxHeartbeats 4000000
namespace Toy
open PySem L2 BV Ma
end Toy
set_option linter.all false
set_option maxRecDepth 100000
set_option maxHeartbeats 4000000
namespace Toy
open PySem L2 BV Ma
end Toy
set_option linter.all false
set_option maxRecDepth 100000
set_option maxHeartbeats 4000000
namespace Toy
open PySem L2 BV Ma
end Toy
set_option linter.all false
set_option maxRecDepth 100000
set_option maxHeartbeats 4000000
namespace Toy
open PySem L2 BV Ma
end Toy
set_option linter.all false
set_option maxRecDepth 100000
set_option maxHeartbeats 4000000
namespace Toy
open PySem L2 BV Ma TL
def tS (l : List Nat) : Str := ⟨l.toArray⟩
theorem tl_tS (l : List Nat) : tl (tS l) = l := by simp [tl, tS]
theorem tS_of {x : Str} {l : List Nat} (h : tl x = l) : x = tS l := ext_tl (by rw [h, tl_tS])
theorem tS_inj {a b : List Nat} (h : tS a = tS b) : a = b := by rw [← tl_tS a, h, tl_tS]
def sD (l : List Nat) : D := .str (tS l)
end Toy
set_option linter.all false
set_option maxRecDepth 100000
set_option maxHeartbeats 4000000
namespace Toy
open PySem L2 BV Ma
end Toy
set_option linter.all false
set_option maxRecDepth 100000
set_option maxHeartbeats 4000000
namespace Toy
open PySem L2 BV Ma TL
theorem s_empty : D.str "" = sD [] := congrArg D.str (tS_of (by decide +kernel))
end Toy
set_option linter.all false
set_option maxRecDepth 100000
set_option maxHeartbeats 4000000
namespace Toy
open PySem L2 BV Ma TL
def Asc (l : List Nat) : Prop := ∀ c ∈ l, c < 128
theorem Asc.app {a b : List Nat} (ha : Asc a) (hb : Asc b) : Asc (a ++ b) := fun c hc => (List.mem_append.mp hc).elim (ha c) (hb c)
theorem asc_lit {l : List Nat} (h : (l.all fun c => decide (c < 128)) = true) : Asc l := fun c hc => of_decide_eq_true (List.all_eq_true.mp h c hc)
theorem eq_sD {a b : List Nat} (ha : Asc a) (hb : Asc b) : eqD (sD a) (sD b) = some (.bl (decide (a = b))) := by
  have hs : ∀ l : List Nat, Asc l → SeqAt.shaped (pd (sD l)) = true := fun l hl => by
    have : PyData.strOk (tS l) = true := by
      unfold PyData.strOk tS
      simp only [List.all_toArray, List.all_eq_true, decide_eq_true_eq]
      intro c hc
      have := hl c hc
      omega
    simp [SeqAt.shaped, sD, pd, PyData.canLay0, PyData.depth, this]
  unfold eqD eqB
  rw [if_pos ⟨hs a ha, hs b hb⟩]
  have : PyData.eqv (pd (sD a)) (pd (sD b)) = decide (a = b) := by
    show PyData.eqv (PyData.str (tS a)) (PyData.str (tS b)) = _
    simp only [PyData.eqv]
    by_cases h : a = b
    · simp [h]
    · have : ¬ tS a = tS b := fun e => h (tS_inj e)
      simp [h, this]
  rw [this]; rfl
end Toy
set_option linter.all false
set_option maxRecDepth 100000
set_option maxHeartbeats 4000000
namespace Toy
open PySem L2 BV Ma TL
end Toy
set_option linter.all false
set_option maxRecDepth 100000
set_option maxHeartbeats 4000000
namespace Toy
open PySem L2 BV Ma TL
end Toy
set_option linter.all false
set_option maxRecDepth 100000
set_option maxHeartbeats 4000000
namespace Toy
open PySem L2 BV Ma TL
end Toy
set_option linter.all false
set_option maxRecDepth 100000
set_option maxHeartbeats 4000000
namespace Toy
open PySem L2 BV Ma TL
end Toy
set_option linter.all false
set_option maxRecDepth 100000
set_option maxHeartbeats 4000000
namespace Toy
open PySem L2 BV Ma
end Toy
set_option linter.all false
set_option maxRecDepth 100000
set_option maxHeartbeats 4000000
namespace Toy
open PySem L2 BV Ma TL
def dg (c : Nat) : Bool := decide (48 ≤ c) && decide (c ≤ 57)
end Toy
set_option linter.all false
set_option maxRecDepth 100000
set_option maxHeartbeats 4000000
namespace Toy
open PySem L2 BV Ma
def SX : Nat → D → Prop
  | 0, d => (∃ i, d = .int i) ∨ (∃ s, d = .str s ∧ PyData.strOk s = true) ∨ d = .non
  | n + 1, d => ((∃ i, d = .int i) ∨ (∃ s, d = .str s ∧ PyData.strOk s = true) ∨ d = .non) ∨ (∃ ds, (d = .tup ds ∨ d = .lst ds) ∧ ds.length ≤ 1000 ∧ ∀ x ∈ ds, SX n x)
theorem isiS {s : Str} : isiD [.str s, .ty "tuple"] = some (.bl false) ∧ isiD [.str s, .ty "list"] = some (.bl false) ∧ isiD [.str s, .ty "bool"] = some (.bl false) ∧ isiD [.str s, .ty "int"] = some (.bl false) ∧ isiD [.str s, .ty "str"] = some (.bl true) := by
  refine ⟨?_, ?_, ?_, ?_, ?_⟩ <;> (unfold isiD tyN isiT; simp)
theorem isiNn : isiD [.non, .ty "tuple"] = some (.bl false) ∧ isiD [.non, .ty "list"] = some (.bl false) ∧ isiD [.non, .ty "bool"] = some (.bl false) ∧ isiD [.non, .ty "int"] = some (.bl false) ∧ isiD [.non, .ty "str"] = some (.bl false) := by
  refine ⟨?_, ?_, ?_, ?_, ?_⟩ <;> (unfold isiD tyN isiT; simp)
theorem eq_strS {s : Str} (hs : PyData.strOk s = true) : eqD (.str s) (.str s) = some (.bl true) := by
  unfold eqD eqB
  have h : SeqAt.shaped (pd (.str s)) = true := by simp [SeqAt.shaped, pd, PyData.canLay0, PyData.depth, hs]
  have e : PyData.eqv (pd (.str s)) (pd (.str s)) = true := SeqAt.eqv_refl _ (SeqAt.canLay_of_shaped h)
  rw [if_pos ⟨h, h⟩, e]; rfl
theorem same_strS {pf : List D → Option D} {s : Str} (hs : PyData.strOk s = true) : runF 3 (g__law_same pf) [.str s, .str s] = some (.bl true) := by
  unfold g__law_same
  obtain ⟨a, b, c, d, e⟩ := isiS (s := s)
  simp only [EVs, EVx, runX, runF, env0, List.map_cons, List.map_nil, List.length_cons, List.length_nil, List.cons_append, List.nil_append, Nat.reduceAdd, Nat.reduceSub, List.replicate_succ, List.replicate_zero, Option.bind_some, Option.bind_none, Option.elim_some, Option.elim_none, Option.map_some, List.set_cons_zero, List.set_cons_succ, List.getElem?_cons_zero, List.getElem?_cons_succ, if_true, Bool.false_eq_true, if_false, a, b, c, d, e, eq_strS hs]
theorem same_nonS {pf : List D → Option D} : runF 3 (g__law_same pf) [.non, .non] = some (.bl true) := by
  unfold g__law_same
  obtain ⟨a, b, c, d, e⟩ := isiNn
  have n1 : isND .non .non = some (.bl true) := rfl
  simp only [EVs, EVx, runX, runF, env0, List.map_cons, List.map_nil, List.length_cons, List.length_nil, List.cons_append, List.nil_append, Nat.reduceAdd, Nat.reduceSub, List.replicate_succ, List.replicate_zero, Option.bind_some, Option.bind_none, Option.elim_some, Option.elim_none, Option.map_some, List.set_cons_zero, List.set_cons_succ, List.getElem?_cons_zero, List.getElem?_cons_succ, if_true, Bool.false_eq_true, if_false, a, b, c, d, e, n1]
theorem same_pfX : ∀ (n m : Nat) (d : D), n < m → SX n d → pfN__law_same m [d, d] = some (.bl true)
  | n, 0, d, hn, _ => by omega
  | 0, m + 1, d, _, h => by
    rcases h with ⟨i, rfl⟩ | ⟨s, rfl, hs⟩ | rfl
    · exact same_int
    · exact same_strS hs
    · exact same_nonS
  | n + 1, m + 1, d, hn, h => by
    rcases h with (⟨i, rfl⟩ | ⟨s, rfl, hs⟩ | rfl) | ⟨ds, hx, hl, h⟩
    · exact same_int
    · exact same_strS hs
    · exact same_nonS
    · exact same_seq hx hl fun y hy => same_pfX n m y (by omega) (h y hy)
theorem sx_str (n : Nat) {s : Str} (hs : PyData.strOk s = true) : SX n (.str s) := by cases n with | zero => exact .inr (.inl ⟨s, rfl, hs⟩) | succ n => exact .inl (.inr (.inl ⟨s, rfl, hs⟩))
theorem sx_int (n : Nat) (i : Int) : SX n (.int i) := by cases n with | zero => exact .inl ⟨i, rfl⟩ | succ n => exact .inl (.inl ⟨i, rfl⟩)
theorem sx_non (n : Nat) : SX n .non := by cases n with | zero => exact .inr (.inr rfl) | succ n => exact .inl (.inr (.inr rfl))
theorem sx_two {n : Nat} {a b : D} (ha : SX n a) (hb : SX n b) : SX (n + 1) (.tup [a, b]) := .inr ⟨_, .inl rfl, by simp, fun x hx => by
  simp only [List.mem_cons, List.not_mem_nil, or_false] at hx
  rcases hx with rfl | rfl <;> assumption⟩
theorem same_two {n : Nat} (hn : n ≤ 6) {a b : D} (ha : SX n a) (hb : SX n b) : pf__law_same [.tup [a, b], .tup [a, b]] = some (.bl true) := same_pfX (n + 1) 8 _ (by omega) (sx_two ha hb)
end Toy
set_option linter.all false
set_option maxRecDepth 100000
set_option maxHeartbeats 4000000
namespace Toy
open PySem L2 BV Ma
def RowL (n : Nat) (t : Term) : Prop := t.1.length ≤ n ∧ Red t.2 ∧ t.2.2 ≤ 8192 ∧ t.2.1.natAbs ≤ 2 ^ 60
theorem RowL.mono {n m : Nat} {t : Term} (h : RowL n t) (hn : n ≤ m) : RowL m t := ⟨Nat.le_trans h.1 hn, h.2⟩
end Toy
set_option linter.all false
set_option maxRecDepth 100000
set_option maxHeartbeats 4000000
namespace Toy
open PySem L2 BV Ma
theorem split_first {α : Type} (p : α → Prop) : ∀ xs : List α, (∀ x ∈ xs, p x) ∨ ∃ as x bs, xs = as ++ x :: bs ∧ (∀ a ∈ as, p a) ∧ ¬ p x
  | [] => .inl (by simp)
  | x :: xs => by
    by_cases h : p x
    · rcases split_first p xs with q | ⟨as, y, bs, rfl, h1, h2⟩
      · exact .inl fun y hy => by
          rcases List.mem_cons.mp hy with rfl | hy
          · exact h
          · exact q y hy
      · refine .inr ⟨x :: as, y, bs, rfl, fun a ha => ?_, h2⟩
        rcases List.mem_cons.mp ha with rfl | ha
        · exact h
        · exact h1 a ha
    · exact .inr ⟨[], x, xs, rfl, by simp, h⟩
theorem forD_pass {α : Type} {B : D → BV.Env → Option BV.Env} {G : SF} {enc : α → D} {ρ : BV.Env} {ys : List D} : ∀ {xs : List α}, (∀ x ∈ xs, bd B G (enc x) ρ = .nx ρ) → forD B G (xs.map enc ++ ys) ρ = forD B G ys ρ
  | [], _ => rfl
  | x :: xs, h => by
    rw [List.map_cons, List.cons_append, forD_cons (.inl (h x (by simp)))]
    exact forD_pass fun y hy => h y (by simp [hy])
theorem for_first {α : Type} {I : LF} {B : D → BV.Env → Option BV.Env} {G : SF} {ρ ρ1 : BV.Env} {fl : Fl} (hf : sFor I B G ρ = fl) {enc : α → D} {xs ys : List α} {y : α} (hi : I ρ = some ((xs ++ y :: ys).map enc)) (h : ∀ x ∈ xs, bd B G (enc x) ρ = .nx ρ) {r : D} (hy : bd B G (enc y) ρ = .rt r ρ1) : fl = .rt r ρ1 := by
  rw [← hf, sFor_of hi, List.map_append, forD_pass h, List.map_cons, forD_rt hy]
end Toy
set_option linter.all false
set_option maxRecDepth 100000
set_option maxHeartbeats 4000000
namespace Toy
open PySem L2 BV Ma
end Toy
set_option linter.all false
set_option maxRecDepth 100000
set_option maxHeartbeats 4000000
namespace Toy
open PySem L2 BV Ma
theorem tr_bl (b : Bool) : trB (.bl b) = some b := rfl
end Toy
set_option linter.all false
set_option maxRecDepth 100000
set_option maxHeartbeats 4000000
namespace Toy
open PySem L2 BV Ma
end Toy
set_option linter.all false
set_option maxRecDepth 100000
set_option maxHeartbeats 4000000
namespace Toy
open PySem L2 BV Ma TL
end Toy
set_option linter.all false
set_option maxRecDepth 100000
set_option maxHeartbeats 4000000
namespace Toy
open PySem L2 BV Ma TL
def RunB (l : List Nat) : Prop := ∀ a b c, l = a ++ b ++ c → b.all dg = true → b.length ≤ 600
structure TW (l : List Nat) : Prop where
  asc : Asc l
  len : l.length ≤ 1000
  run : RunB l
theorem TW.sub {l a b c : List Nat} (w : TW l) (h : l = a ++ b ++ c) : TW b := by
  refine ⟨fun x hx => w.asc x (by rw [h]; simp [hx]), by have := w.len; rw [h] at this; simp at this; omega, fun p q r e d => w.run (a ++ p) q (r ++ c) (by rw [h, e]; simp) d⟩
theorem TW.left {l a c : List Nat} (w : TW l) (h : l = a ++ c) : TW a := w.sub (a := []) (c := c) (by simpa using h)
theorem TW.right {l a c : List Nat} (w : TW l) (h : l = a ++ c) : TW c := w.sub (a := a) (c := []) (by simpa using h)
end Toy
set_option linter.all false
set_option maxRecDepth 100000
set_option maxHeartbeats 4000000
namespace Toy
open PySem L2 BV Ma TL
end Toy
set_option linter.all false
set_option maxRecDepth 100000
set_option maxHeartbeats 4000000
namespace Toy
open PySem L2 BV Ma TL
end Toy
set_option linter.all false
set_option maxRecDepth 100000
set_option maxHeartbeats 4000000
namespace Toy
open PySem L2 BV Ma TL
end Toy
set_option linter.all false
set_option maxRecDepth 100000
set_option maxHeartbeats 4000000
namespace Toy
open PySem L2 BV Ma
theorem iXk01_NoCount_BadStep : isiXD xtb_k01 xcs_k01 [.exc "NoCount" [] [], .fn "BadStep"] = some (.bl false) := rfl
theorem iXk01_NoCount_NoBoards : isiXD xtb_k01 xcs_k01 [.exc "NoCount" [] [], .fn "NoBoards"] = some (.bl false) := rfl
theorem iXk01_NoCount_NoCount : isiXD xtb_k01 xcs_k01 [.exc "NoCount" [] [], .fn "NoCount"] = some (.bl true) := rfl
theorem iXk01_NoCount_NoCross : isiXD xtb_k01 xcs_k01 [.exc "NoCount" [] [], .fn "NoCross"] = some (.bl false) := rfl
theorem iXk01_NoCount_NoEven : isiXD xtb_k01 xcs_k01 [.exc "NoCount" [] [], .fn "NoEven"] = some (.bl false) := rfl
theorem iXk01_NoCount_NoFull : isiXD xtb_k01 xcs_k01 [.exc "NoCount" [] [], .fn "NoFull"] = some (.bl false) := rfl
theorem iXk01_NoCount_NoGrade : isiXD xtb_k01 xcs_k01 [.exc "NoCount" [] [], .fn "NoGrade"] = some (.bl false) := rfl
theorem iXk01_NoCount_NoHalves : isiXD xtb_k01 xcs_k01 [.exc "NoCount" [] [], .fn "NoHalves"] = some (.bl false) := rfl
theorem iXk01_NoCount_NoKeep : isiXD xtb_k01 xcs_k01 [.exc "NoCount" [] [], .fn "NoKeep"] = some (.bl false) := rfl
theorem iXk01_NoCount_NoKind : isiXD xtb_k01 xcs_k01 [.exc "NoCount" [] [], .fn "NoKind"] = some (.bl false) := rfl
theorem iXk01_NoCount_NoLine : isiXD xtb_k01 xcs_k01 [.exc "NoCount" [] [], .fn "NoLine"] = some (.bl false) := rfl
theorem iXk01_NoCount_NoMirror : isiXD xtb_k01 xcs_k01 [.exc "NoCount" [] [], .fn "NoMirror"] = some (.bl false) := rfl
theorem iXk01_NoCount_NoName : isiXD xtb_k01 xcs_k01 [.exc "NoCount" [] [], .fn "NoName"] = some (.bl false) := rfl
theorem iXk01_NoCount_NoPartner : isiXD xtb_k01 xcs_k01 [.exc "NoCount" [] [], .fn "NoPartner"] = some (.bl false) := rfl
theorem iXk01_NoCount_NoProduct : isiXD xtb_k01 xcs_k01 [.exc "NoCount" [] [], .fn "NoProduct"] = some (.bl false) := rfl
theorem iXk01_NoCount_NoSquare : isiXD xtb_k01 xcs_k01 [.exc "NoCount" [] [], .fn "NoSquare"] = some (.bl false) := rfl
theorem iXk01_NoCount_NoStep : isiXD xtb_k01 xcs_k01 [.exc "NoCount" [] [], .fn "NoStep"] = some (.bl false) := rfl
theorem iXk01_NoCount_NoSum : isiXD xtb_k01 xcs_k01 [.exc "NoCount" [] [], .fn "NoSum"] = some (.bl false) := rfl
theorem iXk01_NoCount_NoTable : isiXD xtb_k01 xcs_k01 [.exc "NoCount" [] [], .fn "NoTable"] = some (.bl false) := rfl
theorem iXk01_NoCount_NoText : isiXD xtb_k01 xcs_k01 [.exc "NoCount" [] [], .fn "NoText"] = some (.bl false) := rfl
theorem iXk01_NoCount_NoUndo : isiXD xtb_k01 xcs_k01 [.exc "NoCount" [] [], .fn "NoUndo"] = some (.bl false) := rfl
theorem iXk01_NoCount_NoVector : isiXD xtb_k01 xcs_k01 [.exc "NoCount" [] [], .fn "NoVector"] = some (.bl false) := rfl
theorem iXk01_NoCount_NoWord : isiXD xtb_k01 xcs_k01 [.exc "NoCount" [] [], .fn "NoWord"] = some (.bl false) := rfl
theorem iXk01_NoCount_StepError : isiXD xtb_k01 xcs_k01 [.exc "NoCount" [] [], .fn "StepError"] = some (.bl true) := rfl
theorem iXk01_NoCount_V : isiXD xtb_k01 xcs_k01 [.exc "NoCount" [] [], .ty "ValueError"] = some (.bl true) := rfl
theorem clsk01_NoCount : pf__law_class_v8 [.exc "NoCount" [] []] = some (.str "NoCount") := by
  unfold pf__law_class_v8 g__law_class_v8
  have ls : ∀ ds : List D, ds.length ≤ 100 → lstD ds = some (.lst ds) := fun ds h => lst_ok (by omega)
  have ad : ∀ a b : List D, a.length + b.length ≤ 100 → addD (.lst a) (.lst b) = some (.lst (a ++ b)) := fun a b h => addL (by omega)
  simp only [EVs, EVx, runX, runF, env0, List.map_cons, List.map_nil, List.length_cons, List.length_nil, List.cons_append, List.nil_append, Nat.reduceAdd, Nat.reduceSub, List.replicate_succ, List.replicate_zero, Option.bind_some, Option.bind_none, Option.elim_some, Option.elim_none, Option.map_some, List.set_cons_zero, List.set_cons_succ, List.getElem?_cons_zero, List.getElem?_cons_succ, if_true, Bool.false_eq_true, if_false, iXk01_NoCount_BadStep, iXk01_NoCount_NoBoards, iXk01_NoCount_NoCount, iXk01_NoCount_NoCross, iXk01_NoCount_NoEven, iXk01_NoCount_NoFull, iXk01_NoCount_NoGrade, iXk01_NoCount_NoHalves, iXk01_NoCount_NoKeep, iXk01_NoCount_NoKind, iXk01_NoCount_NoLine, iXk01_NoCount_NoMirror, iXk01_NoCount_NoName, iXk01_NoCount_NoPartner, iXk01_NoCount_NoProduct, iXk01_NoCount_NoSquare, iXk01_NoCount_NoStep, iXk01_NoCount_NoSum, iXk01_NoCount_NoTable, iXk01_NoCount_NoText, iXk01_NoCount_NoUndo, iXk01_NoCount_NoVector, iXk01_NoCount_NoWord, iXk01_NoCount_StepError, iXk01_NoCount_V, ls, ad, Nat.reduceLeDiff, Bool.not_true]
  generalize hg : eLc _ _ _ _ _ _ = o
  have := lcF hg D.bl (xs := [false, false, true, false, false, false, false, false, false, false, false, false, false, false, false, false, false, false, false, false, false, false, false]) (by simp only [EVs, EVx, runX, runF, env0, List.map_cons, List.map_nil, List.length_cons, List.length_nil, List.cons_append, List.nil_append, Nat.reduceAdd, Nat.reduceSub, List.replicate_succ, List.replicate_zero, Option.bind_some, Option.bind_none, Option.elim_some, Option.elim_none, Option.map_some, List.set_cons_zero, List.set_cons_succ, List.getElem?_cons_zero, List.getElem?_cons_succ, if_true, Bool.false_eq_true, if_false]) (by simp) id (fun b hb => by
    cases b <;> simp only [EVs, EVx, runX, runF, env0, List.map_cons, List.map_nil, List.length_cons, List.length_nil, List.cons_append, List.nil_append, Nat.reduceAdd, Nat.reduceSub, List.replicate_succ, List.replicate_zero, Option.bind_some, Option.bind_none, Option.elim_some, Option.elim_none, Option.map_some, List.set_cons_zero, List.set_cons_succ, List.getElem?_cons_zero, List.getElem?_cons_succ, if_true, Bool.false_eq_true, if_false, el, tr_bl, id])
  subst this
  have f1 : List.filter id [false, false, true, false, false, false, false, false, false, false, false, false, false, false, false, false, false, false, false, false, false, false, false] = [true] := rfl
  have ix : idxD (.lst [D.bl false, D.bl false, D.bl true, D.bl false, D.bl false, D.bl false, D.bl false, D.bl false, D.bl false, D.bl false, D.bl false, D.bl false, D.bl false, D.bl false, D.bl false, D.bl false, D.bl false, D.bl false, D.bl false, D.bl false, D.bl false, D.bl false, D.bl false]) (.bl true) = some (.int 2) := rfl
  have ne1 : neD (.int 1) (.int 1) = some (.bl false) := rfl
  simp only [EVs, EVx, runX, runF, env0, List.map_cons, List.map_nil, List.length_cons, List.length_nil, List.cons_append, List.nil_append, Nat.reduceAdd, Nat.reduceSub, List.replicate_succ, List.replicate_zero, Option.bind_some, Option.bind_none, Option.elim_some, Option.elim_none, Option.map_some, List.set_cons_zero, List.set_cons_succ, List.getElem?_cons_zero, List.getElem?_cons_succ, if_true, Bool.false_eq_true, if_false, f1, ls, ad, Nat.reduceLeDiff, ix]
  rfl
theorem iXk01_NoSquare_BadStep {z : Int} : isiXD xtb_k01 xcs_k01 [.exc "NoSquare" ["place"] [.int z], .fn "BadStep"] = some (.bl false) := rfl
theorem iXk01_NoSquare_NoBoards {z : Int} : isiXD xtb_k01 xcs_k01 [.exc "NoSquare" ["place"] [.int z], .fn "NoBoards"] = some (.bl false) := rfl
theorem iXk01_NoSquare_NoCount {z : Int} : isiXD xtb_k01 xcs_k01 [.exc "NoSquare" ["place"] [.int z], .fn "NoCount"] = some (.bl false) := rfl
theorem iXk01_NoSquare_NoCross {z : Int} : isiXD xtb_k01 xcs_k01 [.exc "NoSquare" ["place"] [.int z], .fn "NoCross"] = some (.bl false) := rfl
theorem iXk01_NoSquare_NoEven {z : Int} : isiXD xtb_k01 xcs_k01 [.exc "NoSquare" ["place"] [.int z], .fn "NoEven"] = some (.bl false) := rfl
theorem iXk01_NoSquare_NoFull {z : Int} : isiXD xtb_k01 xcs_k01 [.exc "NoSquare" ["place"] [.int z], .fn "NoFull"] = some (.bl false) := rfl
theorem iXk01_NoSquare_NoGrade {z : Int} : isiXD xtb_k01 xcs_k01 [.exc "NoSquare" ["place"] [.int z], .fn "NoGrade"] = some (.bl false) := rfl
theorem iXk01_NoSquare_NoHalves {z : Int} : isiXD xtb_k01 xcs_k01 [.exc "NoSquare" ["place"] [.int z], .fn "NoHalves"] = some (.bl false) := rfl
theorem iXk01_NoSquare_NoKeep {z : Int} : isiXD xtb_k01 xcs_k01 [.exc "NoSquare" ["place"] [.int z], .fn "NoKeep"] = some (.bl false) := rfl
theorem iXk01_NoSquare_NoKind {z : Int} : isiXD xtb_k01 xcs_k01 [.exc "NoSquare" ["place"] [.int z], .fn "NoKind"] = some (.bl false) := rfl
theorem iXk01_NoSquare_NoLine {z : Int} : isiXD xtb_k01 xcs_k01 [.exc "NoSquare" ["place"] [.int z], .fn "NoLine"] = some (.bl false) := rfl
theorem iXk01_NoSquare_NoMirror {z : Int} : isiXD xtb_k01 xcs_k01 [.exc "NoSquare" ["place"] [.int z], .fn "NoMirror"] = some (.bl false) := rfl
theorem iXk01_NoSquare_NoName {z : Int} : isiXD xtb_k01 xcs_k01 [.exc "NoSquare" ["place"] [.int z], .fn "NoName"] = some (.bl false) := rfl
theorem iXk01_NoSquare_NoPartner {z : Int} : isiXD xtb_k01 xcs_k01 [.exc "NoSquare" ["place"] [.int z], .fn "NoPartner"] = some (.bl false) := rfl
theorem iXk01_NoSquare_NoProduct {z : Int} : isiXD xtb_k01 xcs_k01 [.exc "NoSquare" ["place"] [.int z], .fn "NoProduct"] = some (.bl false) := rfl
theorem iXk01_NoSquare_NoSquare {z : Int} : isiXD xtb_k01 xcs_k01 [.exc "NoSquare" ["place"] [.int z], .fn "NoSquare"] = some (.bl true) := rfl
theorem iXk01_NoSquare_NoStep {z : Int} : isiXD xtb_k01 xcs_k01 [.exc "NoSquare" ["place"] [.int z], .fn "NoStep"] = some (.bl false) := rfl
theorem iXk01_NoSquare_NoSum {z : Int} : isiXD xtb_k01 xcs_k01 [.exc "NoSquare" ["place"] [.int z], .fn "NoSum"] = some (.bl false) := rfl
theorem iXk01_NoSquare_NoTable {z : Int} : isiXD xtb_k01 xcs_k01 [.exc "NoSquare" ["place"] [.int z], .fn "NoTable"] = some (.bl false) := rfl
theorem iXk01_NoSquare_NoText {z : Int} : isiXD xtb_k01 xcs_k01 [.exc "NoSquare" ["place"] [.int z], .fn "NoText"] = some (.bl false) := rfl
theorem iXk01_NoSquare_NoUndo {z : Int} : isiXD xtb_k01 xcs_k01 [.exc "NoSquare" ["place"] [.int z], .fn "NoUndo"] = some (.bl false) := rfl
theorem iXk01_NoSquare_NoVector {z : Int} : isiXD xtb_k01 xcs_k01 [.exc "NoSquare" ["place"] [.int z], .fn "NoVector"] = some (.bl false) := rfl
theorem iXk01_NoSquare_NoWord {z : Int} : isiXD xtb_k01 xcs_k01 [.exc "NoSquare" ["place"] [.int z], .fn "NoWord"] = some (.bl false) := rfl
theorem iXk01_NoSquare_StepError {z : Int} : isiXD xtb_k01 xcs_k01 [.exc "NoSquare" ["place"] [.int z], .fn "StepError"] = some (.bl true) := rfl
theorem iXk01_NoSquare_V {z : Int} : isiXD xtb_k01 xcs_k01 [.exc "NoSquare" ["place"] [.int z], .ty "ValueError"] = some (.bl true) := rfl
theorem clsk01_NoSquare {z : Int} : pf__law_class_v8 [.exc "NoSquare" ["place"] [.int z]] = some (.str "NoSquare") := by
  unfold pf__law_class_v8 g__law_class_v8
  have ls : ∀ ds : List D, ds.length ≤ 100 → lstD ds = some (.lst ds) := fun ds h => lst_ok (by omega)
  have ad : ∀ a b : List D, a.length + b.length ≤ 100 → addD (.lst a) (.lst b) = some (.lst (a ++ b)) := fun a b h => addL (by omega)
  simp only [EVs, EVx, runX, runF, env0, List.map_cons, List.map_nil, List.length_cons, List.length_nil, List.cons_append, List.nil_append, Nat.reduceAdd, Nat.reduceSub, List.replicate_succ, List.replicate_zero, Option.bind_some, Option.bind_none, Option.elim_some, Option.elim_none, Option.map_some, List.set_cons_zero, List.set_cons_succ, List.getElem?_cons_zero, List.getElem?_cons_succ, if_true, Bool.false_eq_true, if_false, iXk01_NoSquare_BadStep, iXk01_NoSquare_NoBoards, iXk01_NoSquare_NoCount, iXk01_NoSquare_NoCross, iXk01_NoSquare_NoEven, iXk01_NoSquare_NoFull, iXk01_NoSquare_NoGrade, iXk01_NoSquare_NoHalves, iXk01_NoSquare_NoKeep, iXk01_NoSquare_NoKind, iXk01_NoSquare_NoLine, iXk01_NoSquare_NoMirror, iXk01_NoSquare_NoName, iXk01_NoSquare_NoPartner, iXk01_NoSquare_NoProduct, iXk01_NoSquare_NoSquare, iXk01_NoSquare_NoStep, iXk01_NoSquare_NoSum, iXk01_NoSquare_NoTable, iXk01_NoSquare_NoText, iXk01_NoSquare_NoUndo, iXk01_NoSquare_NoVector, iXk01_NoSquare_NoWord, iXk01_NoSquare_StepError, iXk01_NoSquare_V, ls, ad, Nat.reduceLeDiff, Bool.not_true]
  generalize hg : eLc _ _ _ _ _ _ = o
  have := lcF hg D.bl (xs := [false, false, false, false, false, false, false, false, false, false, false, false, false, false, false, true, false, false, false, false, false, false, false]) (by simp only [EVs, EVx, runX, runF, env0, List.map_cons, List.map_nil, List.length_cons, List.length_nil, List.cons_append, List.nil_append, Nat.reduceAdd, Nat.reduceSub, List.replicate_succ, List.replicate_zero, Option.bind_some, Option.bind_none, Option.elim_some, Option.elim_none, Option.map_some, List.set_cons_zero, List.set_cons_succ, List.getElem?_cons_zero, List.getElem?_cons_succ, if_true, Bool.false_eq_true, if_false]) (by simp) id (fun b hb => by
    cases b <;> simp only [EVs, EVx, runX, runF, env0, List.map_cons, List.map_nil, List.length_cons, List.length_nil, List.cons_append, List.nil_append, Nat.reduceAdd, Nat.reduceSub, List.replicate_succ, List.replicate_zero, Option.bind_some, Option.bind_none, Option.elim_some, Option.elim_none, Option.map_some, List.set_cons_zero, List.set_cons_succ, List.getElem?_cons_zero, List.getElem?_cons_succ, if_true, Bool.false_eq_true, if_false, el, tr_bl, id])
  subst this
  have f1 : List.filter id [false, false, false, false, false, false, false, false, false, false, false, false, false, false, false, true, false, false, false, false, false, false, false] = [true] := rfl
  have ix : idxD (.lst [D.bl false, D.bl false, D.bl false, D.bl false, D.bl false, D.bl false, D.bl false, D.bl false, D.bl false, D.bl false, D.bl false, D.bl false, D.bl false, D.bl false, D.bl false, D.bl true, D.bl false, D.bl false, D.bl false, D.bl false, D.bl false, D.bl false, D.bl false]) (.bl true) = some (.int 15) := rfl
  have ne1 : neD (.int 1) (.int 1) = some (.bl false) := rfl
  simp only [EVs, EVx, runX, runF, env0, List.map_cons, List.map_nil, List.length_cons, List.length_nil, List.cons_append, List.nil_append, Nat.reduceAdd, Nat.reduceSub, List.replicate_succ, List.replicate_zero, Option.bind_some, Option.bind_none, Option.elim_some, Option.elim_none, Option.map_some, List.set_cons_zero, List.set_cons_succ, List.getElem?_cons_zero, List.getElem?_cons_succ, if_true, Bool.false_eq_true, if_false, f1, ls, ad, Nat.reduceLeDiff, ix]
  rfl
theorem sx_tu' (p : List Int) (h : p.length ≤ 1000) : SX 1 (tuD p) := .inr ⟨_, .inl rfl, by simpa using h, fun x hx => by
  obtain ⟨z, _, rfl⟩ := List.mem_map.mp hx
  exact sx_int 0 z⟩
abbrev Sq1 (z : Int) : Prop := z = 1 ∨ z = -1 ∨ z = 0
theorem fi_split {t : Int} {bs : List Int} (ht : ¬ Sq1 t) : ∀ {as : List Int}, (∀ z ∈ as, Sq1 z) → ((as ++ t :: bs).findIdx? fun z => !decide (-1 ≤ z ∧ z ≤ 1)) = some as.length
  | [], _ => by
    have : ¬ (-1 ≤ t ∧ t ≤ 1) := by omega
    simp [List.findIdx?_cons, this]
  | a :: as, h => by
    have h1 := h a (by simp)
    have h2 : -1 ≤ a ∧ a ≤ 1 := by omega
    have := fi_split (bs := bs) ht (fun z hz => h z (List.mem_cons_of_mem _ hz))
    rw [List.cons_append, List.findIdx?_cons, this]
    simp [h2]
theorem kind_no {ns : List Int} (h : ¬ SqV ns) : kindD [.lst (ns.map D.int)] = none := by
  have e : sqOk ns = false := by
    unfold sqOk
    rw [Bool.and_eq_false_iff]
    by_cases q : ns.length ≤ 5
    · right
      rw [Bool.eq_false_iff]
      intro z
      rw [List.all_eq_true] at z
      exact h ⟨q, fun y hy => of_decide_eq_true (z y hy)⟩
    · exact .inl (decide_eq_false q)
  unfold kindD
  simp [intsD_map, e]
theorem xkind_eq {ns : List Int} : xkindD [.lst (ns.map D.int)] = xkOf ns := by
  unfold xkindD
  simp [intsD_map]
theorem eq_cntsq : eqD (.str "NoCount") (.str "NoSquare") = some (.bl false) := by
  have h1 : D.str "NoCount" = sD [78, 111, 67, 111, 117, 110, 116] := congrArg D.str (tS_of (by decide +kernel))
  have h2 : D.str "NoSquare" = sD [78, 111, 83, 113, 117, 97, 114, 101] := congrArg D.str (tS_of (by decide +kernel))
  rw [h1, h2]
  have := eq_sD (a := [78, 111, 67, 111, 117, 110, 116]) (b := [78, 111, 83, 113, 117, 97, 114, 101]) (asc_lit (by decide)) (asc_lit (by decide))
  rwa [decide_eq_false (by decide)] at this
theorem asked9_good {sq : List Int} (h : SqV sq) : pf__law_asked_v9 [.lst (sq.map D.int)] = some (.tup [.str "", .tup [.int sq.length, tuD sq]]) := by
  unfold pf__law_asked_v9 g__law_asked_v9
  have n1 : isND .non .non = some (.bl true) := rfl
  simp only [EVs, EVx, runX, runF, env0, List.map_cons, List.map_nil, List.length_cons, List.length_nil, List.cons_append, List.nil_append, Nat.reduceAdd, Nat.reduceSub, List.replicate_succ, List.replicate_zero, Option.bind_some, Option.bind_none, Option.elim_some, Option.elim_none, Option.map_some, List.set_cons_zero, List.set_cons_succ, List.getElem?_cons_zero, List.getElem?_cons_succ, if_true, Bool.false_eq_true, if_false, kind_pf h, n1, tup2, cnt_kind, sqrD]
  rfl
theorem asked9_cnt {ns : List Int} (h : 5 < ns.length) : pf__law_asked_v9 [.lst (ns.map D.int)] = some (.tup [.str "NoCount", .non]) := by
  unfold pf__law_asked_v9 g__law_asked_v9
  have n1 : isND (.exc "NoCount" [] []) .non = some (.bl false) := rfl
  have b1 : kindD [.lst (ns.map D.int)] = none := kind_no (fun q => by have := q.1; omega)
  have b2 : xkindD [.lst (ns.map D.int)] = some (.exc "NoCount" [] []) := by rw [xkind_eq]; exact if_pos h
  have xi : excIn ["NoCount", "NoSquare"] (.exc "NoCount" [] []) = true := rfl
  have q1 : eqD (.str "NoCount") (.str "NoSquare") = some (.bl false) := eq_cntsq
  have q2 : eOrS (eN pf__law_class_v8 (aCons (eV 1) aNil)) (eC (.str "other")) [.f (.lst (ns.map D.int)), .f (.exc "NoCount" [] []), .f .non, .u] = some (.str "NoCount") := by
    unfold eOrS
    simp only [EVs, EVx, runX, runF, env0, List.map_cons, List.map_nil, List.length_cons, List.length_nil, List.cons_append, List.nil_append, Nat.reduceAdd, Nat.reduceSub, List.replicate_succ, List.replicate_zero, Option.bind_some, Option.bind_none, Option.elim_some, Option.elim_none, Option.map_some, List.set_cons_zero, List.set_cons_succ, List.getElem?_cons_zero, List.getElem?_cons_succ, if_true, Bool.false_eq_true, if_false, clsk01_NoCount]
    rw [if_pos (by decide +kernel), if_pos (by decide +kernel)]
  simp only [EVs, EVx, runX, runF, env0, List.map_cons, List.map_nil, List.length_cons, List.length_nil, List.cons_append, List.nil_append, Nat.reduceAdd, Nat.reduceSub, List.replicate_succ, List.replicate_zero, Option.bind_some, Option.bind_none, Option.elim_some, Option.elim_none, Option.map_some, List.set_cons_zero, List.set_cons_succ, List.getElem?_cons_zero, List.getElem?_cons_succ, if_true, Bool.false_eq_true, if_false, b1, b2, xi, n1, clsk01_NoCount, q1, q2, tup2]
theorem asked9_sq {ns : List Int} {j : Nat} (h : ¬ 5 < ns.length) (hn : ¬ SqV ns) (hj : (ns.findIdx? fun z => !decide (-1 ≤ z ∧ z ≤ 1)) = some j) : pf__law_asked_v9 [.lst (ns.map D.int)] = some (.tup [.str "NoSquare", .int (j : Int)]) := by
  unfold pf__law_asked_v9 g__law_asked_v9
  have n1 : isND (.exc "NoSquare" ["place"] [.int (j : Int)]) .non = some (.bl false) := rfl
  have b1 : kindD [.lst (ns.map D.int)] = none := kind_no hn
  have b2 : xkindD [.lst (ns.map D.int)] = some (.exc "NoSquare" ["place"] [.int (j : Int)]) := by
    rw [xkind_eq]; unfold xkOf; rw [if_neg h, hj]; rfl
  have xi : excIn ["NoCount", "NoSquare"] (.exc "NoSquare" ["place"] [.int (j : Int)]) = true := rfl
  have q1 : eqD (.str "NoSquare") (.str "NoSquare") = some (.bl true) := eq_strS (by decide +kernel)
  have pl : xfD "place" (.exc "NoSquare" ["place"] [.int (j : Int)]) = some (.int (j : Int)) := rfl
  simp only [EVs, EVx, runX, runF, env0, List.map_cons, List.map_nil, List.length_cons, List.length_nil, List.cons_append, List.nil_append, Nat.reduceAdd, Nat.reduceSub, List.replicate_succ, List.replicate_zero, Option.bind_some, Option.bind_none, Option.elim_some, Option.elim_none, Option.map_some, List.set_cons_zero, List.set_cons_succ, List.getElem?_cons_zero, List.getElem?_cons_succ, if_true, Bool.false_eq_true, if_false, b1, b2, xi, n1, clsk01_NoSquare, q1, pl, tup2]
theorem range_split (a b : Nat) : List.range (a + (1 + b)) = List.range a ++ a :: List.range' (a + 1) b := by
  rw [List.range_eq_range', List.range_eq_range', ← List.range'_append, Nat.add_comm 1 b, List.range'_succ]
  simp
theorem due9_cnt {ns : List Int} (h : 5 < ns.length) : pf__law_due_v9 [.lst (ns.map D.int)] = some (.tup [.str "NoCount", .non]) := by
  unfold pf__law_due_v9 g__law_due_v9
  have e0 := decide_eq_true (show (5 : Int) < ((ns.length : Nat) : Int) by omega)
  simp only [EVs, EVx, runX, runF, env0, List.map_cons, List.map_nil, List.length_cons, List.length_nil, List.cons_append, List.nil_append, Nat.reduceAdd, Nat.reduceSub, List.replicate_succ, List.replicate_zero, Option.bind_some, Option.bind_none, Option.elim_some, Option.elim_none, Option.map_some, List.set_cons_zero, List.set_cons_succ, List.getElem?_cons_zero, List.getElem?_cons_succ, if_true, Bool.false_eq_true, if_false, List.length_map, e0, tup2]
theorem not_in3 (z : Int) : inD true (.int z) (.tup [.int 1, .int (-1), .int 0]) = some (.bl (!decide (z ∈ [(1 : Int), -1, 0]))) := nin_tu (ns := [1, -1, 0])
theorem due9_good {ns : List Int} (h : SqV ns) : pf__law_due_v9 [.lst (ns.map D.int)] = some (.tup [.str "", .tup [.int ns.length, tuD ns]]) := by
  unfold pf__law_due_v9 g__law_due_v9
  have hl := h.1
  have e0 := decide_eq_false (show ¬ (5 : Int) < ((ns.length : Nat) : Int) by omega)
  have t3 : tupD [.int 1, .int (-1), .int 0] = some (.tup [.int 1, .int (-1), .int 0]) := tupD_ok (by show 3 ≤ 1048576; decide)
  simp only [EVs, EVx, runX, runF, env0, List.map_cons, List.map_nil, List.length_cons, List.length_nil, List.cons_append, List.nil_append, Nat.reduceAdd, Nat.reduceSub, List.replicate_succ, List.replicate_zero, Option.bind_some, Option.bind_none, Option.elim_some, Option.elim_none, Option.map_some, List.set_cons_zero, List.set_cons_succ, List.getElem?_cons_zero, List.getElem?_cons_succ, if_true, Bool.false_eq_true, if_false, List.length_map, e0]
  generalize hf : sFor _ _ _ _ = fl
  obtain ⟨ρ', rfl, r, rfl⟩ := forR hf (n := ns.length) (by simp only [EVs, EVx, runX, runF, env0, List.map_cons, List.map_nil, List.length_cons, List.length_nil, List.cons_append, List.nil_append, Nat.reduceAdd, Nat.reduceSub, List.replicate_succ, List.replicate_zero, Option.bind_some, Option.bind_none, Option.elim_some, Option.elim_none, Option.map_some, List.set_cons_zero, List.set_cons_succ, List.getElem?_cons_zero, List.getElem?_cons_succ, if_true, Bool.false_eq_true, if_false, List.length_map]; exact rg1 (by omega)) (fun i ρ => ∃ r, ρ = [.f (.lst (ns.map D.int)), r]) ⟨_, rfl⟩ (by
    rintro i ρ hi ⟨r, rfl⟩
    have at1 : atI (ns.map D.int) (i : Int) = some (.int ns[i]) := atI_ok (j := i) rfl (by simp [hi])
    have hz := h.2 _ (List.getElem_mem hi)
    have m1 : decide (ns[i] ∈ [(1 : Int), -1, 0]) = true := by simp; exact hz
    have ng : negD (.int 1) = some (.int (-1)) := rfl
    refine ⟨[.f (.lst (ns.map D.int)), .u], .inl ?_, _, rfl⟩
    simp only [EVs, EVx, runX, runF, env0, List.map_cons, List.map_nil, List.length_cons, List.length_nil, List.cons_append, List.nil_append, Nat.reduceAdd, Nat.reduceSub, List.replicate_succ, List.replicate_zero, Option.bind_some, Option.bind_none, Option.elim_some, Option.elim_none, Option.map_some, List.set_cons_zero, List.set_cons_succ, List.getElem?_cons_zero, List.getElem?_cons_succ, if_true, Bool.false_eq_true, if_false, bd_eq, at1, ng, t3, not_in3, m1, Bool.not_true])
  have tp : tupleD [.lst (ns.map D.int)] = some (tuD ns) := rfl
  simp only [EVs, EVx, runX, runF, env0, List.map_cons, List.map_nil, List.length_cons, List.length_nil, List.cons_append, List.nil_append, Nat.reduceAdd, Nat.reduceSub, List.replicate_succ, List.replicate_zero, Option.bind_some, Option.bind_none, Option.elim_some, Option.elim_none, Option.map_some, List.set_cons_zero, List.set_cons_succ, List.getElem?_cons_zero, List.getElem?_cons_succ, if_true, Bool.false_eq_true, if_false, List.length_map, tp, tup2]
theorem due9_sq {as bs : List Int} {t : Int} (hl : ¬ 5 < (as ++ t :: bs).length) (h : ∀ z ∈ as, Sq1 z) (ht : ¬ Sq1 t) : pf__law_due_v9 [.lst ((as ++ t :: bs).map D.int)] = some (.tup [.str "NoSquare", .int (as.length : Int)]) := by
  unfold pf__law_due_v9 g__law_due_v9
  have e0 := decide_eq_false (show ¬ (5 : Int) < (((as ++ t :: bs).length : Nat) : Int) by omega)
  have t3 : tupD [.int 1, .int (-1), .int 0] = some (.tup [.int 1, .int (-1), .int 0]) := tupD_ok (by show 3 ≤ 1048576; decide)
  have ng : negD (.int 1) = some (.int (-1)) := rfl
  simp only [EVs, EVx, runX, runF, env0, List.map_cons, List.map_nil, List.length_cons, List.length_nil, List.cons_append, List.nil_append, Nat.reduceAdd, Nat.reduceSub, List.replicate_succ, List.replicate_zero, Option.bind_some, Option.bind_none, Option.elim_some, Option.elim_none, Option.map_some, List.set_cons_zero, List.set_cons_succ, List.getElem?_cons_zero, List.getElem?_cons_succ, if_true, Bool.false_eq_true, if_false, List.length_map, e0]
  generalize hf : sFor _ _ _ _ = fl
  have sp : rgD 0 (as ++ t :: bs).length = ((List.range as.length) ++ as.length :: (List.range' (as.length + 1) bs.length)).map fun (k : Nat) => D.int ((0 : Int) + (k : Int)) := by
    unfold rgD
    rw [← range_split]
    congr 2
    simp only [List.length_append, List.length_cons]; omega
  have key := for_first (ρ1 := [.f (.lst ((as ++ t :: bs).map D.int)), .f (.int (as.length : Int))]) hf (enc := fun (k : Nat) => D.int ((0 : Int) + (k : Int))) (xs := List.range as.length) (y := as.length) (ys := List.range' (as.length + 1) bs.length) (by
      rw [← sp]; simp only [EVs, EVx, runX, runF, env0, List.map_cons, List.map_nil, List.length_cons, List.length_nil, List.cons_append, List.nil_append, Nat.reduceAdd, Nat.reduceSub, List.replicate_succ, List.replicate_zero, Option.bind_some, Option.bind_none, Option.elim_some, Option.elim_none, Option.map_some, List.set_cons_zero, List.set_cons_succ, List.getElem?_cons_zero, List.getElem?_cons_succ, if_true, Bool.false_eq_true, if_false, List.length_map]; exact rg1 (by omega)) (by
      intro i hi
      have hi : i < as.length := by simpa using hi
      have at1 : atI ((as ++ t :: bs).map D.int) (i : Int) = some (.int as[i]) := atI_ok (j := i) rfl (by rw [List.map_append, List.getElem?_append_left (by simpa using hi)]; simp [hi])
      have hz := h _ (List.getElem_mem hi)
      have m1 : decide (as[i] ∈ [(1 : Int), -1, 0]) = true := by simp; exact hz
      simp only [EVs, EVx, runX, runF, env0, List.map_cons, List.map_nil, List.length_cons, List.length_nil, List.cons_append, List.nil_append, Nat.reduceAdd, Nat.reduceSub, List.replicate_succ, List.replicate_zero, Option.bind_some, Option.bind_none, Option.elim_some, Option.elim_none, Option.map_some, List.set_cons_zero, List.set_cons_succ, List.getElem?_cons_zero, List.getElem?_cons_succ, if_true, Bool.false_eq_true, if_false, Int.zero_add, bd_eq, at1, ng, t3, not_in3, m1, Bool.not_true])
    (r := .tup [.str "NoSquare", .int (as.length : Int)]) (by
      have at1 : atI ((as ++ t :: bs).map D.int) (as.length : Int) = some (.int t) := atI_ok (j := as.length) rfl (by simp)
      have m1 : decide (t ∈ [(1 : Int), -1, 0]) = false := by simp only [Sq1, not_or] at ht; simp; exact ht
      simp only [EVs, EVx, runX, runF, env0, List.map_cons, List.map_nil, List.length_cons, List.length_nil, List.cons_append, List.nil_append, Nat.reduceAdd, Nat.reduceSub, List.replicate_succ, List.replicate_zero, Option.bind_some, Option.bind_none, Option.elim_some, Option.elim_none, Option.map_some, List.set_cons_zero, List.set_cons_succ, List.getElem?_cons_zero, List.getElem?_cons_succ, if_true, Bool.false_eq_true, if_false, Int.zero_add, bd_eq, at1, ng, t3, not_in3, m1, Bool.not_false, tup2])
  subst key
  simp only [EVs, EVx, runX, runF, env0, List.map_cons, List.map_nil, List.length_cons, List.length_nil, List.cons_append, List.nil_append, Nat.reduceAdd, Nat.reduceSub, List.replicate_succ, List.replicate_zero, Option.bind_some, Option.bind_none, Option.elim_some, Option.elim_none, Option.map_some, List.set_cons_zero, List.set_cons_succ, List.getElem?_cons_zero, List.getElem?_cons_succ, if_true, Bool.false_eq_true, if_false]
end Toy
set_option linter.all false
set_option maxRecDepth 100000
set_option maxHeartbeats 4000000
namespace Toy
open PySem L2 BV Ma
theorem pk3 {z : Int} (h : 0 ≤ z) : ∃ y : Int, (y = 1 ∨ y = -1 ∨ y = 0) ∧ atI [D.int 1, D.int (-1), D.int 0] (z % 3) = some (.int y) := by
  obtain ⟨y, hy, e⟩ := ints_at (ns := [1, -1, 0]) (i := z % 3) (by omega) (by simp; omega)
  exact ⟨y, by simpa using hy, e⟩
theorem picks_pf {I : LF} {ρ : BV.Env} {o : Option D} {xs : List Int} {F : EF} {vs : List Nat} {B : D → BV.Env → Option BV.Env} {T : TF} (hf : eLc I B T F vs ρ = o) (hi : I ρ = some (xs.map D.int)) (hl : xs.length ≤ 100) (h : ∀ x ∈ xs, ∃ y, el B T F (wipeE ρ vs) (.int x) = some (some (.int y))) : ∃ ys : List Int, ys.length = xs.length ∧ o = some (.lst (ys.map D.int)) := by
  classical
  have := lcM hf D.int (xs := xs) hi (by omega) (fun x => if q : x ∈ xs then Classical.choose (h x q) else 0) D.int (fun x hx => by
    rw [dif_pos hx]; exact Classical.choose_spec (h x hx))
  exact ⟨_, by simp, this⟩
noncomputable def listZ : SF := (sSeq (fun ρ => scr [2, 3] ((sIf (tO (tF (e2 gtD (e2 modD (e2 ixD (eV 0) (eC (.int 10))) (eC (.int 4))) (eC (.int 1)))) (tF (e2 eqD (e2 modD (e2 fdivD (e2 ixD (eV 0) (eC (.int 11))) (eC (.int 2))) (eC (.int 3))) (eC (.int 1)))))
 (sFor (iA rg1D (aCons (e2 addD (eC (.int 1)) (e2 modD (e2 ixD (eV 0) (eC (.int 11))) (eC (.int 2)))) aNil)) (bN 2)
  (fun ρ => scr [2, 3] ((fun ρ => scr [3] ((sIf (tF (e2 gtD (eN lenD (aCons (eW 1) aNil)) (eC (.int 0))))
 (sSeq (sAsg (e2 addD (eC (.int 2)) (e2 mulD (e2 ixD (eV 0) (e2 addD (eC (.int 12)) (eV 2))) (e2 powD (eC (.int 10)) (eC (.int 30))))) (bN 3))
  (sSet 1 (e2 modD (e2 ixD (eV 0) (e2 addD (eC (.int 14)) (eV 2))) (eN lenD (aCons (eW 1) aNil))) (e2 ixD (eN lstD (aCons (eC (.int 2)) (aCons (e1 negD (eC (.int 2))) (aCons (eV 3) (aCons (e2 subD (eC (.int 0)) (eV 3)) aNil))))) (e2 modD (e2 fdivD (e2 ixD (eV 0) (e2 addD (eC (.int 14)) (eV 2))) (eC (.int 9))) (eC (.int 4))))))
 sNil) ρ)) ρ)))
 sNil) ρ))
  (sRetO 1))
noncomputable def g_list' : SF := (sSeq (sOwn 1 (eLc (iE seqD (eSl (eV 0) oN (oS (e2 modD (e2 ixD (eV 0) (eC (.int 9))) (eC (.int 6)))))) (bN 4) tYesF (e2 ixD (eN lstD (aCons (eC (.int 1)) (aCons (e1 negD (eC (.int 1))) (aCons (eC (.int 0)) aNil)))) (e2 modD (eV 4) (eC (.int 3)))) [4]))
  (sSeq (fun ρ => scr [4] ((sIf (tF (e2 eqD (e2 modD (e2 ixD (eV 0) (eC (.int 10))) (eC (.int 4))) (eC (.int 1))))
 (sOwn 1 (eLc (iE seqD (eSl (eV 0) oN (oS (e2 addD (eC (.int 6)) (e2 modD (e2 fdivD (e2 ixD (eV 0) (eC (.int 10))) (eC (.int 4))) (eC (.int 4))))))) (bN 4) tYesF (e2 ixD (eN lstD (aCons (eC (.int 1)) (aCons (e1 negD (eC (.int 1))) (aCons (eC (.int 0)) aNil)))) (e2 modD (eV 4) (eC (.int 3)))) [4]))
 sNil) ρ))
  listZ))
theorem g_list_eq : g__law_list = g_list' := rfl
theorem listZ_pf {ns ys : List Int} (hn : Nums 16 ns) (hy : ys.length ≤ 16) : ∃ zs : List Int, zs.length ≤ 16 ∧ ∃ ρ, listZ [.f (.lst (ns.map D.int)), .o (.lst (ys.map D.int)), .u, .u, .u] = .rt (.lst (zs.map D.int)) ρ := by
  unfold listZ
  obtain ⟨z10, a10, b10, e10⟩ := nums_at hn (i := 10) (by omega) (by omega)
  obtain ⟨z11, a11, b11, e11⟩ := nums_at hn (i := 11) (by omega) (by omega)
  have M6 : ∀ a : Int, modD (.int a) (.int 6) = some (.int (a % 6)) := fun a => modD_ok (by decide)
  have M4 : ∀ a : Int, modD (.int a) (.int 4) = some (.int (a % 4)) := fun a => modD_ok (by decide)
  have M3 : ∀ a : Int, modD (.int a) (.int 3) = some (.int (a % 3)) := fun a => modD_ok (by decide)
  have M2 : ∀ a : Int, modD (.int a) (.int 2) = some (.int (a % 2)) := fun a => modD_ok (by decide)
  have F4 : ∀ a : Int, fdivD (.int a) (.int 4) = some (.int (a / 4)) := fun a => fdivD_64 (by decide) (by decide)
  have F2 : ∀ a : Int, fdivD (.int a) (.int 2) = some (.int (a / 2)) := fun a => fdivD_64 (by decide) (by decide)
  have F9 : ∀ a : Int, fdivD (.int a) (.int 9) = some (.int (a / 9)) := fun a => fdivD_64 (by decide) (by decide)
  have three : lstD [.int 1, .int (-1), .int 0] = some (.lst [.int 1, .int (-1), .int 0]) := lst_ok (by simp)
  have four : ∀ a b c d : D, lstD [a, b, c, d] = some (.lst [a, b, c, d]) := fun a b c d => lst_ok (by simp)
  have ng1 : negD (.int 1) = some (.int (-1)) := rfl
  have ng2 : negD (.int 2) = some (.int (-2)) := rfl
  have P30 : powD (.int 10) (.int 30) = some (.int (10 ^ 30)) := powD_ok (by decide) (by decide) (by decide)
  have cl : ∀ lo hi, (cutD ns lo hi).length ≤ 16 := fun lo hi => by have := cut_len ns lo hi; rw [hn.1] at this; exact this
  have mem : ∀ lo hi, ∀ z ∈ cutD ns lo hi, 0 ≤ z := fun lo hi z hz => (hn.2 z (List.mem_of_mem_drop (List.mem_of_mem_take hz))).1
  have ret : ∀ (zs : List Int) a b c, sRetO 1 [.f (.lst (ns.map D.int)), .o (.lst (zs.map D.int)), a, b, c] = .rt (.lst (zs.map D.int)) [.f (.lst (ns.map D.int)), .o (.lst (zs.map D.int)), a, b, c] := fun zs a b c => xRetO (i := 1) (ρ := _ :: _ :: _) rfl
  by_cases h : 1 < z10 % 4 ∨ z11 / 2 % 3 = 1
  · have hh : (if decide (1 < z10 % 4) = true then some true else some (decide (z11 / 2 % 3 = 1))) = some true := by
      rcases h with h | h <;> simp [h]
    simp only [EVs, EVx, runX, runF, env0, List.map_cons, List.map_nil, List.length_cons, List.length_nil, List.cons_append, List.nil_append, Nat.reduceAdd, Nat.reduceSub, List.replicate_succ, List.replicate_zero, Option.bind_some, Option.bind_none, Option.elim_some, Option.elim_none, Option.map_some, List.set_cons_zero, List.set_cons_succ, List.getElem?_cons_zero, List.getElem?_cons_succ, if_true, Bool.false_eq_true, if_false, e10, e11, M4, F2, M3, hh]
    generalize hf : sFor _ _ _ _ = fl
    obtain ⟨n, hn2, en⟩ : ∃ n : Nat, n ≤ 2 ∧ 1 + z11 % 2 = (n : Int) := ⟨(1 + z11 % 2).toNat, by omega, by omega⟩
    obtain ⟨ρ', rfl, zs, a, b, rfl, hz⟩ := forR hf (n := n) (by simp only [EVs, EVx, runX, runF, env0, List.map_cons, List.map_nil, List.length_cons, List.length_nil, List.cons_append, List.nil_append, Nat.reduceAdd, Nat.reduceSub, List.replicate_succ, List.replicate_zero, Option.bind_some, Option.bind_none, Option.elim_some, Option.elim_none, Option.map_some, List.set_cons_zero, List.set_cons_succ, List.getElem?_cons_zero, List.getElem?_cons_succ, if_true, Bool.false_eq_true, if_false, e11, M2, en]; exact rg1 (by omega))
      (fun i ρ => ∃ (zs : List Int) (a b : Sl), ρ = [.f (.lst (ns.map D.int)), .o (.lst (zs.map D.int)), a, b, .u] ∧ zs.length ≤ 16) ⟨ys, _, _, rfl, hy⟩ (by
        rintro i ρ hi ⟨zs, a, b, rfl, hz⟩
        obtain ⟨u, u0, u1, eu⟩ := nums_at hn (i := 12 + (i : Int)) (by omega) (by omega)
        obtain ⟨v, v0, v1, ev⟩ := nums_at hn (i := 14 + (i : Int)) (by omega) (by omega)
        have ml : mulD (.int u) (.int (10 ^ 30)) = some (.int (u * 10 ^ 30)) := mulD_ok (Nat.le_trans (bt_lt (show u.natAbs < 18446744073709551616 by omega)) (by decide)) (by decide +kernel)
        by_cases h0 : 0 < zs.length
        · have hc := decide_eq_true (show (0 : Int) < (zs.length : Int) by omega)
          have md : modD (.int v) (.int (zs.length : Int)) = some (.int (v % (zs.length : Int))) := modD_ok (by omega)
          have hm0 := Int.emod_nonneg v (show (zs.length : Int) ≠ 0 by omega)
          have hm1 := Int.emod_lt_of_pos v (show (0 : Int) < (zs.length : Int) by omega)
          obtain ⟨y, _, ey⟩ := ints_at (ns := [2, -2, 2 + u * 10 ^ 30, 0 - (2 + u * 10 ^ 30)]) (i := v / 9 % 4) (by omega) (by simp; omega)
          simp only [List.map_cons, List.map_nil] at ey
          obtain ⟨j, hj, ej⟩ : ∃ j : Nat, j < zs.length ∧ v % (zs.length : Int) = (j : Int) := ⟨(v % (zs.length : Int)).toNat, by omega, by omega⟩
          have st : setD (.lst (zs.map D.int)) (.int (j : Int)) (.int y) = some (.lst ((zs.set j y).map D.int)) := by
            unfold setD
            simp only
            rw [ixN_k (by rw [List.length_map]; exact hj), List.map_set]
            rfl
          refine ⟨[.f (.lst (ns.map D.int)), .o (.lst ((zs.set j y).map D.int)), .u, .u, .u], .inl ?_, _, _, _, rfl, by rw [List.length_set]; exact hz⟩
          simp only [EVs, EVx, runX, runF, env0, List.map_cons, List.map_nil, List.length_cons, List.length_nil, List.cons_append, List.nil_append, Nat.reduceAdd, Nat.reduceSub, List.replicate_succ, List.replicate_zero, Option.bind_some, Option.bind_none, Option.elim_some, Option.elim_none, Option.map_some, List.set_cons_zero, List.set_cons_succ, List.getElem?_cons_zero, List.getElem?_cons_succ, if_true, Bool.false_eq_true, if_false, bd_eq, List.length_map, hc, eu, ev, P30, ml, md, ng2, four, F9, M4, ey, xsSet (i := 1) (ρ := _ :: _ :: _) rfl, ej, st]
        · have hc := decide_eq_false (show ¬ (0 : Int) < (zs.length : Int) by omega)
          refine ⟨[.f (.lst (ns.map D.int)), .o (.lst (zs.map D.int)), .u, .u, .u], .inl ?_, _, _, _, rfl, hz⟩
          simp only [EVs, EVx, runX, runF, env0, List.map_cons, List.map_nil, List.length_cons, List.length_nil, List.cons_append, List.nil_append, Nat.reduceAdd, Nat.reduceSub, List.replicate_succ, List.replicate_zero, Option.bind_some, Option.bind_none, Option.elim_some, Option.elim_none, Option.map_some, List.set_cons_zero, List.set_cons_succ, List.getElem?_cons_zero, List.getElem?_cons_succ, if_true, Bool.false_eq_true, if_false, bd_eq, List.length_map, hc])
    simp only [EVs, EVx, runX, runF, env0, List.map_cons, List.map_nil, List.length_cons, List.length_nil, List.cons_append, List.nil_append, Nat.reduceAdd, Nat.reduceSub, List.replicate_succ, List.replicate_zero, Option.bind_some, Option.bind_none, Option.elim_some, Option.elim_none, Option.map_some, List.set_cons_zero, List.set_cons_succ, List.getElem?_cons_zero, List.getElem?_cons_succ, if_true, Bool.false_eq_true, if_false, ret]
    exact ⟨zs, hz, _, rfl⟩
  · simp only [EVs, EVx, runX, runF, env0, List.map_cons, List.map_nil, List.length_cons, List.length_nil, List.cons_append, List.nil_append, Nat.reduceAdd, Nat.reduceSub, List.replicate_succ, List.replicate_zero, Option.bind_some, Option.bind_none, Option.elim_some, Option.elim_none, Option.map_some, List.set_cons_zero, List.set_cons_succ, List.getElem?_cons_zero, List.getElem?_cons_succ, if_true, Bool.false_eq_true, if_false, e10, e11, M4, F2, M3, decide_eq_false (show ¬ 1 < z10 % 4 from fun q => h (.inl q)), decide_eq_false (show ¬ z11 / 2 % 3 = 1 from fun q => h (.inr q)), ret]
    exact ⟨ys, hy, _, rfl⟩
theorem list_pf {ns : List Int} (hn : Nums 16 ns) : ∃ ys : List Int, ys.length ≤ 16 ∧ pf__law_list [.lst (ns.map D.int)] = some (.lst (ys.map D.int)) := by
  unfold pf__law_list
  rw [g_list_eq]
  unfold g_list'
  obtain ⟨z9, a9, b9, e9⟩ := nums_at hn (i := 9) (by omega) (by omega)
  obtain ⟨z10, a10, b10, e10⟩ := nums_at hn (i := 10) (by omega) (by omega)
  obtain ⟨z11, a11, b11, e11⟩ := nums_at hn (i := 11) (by omega) (by omega)
  have M6 : ∀ a : Int, modD (.int a) (.int 6) = some (.int (a % 6)) := fun a => modD_ok (by decide)
  have M4 : ∀ a : Int, modD (.int a) (.int 4) = some (.int (a % 4)) := fun a => modD_ok (by decide)
  have M3 : ∀ a : Int, modD (.int a) (.int 3) = some (.int (a % 3)) := fun a => modD_ok (by decide)
  have M2 : ∀ a : Int, modD (.int a) (.int 2) = some (.int (a % 2)) := fun a => modD_ok (by decide)
  have F4 : ∀ a : Int, fdivD (.int a) (.int 4) = some (.int (a / 4)) := fun a => fdivD_64 (by decide) (by decide)
  have F2 : ∀ a : Int, fdivD (.int a) (.int 2) = some (.int (a / 2)) := fun a => fdivD_64 (by decide) (by decide)
  have F9 : ∀ a : Int, fdivD (.int a) (.int 9) = some (.int (a / 9)) := fun a => fdivD_64 (by decide) (by decide)
  have three : lstD [.int 1, .int (-1), .int 0] = some (.lst [.int 1, .int (-1), .int 0]) := lst_ok (by simp)
  have four : ∀ a b c d : D, lstD [a, b, c, d] = some (.lst [a, b, c, d]) := fun a b c d => lst_ok (by simp)
  have ng1 : negD (.int 1) = some (.int (-1)) := rfl
  have ng2 : negD (.int 2) = some (.int (-2)) := rfl
  have P30 : powD (.int 10) (.int 30) = some (.int (10 ^ 30)) := powD_ok (by decide) (by decide) (by decide)
  have cl : ∀ lo hi, (cutD ns lo hi).length ≤ 16 := fun lo hi => by have := cut_len ns lo hi; rw [hn.1] at this; exact this
  have mem : ∀ lo hi, ∀ z ∈ cutD ns lo hi, 0 ≤ z := fun lo hi z hz => (hn.2 z (List.mem_of_mem_drop (List.mem_of_mem_take hz))).1
  have pick : ∀ lo hi (x : Int), x ∈ cutD ns lo hi → ∃ y : Int, el (bN 4) tYesF (e2 ixD (eN lstD (aCons (eC (D.int 1)) (aCons (e1 negD (eC (D.int 1))) (aCons (eC (D.int 0)) aNil)))) (e2 modD (eV 4) (eC (D.int 3)))) [.f (.lst (ns.map D.int)), .u, .u, .u, .u] (.int x) = some (some (.int y)) := fun lo hi x hx => by
    obtain ⟨y, _, e⟩ := pk3 (mem lo hi x hx)
    exact ⟨y, by simp only [EVs, EVx, runX, runF, env0, List.map_cons, List.map_nil, List.length_cons, List.length_nil, List.cons_append, List.nil_append, Nat.reduceAdd, Nat.reduceSub, List.replicate_succ, List.replicate_zero, Option.bind_some, Option.bind_none, Option.elim_some, Option.elim_none, Option.map_some, List.set_cons_zero, List.set_cons_succ, List.getElem?_cons_zero, List.getElem?_cons_succ, if_true, Bool.false_eq_true, if_false, el, tYesF, ng1, three, M3, e]⟩
  have pick2 : ∀ (d : D) lo hi (x : Int), x ∈ cutD ns lo hi → ∃ y : Int, el (bN 4) tYesF (e2 ixD (eN lstD (aCons (eC (D.int 1)) (aCons (e1 negD (eC (D.int 1))) (aCons (eC (D.int 0)) aNil)))) (e2 modD (eV 4) (eC (D.int 3)))) [.f (.lst (ns.map D.int)), .o d, .u, .u, .u] (.int x) = some (some (.int y)) := fun d lo hi x hx => by
    obtain ⟨y, _, e⟩ := pk3 (mem lo hi x hx)
    exact ⟨y, by simp only [EVs, EVx, runX, runF, env0, List.map_cons, List.map_nil, List.length_cons, List.length_nil, List.cons_append, List.nil_append, Nat.reduceAdd, Nat.reduceSub, List.replicate_succ, List.replicate_zero, Option.bind_some, Option.bind_none, Option.elim_some, Option.elim_none, Option.map_some, List.set_cons_zero, List.set_cons_succ, List.getElem?_cons_zero, List.getElem?_cons_succ, if_true, Bool.false_eq_true, if_false, el, tYesF, ng1, three, M3, e]⟩
  simp only [EVs, EVx, runX, runF, env0, List.map_cons, List.map_nil, List.length_cons, List.length_nil, List.cons_append, List.nil_append, Nat.reduceAdd, Nat.reduceSub, List.replicate_succ, List.replicate_zero, Option.bind_some, Option.bind_none, Option.elim_some, Option.elim_none, Option.map_some, List.set_cons_zero, List.set_cons_succ, List.getElem?_cons_zero, List.getElem?_cons_succ, if_true, Bool.false_eq_true, if_false]
  generalize hg : eLc _ _ _ _ _ _ = o
  obtain ⟨ys, hl, rfl⟩ := picks_pf hg (xs := cutD ns none (some (z9 % 6))) (by simp only [EVs, EVx, runX, runF, env0, List.map_cons, List.map_nil, List.length_cons, List.length_nil, List.cons_append, List.nil_append, Nat.reduceAdd, Nat.reduceSub, List.replicate_succ, List.replicate_zero, Option.bind_some, Option.bind_none, Option.elim_some, Option.elim_none, Option.map_some, List.set_cons_zero, List.set_cons_succ, List.getElem?_cons_zero, List.getElem?_cons_succ, if_true, Bool.false_eq_true, if_false, eSl, oN, oS, e9, M6, sl_li]) (by have := cl none (some (z9 % 6)); omega) (fun x hx => pick _ _ x hx)
  have hy : ys.length ≤ 16 := by rw [hl]; exact cl _ _
  have ct : isCt (.lst (ys.map D.int)) = true := rfl
  by_cases h : z10 % 4 = 1
  · simp only [EVs, EVx, runX, runF, env0, List.map_cons, List.map_nil, List.length_cons, List.length_nil, List.cons_append, List.nil_append, Nat.reduceAdd, Nat.reduceSub, List.replicate_succ, List.replicate_zero, Option.bind_some, Option.bind_none, Option.elim_some, Option.elim_none, Option.map_some, List.set_cons_zero, List.set_cons_succ, List.getElem?_cons_zero, List.getElem?_cons_succ, if_true, Bool.false_eq_true, if_false, ct, e10, M4, decide_eq_true h]
    generalize hg2 : eLc _ _ _ _ _ _ = o2
    obtain ⟨ys2, hl2, rfl⟩ := picks_pf hg2 (xs := cutD ns none (some (6 + z10 / 4 % 4))) (by simp only [EVs, EVx, runX, runF, env0, List.map_cons, List.map_nil, List.length_cons, List.length_nil, List.cons_append, List.nil_append, Nat.reduceAdd, Nat.reduceSub, List.replicate_succ, List.replicate_zero, Option.bind_some, Option.bind_none, Option.elim_some, Option.elim_none, Option.map_some, List.set_cons_zero, List.set_cons_succ, List.getElem?_cons_zero, List.getElem?_cons_succ, if_true, Bool.false_eq_true, if_false, eSl, oN, oS, e10, M4, F4, sl_li]) (by have := cl none (some (6 + z10 / 4 % 4)); omega) (fun x hx => pick2 _ _ _ x hx)
    have hy2 : ys2.length ≤ 16 := by rw [hl2]; exact cl _ _
    have ct2 : isCt (.lst (ys2.map D.int)) = true := rfl
    obtain ⟨zs, hz, ρ, e⟩ := listZ_pf hn hy2
    simp only [EVs, EVx, runX, runF, env0, List.map_cons, List.map_nil, List.length_cons, List.length_nil, List.cons_append, List.nil_append, Nat.reduceAdd, Nat.reduceSub, List.replicate_succ, List.replicate_zero, Option.bind_some, Option.bind_none, Option.elim_some, Option.elim_none, Option.map_some, List.set_cons_zero, List.set_cons_succ, List.getElem?_cons_zero, List.getElem?_cons_succ, if_true, Bool.false_eq_true, if_false, ct2, e]
    exact ⟨zs, hz, rfl⟩
  · obtain ⟨zs, hz, ρ, e⟩ := listZ_pf hn hy
    simp only [EVs, EVx, runX, runF, env0, List.map_cons, List.map_nil, List.length_cons, List.length_nil, List.cons_append, List.nil_append, Nat.reduceAdd, Nat.reduceSub, List.replicate_succ, List.replicate_zero, Option.bind_some, Option.bind_none, Option.elim_some, Option.elim_none, Option.map_some, List.set_cons_zero, List.set_cons_succ, List.getElem?_cons_zero, List.getElem?_cons_succ, if_true, Bool.false_eq_true, if_false, ct, e10, M4, decide_eq_false h, e]
    exact ⟨zs, hz, rfl⟩
end Toy
set_option linter.all false
set_option maxRecDepth 100000
set_option maxHeartbeats 4000000
namespace Toy
open PySem L2 BV Ma
theorem sx_good (sq : List Int) (h : sq.length ≤ 1000) : SX 2 (.tup [.int sq.length, tuD sq]) := sx_two (sx_int 1 _) (sx_tu' sq h)
theorem eq_cntE : eqD (.str "NoCount") (.str "") = some (.bl false) := by
  have h1 : D.str "NoCount" = sD [78, 111, 67, 111, 117, 110, 116] := congrArg D.str (tS_of (by decide +kernel))
  rw [h1, s_empty]
  have := eq_sD (a := [78, 111, 67, 111, 117, 110, 116]) (b := []) (asc_lit (by decide)) (asc_lit (by decide))
  rwa [decide_eq_false (by decide)] at this
theorem eq_sqE : eqD (.str "NoSquare") (.str "") = some (.bl false) := by
  have h1 : D.str "NoSquare" = sD [78, 111, 83, 113, 117, 97, 114, 101] := congrArg D.str (tS_of (by decide +kernel))
  rw [h1, s_empty]
  have := eq_sD (a := [78, 111, 83, 113, 117, 97, 114, 101]) (b := []) (asc_lit (by decide)) (asc_lit (by decide))
  rwa [decide_eq_false (by decide)] at this
theorem agree01 {ns : List Int} (hl : ns.length ≤ 16) : ∃ R, pf__law_asked_v9 [.lst (ns.map D.int)] = some R ∧ pf__law_due_v9 [.lst (ns.map D.int)] = some R ∧ pf__law_same [R, R] = some (.bl true) ∧ imm R = true ∧
    ((∃ a b, R = .tup [a, b] ∧ eqD a (.str "") = some (.bl false)) ∨ (SqV ns ∧ R = .tup [.str "", .tup [.int ns.length, tuD ns]])) := by
  by_cases h : 5 < ns.length
  · exact ⟨_, asked9_cnt h, due9_cnt h, same_two (n := 0) (by decide) (sx_str 0 (by decide +kernel)) (sx_non 0), by decide +kernel, .inl ⟨_, _, rfl, eq_cntE⟩⟩
  · rcases split_first Sq1 ns with g | ⟨as, t, bs, rfl, h1, h2⟩
    · have hs : SqV ns := ⟨by omega, g⟩
      refine ⟨_, asked9_good hs, due9_good hs, same_two (n := 2) (by decide) (sx_str 2 (by decide +kernel)) (sx_good ns (by omega)), ?_, .inr ⟨hs, rfl⟩⟩
      show (true && ((true && (immL (ns.map D.int) && true)) && true)) = true
      have : ∀ ns : List Int, immL (ns.map D.int) = true := fun ns => by
        induction ns with
        | nil => rfl
        | cons z ns ih => show (true && immL (ns.map D.int)) = true; rw [ih]; rfl
      rw [this]; rfl
    · have hn : ¬ SqV (as ++ t :: bs) := fun q => h2 (q.2 t (by simp))
      exact ⟨_, asked9_sq h hn (fi_split h2 h1), due9_sq h h1 h2, same_two (n := 0) (by decide) (sx_str 0 (by decide +kernel)) (sx_int 0 _), rfl, .inl ⟨_, _, rfl, eq_sqE⟩⟩
theorem law01_pf (ns : List Int) (hns : ns.length ≤ 63) : pf_law_v23 [.ks (ns.map D.int)] = some (.bl true) := by
  unfold pf_law_v23 g_law_v23
  have k01 : kindD [.lst [.int 0, .int 1]] = some (.kind [0, 1]) := kind_pf (sq := [0, 1]) ⟨by simp, by simp⟩
  have two : lstD [.int 0, .int 1] = some (.lst [.int 0, .int 1]) := lst_ok (by simp)
  simp only [EVs, EVx, runX, runF, env0, List.map_cons, List.map_nil, List.length_cons, List.length_nil, List.cons_append, List.nil_append, Nat.reduceAdd, Nat.reduceSub, List.replicate_succ, List.replicate_zero, Option.bind_some, Option.bind_none, Option.elim_some, Option.elim_none, Option.map_some, List.set_cons_zero, List.set_cons_succ, List.getElem?_cons_zero, List.getElem?_cons_succ, if_true, Bool.false_eq_true, if_false, k01, two]
  generalize hf : sFor _ _ _ _ = fl
  have cl := cut_len ns none (some 20)
  obtain ⟨ρ', rfl, d, rfl⟩ := forL hf D.int (xs := [0, 4] ++ cutD ns none (some 20)) (by
      simp only [EVs, EVx, runX, runF, env0, List.map_cons, List.map_nil, List.length_cons, List.length_nil, List.cons_append, List.nil_append, Nat.reduceAdd, Nat.reduceSub, List.replicate_succ, List.replicate_zero, Option.bind_some, Option.bind_none, Option.elim_some, Option.elim_none, Option.map_some, List.set_cons_zero, List.set_cons_succ, List.getElem?_cons_zero, List.getElem?_cons_succ, if_true, Bool.false_eq_true, if_false, eSl, oS, oN, sl_ks, lst_ok (ds := [D.int 0, D.int 4]) (by simp), addL (a := [D.int 0, D.int 4]) (b := (cutD ns none (some 20)).map D.int) (by simp; omega)])
    (fun _ ρ => ∃ d, ρ = [.f (.ks (ns.map D.int)), .f (.kind [0, 1]), .u, .u, d, .u, .u]) ⟨_, rfl⟩ (by
      rintro i z ρ hk ⟨d0, rfl⟩
      obtain ⟨ms, hm, em⟩ := numbers_pf z (n := 16) (by omega)
      have em1 : pf__law_numbers [.int z, .int 16] = some (.lst (ms.map D.int)) := em
      obtain ⟨ys, hy, ey⟩ := list_pf hm
      obtain ⟨R, e1, e2, e3, e4, e5⟩ := agree01 hy
      have li : listD [.lst (ys.map D.int)] = some (.lst (ys.map D.int)) := rfl
      have ig : imG pf__law_asked_v9 [.lst (ys.map D.int)] = some R := by
        unfold imG; rw [e1]; simp [e4]
      have ct : isCt (.lst (ys.map D.int)) = true := rfl
      have sdr : SD 1 (.lst (ys.map D.int)) := by
        refine .inr ⟨_, .inr rfl, by simp; omega, fun x hx => ?_⟩
        obtain ⟨w, _, rfl⟩ := List.mem_map.mp hx
        exact ⟨w, rfl⟩
      have ne : neD (.lst (ys.map D.int)) (.lst (ys.map D.int)) = some (.bl false) := by unfold neD; rw [sd_eq (by decide) sdr]; rfl
      rcases e5 with ⟨a, b, rfl, hab⟩ | ⟨hs, rfl⟩
      · refine ⟨[.f (.ks (ns.map D.int)), .f (.kind [0, 1]), .u, .u, .u, .u, .u], .inl ?_, _, rfl⟩
        simp only [EVs, EVx, runX, runF, env0, List.map_cons, List.map_nil, List.length_cons, List.length_nil, List.cons_append, List.nil_append, Nat.reduceAdd, Nat.reduceSub, List.replicate_succ, List.replicate_zero, Option.bind_some, Option.bind_none, Option.elim_some, Option.elim_none, Option.map_some, List.set_cons_zero, List.set_cons_succ, List.getElem?_cons_zero, List.getElem?_cons_succ, if_true, Bool.false_eq_true, if_false, bd_eq, em1, ey, li, ct, e2, ig, e3, ne, Bool.not_true, hab]
      · have l : (ys.map D.int).length < LN := by rw [List.length_map]; show ys.length < 1048576; omega
        have ea : ∀ d, gApp (ys.map D.int) [d] = some (ys.map D.int ++ [d], .non) := fun d => gApp_ok l
        have sg : pf__law_same [.tup [.int ys.length, tuD ys], .tup [.int ys.length, tuD ys]] = some (.bl true) := same_two (n := 1) (by decide) (sx_int 1 _) (sx_tu' ys (by omega))
        have ee : eqD (.str "") (.str "") = some (.bl true) := eq_strS (by decide +kernel)
        have ts : D.tup (ys.map D.int) = tuD ys := rfl
        refine ⟨[.f (.ks (ns.map D.int)), .f (.kind [0, 1]), .u, .u, .u, .u, .u], .inl ?_, _, rfl⟩
        simp only [EVs, EVx, runX, runF, env0, List.map_cons, List.map_nil, List.length_cons, List.length_nil, List.cons_append, List.nil_append, Nat.reduceAdd, Nat.reduceSub, List.replicate_succ, List.replicate_zero, Option.bind_some, Option.bind_none, Option.elim_some, Option.elim_none, Option.map_some, List.set_cons_zero, List.set_cons_succ, List.getElem?_cons_zero, List.getElem?_cons_succ, if_true, Bool.false_eq_true, if_false, bd_eq, em1, ey, li, ct, e2, ig, e3, ne, Bool.not_true, ee, kind_pf hs, xL_eq (i := 4) (ρ := _ :: _ :: _ :: _ :: _ :: _) rfl, ea, cnt_kind, sqrD, tup2, ts, sg])
  have c2 : cntD (.kind [0, 1]) = some (.int 2) := rfl
  have s2 : sqrD (.kind [0, 1]) = some (.tup [.int 0, .int 1]) := rfl
  have q2 : eqD (.tup [.int 0, .int 1]) (.tup [.int 0, .int 1]) = some (.bl true) := by
    have sdr : SD 1 (.tup [.int 0, .int 1]) := .inr ⟨_, .inl rfl, by simp, fun x hx => by
      simp only [List.mem_cons, List.not_mem_nil, or_false] at hx
      rcases hx with rfl | rfl <;> exact ⟨_, rfl⟩⟩
    unfold eqD; rw [sd_eq (by decide) sdr]; rfl
  simp only [EVs, EVx, runX, runF, env0, List.map_cons, List.map_nil, List.length_cons, List.length_nil, List.cons_append, List.nil_append, Nat.reduceAdd, Nat.reduceSub, List.replicate_succ, List.replicate_zero, Option.bind_some, Option.bind_none, Option.elim_some, Option.elim_none, Option.map_some, List.set_cons_zero, List.set_cons_succ, List.getElem?_cons_zero, List.getElem?_cons_succ, if_true, Bool.false_eq_true, if_false, c2, s2, tup2, q2, decide_true]
end Toy
set_option linter.all false
set_option maxRecDepth 100000
set_option maxHeartbeats 4000000
namespace Toy
open PySem L2
def top (i : Nat) : Stmt := PySem.Challenge.pw_signsteps_k01_kinds.main.body.getD i (.Pass ⟨0, 0, 0, 0⟩)
abbrev s_StepError_init : Stmt := inClass (top 1) 0
abbrev s_NoSquare_init : Stmt := inClass (top 14) 0
abbrev s_is_whole : Stmt := top 26
abbrev s_is_square : Stmt := top 29
abbrev s_Kind_init : Stmt := inClass (top 30) 0
abbrev s__law_mixed : Stmt := top 33
abbrev s__law_same : Stmt := top 35
abbrev s__law_numbers : Stmt := top 36
abbrev s__law_class : Stmt := top 37
abbrev s__law_list : Stmt := top 38
abbrev s__law_asked : Stmt := top 39
abbrev s__law_due : Stmt := top 40
abbrev s_law : Stmt := top 41
end Toy
namespace Toy
open PySem L2 BV
theorem sc_is_whole : FnScope ["number"] ["number"] (defScope s_is_whole) := ⟨rfl, rfl, rfl, by decide +kernel, rfl, by decide +kernel, by decide +kernel⟩
theorem v_is_whole {P : Program} {w : World} {K : PySem.W.Frag} {mg : Str → Option Value} {base : Heap} {C : Addr} (d : Df K mg "is_whole" s_is_whole ["number"]) (B : Bi mg) : Ct P w K mg base 1 "is_whole" ["number"] (spV ⟨K, mg, C⟩ .f 1 pf_is_whole) := by
  refine val_of (N := ["number"]) d sc_is_whole (by decide) ?_
  intro f cdv A outer s H E hr
  have nd := sc_is_whole.nd
  have hu := hu_of hr
  exact ⟨_, (SsV.one (SV.ret (by decide) (EV.and (EV.cb (cv_isi' K) (by rfl) B.isinstance (by decide +kernel) (AV.cons (EV.v 0 (pv 0)) (AV.cons (EV.ty (T := "int") (by rfl) B.int (by decide +kernel)) AV.nil))) (EV.one (EV.not (EV.cb (cv_isi' K) (by rfl) B.isinstance (by decide +kernel) (AV.cons (EV.v 0 (pv 0)) (AV.cons (EV.ty (T := "bool") (by rfl) B.bool (by decide +kernel)) AV.nil))))))))⟩
theorem sc_is_square : FnScope ["number"] ["number"] (defScope s_is_square) := ⟨rfl, rfl, rfl, by decide +kernel, rfl, by decide +kernel, by decide +kernel⟩
theorem v_is_square {P : Program} {w : World} {K : PySem.W.Frag} {mg : Str → Option Value} {base : Heap} {C : Addr} (d : Df K mg "is_square" s_is_square ["number"]) (B : Bi mg) (c_is_whole : Ct P w K mg base 1 "is_whole" ["number"] (spV ⟨K, mg, C⟩ .f 1 pf_is_whole)) : Ct P w K mg base 2 "is_square" ["number"] (spV ⟨K, mg, C⟩ .f 1 pf_is_square) := by
  refine val_of (N := ["number"]) d sc_is_square (by decide) ?_
  intro f cdv A outer s H E hr
  have nd := sc_is_square.nd
  have hu := hu_of hr
  exact ⟨_, (SsV.one (SV.ret (by decide) (EV.and (EV.call' K mg c_is_whole (hr.mono (by omega)) (by rfl) (BV.cons (EV.v 0 (pv 0)) BV.nil) (LenN.cons LenN.nil)) (EV.one (EV.chain ov_le ov_le (EV.neg EV.int) (EV.v 0 (pv 0)) EV.int)))))⟩
theorem sc__law_same : FnScope ["_law_found", "_law_due_here", "_law_k"] ["_law_found", "_law_due_here"] (defScope s__law_same) := ⟨rfl, rfl, rfl, by decide +kernel, rfl, by decide +kernel, by decide +kernel⟩
theorem vn__law_same {P : Program} {w : World} {K : PySem.W.Frag} {mg : Str → Option Value} {base : Heap} {C : Addr} (d : Df K mg "_law_same" s__law_same ["_law_found", "_law_due_here"]) (B : Bi mg) : ∀ n : Nat, Ct P w K mg base (n + 1) "_law_same" ["_law_found", "_law_due_here"] (spV ⟨K, mg, C⟩ .f 2 (pfN__law_same n))
  | 0 => by
    refine ct_none (val_of (k := 0) (C := C) (m := .f) (G := sNo) (N := ["_law_found", "_law_due_here", "_law_k"]) d sc__law_same (by decide) ?_)
    intro f cdv A outer s H E hr
    exact ⟨_, ⟨pss_never, vs_no⟩⟩
  | n + 1 => by
    have c__law_same := vn__law_same (P := P) (w := w) (base := base) (C := C) d B n
    refine (val_of (k := n + 1) (G := g__law_same (pfN__law_same n)) (N := ["_law_found", "_law_due_here", "_law_k"]) d sc__law_same (by decide) ?_).mono (by omega)
    intro f cdv A outer s H E hr
    have nd := sc__law_same.nd
    have hu := hu_of hr
    exact ⟨_, (SsV.cons (SV.scr [2] (by decide) (SV.ite (WV.tv (WV.or (TV.tru' K (EV.cb (cv_isi' K) (by rfl) B.isinstance (by decide +kernel) (AV.cons (EV.v 1 (pv 1)) (AV.cons (EV.ty (T := "tuple") (by rfl) B.tuple (by decide +kernel)) AV.nil)))) (WV.or1 (TV.tru' K (EV.cb (cv_isi' K) (by rfl) B.isinstance (by decide +kernel) (AV.cons (EV.v 1 (pv 1)) (AV.cons (EV.ty (T := "list") (by rfl) B.list (by decide +kernel)) AV.nil)))))))
 (SsV.cons (SV.ite (WV.tv (WV.or (TV.cmp (ov_ne' K hr.units) (EV.cb (cv_isi' K) (by rfl) B.isinstance (by decide +kernel) (AV.cons (EV.v 0 (pv 0)) (AV.cons (EV.ty (T := "tuple") (by rfl) B.tuple (by decide +kernel)) AV.nil))) (EV.cb (cv_isi' K) (by rfl) B.isinstance (by decide +kernel) (AV.cons (EV.v 1 (pv 1)) (AV.cons (EV.ty (T := "tuple") (by rfl) B.tuple (by decide +kernel)) AV.nil))) (nomark _)) (WV.or1 (TV.cmp (ov_ne' K hr.units) (EV.cb (cv_isi' K) (by rfl) B.isinstance (by decide +kernel) (AV.cons (EV.v 0 (pv 0)) (AV.cons (EV.ty (T := "list") (by rfl) B.list (by decide +kernel)) AV.nil))) (EV.cb (cv_isi' K) (by rfl) B.isinstance (by decide +kernel) (AV.cons (EV.v 1 (pv 1)) (AV.cons (EV.ty (T := "list") (by rfl) B.list (by decide +kernel)) AV.nil))) (nomark _)))))
 (SsV.one (SV.ret (by decide) EV.bl))
 SsV.nil)
  (SsV.cons (SV.ite (TV.cmp (ov_ne' K hr.units) (EV.cb (cv_len' K) (by rfl) B.len (by decide +kernel) (AV.cons (EV.v 0 (pv 0)) AV.nil)) (EV.cb (cv_len' K) (by rfl) B.len (by decide +kernel) (AV.cons (EV.v 1 (pv 1)) AV.nil)) (nomark _))
 (SsV.one (SV.ret (by decide) EV.bl))
 SsV.nil)
  (SsV.cons (SV.fo PassesOwn.never rfl (IV.rng1 (by rfl) B.range (AV.cons (EV.cb (cv_len' K) (by rfl) B.len (by decide +kernel) (AV.cons (EV.v 1 (pv 1)) AV.nil)) AV.nil)) (GV.name 2 (pg_name nd rfl (Or.inl rfl)))
  (SsV.scr [2] (by decide) (SsV.one (SV.ite (TV.nt (TV.tru' K (EV.call' K mg c__law_same (hr.mono (by omega)) (by rfl) (BV.cons (EV.ix' K hu (EV.v 0 (pv 0)) (EV.v 2 (pv 2)) (fun _ _ => rfl)) (BV.cons (EV.ix' K hu (EV.v 1 (pv 1)) (EV.v 2 (pv 2)) (fun _ _ => rfl)) BV.nil)) (LenN.cons (LenN.cons LenN.nil)))))
 (SsV.one (SV.ret (by decide) EV.bl))
 SsV.nil))) (by decide))
  (SsV.one (SV.ret (by decide) EV.bl)))))
 SsV.nil))
  (SsV.cons (SV.ite (TV.tru' K (EV.cb (cv_isi' K) (by rfl) B.isinstance (by decide +kernel) (AV.cons (EV.v 1 (pv 1)) (AV.cons (EV.ty (T := "bool") (by rfl) B.bool (by decide +kernel)) AV.nil))))
 (SsV.one (SV.ret (by decide) (EV.and (EV.cb (cv_isi' K) (by rfl) B.isinstance (by decide +kernel) (AV.cons (EV.v 0 (pv 0)) (AV.cons (EV.ty (T := "bool") (by rfl) B.bool (by decide +kernel)) AV.nil))) (EV.one (EV.cmp (ov_eq' K hr.units) (EV.v 0 (pv 0)) (EV.v 1 (pv 1)) (nomark _))))))
 SsV.nil)
  (SsV.cons (SV.ite (TV.tru' K (EV.cb (cv_isi' K) (by rfl) B.isinstance (by decide +kernel) (AV.cons (EV.v 1 (pv 1)) (AV.cons (EV.ty (T := "int") (by rfl) B.int (by decide +kernel)) AV.nil))))
 (SsV.one (SV.ret (by decide) (EV.and (EV.cb (cv_isi' K) (by rfl) B.isinstance (by decide +kernel) (AV.cons (EV.v 0 (pv 0)) (AV.cons (EV.ty (T := "int") (by rfl) B.int (by decide +kernel)) AV.nil))) (EV.and (EV.not (EV.cb (cv_isi' K) (by rfl) B.isinstance (by decide +kernel) (AV.cons (EV.v 0 (pv 0)) (AV.cons (EV.ty (T := "bool") (by rfl) B.bool (by decide +kernel)) AV.nil)))) (EV.one (EV.cmp (ov_eq' K hr.units) (EV.v 0 (pv 0)) (EV.v 1 (pv 1)) (nomark _)))))))
 SsV.nil)
  (SsV.cons (SV.ite (TV.tru' K (EV.cb (cv_isi' K) (by rfl) B.isinstance (by decide +kernel) (AV.cons (EV.v 1 (pv 1)) (AV.cons (EV.ty (T := "str") (by rfl) B.str (by decide +kernel)) AV.nil))))
 (SsV.one (SV.ret (by decide) (EV.and (EV.cb (cv_isi' K) (by rfl) B.isinstance (by decide +kernel) (AV.cons (EV.v 0 (pv 0)) (AV.cons (EV.ty (T := "str") (by rfl) B.str (by decide +kernel)) AV.nil))) (EV.one (EV.cmp (ov_eq' K hr.units) (EV.v 0 (pv 0)) (EV.v 1 (pv 1)) (nomark _))))))
 SsV.nil)
  (SsV.one (SV.ret (by decide) (EV.and (EV.cmp ov_isN (EV.v 1 (pv 1)) EV.non (nomark _)) (EV.one (EV.cmp ov_isN (EV.v 0 (pv 0)) EV.non (nomark _))))))))))⟩
theorem v__law_same {P : Program} {w : World} {K : PySem.W.Frag} {mg : Str → Option Value} {base : Heap} {C : Addr} (d : Df K mg "_law_same" s__law_same ["_law_found", "_law_due_here"]) (B : Bi mg) : Ct P w K mg base 9 "_law_same" ["_law_found", "_law_due_here"] (spV ⟨K, mg, C⟩ .f 2 pf__law_same) := vn__law_same d B 8
theorem sc__law_class : FnScope ["_law_e", "_law_found", "_law_words", "_law_one"] ["_law_e"] (defScope s__law_class) := ⟨rfl, rfl, rfl, by decide +kernel, rfl, by decide +kernel, by decide +kernel⟩
theorem v__law_class {P : Program} {w : World} {K : PySem.W.Frag} {mg : Str → Option Value} {base : Heap} {C : Addr} (d : Df K mg "_law_class" s__law_class ["_law_e"]) (B : Bi mg) (hVE : mg "ValueError" = none) (XT : XTab K mg xtb_k01) (VT : VTab K mg xcs_k01) (nm_StepError : ∃ f, mg "StepError" = some (.ref f)) (nm_NoWord : ∃ f, mg "NoWord" = some (.ref f)) (nm_NoVector : ∃ f, mg "NoVector" = some (.ref f)) (nm_NoUndo : ∃ f, mg "NoUndo" = some (.ref f)) (nm_NoText : ∃ f, mg "NoText" = some (.ref f)) (nm_NoTable : ∃ f, mg "NoTable" = some (.ref f)) (nm_NoSum : ∃ f, mg "NoSum" = some (.ref f)) (nm_NoStep : ∃ f, mg "NoStep" = some (.ref f)) (nm_NoSquare : ∃ f, mg "NoSquare" = some (.ref f)) (nm_NoProduct : ∃ f, mg "NoProduct" = some (.ref f)) (nm_NoPartner : ∃ f, mg "NoPartner" = some (.ref f)) (nm_NoName : ∃ f, mg "NoName" = some (.ref f)) (nm_NoMirror : ∃ f, mg "NoMirror" = some (.ref f)) (nm_NoLine : ∃ f, mg "NoLine" = some (.ref f)) (nm_NoKind : ∃ f, mg "NoKind" = some (.ref f)) (nm_NoKeep : ∃ f, mg "NoKeep" = some (.ref f)) (nm_NoHalves : ∃ f, mg "NoHalves" = some (.ref f)) (nm_NoGrade : ∃ f, mg "NoGrade" = some (.ref f)) (nm_NoFull : ∃ f, mg "NoFull" = some (.ref f)) (nm_NoEven : ∃ f, mg "NoEven" = some (.ref f)) (nm_NoCross : ∃ f, mg "NoCross" = some (.ref f)) (nm_NoCount : ∃ f, mg "NoCount" = some (.ref f)) (nm_NoBoards : ∃ f, mg "NoBoards" = some (.ref f)) (nm_BadStep : ∃ f, mg "BadStep" = some (.ref f)) : Ct P w K mg base 1 "_law_class" ["_law_e"] (spV ⟨K, mg, C⟩ .s 1 pf__law_class_v8) := by
  refine val_of (N := ["_law_e", "_law_found", "_law_words", "_law_one"]) d sc__law_class (by decide) ?_
  intro f cdv A outer s H E hr
  have nd := sc__law_class.nd
  have hu := hu_of hr
  exact ⟨_, (SsV.cons (SV.set (EV.st (EV.lst (BV.cons (EV.st (EV.cb (cv_isiX XT VT) (by rfl) B.isinstance (by decide +kernel) (AV.cons (EV.v 0 (pv 0)) (AV.cons (EV.fnv (by rfl) nm_BadStep) AV.nil)))) (BV.cons (EV.st (EV.cb (cv_isiX XT VT) (by rfl) B.isinstance (by decide +kernel) (AV.cons (EV.v 0 (pv 0)) (AV.cons (EV.fnv (by rfl) nm_NoBoards) AV.nil)))) (BV.cons (EV.st (EV.cb (cv_isiX XT VT) (by rfl) B.isinstance (by decide +kernel) (AV.cons (EV.v 0 (pv 0)) (AV.cons (EV.fnv (by rfl) nm_NoCount) AV.nil)))) (BV.cons (EV.st (EV.cb (cv_isiX XT VT) (by rfl) B.isinstance (by decide +kernel) (AV.cons (EV.v 0 (pv 0)) (AV.cons (EV.fnv (by rfl) nm_NoCross) AV.nil)))) BV.nil)))))) nd rfl (Or.inl rfl) (by decide))
  (SsV.cons (SV.set (EV.st (EV.op (ov_add' K) (EV.v 1 (pv 1)) (EV.lst (BV.cons (EV.st (EV.cb (cv_isiX XT VT) (by rfl) B.isinstance (by decide +kernel) (AV.cons (EV.v 0 (pv 0)) (AV.cons (EV.fnv (by rfl) nm_NoEven) AV.nil)))) (BV.cons (EV.st (EV.cb (cv_isiX XT VT) (by rfl) B.isinstance (by decide +kernel) (AV.cons (EV.v 0 (pv 0)) (AV.cons (EV.fnv (by rfl) nm_NoFull) AV.nil)))) (BV.cons (EV.st (EV.cb (cv_isiX XT VT) (by rfl) B.isinstance (by decide +kernel) (AV.cons (EV.v 0 (pv 0)) (AV.cons (EV.fnv (by rfl) nm_NoGrade) AV.nil)))) (BV.cons (EV.st (EV.cb (cv_isiX XT VT) (by rfl) B.isinstance (by decide +kernel) (AV.cons (EV.v 0 (pv 0)) (AV.cons (EV.fnv (by rfl) nm_NoHalves) AV.nil)))) BV.nil))))))) nd rfl (Or.inl rfl) (by decide))
  (SsV.cons (SV.set (EV.st (EV.op (ov_add' K) (EV.v 1 (pv 1)) (EV.lst (BV.cons (EV.st (EV.cb (cv_isiX XT VT) (by rfl) B.isinstance (by decide +kernel) (AV.cons (EV.v 0 (pv 0)) (AV.cons (EV.fnv (by rfl) nm_NoKeep) AV.nil)))) (BV.cons (EV.st (EV.cb (cv_isiX XT VT) (by rfl) B.isinstance (by decide +kernel) (AV.cons (EV.v 0 (pv 0)) (AV.cons (EV.fnv (by rfl) nm_NoKind) AV.nil)))) (BV.cons (EV.st (EV.cb (cv_isiX XT VT) (by rfl) B.isinstance (by decide +kernel) (AV.cons (EV.v 0 (pv 0)) (AV.cons (EV.fnv (by rfl) nm_NoLine) AV.nil)))) (BV.cons (EV.st (EV.cb (cv_isiX XT VT) (by rfl) B.isinstance (by decide +kernel) (AV.cons (EV.v 0 (pv 0)) (AV.cons (EV.fnv (by rfl) nm_NoMirror) AV.nil)))) BV.nil))))))) nd rfl (Or.inl rfl) (by decide))
  (SsV.cons (SV.set (EV.st (EV.op (ov_add' K) (EV.v 1 (pv 1)) (EV.lst (BV.cons (EV.st (EV.cb (cv_isiX XT VT) (by rfl) B.isinstance (by decide +kernel) (AV.cons (EV.v 0 (pv 0)) (AV.cons (EV.fnv (by rfl) nm_NoName) AV.nil)))) (BV.cons (EV.st (EV.cb (cv_isiX XT VT) (by rfl) B.isinstance (by decide +kernel) (AV.cons (EV.v 0 (pv 0)) (AV.cons (EV.fnv (by rfl) nm_NoPartner) AV.nil)))) (BV.cons (EV.st (EV.cb (cv_isiX XT VT) (by rfl) B.isinstance (by decide +kernel) (AV.cons (EV.v 0 (pv 0)) (AV.cons (EV.fnv (by rfl) nm_NoProduct) AV.nil)))) BV.nil)))))) nd rfl (Or.inl rfl) (by decide))
  (SsV.cons (SV.set (EV.st (EV.op (ov_add' K) (EV.v 1 (pv 1)) (EV.lst (BV.cons (EV.st (EV.cb (cv_isiX XT VT) (by rfl) B.isinstance (by decide +kernel) (AV.cons (EV.v 0 (pv 0)) (AV.cons (EV.fnv (by rfl) nm_NoSquare) AV.nil)))) (BV.cons (EV.st (EV.cb (cv_isiX XT VT) (by rfl) B.isinstance (by decide +kernel) (AV.cons (EV.v 0 (pv 0)) (AV.cons (EV.fnv (by rfl) nm_NoStep) AV.nil)))) (BV.cons (EV.st (EV.cb (cv_isiX XT VT) (by rfl) B.isinstance (by decide +kernel) (AV.cons (EV.v 0 (pv 0)) (AV.cons (EV.fnv (by rfl) nm_NoSum) AV.nil)))) (BV.cons (EV.st (EV.cb (cv_isiX XT VT) (by rfl) B.isinstance (by decide +kernel) (AV.cons (EV.v 0 (pv 0)) (AV.cons (EV.fnv (by rfl) nm_NoTable) AV.nil)))) BV.nil))))))) nd rfl (Or.inl rfl) (by decide))
  (SsV.cons (SV.set (EV.st (EV.op (ov_add' K) (EV.v 1 (pv 1)) (EV.lst (BV.cons (EV.st (EV.cb (cv_isiX XT VT) (by rfl) B.isinstance (by decide +kernel) (AV.cons (EV.v 0 (pv 0)) (AV.cons (EV.fnv (by rfl) nm_NoText) AV.nil)))) (BV.cons (EV.st (EV.cb (cv_isiX XT VT) (by rfl) B.isinstance (by decide +kernel) (AV.cons (EV.v 0 (pv 0)) (AV.cons (EV.fnv (by rfl) nm_NoUndo) AV.nil)))) (BV.cons (EV.st (EV.cb (cv_isiX XT VT) (by rfl) B.isinstance (by decide +kernel) (AV.cons (EV.v 0 (pv 0)) (AV.cons (EV.fnv (by rfl) nm_NoVector) AV.nil)))) (BV.cons (EV.st (EV.cb (cv_isiX XT VT) (by rfl) B.isinstance (by decide +kernel) (AV.cons (EV.v 0 (pv 0)) (AV.cons (EV.fnv (by rfl) nm_NoWord) AV.nil)))) BV.nil))))))) nd rfl (Or.inl rfl) (by decide))
  (SsV.cons (SV.ite (WV.tv (WV.or (TV.nt (TV.tru' K (EV.cb (cv_isiX XT VT) (by rfl) B.isinstance (by decide +kernel) (AV.cons (EV.v 0 (pv 0)) (AV.cons (EV.ty (T := "ValueError") (by rfl) hVE (by decide +kernel)) AV.nil))))) (WV.or (TV.nt (TV.tru' K (EV.cb (cv_isiX XT VT) (by rfl) B.isinstance (by decide +kernel) (AV.cons (EV.v 0 (pv 0)) (AV.cons (EV.fnv (by rfl) nm_StepError) AV.nil))))) (WV.or1 (TV.cmp (ov_ne' K hr.units) (EV.cb (cv_len' K) (by rfl) B.len (by decide +kernel) (AV.cons (EV.lc (own := [("_law_one", 3)]) rfl nd (IV.seq' K (EV.v 1 (pv 1))) (blkOk_by (own := [("_law_one", 3)]) (N := ["_law_e", "_law_found", "_law_words", "_law_one"]) (sc := defScope s__law_class) (by decide +kernel)) (fun _ _ _ _ _ => (GV.name 3 (pg_name nd rfl (by first | exact Or.inl rfl | exact Or.inr rfl)))) (fun _ _ _ _ _ => (TsV.one (TV.tru' K (EV.v 3 (pv 3))))) (fun _ _ _ _ _ => (EV.v 3 (pv 3))) (by decide)) AV.nil)) EV.int (nomark _))))))
 (SsV.one (SV.ret (by decide) (EV.st EV.str)))
 SsV.nil)
  (SsV.cons (SV.set (EV.st (EV.lst (BV.cons (EV.st EV.str) (BV.cons (EV.st EV.str) (BV.cons (EV.st EV.str) (BV.cons (EV.st EV.str) (BV.cons (EV.st EV.str) (BV.cons (EV.st EV.str) (BV.cons (EV.st EV.str) (BV.cons (EV.st EV.str) (BV.cons (EV.st EV.str) BV.nil))))))))))) nd rfl (Or.inl rfl) (by decide))
  (SsV.cons (SV.set (EV.st (EV.op (ov_add' K) (EV.v 2 (pv 2)) (EV.lst (BV.cons (EV.st EV.str) (BV.cons (EV.st EV.str) (BV.cons (EV.st EV.str) (BV.cons (EV.st EV.str) (BV.cons (EV.st EV.str) (BV.cons (EV.st EV.str) (BV.cons (EV.st EV.str) (BV.cons (EV.st EV.str) BV.nil))))))))))) nd rfl (Or.inl rfl) (by decide))
  (SsV.one (SV.ret (by decide) (EV.ix' K hu (EV.op (ov_add' K) (EV.v 2 (pv 2)) (EV.lst (BV.cons (EV.st EV.str) (BV.cons (EV.st EV.str) (BV.cons (EV.st EV.str) (BV.cons (EV.st EV.str) (BV.cons (EV.st EV.str) (BV.cons (EV.st EV.str) BV.nil)))))))) (EV.idx (EV.v 1 (pv 1)) EV.bl) (fun _ _ => rfl)))))))))))))⟩
theorem sc__law_asked : FnScope ["_law_squares", "_law_kept", "_law_found", "_law_e"] ["_law_squares"] (defScope s__law_asked) := ⟨rfl, rfl, rfl, by decide +kernel, rfl, by decide +kernel, by decide +kernel⟩
theorem v__law_asked {P : Program} {w : World} {K : PySem.W.Frag} {mg : Str → Option Value} {base : Heap} {C : Addr} (d : Df K mg "_law_asked" s__law_asked ["_law_squares"]) (B : Bi mg) (T : KC K C) (c_KindU : CtMU P w K mg base 5 "Kind" C ["self", "squares"] (spInitU ⟨K, mg, C⟩)) (cau_StepError : Cau K mg "StepError" ["NoCount", "NoSquare"]) (c__law_class : Ct P w K mg base 1 "_law_class" ["_law_e"] (spV ⟨K, mg, C⟩ .s 1 pf__law_class_v8)) : Ct P w K mg base 7 "_law_asked" ["_law_squares"] (spV ⟨K, mg, C⟩ .f 1 pf__law_asked_v9) := by
  obtain ⟨Cc_StepError, hm_StepError, hc_StepError⟩ := cau_StepError
  refine val_of (N := ["_law_squares", "_law_kept", "_law_found", "_law_e"]) d sc__law_asked (by decide) ?_
  intro f cdv A outer s H E hr
  have nd := sc__law_asked.nd
  have hu := hu_of hr
  exact ⟨_, (SsV.cons (SV.set (EV.st EV.non) nd rfl (Or.inl rfl) (by decide))
  (SsV.cons (SV.set (EV.st EV.non) nd rfl (Or.inl rfl) (by decide))
  (SsV.cons (SV.try_ (i := 3) (j := 1) rfl rfl (SB.set (EB.strong (EB.mkK (fun _ _ h => h) c_KindU (hr.mono (by omega)) (by rfl) (AV.cons (EV.v 0 (pv 0)) AV.nil))) nd rfl (Or.inl rfl) (by decide)) (by rfl) hm_StepError hc_StepError nd rfl rfl rfl (Or.inl rfl) (by decide) (by decide))
  (SsV.cons (SV.ite (TV.cmp ov_isN (EV.v 1 (pv 1)) EV.non (nomark _))
 (SsV.one (SV.ret (by decide) (EV.tup (BV.cons (EV.st EV.str) (BV.cons (EV.st (EV.tup (BV.cons (EV.st (EV.cnt' K T (EV.v 2 (pv 2)))) (BV.cons (EV.st (EV.sqr' K T (EV.v 2 (pv 2)))) BV.nil)))) BV.nil)))))
 SsV.nil)
  (SsV.cons (SV.ite (TV.cmp (ov_eq' K hr.units) (EV.call' K mg c__law_class (hr.mono (by omega)) (by rfl) (BV.cons (EV.v 1 (pv 1)) BV.nil) (LenN.cons LenN.nil)) EV.str (nomark _))
 (SsV.one (SV.ret (by decide) (EV.tup (BV.cons (EV.st EV.str) (BV.cons (EV.xf (EV.v 1 (pv 1))) BV.nil)))))
 SsV.nil)
  (SsV.one (SV.ret (by decide) (EV.tup (BV.cons (EV.st (EV.orS (EV.call' K mg c__law_class (hr.mono (by omega)) (by rfl) (BV.cons (EV.v 1 (pv 1)) BV.nil) (LenN.cons LenN.nil)) (EV.one EV.str))) (BV.cons (EV.st EV.non) BV.nil))))))))))⟩
theorem sc__law_due : FnScope ["_law_squares", "_law_place"] ["_law_squares"] (defScope s__law_due) := ⟨rfl, rfl, rfl, by decide +kernel, rfl, by decide +kernel, by decide +kernel⟩
theorem v__law_due {P : Program} {w : World} {K : PySem.W.Frag} {mg : Str → Option Value} {base : Heap} {C : Addr} (d : Df K mg "_law_due" s__law_due ["_law_squares"]) (B : Bi mg) : Ct P w K mg base 1 "_law_due" ["_law_squares"] (spV ⟨K, mg, C⟩ .f 1 pf__law_due_v9) := by
  refine val_of (N := ["_law_squares", "_law_place"]) d sc__law_due (by decide) ?_
  intro f cdv A outer s H E hr
  have nd := sc__law_due.nd
  have hu := hu_of hr
  exact ⟨_, (SsV.cons (SV.ite (TV.cmp ov_gt (EV.cb (cv_len' K) (by rfl) B.len (by decide +kernel) (AV.cons (EV.v 0 (pv 0)) AV.nil)) EV.int (nomark _))
 (SsV.one (SV.ret (by decide) (EV.tup (BV.cons (EV.st EV.str) (BV.cons (EV.st EV.non) BV.nil)))))
 SsV.nil)
  (SsV.cons (SV.fo PassesOwn.never rfl (IV.rng1 (by rfl) B.range (AV.cons (EV.cb (cv_len' K) (by rfl) B.len (by decide +kernel) (AV.cons (EV.v 0 (pv 0)) AV.nil)) AV.nil)) (GV.name 1 (pg_name nd rfl (Or.inl rfl)))
  (SsV.scr [1] (by decide) (SsV.one (SV.ite (TV.cmp (ov_notIn' K) (EV.ix' K hu (EV.v 0 (pv 0)) (EV.v 1 (pv 1)) (fun _ _ => rfl)) (EV.tup (BV.cons (EV.st EV.int) (BV.cons (EV.st (EV.neg EV.int)) (BV.cons (EV.st EV.int) BV.nil)))) (by rfl))
 (SsV.one (SV.ret (by decide) (EV.tup (BV.cons (EV.st EV.str) (BV.cons (EV.v 1 (pv 1)) BV.nil)))))
 SsV.nil))) (by decide))
  (SsV.one (SV.ret (by decide) (EV.tup (BV.cons (EV.st EV.str) (BV.cons (EV.st (EV.tup (BV.cons (EV.st (EV.cb (cv_len' K) (by rfl) B.len (by decide +kernel) (AV.cons (EV.v 0 (pv 0)) AV.nil))) (BV.cons (EV.st (EV.cty (cv_tuple' K) (by rfl) B.tuple (by decide +kernel) (AV.cons (EV.v 0 (pv 0)) AV.nil))) BV.nil)))) BV.nil)))))))⟩
theorem sc__law_list : FnScope ["_law_numbers_here", "_law_found", "_law_k", "_law_far", "_law_number"] ["_law_numbers_here"] (defScope s__law_list) := ⟨rfl, rfl, rfl, by decide +kernel, rfl, by decide +kernel, by decide +kernel⟩
theorem v__law_list {P : Program} {w : World} {K : PySem.W.Frag} {mg : Str → Option Value} {base : Heap} {C : Addr} (d : Df K mg "_law_list" s__law_list ["_law_numbers_here"]) (B : Bi mg) : Ct P w K mg base 1 "_law_list" ["_law_numbers_here"] (spV ⟨K, mg, C⟩ .f 1 pf__law_list) := by
  refine val_of (N := ["_law_numbers_here", "_law_found", "_law_k", "_law_far", "_law_number"]) d sc__law_list (by decide) ?_
  intro f cdv A outer s H E hr
  have nd := sc__law_list.nd
  have hu := hu_of hr
  exact ⟨_, (SsV.cons (SV.ownLc (i := 1) (own := [("_law_number", 4)]) rfl nd (IV.seq' K (EV.sl' K (EV.v 0 (pv 0)) OPV.no (OPV.so (EV.op ov_mod (EV.ix' K hu (EV.v 0 (pv 0)) EV.int (fun _ _ => rfl)) EV.int)))) (blkOk_by (own := [("_law_number", 4)]) (N := ["_law_numbers_here", "_law_found", "_law_k", "_law_far", "_law_number"]) (sc := defScope s__law_list) (by decide +kernel)) (fun _ _ _ _ _ => (GV.name 4 (pg_name nd rfl (by first | exact Or.inl rfl | exact Or.inr rfl)))) (fun _ _ _ _ _ => TsV.nil) (fun _ _ _ _ _ => (EV.ix' K hu (EV.lst (BV.cons (EV.st EV.int) (BV.cons (EV.st (EV.neg EV.int)) (BV.cons (EV.st EV.int) BV.nil)))) (EV.op ov_mod (EV.v 4 (pv 4)) EV.int) (fun _ _ => rfl))) (by decide) rfl rfl (sw_true rfl rfl rfl (by decide +kernel)) (by decide))
  (SsV.cons (SV.scr [4] (by decide) (SV.ite (TV.cmp (ov_eq' K hr.units) (EV.op ov_mod (EV.ix' K hu (EV.v 0 (pv 0)) EV.int (fun _ _ => rfl)) EV.int) EV.int (nomark _))
 (SsV.one (SV.ownLc (i := 1) (own := [("_law_number", 4)]) rfl nd (IV.seq' K (EV.sl' K (EV.v 0 (pv 0)) OPV.no (OPV.so (EV.op (ov_add' K) EV.int (EV.op ov_mod (EV.op ov_fdiv (EV.ix' K hu (EV.v 0 (pv 0)) EV.int (fun _ _ => rfl)) EV.int) EV.int))))) (blkOk_by (own := [("_law_number", 4)]) (N := ["_law_numbers_here", "_law_found", "_law_k", "_law_far", "_law_number"]) (sc := defScope s__law_list) (by decide +kernel)) (fun _ _ _ _ _ => (GV.name 4 (pg_name nd rfl (by first | exact Or.inl rfl | exact Or.inr rfl)))) (fun _ _ _ _ _ => TsV.nil) (fun _ _ _ _ _ => (EV.ix' K hu (EV.lst (BV.cons (EV.st EV.int) (BV.cons (EV.st (EV.neg EV.int)) (BV.cons (EV.st EV.int) BV.nil)))) (EV.op ov_mod (EV.v 4 (pv 4)) EV.int) (fun _ _ => rfl))) (by decide) rfl rfl (sw_true rfl rfl rfl (by decide +kernel)) (by decide)))
 SsV.nil))
  (SsV.cons (SV.scr [2, 3] (by decide) (SV.ite (WV.tv (WV.or (TV.cmp ov_gt (EV.op ov_mod (EV.ix' K hu (EV.v 0 (pv 0)) EV.int (fun _ _ => rfl)) EV.int) EV.int (nomark _)) (WV.or1 (TV.cmp (ov_eq' K hr.units) (EV.op ov_mod (EV.op ov_fdiv (EV.ix' K hu (EV.v 0 (pv 0)) EV.int (fun _ _ => rfl)) EV.int) EV.int) EV.int (nomark _)))))
 (SsV.one (SV.fo PassesOwn.never rfl (IV.rng1 (by rfl) B.range (AV.cons (EV.op (ov_add' K) EV.int (EV.op ov_mod (EV.ix' K hu (EV.v 0 (pv 0)) EV.int (fun _ _ => rfl)) EV.int)) AV.nil)) (GV.name 2 (pg_name nd rfl (Or.inl rfl)))
  (SsV.scr [2, 3] (by decide) (SsV.one (SV.scr [3] (by decide) (SV.ite (TV.cmp ov_gt (EV.cb (cv_len' K) (by rfl) B.len (by decide +kernel) (AV.cons (EV.w 1 (pv 1)) AV.nil)) EV.int (nomark _))
 (SsV.cons (SV.set (EV.st (EV.op (ov_add' K) EV.int (EV.op ov_mul (EV.ix' K hu (EV.v 0 (pv 0)) (EV.op (ov_add' K) EV.int (EV.v 2 (pv 2))) (fun _ _ => rfl)) (EV.op ov_pow EV.int EV.int)))) nd rfl (Or.inl rfl) (by decide))
  (SsV.one (SV.put hu (pv 1) (EV.op ov_mod (EV.ix' K hu (EV.v 0 (pv 0)) (EV.op (ov_add' K) EV.int (EV.v 2 (pv 2))) (fun _ _ => rfl)) (EV.cb (cv_len' K) (by rfl) B.len (by decide +kernel) (AV.cons (EV.w 1 (pv 1)) AV.nil))) (EV.ix' K hu (EV.lst (BV.cons (EV.st EV.int) (BV.cons (EV.st (EV.neg EV.int)) (BV.cons (EV.v 3 (pv 3)) (BV.cons (EV.st (EV.op ov_sub EV.int (EV.v 3 (pv 3)))) BV.nil))))) (EV.op ov_mod (EV.op ov_fdiv (EV.ix' K hu (EV.v 0 (pv 0)) (EV.op (ov_add' K) EV.int (EV.v 2 (pv 2))) (fun _ _ => rfl)) EV.int) EV.int) (fun _ _ => rfl)) (pg_sub (pv 1) (EV.pe (C := C) (EV.op ov_mod (EV.ix' K hu (EV.v 0 (pv 0)) (EV.op (ov_add' K) EV.int (EV.v 2 (pv 2))) (fun _ _ => rfl)) (EV.cb (cv_len' K) (by rfl) B.len (by decide +kernel) (AV.cons (EV.w 1 (pv 1)) AV.nil)))) set_list))))
 SsV.nil)))) (by decide)))
 SsV.nil))
  (SsV.one (SV.retO (i := 1) (by decide) (pv 1) (by decide))))))⟩
theorem sc__law_mixed : FnScope ["_law_cell", "_law_place", "_law_number"] ["_law_cell", "_law_place"] (defScope s__law_mixed) := ⟨rfl, rfl, rfl, by decide +kernel, rfl, by decide +kernel, by decide +kernel⟩
theorem v__law_mixed {P : Program} {w : World} {K : PySem.W.Frag} {mg : Str → Option Value} {base : Heap} {C : Addr} (d : Df K mg "_law_mixed" s__law_mixed ["_law_cell", "_law_place"]) (B : Bi mg) : Ct P w K mg base 1 "_law_mixed" ["_law_cell", "_law_place"] (spV ⟨K, mg, C⟩ .f 2 pf__law_mixed) := by
  refine val_of (N := ["_law_cell", "_law_place", "_law_number"]) d sc__law_mixed (by decide) ?_
  intro f cdv A outer s H E hr
  have nd := sc__law_mixed.nd
  have hu := hu_of hr
  exact ⟨_, (SsV.cons (SV.set (EV.st (EV.op ov_mod (EV.op (ov_add' K) (EV.op (ov_add' K) (EV.op ov_mul (EV.op ov_mod (EV.v 0 (pv 0)) EV.int) EV.int) (EV.op ov_mul EV.int (EV.v 1 (pv 1)))) EV.int) EV.int)) nd rfl (Or.inl rfl) (by decide))
  (SsV.cons (SV.set (EV.st (EV.op ov_mod (EV.op (ov_add' K) (EV.op (ov_add' K) (EV.op ov_mul (EV.v 2 (pv 2)) (EV.v 2 (pv 2))) (EV.op ov_mul EV.int (EV.v 1 (pv 1)))) EV.int) EV.int)) nd rfl (Or.inl rfl) (by decide))
  (SsV.one (SV.ret (by decide) (EV.op ov_mod (EV.op (ov_add' K) (EV.op ov_mul (EV.v 2 (pv 2)) (EV.v 2 (pv 2))) EV.int) EV.int)))))⟩
theorem sc__law_numbers : FnScope ["_law_cell", "_law_many", "_law_found", "_law_rest", "_law_k"] ["_law_cell", "_law_many"] (defScope s__law_numbers) := ⟨rfl, rfl, rfl, by decide +kernel, rfl, by decide +kernel, by decide +kernel⟩
theorem v__law_numbers {P : Program} {w : World} {K : PySem.W.Frag} {mg : Str → Option Value} {base : Heap} {C : Addr} (d : Df K mg "_law_numbers" s__law_numbers ["_law_cell", "_law_many"]) (B : Bi mg) (c__law_mixed : Ct P w K mg base 1 "_law_mixed" ["_law_cell", "_law_place"] (spV ⟨K, mg, C⟩ .f 2 pf__law_mixed)) : Ct P w K mg base 2 "_law_numbers" ["_law_cell", "_law_many"] (spV ⟨K, mg, C⟩ .f 2 pf__law_numbers) := by
  refine val_of (N := ["_law_cell", "_law_many", "_law_found", "_law_rest", "_law_k"]) d sc__law_numbers (by decide) ?_
  intro f cdv A outer s H E hr
  have nd := sc__law_numbers.nd
  have hu := hu_of hr
  exact ⟨_, (SsV.cons (SV.own (EV.lst BV.nil) nd rfl (Or.inl rfl) (by decide))
  (SsV.cons (SV.set (EV.st (EV.op ov_sub (EV.v 0 (pv 0)) (EV.op ov_pow EV.int EV.int))) nd rfl (Or.inl rfl) (by decide))
  (SsV.cons (SV.fo PassesOwn.never rfl (IV.rng1 (by rfl) B.range (AV.cons (EV.v 1 (pv 1)) AV.nil)) (GV.name 4 (pg_name nd rfl (Or.inl rfl)))
  (SsV.scr [4] (by decide) (SsV.one (SV.ite (TV.cmp ov_ge (EV.v 3 (pv 3)) EV.int (nomark _))
 (SsV.cons (SV.x (XV.app (i := 2) (pv 2) (BV.cons (EV.st (EV.op ov_mod (EV.v 3 (pv 3)) EV.int)) BV.nil)))
  (SsV.one (SV.set (EV.st (EV.op ov_fdiv (EV.v 3 (pv 3)) EV.int)) nd rfl (Or.inl rfl) (by decide))))
 (SsV.one (SV.x (XV.app (i := 2) (pv 2) (BV.cons (EV.st (EV.op ov_fdiv (EV.call' K mg c__law_mixed (hr.mono (by omega)) (by rfl) (BV.cons (EV.v 0 (pv 0)) (BV.cons (EV.v 4 (pv 4)) BV.nil)) (LenN.cons (LenN.cons LenN.nil))) EV.int)) BV.nil))))))) (by decide))
  (SsV.one (SV.retO (i := 2) (by decide) (pv 2) (by decide))))))⟩
end Toy
set_option linter.all false
set_option maxRecDepth 100000
set_option maxHeartbeats 4000000
namespace Toy
open PySem L2 BV
theorem sc_law : FnScope ["_law_script", "_law_first", "_law_cell", "_law_squares", "_law_handed", "_law_due_here", "_law_kind"] ["_law_script"] (defScope s_law) := ⟨rfl, rfl, rfl, by decide +kernel, rfl, by decide +kernel, by decide +kernel⟩
theorem ok_law0 {P : Program} {w : World} {K : PySem.W.Frag} {mg : Str → Option Value} {base : Heap} {C : Addr} {f : Addr} {fd : FuncData} (F : Fun K "law" "law" s_law f fd) (B : Bi mg) (T : KC K C) (c_Kind : CtM P w K mg base 3 "Kind" C ["self", "squares"] (Toy.spInit K C)) (c__law_same : Ct P w K mg base 9 "_law_same" ["_law_found", "_law_due_here"] (spV ⟨K, mg, C⟩ .f 2 pf__law_same)) (c__law_asked : Ct P w K mg base 7 "_law_asked" ["_law_squares"] (spV ⟨K, mg, C⟩ .f 1 pf__law_asked_v9)) (c__law_due : Ct P w K mg base 1 "_law_due" ["_law_squares"] (spV ⟨K, mg, C⟩ .f 1 pf__law_due_v9)) (c__law_list : Ct P w K mg base 1 "_law_list" ["_law_numbers_here"] (spV ⟨K, mg, C⟩ .f 1 pf__law_list)) (c__law_numbers : Ct P w K mg base 2 "_law_numbers" ["_law_cell", "_law_many"] (spV ⟨K, mg, C⟩ .f 2 pf__law_numbers)) : FnOk P w K mg base CX0 10 f fd ["_law_script"] (spLaw K) := by
  refine law_of (N := ["_law_script", "_law_first", "_law_cell", "_law_squares", "_law_handed", "_law_due_here", "_law_kind"]) (C := C) (G := g_law_v23) (m := .f) F sc_law (by decide) ?_ (fun ns h => law01_pf ns h)
  intro cdv A outer s H E hr
  have nd := sc_law.nd
  have hu := hu_of hr
  exact ⟨_, (SsV.cons (SV.set (EV.st (EV.mkK' K c_Kind (hr.mono (by omega)) (by rfl) (AV.cons (EV.lst (BV.cons (EV.st EV.int) (BV.cons (EV.st EV.int) BV.nil))) AV.nil))) nd rfl (Or.inl rfl) (by decide))
  (SsV.cons (SV.fo PassesOwn.never rfl (IV.seqS' K (EV.st (EV.op (ov_add' K) (EV.lst (BV.cons (EV.st EV.int) (BV.cons (EV.st EV.int) BV.nil))) (EV.sl' K (EV.v 0 (pv 0)) OPV.no (OPV.so EV.int))))) (GV.name 2 (pg_name nd rfl (Or.inl rfl)))
  (SsV.scr [2, 3, 4, 5, 6] (by decide) (SsV.cons (SV.set (EV.st (EV.call' K mg c__law_list (hr.mono (by omega)) (by rfl) (BV.cons (EV.st (EV.call' K mg c__law_numbers (hr.mono (by omega)) (by rfl) (BV.cons (EV.v 2 (pv 2)) (BV.cons (EV.st EV.int) BV.nil)) (LenN.cons (LenN.cons LenN.nil)))) BV.nil) (LenN.cons LenN.nil))) nd rfl (Or.inl rfl) (by decide))
  (SsV.cons (SV.own (EV.cty (cv_list' K) (by rfl) B.list (by decide +kernel) (AV.cons (EV.v 3 (pv 3)) AV.nil)) nd rfl (Or.inl rfl) (by decide))
  (SsV.cons (SV.set (EV.st (EV.call' K mg c__law_due (hr.mono (by omega)) (by rfl) (BV.cons (EV.v 3 (pv 3)) BV.nil) (LenN.cons LenN.nil))) nd rfl (Or.inl rfl) (by decide))
  (SsV.cons (SV.ite (WV.tv (WV.or (TV.nt (TV.tru' K (EV.call' K mg c__law_same (hr.mono (by omega)) (by rfl) (BV.cons (EV.st (EV.callW' K mg c__law_asked (hr.mono (by omega)) (by rfl) (AV.cons (EV.w 4 (pv 4)) AV.nil) (LenN.cons LenN.nil))) (BV.cons (EV.v 5 (pv 5)) BV.nil)) (LenN.cons (LenN.cons LenN.nil))))) (WV.or1 (TV.cmp (ov_ne' K hr.units) (EV.w 4 (pv 4)) (EV.v 3 (pv 3)) (nomark _)))))
 (SsV.one (SV.ret (by decide) EV.bl))
 SsV.nil)
  (SsV.one (SV.scr [6] (by decide) (SV.ite (TV.cmp (ov_eq' K hr.units) (EV.ix' K hu (EV.v 5 (pv 5)) EV.int (fun _ _ => rfl)) EV.str (nomark _))
 (SsV.cons (SV.set (EV.st (EV.mkK' K c_Kind (hr.mono (by omega)) (by rfl) (AV.cons (EV.w 4 (pv 4)) AV.nil))) nd rfl (Or.inl rfl) (by decide))
  (SsV.cons (SV.x (XV.app (i := 4) (pv 4) (BV.cons (EV.st EV.int) BV.nil)))
  (SsV.one (SV.ite (TV.nt (TV.tru' K (EV.call' K mg c__law_same (hr.mono (by omega)) (by rfl) (BV.cons (EV.st (EV.tup (BV.cons (EV.st (EV.cnt' K T (EV.v 6 (pv 6)))) (BV.cons (EV.st (EV.sqr' K T (EV.v 6 (pv 6)))) BV.nil)))) (BV.cons (EV.ix' K hu (EV.v 5 (pv 5)) EV.int (fun _ _ => rfl)) BV.nil)) (LenN.cons (LenN.cons LenN.nil)))))
 (SsV.one (SV.ret (by decide) EV.bl))
 SsV.nil))))
 SsV.nil)))))))) (by decide))
  (SsV.one (SV.ret (by decide) (EV.and (EV.cmp (ov_eq' K hr.units) (EV.cnt' K T (EV.v 1 (pv 1))) EV.int (nomark _)) (EV.one (EV.cmp (ov_eq' K hr.units) (EV.sqr' K T (EV.v 1 (pv 1))) (EV.tup (BV.cons (EV.st EV.int) (BV.cons (EV.st EV.int) BV.nil))) (nomark _))))))))⟩
def spSq2 : Sp := fun vs H Q _ => ∃ i : Int, vs = [.int i] ∧ -1 ≤ i ∧ i ≤ 1 ∧ ∀ H', Same H H' → Q (.bl true) H'
theorem square_pf {i : Int} (h1 : -1 ≤ i) (h2 : i ≤ 1) : pf_is_square [.int i] = some (.bl true) := by
  unfold pf_is_square g_is_square
  simp only [EVs, EVx, runX, runF, env0, List.map_cons, List.map_nil, List.length_cons, List.length_nil, List.cons_append, List.nil_append, Nat.reduceAdd, Nat.reduceSub, List.replicate_succ, List.replicate_zero, Option.bind_some, Option.bind_none, Option.elim_some, Option.elim_none, Option.map_some, List.set_cons_zero, List.set_cons_succ, List.getElem?_cons_zero, List.getElem?_cons_succ, if_true, Bool.false_eq_true, if_false, whole_pf, xeCh, h1, h2, decide_true]
theorem sq_ct {P : Program} {w : World} {K : PySem.W.Frag} {mg : Str → Option Value} {base : Heap} {C : Addr} (c : Ct P w K mg base 2 "is_square" ["number"] (spV ⟨K, mg, C⟩ .f 1 pf_is_square)) : Ct P w K mg base 2 "is_square" ["number"] spSq2 := c.imp fun vs H Q E h => by
  obtain ⟨i, rfl, h1, h2, k⟩ := h
  refine ⟨fun _ => False, [.int i], .bl true, rfl, fun q z => absurd z id, RpL.ints [i], square_pf h1 h2, fun v H' s r => ?_⟩
  have e : v = .bl true := Rp.bl_iff.mp r.1
  rw [e]; exact k H' s
section
variable {P : Program} {w : World} {K : PySem.W.Frag} {mg : Str → Option Value} {base : Heap}
theorem sc_Kind_init : FnScope ["self", "squares", "place", "square"] ["self", "squares"] (defScope s_Kind_init) := ⟨rfl, rfl, rfl, by decide +kernel, rfl, by decide +kernel, by decide +kernel⟩
structure KD (K : PySem.W.Frag) (mg : Str → Option Value) (C : Addr) : Prop where
  kc : KC K C
  mi : ∃ f fd, Mk K C f ∧ Fun K "__init__" "Kind.__init__" s_Kind_init f fd ∧ Binds K fd ["self", "squares"] []
  mC : mg "Kind" = some (.ref C)
  most : ∃ t, mg "MOST_STEPS" = some (.int 5 t)
theorem ct_Kind {C : Addr} (d : KD K mg C) (B : Bi mg) (c_is_square : Ct P w K mg base 2 "is_square" ["number"] spSq2) : CtM P w K mg base 3 "Kind" C ["self", "squares"] (spInit K C) := by
  obtain ⟨T, ⟨f, fd, M, F, b⟩, mC, t5, m5⟩ := d
  refine ⟨f, fd, mC, M, b, F.ok sc_Kind_init (fun vs H Q E h => ?_) (fun cdv A outer s H vs Q E hr h => ?_)⟩
  · obtain ⟨_, _, _, _, rfl, _⟩ := h
    rfl
  · obtain ⟨p, dx, a, sq, rfl, hp, ha, hne, ⟨hl, hv⟩, k⟩ := h
    have nd := sc_Kind_init.nd
    refine ⟨_, (pss_cons (ps_if (pt_cmpR op_gt (pe_callB (r := rLenS K) call_lenS (by rfl) B.len PySem.boot_len (pa_cons (pv 1) pa_nil)) (pe_glob (v := .int 5) (by rfl) m5 ⟨_, rfl⟩) (nomark _)) (pss_one ps_never) pss_nil)
  (pss_cons (ps_for PassesOwn.never rfl (pi_enum (by rfl) B.enumerate (pa_cons (pv 1) pa_nil)) (pg_tup rfl (pgs_cons (pg_name (i := 2) nd rfl (Or.inl rfl)) (pgs_cons (pg_name (i := 3) nd rfl (Or.inl rfl)) pgs_nil)))
  (pss_one (ps_if (pt_not (pt_val (pe_callC c_is_square (hr.mono (by decide)) (by rfl) (pa_cons (pv 3) pa_nil)))) (pss_one ps_never) pss_nil)))
  (pss_cons (ps_fld (pv 0) (pe_callTy call_tuple_of (by rfl) B.tuple (by decide +kernel) (pa_cons (pv 1) pa_nil)) rfl)
  (pss_one (ps_fld (pv 0) (pe_callB (r := rLenS K) call_lenS (by rfl) B.len PySem.boot_len (pa_cons (pe_fld (pv 0) rfl) pa_nil)) rfl))))), ?_⟩
    refine ⟨_, rfl, a, _, rfl, .inl ha, _, _, rfl, rfl, _, rfl, ?_⟩
    rw [decide_eq_false (by rw [List.length_map]; omega)]
    refine iteF ⟨_, rfl, a, _, rfl, ha, for_enum (K := K) (a := a) (xs := sq.map V.int) (fun i σ H' => Same H H' ∧ ∃ v2 v3, σ = [some (.ref p), some (.ref a), v2, v3]) ⟨Same.refl _, _, _, rfl⟩ (fun i σ H' _ ⟨sa, _⟩ => sa.seq ha) ?_ ?_⟩
    · rintro i x σ H' T hx ⟨sa, v2, v3, rfl⟩ hT
      obtain ⟨z, e, rfl⟩ := get_map_int hx
      have hz := hv z (List.mem_of_getElem? e)
      have st : Same H' (upd H' T (.tup [.int (i : Nat), .int z])) := same_upd hT
      refine ⟨T, _, rfl, sqt upd_same, rfl, _, _, rfl, _, _, rfl, rfl, _, rfl, z, rfl, by omega, by omega, fun H9 s9 => ⟨_, rfl, ?_⟩⟩
      exact iteF ⟨(sa.trans st).trans s9, _, _, rfl⟩
    · rintro σ H' ⟨sa, v2, v3, rfl⟩
      refine ⟨_, rfl, a, _, rfl, .inl ⟨sa.seq ha, fun l hl2 => ?_⟩⟩
      have st : Same H' (upd H' l (.tup (sq.map V.int))) := same_upd hl2
      have hld : upd H' l (.tup (sq.map V.int)) l = some (.tup (sq.map V.int)) := upd_same
      generalize upd H' l (.tup (sq.map V.int)) = H2 at st hld
      have hp2 := (sa.trans st) _ _ hp
      have hlp : l ≠ p := ne_of hld hp2 (fun z => by cases z)
      refine ⟨_, rfl, p, C, dx, [], rfl, hp2, T.cl, T.nS, by show 0 < 1000; decide, ?_⟩
      refine ⟨_, rfl, p, C, dx, _, _, rfl, upd_same, T.cl, T.nS, by rw [lookup_putF, if_pos rfl], l, _, rfl, .inr (sqt (by rw [upd_ne hlp]; exact hld)), _, rfl, p, C, dx, _, rfl, upd_same, T.cl, T.nC, by show 1 < 1000; decide, ?_⟩
      refine k _ (fun b o hb e => ?_) ⟨dx, l, ?_, ?_⟩
      · rw [upd_ne hb, upd_ne hb]
        exact st _ _ (sa _ _ e)
      · rw [upd_same, List.length_map]
        rfl
      · rw [upd_ne hlp, upd_ne hlp]
        exact hld
end
section
variable {P : Program} {w : World} {K : PySem.W.Frag} {mg : Str → Option Value} {base : Heap}
def spSq3 : Sp := fun vs H Q _ => ∃ i : Int, vs = [.int i] ∧ ∀ H', Same H H' → Q (.bl (decide (-1 ≤ i ∧ i ≤ 1))) H'
theorem squareU_pf (i : Int) : pf_is_square [.int i] = some (.bl (decide (-1 ≤ i ∧ i ≤ 1))) := by
  unfold pf_is_square g_is_square
  by_cases h1 : -1 ≤ i
  · by_cases h2 : i ≤ 1
    · simp only [EVs, EVx, runX, runF, env0, List.map_cons, List.map_nil, List.length_cons, List.length_nil, List.cons_append, List.nil_append, Nat.reduceAdd, Nat.reduceSub, List.replicate_succ, List.replicate_zero, Option.bind_some, Option.bind_none, Option.elim_some, Option.elim_none, Option.map_some, List.set_cons_zero, List.set_cons_succ, List.getElem?_cons_zero, List.getElem?_cons_succ, if_true, Bool.false_eq_true, if_false, whole_pf, xeCh, decide_eq_true h1, decide_eq_true h2, decide_eq_true (And.intro h1 h2)]
    · simp only [EVs, EVx, runX, runF, env0, List.map_cons, List.map_nil, List.length_cons, List.length_nil, List.cons_append, List.nil_append, Nat.reduceAdd, Nat.reduceSub, List.replicate_succ, List.replicate_zero, Option.bind_some, Option.bind_none, Option.elim_some, Option.elim_none, Option.map_some, List.set_cons_zero, List.set_cons_succ, List.getElem?_cons_zero, List.getElem?_cons_succ, if_true, Bool.false_eq_true, if_false, whole_pf, xeCh, decide_eq_true h1, decide_eq_false h2, decide_eq_false (show ¬(-1 ≤ i ∧ i ≤ 1) from fun k => h2 k.2)]
  · simp only [EVs, EVx, runX, runF, env0, List.map_cons, List.map_nil, List.length_cons, List.length_nil, List.cons_append, List.nil_append, Nat.reduceAdd, Nat.reduceSub, List.replicate_succ, List.replicate_zero, Option.bind_some, Option.bind_none, Option.elim_some, Option.elim_none, Option.map_some, List.set_cons_zero, List.set_cons_succ, List.getElem?_cons_zero, List.getElem?_cons_succ, if_true, Bool.false_eq_true, if_false, whole_pf, xeCh, decide_eq_false h1, decide_eq_false (show ¬(-1 ≤ i ∧ i ≤ 1) from fun k => h1 k.1)]
theorem sq3_ct {C : Addr} (c : Ct P w K mg base 2 "is_square" ["number"] (spV ⟨K, mg, C⟩ .f 1 pf_is_square)) : Ct P w K mg base 2 "is_square" ["number"] spSq3 := c.imp fun vs H Q E h => by
  obtain ⟨i, rfl, k⟩ := h
  refine ⟨fun _ => False, [.int i], .bl _, rfl, fun q z => absurd z id, RpL.ints [i], squareU_pf i, fun v H' s r => ?_⟩
  have e : v = .bl _ := Rp.bl_iff.mp r.1
  rw [e]; exact k H' s
theorem tx_raise {W : Wd} {x : Str} {C f : Addr} {fn : Option Str} {E : XK} {A : Av} {D' : Ends} {σ : L2.St} {H : Hp} {te : TE} {v : V} {d : D} (hm : W.mg x = some (.ref C)) (M : ExMk W.K C f) (hna : ∀ n, fn = some n → NoAttr W.K C n) (ax : AX A H) (ht : ∀ Q : VK, Q v H → te σ H Q) (r : ∀ n, fn = some n → ∀ A' H', Rp W A' H' d v) (k : WX W E A H (exD x fn d)) : tRaise C (spMk C fn) [] E L2.E0 (tCons te tNil) D' σ H := by
  refine ht _ ?_
  intro z hz
  have nz : ¬A z := fun a => by obtain ⟨o, h, _⟩ := ax z a; rw [hz] at h; cases h
  refine ⟨by show 1 ≤ 1000; omega, ?_⟩
  cases fn with
  | none =>
    refine ⟨z, v, rfl, upd_same, rfl, z, none, rfl, upd_same, ?_⟩
    have s2 : Same H (upd (upd H z (.ext (ExcF z C none))) z (.ext (ExcP z C none))) := by rw [upd_upd]; exact Toy.same_upd hz
    refine k z none _ s2 ?_
    unfold exD Rp
    exact ⟨z, C, none, [], rfl, nz, hm, ⟨M.c, fun n h => nomatch h⟩, upd_same, rfl, rfl, RpL.nil⟩
  | some n =>
    refine ⟨z, v, rfl, upd_same, fun dx hd hne => ⟨rfl, z, some dx, rfl, ?_, ?_⟩⟩
    · rw [upd_ne (Ne.symm hne), upd_same]
    · have hdx : H dx = none := by rw [upd_ne hne] at hd; exact hd
      have s2 : Same H (upd (upd (upd (upd H z (.ext (ExcF z C none))) z (.ext (ExcF z C (some dx)))) dx (.xd [(n, v)])) z (.ext (ExcP z C (some dx)))) := fun q o h => by
        rw [upd_ne (ne_of_none h hz), upd_ne (ne_of_none h hdx), upd_ne (ne_of_none h hz), upd_ne (ne_of_none h hz)]; exact h
      refine k z (some dx) _ s2 ?_
      have ndx : ¬A dx := fun a => by obtain ⟨o, h, _⟩ := ax dx a; rw [hdx] at h; cases h
      unfold exD Rp
      refine ⟨z, C, some dx, [v], rfl, nz, hm, ⟨M.c, fun m h => by rw [List.mem_singleton.mp h]; exact hna n rfl⟩, upd_same, ⟨ndx, ?_⟩, rfl, RpL.one (r n rfl _ _)⟩
      rw [upd_ne hne, upd_same]; rfl
theorem ct_KindU {C : Addr} (d : KD K mg C) (B : Bi mg) (c_is_square0 : Ct P w K mg base 2 "is_square" ["number"] (spV ⟨K, mg, C⟩ .f 1 pf_is_square)) (x_NoCount : ∃ C', CtX P w K mg base "NoCount" C' none) (x_NoSquare : ∃ C', CtX P w K mg base "NoSquare" C' (some "place")) : CtMU P w K mg base 5 "Kind" C ["self", "squares"] (spInitU ⟨K, mg, C⟩) := by
  obtain ⟨T, ⟨f, fd, M, Fn, b⟩, mC, t5, m5⟩ := d
  obtain ⟨C_NoCount, y_NoCount⟩ := x_NoCount
  obtain ⟨C_NoSquare, y_NoSquare⟩ := x_NoSquare
  have c_is_square := sq3_ct c_is_square0
  obtain ⟨fC, fdC, psC, hmC, MC, hbC, FnC, naC⟩ := id y_NoCount
  obtain ⟨fS, fdS, psS, hmS, MS, hbS, FnS, naS⟩ := id y_NoSquare
  refine ⟨f, fd, mC, M, b, ?_⟩
  obtain ⟨oc, od, kV, doc, pm, an, cdv, ct, osl, rfl, lk, hcd⟩ := Fn.ex
  refine fn_of lk hcd sc_Kind_init (fun vs H Q E h => ?_) fun A outer s H vs Q E hr h => ?_
  · rcases h with ⟨_, _, _, _, rfl, _⟩ | ⟨_, _, _, _, _, _, rfl, _⟩ <;> rfl
  have nd := sc_Kind_init.nd
  refine ⟨_, (pss_cons (ps_if (pt_cmpR op_gt (pe_callB (r := rLenS K) call_lenS (by rfl) B.len PySem.boot_len (pa_cons (pv 1) pa_nil)) (pe_glob (v := .int 5) (by rfl) m5 ⟨_, rfl⟩) (nomark _)) (pss_one (XS.raise (C0 := C) (rm := .f) (io := []) (E := E) y_NoCount rfl rfl xeOk_cx (hr.mono (by omega)) (by rfl) (EV.st EV.str)).ps) pss_nil)
    (pss_cons (ps_for PassesOwn.leaving rfl (pi_enum (by rfl) B.enumerate (pa_cons (pv 1) pa_nil)) (pg_tup rfl (pgs_cons (pg_name (i := 2) nd rfl (Or.inl rfl)) (pgs_cons (pg_name (i := 3) nd rfl (Or.inl rfl)) pgs_nil)))
    (pss_one (ps_if (pt_not (pt_val (pe_callC c_is_square (hr.mono (by decide)) (by rfl) (pa_cons (pv 3) pa_nil)))) (pss_one (XS.raise (C0 := C) (rm := .f) (io := []) (E := E) y_NoSquare rfl rfl xeOk_cx (hr.mono (by omega)) (by rfl) (EV.v 2 (pv 2))).ps) pss_nil)))
    (pss_cons (ps_fld (pv 0) (pe_callTy call_tuple_of (by rfl) B.tuple (by decide +kernel) (pa_cons (pv 1) pa_nil)) rfl)
    (pss_one (ps_fld (pv 0) (pe_callB (r := rLenS K) call_lenS (by rfl) B.len PySem.boot_len (pa_cons (pe_fld (pv 0) rfl) pa_nil)) rfl))))), ?_⟩
  rcases h with ⟨p, dx, a, sq, rfl, hp, ha, hne, ⟨hl, hv⟩, k⟩ | ⟨Av, p, dx, a, ns, y, rfl, hp, ax, ha, hy, k⟩
  · refine ⟨_, rfl, a, _, rfl, .inl ha, _, _, rfl, rfl, _, rfl, ?_⟩
    rw [decide_eq_false (by rw [List.length_map]; omega)]
    refine iteF ⟨_, rfl, a, _, rfl, ha, for_enum (K := K) (a := a) (xs := sq.map V.int) (fun i σ H' => Same H H' ∧ ∃ v2 v3, σ = [some (.ref p), some (.ref a), v2, v3]) ⟨Same.refl _, _, _, rfl⟩ (fun i σ H' _ ⟨sa, _⟩ => sa.seq ha) ?_ ?_⟩
    · rintro i x σ H' T hx ⟨sa, v2, v3, rfl⟩ hT
      obtain ⟨z, e, rfl⟩ := get_map_int hx
      have hz := hv z (List.mem_of_getElem? e)
      have st : Same H' (upd H' T (.tup [.int (i : Nat), .int z])) := same_upd hT
      refine ⟨T, _, rfl, sqt upd_same, rfl, _, _, rfl, _, _, rfl, rfl, _, rfl, z, rfl, fun H9 s9 => ⟨_, rfl, ?_⟩⟩
      rw [decide_eq_true (show -1 ≤ z ∧ z ≤ 1 by omega)]
      exact iteF ⟨(sa.trans st).trans s9, _, _, rfl⟩
    · rintro σ H' ⟨sa, v2, v3, rfl⟩
      refine ⟨_, rfl, a, _, rfl, .inl ⟨sa.seq ha, fun l hl2 => ?_⟩⟩
      have st : Same H' (upd H' l (.tup (sq.map V.int))) := same_upd hl2
      have hld : upd H' l (.tup (sq.map V.int)) l = some (.tup (sq.map V.int)) := upd_same
      generalize upd H' l (.tup (sq.map V.int)) = H2 at st hld
      have hp2 := (sa.trans st) _ _ hp
      have hlp : l ≠ p := ne_of hld hp2 (fun z => by cases z)
      refine ⟨_, rfl, p, C, dx, [], rfl, hp2, T.cl, T.nS, by show 0 < 1000; decide, ?_⟩
      refine ⟨_, rfl, p, C, dx, _, _, rfl, upd_same, T.cl, T.nS, by rw [lookup_putF, if_pos rfl], l, _, rfl, .inr (sqt (by rw [upd_ne hlp]; exact hld)), _, rfl, p, C, dx, _, rfl, upd_same, T.cl, T.nC, by show 1 < 1000; decide, ?_⟩
      refine k _ (fun b o hb e => ?_) ⟨dx, l, ?_, ?_⟩
      · rw [upd_ne hb, upd_ne hb]
        exact st _ _ (sa _ _ e)
      · rw [upd_same, List.length_map]
        rfl
      · rw [upd_ne hlp, upd_ne hlp]
        exact hld
  · refine ⟨_, rfl, a, _, rfl, .inl ha, _, _, rfl, rfl, _, rfl, ?_⟩
    unfold xkOf at hy
    by_cases h5 : 5 < ns.length
    · rw [if_pos h5] at hy
      cases hy
      rw [decide_eq_true (by rw [List.length_map]; omega)]
      rw [if_pos rfl]
      exact tx_raise (W := ⟨K, mg, C⟩) (f := fC) (d := .non) hmC MC naC ax (fun Q q => q) (fun n z => nomatch z) k
    · rw [if_neg h5] at hy
      obtain ⟨j, hj, rfl⟩ := Option.map_eq_some_iff.mp hy
      obtain ⟨hjl, hjb, hjg⟩ := List.findIdx?_eq_some_iff_getElem.mp hj
      rw [decide_eq_false (by rw [List.length_map]; omega)]
      refine iteF ⟨_, rfl, a, _, rfl, ha, for_enum (K := K) (a := a) (xs := ns.map V.int) (fun i σ H' => i ≤ j ∧ Same H H' ∧ ∃ v2 v3, σ = [some (.ref p), some (.ref a), v2, v3]) ⟨Nat.zero_le _, Same.refl _, _, _, rfl⟩ (fun i σ H' _ ⟨_, sa, _⟩ => sa.seq ha) ?_ ?_⟩
      · rintro i x σ H' T' hx ⟨hij, sa, v2, v3, rfl⟩ hT
        obtain ⟨z, e, rfl⟩ := get_map_int hx
        have st : Same H' (upd H' T' (.tup [.int (i : Nat), .int z])) := same_upd hT
        refine ⟨T', _, rfl, sqt upd_same, rfl, _, _, rfl, _, _, rfl, rfl, _, rfl, z, rfl, fun H9 s9 => ⟨_, rfl, ?_⟩⟩
        by_cases hi : i = j
        · subst hi
          have hz : ¬ (-1 ≤ z ∧ z ≤ 1) := by
            have : z = ns[i] := by rw [List.getElem?_eq_getElem hjl] at e; exact (Option.some.inj e).symm
            subst this
            have hjb' : ns[i] < -1 ∨ 1 < ns[i] := by simpa using hjb
            show ¬ (-1 ≤ ns[i] ∧ ns[i] ≤ 1)
            omega
          rw [decide_eq_false hz]
          have s3 := (sa.trans st).trans s9
          show ite _ _ _
          rw [Bool.not_false, if_pos rfl]
          exact tx_raise (W := ⟨K, mg, C⟩) (f := fS) (d := .int (i : Nat)) hmS MS naS (fun q a => let ⟨o, h, z⟩ := ax q a; ⟨o, s3 q o h, z⟩) (fun Q q => ⟨_, rfl, q⟩) (fun n _ A' H' => Rp.int_iff.mpr rfl) (WX.same k s3)
        · have hz : -1 ≤ z ∧ z ≤ 1 := by
            have hlt : i < j := by omega
            have := hjg i hlt
            have e2 : z = ns[i] := by rw [List.getElem?_eq_getElem (by omega)] at e; exact (Option.some.inj e).symm
            subst e2
            simpa using this
          rw [decide_eq_true hz]
          exact iteF ⟨by omega, (sa.trans st).trans s9, _, _, rfl⟩
      · rintro σ H' ⟨hij, _⟩
        rw [List.length_map] at hij
        omega
end
theorem ok_law {P : Program} {w : World} {K : PySem.W.Frag} {mg : Str → Option Value} {base : Heap} {C : Addr} {f : Addr} {fd : FuncData} (F : Fun K "law" "law" s_law f fd) (B : Bi mg) (kd : KD K mg C) (hVE : mg "ValueError" = none) (XT : XTab K mg xtb_k01) (VT : VTab K mg xcs_k01) (nm_StepError : ∃ f, mg "StepError" = some (.ref f)) (nm_NoWord : ∃ f, mg "NoWord" = some (.ref f)) (nm_NoVector : ∃ f, mg "NoVector" = some (.ref f)) (nm_NoUndo : ∃ f, mg "NoUndo" = some (.ref f)) (nm_NoText : ∃ f, mg "NoText" = some (.ref f)) (nm_NoTable : ∃ f, mg "NoTable" = some (.ref f)) (nm_NoSum : ∃ f, mg "NoSum" = some (.ref f)) (nm_NoStep : ∃ f, mg "NoStep" = some (.ref f)) (nm_NoSquare : ∃ f, mg "NoSquare" = some (.ref f)) (nm_NoProduct : ∃ f, mg "NoProduct" = some (.ref f)) (nm_NoPartner : ∃ f, mg "NoPartner" = some (.ref f)) (nm_NoName : ∃ f, mg "NoName" = some (.ref f)) (nm_NoMirror : ∃ f, mg "NoMirror" = some (.ref f)) (nm_NoLine : ∃ f, mg "NoLine" = some (.ref f)) (nm_NoKind : ∃ f, mg "NoKind" = some (.ref f)) (nm_NoKeep : ∃ f, mg "NoKeep" = some (.ref f)) (nm_NoHalves : ∃ f, mg "NoHalves" = some (.ref f)) (nm_NoGrade : ∃ f, mg "NoGrade" = some (.ref f)) (nm_NoFull : ∃ f, mg "NoFull" = some (.ref f)) (nm_NoEven : ∃ f, mg "NoEven" = some (.ref f)) (nm_NoCross : ∃ f, mg "NoCross" = some (.ref f)) (nm_NoCount : ∃ f, mg "NoCount" = some (.ref f)) (nm_NoBoards : ∃ f, mg "NoBoards" = some (.ref f)) (nm_BadStep : ∃ f, mg "BadStep" = some (.ref f)) (cau_StepError : Cau K mg "StepError" ["NoCount", "NoSquare"]) (x_NoCount : ∃ C', CtX P w K mg base "NoCount" C' none) (x_NoSquare : ∃ C', CtX P w K mg base "NoSquare" C' (some "place")) (d_is_whole : Df K mg "is_whole" s_is_whole ["number"]) (d_is_square : Df K mg "is_square" s_is_square ["number"]) (d__law_same : Df K mg "_law_same" s__law_same ["_law_found", "_law_due_here"]) (d__law_class : Df K mg "_law_class" s__law_class ["_law_e"]) (d__law_asked : Df K mg "_law_asked" s__law_asked ["_law_squares"]) (d__law_due : Df K mg "_law_due" s__law_due ["_law_squares"]) (d__law_list : Df K mg "_law_list" s__law_list ["_law_numbers_here"]) (d__law_mixed : Df K mg "_law_mixed" s__law_mixed ["_law_cell", "_law_place"]) (d__law_numbers : Df K mg "_law_numbers" s__law_numbers ["_law_cell", "_law_many"]) : FnOk P w K mg base CX0 10 f fd ["_law_script"] (spLaw K) := by
  have T := kd.kc
  have c_is_whole := v_is_whole (P := P) (w := w) (base := base) (C := C) d_is_whole B
  have c_is_square := v_is_square (P := P) (w := w) (base := base) (C := C) d_is_square B c_is_whole
  have c_Kind := ct_Kind kd B (sq_ct c_is_square)
  have c_KindU := ct_KindU (C := C) kd B c_is_square x_NoCount x_NoSquare
  have c__law_same := v__law_same (P := P) (w := w) (base := base) (C := C) d__law_same B
  have c__law_class := v__law_class (P := P) (w := w) (base := base) (C := C) d__law_class B hVE XT VT nm_StepError nm_NoWord nm_NoVector nm_NoUndo nm_NoText nm_NoTable nm_NoSum nm_NoStep nm_NoSquare nm_NoProduct nm_NoPartner nm_NoName nm_NoMirror nm_NoLine nm_NoKind nm_NoKeep nm_NoHalves nm_NoGrade nm_NoFull nm_NoEven nm_NoCross nm_NoCount nm_NoBoards nm_BadStep
  have c__law_asked := v__law_asked (P := P) (w := w) (base := base) (C := C) d__law_asked B T c_KindU cau_StepError c__law_class
  have c__law_due := v__law_due (P := P) (w := w) (base := base) (C := C) d__law_due B
  have c__law_list := v__law_list (P := P) (w := w) (base := base) (C := C) d__law_list B
  have c__law_mixed := v__law_mixed (P := P) (w := w) (base := base) (C := C) d__law_mixed B
  have c__law_numbers := v__law_numbers (P := P) (w := w) (base := base) (C := C) d__law_numbers B c__law_mixed
  exact ok_law0 (C := C) F B T c_Kind c__law_same c__law_asked c__law_due c__law_list c__law_numbers
end Toy
set_option linter.all false
set_option maxRecDepth 100000
set_option maxHeartbeats 8000000
namespace Toy
open PySem L2 Ma
theorem df_mk {K : PySem.W.Frag} {h : Heap} {mg : Str → Option Value} {x : Str} {st : Stmt} {ps : List Str} {f : Addr} {oc kV dc pm cd ct : Value} {od an : Option Addr} {sl : Array (Option Value)} (X : K.In h) (G : h.Ns mainGlobals mg)
    (a : PySem.W.nsIn K mainGlobals x = some (some (.ref f))) (l : K.lookup f = some ⟨oc, od, .func (PySem.W.fnOf x x (defArgs st) (defBody st) (defScope st) .none kV dc pm an cd ct), sl⟩) (c : PySem.W.codeIn K cd x = true) (k : PySem.W.keepIn K (.ref f) = true)
    (hb : ∀ (kV doc pm : Value) (an : Option Addr) (cdv ct : Value) (us : List Value), us.length = ps.length → bindArgs (PySem.W.fnOf x x (defArgs st) (defBody st) (defScope st) .none kV doc pm an cdv ct) ⟨us, []⟩ = pure (ps.zip us)) : Df K mg x st ps :=
  ⟨f, _, fun_mk (st := st) l c k, (fun_mk (st := st) l c k).binds (ps := ps) hb, PySem.W.mg_of X G a⟩
def xclsB (C : Addr) (cd : PySem.ClassData) (sl : Array (Option Value)) : Bool := match cd.mro, sl.toList with
    | .ref C' :: bm, [_, _, _, _, some (.builtin n), _] => C' == C && !cd.hasDel && cd.hasDict && bm.contains (.type "BaseException") && bm.contains (.type "ValueError") && !bm.contains (.type "AttributeError") && !bm.contains (.type "NameError") && bm.contains (.type "object") && n == "ValueError.__new__"
    | _, _ => false
theorem xcls_of {K : PySem.W.Frag} {C : Addr} {od : Option Addr} {cd : PySem.ClassData} {sl : Array (Option Value)} (h : K.lookup C = some ⟨.type "type", od, .cls cd, sl⟩) (e : xclsB C cd sl = true) : xclsIn K C = true := by
  unfold xclsIn
  rw [h]
  exact e
theorem tail_of {K : PySem.W.Frag} {C : Addr} {od : Option Addr} {cd : PySem.ClassData} {sl : Array (Option Value)} (h : K.lookup C = some ⟨.type "type", od, .cls cd, sl⟩) (e : (ownRest cd.mro == veTail) = true) : (PySem.W.clsIn K C).any (fun cd => ownRest cd.mro == veTail) = true := by
  unfold PySem.W.clsIn
  rw [h]
  exact e
theorem sc_StepError_init : FnScope ["self", "why"] ["self", "why"] (defScope s_StepError_init) := ⟨rfl, rfl, rfl, by decide +kernel, rfl, by decide +kernel, by decide +kernel⟩
theorem sc_NoSquare_init : FnScope ["self", "place"] ["self", "place"] (defScope s_NoSquare_init) := ⟨rfl, rfl, rfl, by decide +kernel, rfl, by decide +kernel, by decide +kernel⟩
theorem all_mk {l : PySem.W.OpenLaw} {w : World} {K : PySem.W.Frag} {h : Heap} {mg : Str → Option Value} {fa f0 : Addr} (X : K.In h) (G : h.Ns mainGlobals mg) (hfa : mg "law" = some (.ref fa))
    {C fI : Addr} {odI anI : Option Addr} {slI : Array (Option Value)} {ocI kVI dcI pmI cdI ctI : Value} (aC : PySem.W.nsIn K mainGlobals "Kind" = some (some (.ref C)))
    (aI : PySem.W.findIn K (.ref C) "__init__" = some (some (.ref fI))) (iI : PySem.W.isFn K (.ref fI) = true) (lI : K.lookup fI = some ⟨ocI, odI, .func (PySem.W.fnOf "__init__" "Kind.__init__" (defArgs s_Kind_init) (defBody s_Kind_init) (defScope s_Kind_init) .none kVI dcI pmI anI cdI ctI), slI⟩) (cI : PySem.W.codeIn K cdI "Kind.__init__" = true) (kI : PySem.W.keepIn K (.ref fI) = true)
    (pg : PySem.W.plainGet K C Str.empty = true) (hd : PySem.W.hasDictIn K C = true) (po : PySem.W.plainOver K C = true) (sa : PySem.W.findIn K (.ref C) "__setattr__" = some (some (.builtin "object.__setattr__"))) (mk : PySem.W.makesIn K C = true) (kc : PySem.W.keepIn K (.ref C) = true)
    (nF0 : PySem.W.findIn K (.ref C) "squares" = some none)
    (nF1 : PySem.W.findIn K (.ref C) "count" = some none)
    {CNoCount CNoSquare CStepError CNoWord CNoVector CNoUndo CNoText CNoTable CNoSum CNoStep CNoProduct CNoPartner CNoName CNoMirror CNoLine CNoKind CNoKeep CNoHalves CNoGrade CNoFull CNoEven CNoCross CNoBoards CBadStep : Addr}
    (aXNoCount : PySem.W.nsIn K mainGlobals "NoCount" = some (some (.ref CNoCount)))
    (aXNoSquare : PySem.W.nsIn K mainGlobals "NoSquare" = some (some (.ref CNoSquare)))
    (aXStepError : PySem.W.nsIn K mainGlobals "StepError" = some (some (.ref CStepError)))
    (aXNoWord : PySem.W.nsIn K mainGlobals "NoWord" = some (some (.ref CNoWord)))
    (aXNoVector : PySem.W.nsIn K mainGlobals "NoVector" = some (some (.ref CNoVector)))
    (aXNoUndo : PySem.W.nsIn K mainGlobals "NoUndo" = some (some (.ref CNoUndo)))
    (aXNoText : PySem.W.nsIn K mainGlobals "NoText" = some (some (.ref CNoText)))
    (aXNoTable : PySem.W.nsIn K mainGlobals "NoTable" = some (some (.ref CNoTable)))
    (aXNoSum : PySem.W.nsIn K mainGlobals "NoSum" = some (some (.ref CNoSum)))
    (aXNoStep : PySem.W.nsIn K mainGlobals "NoStep" = some (some (.ref CNoStep)))
    (aXNoProduct : PySem.W.nsIn K mainGlobals "NoProduct" = some (some (.ref CNoProduct)))
    (aXNoPartner : PySem.W.nsIn K mainGlobals "NoPartner" = some (some (.ref CNoPartner)))
    (aXNoName : PySem.W.nsIn K mainGlobals "NoName" = some (some (.ref CNoName)))
    (aXNoMirror : PySem.W.nsIn K mainGlobals "NoMirror" = some (some (.ref CNoMirror)))
    (aXNoLine : PySem.W.nsIn K mainGlobals "NoLine" = some (some (.ref CNoLine)))
    (aXNoKind : PySem.W.nsIn K mainGlobals "NoKind" = some (some (.ref CNoKind)))
    (aXNoKeep : PySem.W.nsIn K mainGlobals "NoKeep" = some (some (.ref CNoKeep)))
    (aXNoHalves : PySem.W.nsIn K mainGlobals "NoHalves" = some (some (.ref CNoHalves)))
    (aXNoGrade : PySem.W.nsIn K mainGlobals "NoGrade" = some (some (.ref CNoGrade)))
    (aXNoFull : PySem.W.nsIn K mainGlobals "NoFull" = some (some (.ref CNoFull)))
    (aXNoEven : PySem.W.nsIn K mainGlobals "NoEven" = some (some (.ref CNoEven)))
    (aXNoCross : PySem.W.nsIn K mainGlobals "NoCross" = some (some (.ref CNoCross)))
    (aXNoBoards : PySem.W.nsIn K mainGlobals "NoBoards" = some (some (.ref CNoBoards)))
    (aXBadStep : PySem.W.nsIn K mainGlobals "BadStep" = some (some (.ref CBadStep)))
    (zVE : PySem.W.nsIn K mainGlobals "ValueError" = some none)
    {fXStepError : Addr} {fXNoSquare : Addr} 
    (fdSE : PySem.W.findCls K (.ref CStepError) (.type "type") "__init__" = some (.val (.ref fXStepError)))
    {odXStepError anXStepError : Option Addr} {slXStepError : Array (Option Value)} {ocXStepError kVXStepError dcXStepError pmXStepError cdXStepError ctXStepError : Value} {TSE nSE : Nat} {ocSE vSE : Value} {odSE : Option Addr} {slSE : Array (Option Value)}
    (lXStepError : K.lookup fXStepError = some ⟨ocXStepError, odXStepError, .func (PySem.W.fnOf "__init__" "StepError.__init__" (defArgs s_StepError_init) (defBody s_StepError_init) (defScope s_StepError_init) (.ref TSE) kVXStepError dcXStepError pmXStepError anXStepError cdXStepError ctXStepError), slXStepError⟩)
    (dfSE : K.lookup TSE = some ⟨ocSE, odSE, .seq #[vSE] nSE, slSE⟩)
    (cXStepError : PySem.W.codeIn K cdXStepError "StepError.__init__" = true)
    (spSE : PySem.W.specialIn K (.ref CStepError) "__getattribute__" = some (some (.builtin "type.__getattribute__")))
    (rdSE : PySem.W.readsIn K CStepError (.type "type") = true)
    (kpSE : PySem.W.keepIn K (.ref fXStepError) = true)
    (inXNoCount : PySem.W.findIn K (.ref CNoCount) "__init__" = some (some (.ref fXStepError)))
    {oyXNoCount : Option Addr} {ccXNoCount : PySem.ClassData} {scXNoCount : Array (Option Value)}
    (lkXNoCount : K.lookup CNoCount = some ⟨.type "type", oyXNoCount, .cls ccXNoCount, scXNoCount⟩)
    (okXNoCount : xclsB CNoCount ccXNoCount scXNoCount = true)
    (tlXNoCount : (ownRest ccXNoCount.mro == veTail) = true)
    (gaXNoCount : PySem.W.findIn K (.ref CNoCount) "__getattribute__" = some (some (.builtin "BaseException.__getattribute__")))
    (gtXNoCount : PySem.W.findIn K (.ref CNoCount) "__getattr__" = some none)
    (saXNoCount : PySem.W.findIn K (.ref CNoCount) "__setattr__" = some (some (.builtin "object.__setattr__")))
    (clXNoCount : PySem.W.findIn K (.ref CNoCount) "__class__" = some (some (.builtin "object.__class__")))
    (fnXNoCount : PySem.W.isFn K (.ref fXStepError) = true)
    (kpXNoCount : PySem.W.keepIn K (.ref CNoCount) = true)
    (inXNoSquare : PySem.W.findIn K (.ref CNoSquare) "__init__" = some (some (.ref fXNoSquare)))
    {odXNoSquare anXNoSquare : Option Addr} {slXNoSquare : Array (Option Value)} {ocXNoSquare kVXNoSquare dcXNoSquare pmXNoSquare cdXNoSquare ctXNoSquare : Value}
    (lXNoSquare : K.lookup fXNoSquare = some ⟨ocXNoSquare, odXNoSquare, .func (PySem.W.fnOf "__init__" "NoSquare.__init__" (defArgs s_NoSquare_init) (defBody s_NoSquare_init) (defScope s_NoSquare_init) .none kVXNoSquare dcXNoSquare pmXNoSquare anXNoSquare cdXNoSquare ctXNoSquare), slXNoSquare⟩)
    (cXNoSquare : PySem.W.codeIn K cdXNoSquare "NoSquare.__init__" = true)
    {oyXNoSquare : Option Addr} {ccXNoSquare : PySem.ClassData} {scXNoSquare : Array (Option Value)}
    (lkXNoSquare : K.lookup CNoSquare = some ⟨.type "type", oyXNoSquare, .cls ccXNoSquare, scXNoSquare⟩)
    (okXNoSquare : xclsB CNoSquare ccXNoSquare scXNoSquare = true)
    (tlXNoSquare : (ownRest ccXNoSquare.mro == veTail) = true)
    (gaXNoSquare : PySem.W.findIn K (.ref CNoSquare) "__getattribute__" = some (some (.builtin "BaseException.__getattribute__")))
    (gtXNoSquare : PySem.W.findIn K (.ref CNoSquare) "__getattr__" = some none)
    (saXNoSquare : PySem.W.findIn K (.ref CNoSquare) "__setattr__" = some (some (.builtin "object.__setattr__")))
    (clXNoSquare : PySem.W.findIn K (.ref CNoSquare) "__class__" = some (some (.builtin "object.__class__")))
    (fnXNoSquare : PySem.W.isFn K (.ref fXNoSquare) = true)
    (kpXNoSquare : PySem.W.keepIn K (.ref CNoSquare) = true)
    (naXNoSquare : PySem.W.findIn K (.ref CNoSquare) "place" = some none)
    (tXNoCount_StepError : PySem.W.kitOne K (.ref CNoCount) (.ref CStepError) = some true)
    (tXNoCount_NoCount : PySem.W.kitOne K (.ref CNoCount) (.ref CNoCount) = some true)
    (tXNoCount_NoSum : PySem.W.kitOne K (.ref CNoCount) (.ref CNoSum) = some false)
    (tXNoCount_NoGrade : PySem.W.kitOne K (.ref CNoCount) (.ref CNoGrade) = some false)
    (tXNoCount_NoProduct : PySem.W.kitOne K (.ref CNoCount) (.ref CNoProduct) = some false)
    (tXNoCount_NoEven : PySem.W.kitOne K (.ref CNoCount) (.ref CNoEven) = some false)
    (tXNoCount_NoHalves : PySem.W.kitOne K (.ref CNoCount) (.ref CNoHalves) = some false)
    (tXNoCount_NoBoards : PySem.W.kitOne K (.ref CNoCount) (.ref CNoBoards) = some false)
    (tXNoCount_NoCross : PySem.W.kitOne K (.ref CNoCount) (.ref CNoCross) = some false)
    (tXNoCount_NoKind : PySem.W.kitOne K (.ref CNoCount) (.ref CNoKind) = some false)
    (tXNoCount_NoWord : PySem.W.kitOne K (.ref CNoCount) (.ref CNoWord) = some false)
    (tXNoCount_NoUndo : PySem.W.kitOne K (.ref CNoCount) (.ref CNoUndo) = some false)
    (tXNoCount_NoLine : PySem.W.kitOne K (.ref CNoCount) (.ref CNoLine) = some false)
    (tXNoCount_NoSquare : PySem.W.kitOne K (.ref CNoCount) (.ref CNoSquare) = some false)
    (tXNoCount_NoFull : PySem.W.kitOne K (.ref CNoCount) (.ref CNoFull) = some false)
    (tXNoCount_NoVector : PySem.W.kitOne K (.ref CNoCount) (.ref CNoVector) = some false)
    (tXNoCount_NoMirror : PySem.W.kitOne K (.ref CNoCount) (.ref CNoMirror) = some false)
    (tXNoCount_NoStep : PySem.W.kitOne K (.ref CNoCount) (.ref CNoStep) = some false)
    (tXNoCount_NoPartner : PySem.W.kitOne K (.ref CNoCount) (.ref CNoPartner) = some false)
    (tXNoCount_NoTable : PySem.W.kitOne K (.ref CNoCount) (.ref CNoTable) = some false)
    (tXNoCount_NoKeep : PySem.W.kitOne K (.ref CNoCount) (.ref CNoKeep) = some false)
    (tXNoCount_BadStep : PySem.W.kitOne K (.ref CNoCount) (.ref CBadStep) = some false)
    (tXNoCount_NoText : PySem.W.kitOne K (.ref CNoCount) (.ref CNoText) = some false)
    (tXNoCount_NoName : PySem.W.kitOne K (.ref CNoCount) (.ref CNoName) = some false)
    (vXNoCount : PySem.W.kitOne K (.ref CNoCount) (.type "ValueError") = some true)
    (tXNoSquare_StepError : PySem.W.kitOne K (.ref CNoSquare) (.ref CStepError) = some true)
    (tXNoSquare_NoCount : PySem.W.kitOne K (.ref CNoSquare) (.ref CNoCount) = some false)
    (tXNoSquare_NoSum : PySem.W.kitOne K (.ref CNoSquare) (.ref CNoSum) = some false)
    (tXNoSquare_NoGrade : PySem.W.kitOne K (.ref CNoSquare) (.ref CNoGrade) = some false)
    (tXNoSquare_NoProduct : PySem.W.kitOne K (.ref CNoSquare) (.ref CNoProduct) = some false)
    (tXNoSquare_NoEven : PySem.W.kitOne K (.ref CNoSquare) (.ref CNoEven) = some false)
    (tXNoSquare_NoHalves : PySem.W.kitOne K (.ref CNoSquare) (.ref CNoHalves) = some false)
    (tXNoSquare_NoBoards : PySem.W.kitOne K (.ref CNoSquare) (.ref CNoBoards) = some false)
    (tXNoSquare_NoCross : PySem.W.kitOne K (.ref CNoSquare) (.ref CNoCross) = some false)
    (tXNoSquare_NoKind : PySem.W.kitOne K (.ref CNoSquare) (.ref CNoKind) = some false)
    (tXNoSquare_NoWord : PySem.W.kitOne K (.ref CNoSquare) (.ref CNoWord) = some false)
    (tXNoSquare_NoUndo : PySem.W.kitOne K (.ref CNoSquare) (.ref CNoUndo) = some false)
    (tXNoSquare_NoLine : PySem.W.kitOne K (.ref CNoSquare) (.ref CNoLine) = some false)
    (tXNoSquare_NoSquare : PySem.W.kitOne K (.ref CNoSquare) (.ref CNoSquare) = some true)
    (tXNoSquare_NoFull : PySem.W.kitOne K (.ref CNoSquare) (.ref CNoFull) = some false)
    (tXNoSquare_NoVector : PySem.W.kitOne K (.ref CNoSquare) (.ref CNoVector) = some false)
    (tXNoSquare_NoMirror : PySem.W.kitOne K (.ref CNoSquare) (.ref CNoMirror) = some false)
    (tXNoSquare_NoStep : PySem.W.kitOne K (.ref CNoSquare) (.ref CNoStep) = some false)
    (tXNoSquare_NoPartner : PySem.W.kitOne K (.ref CNoSquare) (.ref CNoPartner) = some false)
    (tXNoSquare_NoTable : PySem.W.kitOne K (.ref CNoSquare) (.ref CNoTable) = some false)
    (tXNoSquare_NoKeep : PySem.W.kitOne K (.ref CNoSquare) (.ref CNoKeep) = some false)
    (tXNoSquare_BadStep : PySem.W.kitOne K (.ref CNoSquare) (.ref CBadStep) = some false)
    (tXNoSquare_NoText : PySem.W.kitOne K (.ref CNoSquare) (.ref CNoText) = some false)
    (tXNoSquare_NoName : PySem.W.kitOne K (.ref CNoSquare) (.ref CNoName) = some false)
    (vXNoSquare : PySem.W.kitOne K (.ref CNoSquare) (.type "ValueError") = some true)
    (eXNoCount_StepError : PySem.W.exmOne K (.ref CNoCount) (.ref CStepError) = some true)
    (eXNoSquare_StepError : PySem.W.exmOne K (.ref CNoSquare) (.ref CStepError) = some true)
    {tMOST_STEPS : _} (aMOST_STEPS : PySem.W.nsIn K mainGlobals "MOST_STEPS" = some (some (.int 5 tMOST_STEPS)))
    {f1 : Addr} {od1 an1 : Option Addr} {sl1 : Array (Option Value)} {oc1 kV1 dc1 pm1 cd1 ct1 : Value} (a1 : PySem.W.nsIn K mainGlobals "is_whole" = some (some (.ref f1))) (l1 : K.lookup f1 = some ⟨oc1, od1, .func (PySem.W.fnOf "is_whole" "is_whole" (defArgs s_is_whole) (defBody s_is_whole) (defScope s_is_whole) .none kV1 dc1 pm1 an1 cd1 ct1), sl1⟩) (c1 : PySem.W.codeIn K cd1 "is_whole" = true) (k1 : PySem.W.keepIn K (.ref f1) = true)
    {f2 : Addr} {od2 an2 : Option Addr} {sl2 : Array (Option Value)} {oc2 kV2 dc2 pm2 cd2 ct2 : Value} (a2 : PySem.W.nsIn K mainGlobals "is_square" = some (some (.ref f2))) (l2 : K.lookup f2 = some ⟨oc2, od2, .func (PySem.W.fnOf "is_square" "is_square" (defArgs s_is_square) (defBody s_is_square) (defScope s_is_square) .none kV2 dc2 pm2 an2 cd2 ct2), sl2⟩) (c2 : PySem.W.codeIn K cd2 "is_square" = true) (k2 : PySem.W.keepIn K (.ref f2) = true)
    {f3 : Addr} {od3 an3 : Option Addr} {sl3 : Array (Option Value)} {oc3 kV3 dc3 pm3 cd3 ct3 : Value} (a3 : PySem.W.nsIn K mainGlobals "_law_same" = some (some (.ref f3))) (l3 : K.lookup f3 = some ⟨oc3, od3, .func (PySem.W.fnOf "_law_same" "_law_same" (defArgs s__law_same) (defBody s__law_same) (defScope s__law_same) .none kV3 dc3 pm3 an3 cd3 ct3), sl3⟩) (c3 : PySem.W.codeIn K cd3 "_law_same" = true) (k3 : PySem.W.keepIn K (.ref f3) = true)
    {f4 : Addr} {od4 an4 : Option Addr} {sl4 : Array (Option Value)} {oc4 kV4 dc4 pm4 cd4 ct4 : Value} (a4 : PySem.W.nsIn K mainGlobals "_law_class" = some (some (.ref f4))) (l4 : K.lookup f4 = some ⟨oc4, od4, .func (PySem.W.fnOf "_law_class" "_law_class" (defArgs s__law_class) (defBody s__law_class) (defScope s__law_class) .none kV4 dc4 pm4 an4 cd4 ct4), sl4⟩) (c4 : PySem.W.codeIn K cd4 "_law_class" = true) (k4 : PySem.W.keepIn K (.ref f4) = true)
    {f5 : Addr} {od5 an5 : Option Addr} {sl5 : Array (Option Value)} {oc5 kV5 dc5 pm5 cd5 ct5 : Value} (a5 : PySem.W.nsIn K mainGlobals "_law_asked" = some (some (.ref f5))) (l5 : K.lookup f5 = some ⟨oc5, od5, .func (PySem.W.fnOf "_law_asked" "_law_asked" (defArgs s__law_asked) (defBody s__law_asked) (defScope s__law_asked) .none kV5 dc5 pm5 an5 cd5 ct5), sl5⟩) (c5 : PySem.W.codeIn K cd5 "_law_asked" = true) (k5 : PySem.W.keepIn K (.ref f5) = true)
    {f6 : Addr} {od6 an6 : Option Addr} {sl6 : Array (Option Value)} {oc6 kV6 dc6 pm6 cd6 ct6 : Value} (a6 : PySem.W.nsIn K mainGlobals "_law_due" = some (some (.ref f6))) (l6 : K.lookup f6 = some ⟨oc6, od6, .func (PySem.W.fnOf "_law_due" "_law_due" (defArgs s__law_due) (defBody s__law_due) (defScope s__law_due) .none kV6 dc6 pm6 an6 cd6 ct6), sl6⟩) (c6 : PySem.W.codeIn K cd6 "_law_due" = true) (k6 : PySem.W.keepIn K (.ref f6) = true)
    {f7 : Addr} {od7 an7 : Option Addr} {sl7 : Array (Option Value)} {oc7 kV7 dc7 pm7 cd7 ct7 : Value} (a7 : PySem.W.nsIn K mainGlobals "_law_list" = some (some (.ref f7))) (l7 : K.lookup f7 = some ⟨oc7, od7, .func (PySem.W.fnOf "_law_list" "_law_list" (defArgs s__law_list) (defBody s__law_list) (defScope s__law_list) .none kV7 dc7 pm7 an7 cd7 ct7), sl7⟩) (c7 : PySem.W.codeIn K cd7 "_law_list" = true) (k7 : PySem.W.keepIn K (.ref f7) = true)
    {f8 : Addr} {od8 an8 : Option Addr} {sl8 : Array (Option Value)} {oc8 kV8 dc8 pm8 cd8 ct8 : Value} (a8 : PySem.W.nsIn K mainGlobals "_law_mixed" = some (some (.ref f8))) (l8 : K.lookup f8 = some ⟨oc8, od8, .func (PySem.W.fnOf "_law_mixed" "_law_mixed" (defArgs s__law_mixed) (defBody s__law_mixed) (defScope s__law_mixed) .none kV8 dc8 pm8 an8 cd8 ct8), sl8⟩) (c8 : PySem.W.codeIn K cd8 "_law_mixed" = true) (k8 : PySem.W.keepIn K (.ref f8) = true)
    {f9 : Addr} {od9 an9 : Option Addr} {sl9 : Array (Option Value)} {oc9 kV9 dc9 pm9 cd9 ct9 : Value} (a9 : PySem.W.nsIn K mainGlobals "_law_numbers" = some (some (.ref f9))) (l9 : K.lookup f9 = some ⟨oc9, od9, .func (PySem.W.fnOf "_law_numbers" "_law_numbers" (defArgs s__law_numbers) (defBody s__law_numbers) (defScope s__law_numbers) .none kV9 dc9 pm9 an9 cd9 ct9), sl9⟩) (c9 : PySem.W.codeIn K cd9 "_law_numbers" = true) (k9 : PySem.W.keepIn K (.ref f9) = true)
    {od0 an0 : Option Addr} {sl0 : Array (Option Value)} {oc0 kV0 dc0 pm0 cd0 ct0 : Value} (a0 : PySem.W.nsIn K mainGlobals "law" = some (some (.ref f0))) (l0 : K.lookup f0 = some ⟨oc0, od0, .func (PySem.W.fnOf "law" "law" (defArgs s_law) (defBody s_law) (defScope s_law) .none kV0 dc0 pm0 an0 cd0 ct0), sl0⟩) (c0 : PySem.W.codeIn K cd0 "law" = true) (k0 : PySem.W.keepIn K (.ref f0) = true)
    (zlen : PySem.W.nsIn K mainGlobals "len" = some none) (ztuple : PySem.W.nsIn K mainGlobals "tuple" = some none) (zsorted : PySem.W.nsIn K mainGlobals "sorted" = some none) (zrange : PySem.W.nsIn K mainGlobals "range" = some none) (zisinstance : PySem.W.nsIn K mainGlobals "isinstance" = some none) (zint : PySem.W.nsIn K mainGlobals "int" = some none) (zbool : PySem.W.nsIn K mainGlobals "bool" = some none) (zlist : PySem.W.nsIn K mainGlobals "list" = some none) (zstr : PySem.W.nsIn K mainGlobals "str" = some none) (zabs : PySem.W.nsIn K mainGlobals "abs" = some none) (zenumerate : PySem.W.nsIn K mainGlobals "enumerate" = some none) (zall : PySem.W.nsIn K mainGlobals "all" = some none) (zany : PySem.W.nsIn K mainGlobals "any" = some none) (zzip : PySem.W.nsIn K mainGlobals "zip" = some none) (zmax : PySem.W.nsIn K mainGlobals "max" = some none) (zmin : PySem.W.nsIn K mainGlobals "min" = some none) (zsum : PySem.W.nsIn K mainGlobals "sum" = some none) (zdict : PySem.W.nsIn K mainGlobals "dict" = some none) (zset : PySem.W.nsIn K mainGlobals "set" = some none) (zreversed : PySem.W.nsIn K mainGlobals "reversed" = some none) :
    ∃ fd : FuncData, (∀ (s : Shared) (v : Value), BindsTo s fd ⟨[v], []⟩ [("_law_script", v)]) ∧ ∀ base : Heap, K.In base → base.Ns mainGlobals mg → FnOk l.prog w K mg base CX0 10 fa fd ["_law_script"] (spLaw K) := by
  have e := hfa.symm.trans (PySem.W.mg_of X G a0)
  cases e
  have B : Bi mg := ⟨PySem.W.mg_none_of X G zlen, PySem.W.mg_none_of X G ztuple, PySem.W.mg_none_of X G zsorted, PySem.W.mg_none_of X G zrange, PySem.W.mg_none_of X G zisinstance, PySem.W.mg_none_of X G zint, PySem.W.mg_none_of X G zbool, PySem.W.mg_none_of X G zlist, PySem.W.mg_none_of X G zstr, PySem.W.mg_none_of X G zabs, PySem.W.mg_none_of X G zenumerate, PySem.W.mg_none_of X G zall, PySem.W.mg_none_of X G zany, PySem.W.mg_none_of X G zzip, PySem.W.mg_none_of X G zmax, PySem.W.mg_none_of X G zmin, PySem.W.mg_none_of X G zsum, PySem.W.mg_none_of X G zdict, PySem.W.mg_none_of X G zset, PySem.W.mg_none_of X G zreversed⟩
  have F0 := fun_mk (st := s_law) l0 c0 k0
  have FI := fun_mk (st := s_Kind_init) lI cI kI
  have bI := FI.binds (ps := ["self", "squares"]) fun _ _ _ _ _ _ us hl => match us, hl with | [_, _], _ => rfl
  have FSE := funD_mk (st := s_StepError_init) lXStepError cXStepError
  have bSE : Binds K (PySem.W.fnOf "__init__" "StepError.__init__" (defArgs s_StepError_init) (defBody s_StepError_init) (defScope s_StepError_init) (.ref TSE) kVXStepError dcXStepError pmXStepError anXStepError cdXStepError ctXStepError) ["self", "why"] [] := fun s us X hl => match us, hl with | [_, _], _ => PySem.W.binds_K X rfl dfSE rfl rfl rfl
  have MXNoCount : ExMk K CNoCount fXStepError := ⟨⟨xcls_of lkXNoCount okXNoCount, tail_of lkXNoCount tlXNoCount, gaXNoCount, gtXNoCount, saXNoCount, clXNoCount⟩, inXNoCount, fnXNoCount, kpXNoCount⟩
  have MXNoSquare : ExMk K CNoSquare fXNoSquare := ⟨⟨xcls_of lkXNoSquare okXNoSquare, tail_of lkXNoSquare tlXNoSquare, gaXNoSquare, gtXNoSquare, saXNoSquare, clXNoSquare⟩, inXNoSquare, fnXNoSquare, kpXNoSquare⟩
  exact ⟨PySem.W.fnOf "law" "law" (defArgs s_law) (defBody s_law) (defScope s_law) .none kV0 dc0 pm0 an0 cd0 ct0, fun s v => .of_eq rfl, fun base _ _ => (by
    have F1 := se_init (P := l.prog) (w := w) (K := K) (mg := mg) (base := base) FSE (PySem.W.mg_none_of X G zVE) sc_StepError_init (by rfl) rfl (fun env => ⟨_, rfl⟩)
    have x_NoCount : ∃ C, CtX l.prog w K mg base "NoCount" C none := ⟨_, ctx_plain (PySem.W.mg_of X G aXNoCount) MXNoCount F1 bSE⟩
    have FXNoSquare := funD_mk (st := s_NoSquare_init) lXNoSquare cXNoSquare
    have bXNoSquare : Binds K (PySem.W.fnOf "__init__" "NoSquare.__init__" (defArgs s_NoSquare_init) (defBody s_NoSquare_init) (defScope s_NoSquare_init) .none kVXNoSquare dcXNoSquare pmXNoSquare anXNoSquare cdXNoSquare ctXNoSquare) ["self", "place"] [] := fun s us X hl => match us, hl with | [_, _], _ => .of_eq rfl
    have F2NoSquare := xf_init (P := l.prog) (w := w) (K := K) (mg := mg) (base := base) FXNoSquare (PySem.W.mg_of X G aXStepError) ⟨spSE, rdSE, fdSE, kpSE⟩ F1 bSE sc_NoSquare_init (by rfl) (by decide) (by decide) rfl (fun env => ⟨_, rfl⟩)
    have x_NoSquare : ∃ C, CtX l.prog w K mg base "NoSquare" C (some "place") := ⟨_, ctx_field (PySem.W.mg_of X G aXNoSquare) MXNoSquare naXNoSquare F2NoSquare bXNoSquare⟩
    exact ok_law F0 B ⟨⟨⟨pg, hd, po, sa⟩, nF0, nF1⟩, ⟨_, _, ⟨mk, aI, iI, kc⟩, FI, bI⟩, PySem.W.mg_of X G aC, _, PySem.W.mg_of X G aMOST_STEPS⟩ (PySem.W.mg_none_of X G zVE) (BV.XTab.cons (PySem.W.mg_of X G aXNoCount) (PySem.W.mg_of X G aXStepError) tXNoCount_StepError (BV.XTab.cons (PySem.W.mg_of X G aXNoCount) (PySem.W.mg_of X G aXNoCount) tXNoCount_NoCount (BV.XTab.cons (PySem.W.mg_of X G aXNoCount) (PySem.W.mg_of X G aXNoSum) tXNoCount_NoSum (BV.XTab.cons (PySem.W.mg_of X G aXNoCount) (PySem.W.mg_of X G aXNoGrade) tXNoCount_NoGrade (BV.XTab.cons (PySem.W.mg_of X G aXNoCount) (PySem.W.mg_of X G aXNoProduct) tXNoCount_NoProduct (BV.XTab.cons (PySem.W.mg_of X G aXNoCount) (PySem.W.mg_of X G aXNoEven) tXNoCount_NoEven (BV.XTab.cons (PySem.W.mg_of X G aXNoCount) (PySem.W.mg_of X G aXNoHalves) tXNoCount_NoHalves (BV.XTab.cons (PySem.W.mg_of X G aXNoCount) (PySem.W.mg_of X G aXNoBoards) tXNoCount_NoBoards (BV.XTab.cons (PySem.W.mg_of X G aXNoCount) (PySem.W.mg_of X G aXNoCross) tXNoCount_NoCross (BV.XTab.cons (PySem.W.mg_of X G aXNoCount) (PySem.W.mg_of X G aXNoKind) tXNoCount_NoKind (BV.XTab.cons (PySem.W.mg_of X G aXNoCount) (PySem.W.mg_of X G aXNoWord) tXNoCount_NoWord (BV.XTab.cons (PySem.W.mg_of X G aXNoCount) (PySem.W.mg_of X G aXNoUndo) tXNoCount_NoUndo (BV.XTab.cons (PySem.W.mg_of X G aXNoCount) (PySem.W.mg_of X G aXNoLine) tXNoCount_NoLine (BV.XTab.cons (PySem.W.mg_of X G aXNoCount) (PySem.W.mg_of X G aXNoSquare) tXNoCount_NoSquare (BV.XTab.cons (PySem.W.mg_of X G aXNoCount) (PySem.W.mg_of X G aXNoFull) tXNoCount_NoFull (BV.XTab.cons (PySem.W.mg_of X G aXNoCount) (PySem.W.mg_of X G aXNoVector) tXNoCount_NoVector (BV.XTab.cons (PySem.W.mg_of X G aXNoCount) (PySem.W.mg_of X G aXNoMirror) tXNoCount_NoMirror (BV.XTab.cons (PySem.W.mg_of X G aXNoCount) (PySem.W.mg_of X G aXNoStep) tXNoCount_NoStep (BV.XTab.cons (PySem.W.mg_of X G aXNoCount) (PySem.W.mg_of X G aXNoPartner) tXNoCount_NoPartner (BV.XTab.cons (PySem.W.mg_of X G aXNoCount) (PySem.W.mg_of X G aXNoTable) tXNoCount_NoTable (BV.XTab.cons (PySem.W.mg_of X G aXNoCount) (PySem.W.mg_of X G aXNoKeep) tXNoCount_NoKeep (BV.XTab.cons (PySem.W.mg_of X G aXNoCount) (PySem.W.mg_of X G aXBadStep) tXNoCount_BadStep (BV.XTab.cons (PySem.W.mg_of X G aXNoCount) (PySem.W.mg_of X G aXNoText) tXNoCount_NoText (BV.XTab.cons (PySem.W.mg_of X G aXNoCount) (PySem.W.mg_of X G aXNoName) tXNoCount_NoName (BV.XTab.cons (PySem.W.mg_of X G aXNoSquare) (PySem.W.mg_of X G aXStepError) tXNoSquare_StepError (BV.XTab.cons (PySem.W.mg_of X G aXNoSquare) (PySem.W.mg_of X G aXNoCount) tXNoSquare_NoCount (BV.XTab.cons (PySem.W.mg_of X G aXNoSquare) (PySem.W.mg_of X G aXNoSum) tXNoSquare_NoSum (BV.XTab.cons (PySem.W.mg_of X G aXNoSquare) (PySem.W.mg_of X G aXNoGrade) tXNoSquare_NoGrade (BV.XTab.cons (PySem.W.mg_of X G aXNoSquare) (PySem.W.mg_of X G aXNoProduct) tXNoSquare_NoProduct (BV.XTab.cons (PySem.W.mg_of X G aXNoSquare) (PySem.W.mg_of X G aXNoEven) tXNoSquare_NoEven (BV.XTab.cons (PySem.W.mg_of X G aXNoSquare) (PySem.W.mg_of X G aXNoHalves) tXNoSquare_NoHalves (BV.XTab.cons (PySem.W.mg_of X G aXNoSquare) (PySem.W.mg_of X G aXNoBoards) tXNoSquare_NoBoards (BV.XTab.cons (PySem.W.mg_of X G aXNoSquare) (PySem.W.mg_of X G aXNoCross) tXNoSquare_NoCross (BV.XTab.cons (PySem.W.mg_of X G aXNoSquare) (PySem.W.mg_of X G aXNoKind) tXNoSquare_NoKind (BV.XTab.cons (PySem.W.mg_of X G aXNoSquare) (PySem.W.mg_of X G aXNoWord) tXNoSquare_NoWord (BV.XTab.cons (PySem.W.mg_of X G aXNoSquare) (PySem.W.mg_of X G aXNoUndo) tXNoSquare_NoUndo (BV.XTab.cons (PySem.W.mg_of X G aXNoSquare) (PySem.W.mg_of X G aXNoLine) tXNoSquare_NoLine (BV.XTab.cons (PySem.W.mg_of X G aXNoSquare) (PySem.W.mg_of X G aXNoSquare) tXNoSquare_NoSquare (BV.XTab.cons (PySem.W.mg_of X G aXNoSquare) (PySem.W.mg_of X G aXNoFull) tXNoSquare_NoFull (BV.XTab.cons (PySem.W.mg_of X G aXNoSquare) (PySem.W.mg_of X G aXNoVector) tXNoSquare_NoVector (BV.XTab.cons (PySem.W.mg_of X G aXNoSquare) (PySem.W.mg_of X G aXNoMirror) tXNoSquare_NoMirror (BV.XTab.cons (PySem.W.mg_of X G aXNoSquare) (PySem.W.mg_of X G aXNoStep) tXNoSquare_NoStep (BV.XTab.cons (PySem.W.mg_of X G aXNoSquare) (PySem.W.mg_of X G aXNoPartner) tXNoSquare_NoPartner (BV.XTab.cons (PySem.W.mg_of X G aXNoSquare) (PySem.W.mg_of X G aXNoTable) tXNoSquare_NoTable (BV.XTab.cons (PySem.W.mg_of X G aXNoSquare) (PySem.W.mg_of X G aXNoKeep) tXNoSquare_NoKeep (BV.XTab.cons (PySem.W.mg_of X G aXNoSquare) (PySem.W.mg_of X G aXBadStep) tXNoSquare_BadStep (BV.XTab.cons (PySem.W.mg_of X G aXNoSquare) (PySem.W.mg_of X G aXNoText) tXNoSquare_NoText (BV.XTab.cons (PySem.W.mg_of X G aXNoSquare) (PySem.W.mg_of X G aXNoName) tXNoSquare_NoName BV.XTab.nil)))))))))))))))))))))))))))))))))))))))))))))))) (BV.VTab.cons (PySem.W.mg_of X G aXNoCount) vXNoCount (BV.VTab.cons (PySem.W.mg_of X G aXNoSquare) vXNoSquare BV.VTab.nil)) ⟨_, (PySem.W.mg_of X G aXStepError)⟩ ⟨_, (PySem.W.mg_of X G aXNoWord)⟩ ⟨_, (PySem.W.mg_of X G aXNoVector)⟩ ⟨_, (PySem.W.mg_of X G aXNoUndo)⟩ ⟨_, (PySem.W.mg_of X G aXNoText)⟩ ⟨_, (PySem.W.mg_of X G aXNoTable)⟩ ⟨_, (PySem.W.mg_of X G aXNoSum)⟩ ⟨_, (PySem.W.mg_of X G aXNoStep)⟩ ⟨_, (PySem.W.mg_of X G aXNoSquare)⟩ ⟨_, (PySem.W.mg_of X G aXNoProduct)⟩ ⟨_, (PySem.W.mg_of X G aXNoPartner)⟩ ⟨_, (PySem.W.mg_of X G aXNoName)⟩ ⟨_, (PySem.W.mg_of X G aXNoMirror)⟩ ⟨_, (PySem.W.mg_of X G aXNoLine)⟩ ⟨_, (PySem.W.mg_of X G aXNoKind)⟩ ⟨_, (PySem.W.mg_of X G aXNoKeep)⟩ ⟨_, (PySem.W.mg_of X G aXNoHalves)⟩ ⟨_, (PySem.W.mg_of X G aXNoGrade)⟩ ⟨_, (PySem.W.mg_of X G aXNoFull)⟩ ⟨_, (PySem.W.mg_of X G aXNoEven)⟩ ⟨_, (PySem.W.mg_of X G aXNoCross)⟩ ⟨_, (PySem.W.mg_of X G aXNoCount)⟩ ⟨_, (PySem.W.mg_of X G aXNoBoards)⟩ ⟨_, (PySem.W.mg_of X G aXBadStep)⟩ (BV.Cau.cons (PySem.W.mg_of X G aXStepError) (PySem.W.mg_of X G aXNoCount) eXNoCount_StepError (BV.Cau.cons (PySem.W.mg_of X G aXStepError) (PySem.W.mg_of X G aXNoSquare) eXNoSquare_StepError (BV.Cau.nil (PySem.W.mg_of X G aXStepError)))) x_NoCount x_NoSquare
      (df_mk X G a1 l1 c1 k1 fun _ _ _ _ _ _ us hl => match us, hl with | [_], _ => rfl)
      (df_mk X G a2 l2 c2 k2 fun _ _ _ _ _ _ us hl => match us, hl with | [_], _ => rfl)
      (df_mk X G a3 l3 c3 k3 fun _ _ _ _ _ _ us hl => match us, hl with | [_, _], _ => rfl)
      (df_mk X G a4 l4 c4 k4 fun _ _ _ _ _ _ us hl => match us, hl with | [_], _ => rfl)
      (df_mk X G a5 l5 c5 k5 fun _ _ _ _ _ _ us hl => match us, hl with | [_], _ => rfl)
      (df_mk X G a6 l6 c6 k6 fun _ _ _ _ _ _ us hl => match us, hl with | [_], _ => rfl)
      (df_mk X G a7 l7 c7 k7 fun _ _ _ _ _ _ us hl => match us, hl with | [_], _ => rfl)
      (df_mk X G a8 l8 c8 k8 fun _ _ _ _ _ _ us hl => match us, hl with | [_, _], _ => rfl)
      (df_mk X G a9 l9 c9 k9 fun _ _ _ _ _ _ us hl => match us, hl with | [_, _], _ => rfl))⟩
theorem walk {l : PySem.W.OpenLaw} {q : Program} {loose : List Str} {XP : (Str → Option Value) → Heap → Prop} {YP : World → Heap → Prop} {d : DefRec} {K : Params → PySem.W.Frag} (hn : l.most = some 63) (hdf : d.params.defaults = [])
    (hY : ∀ (w : World) (h : Heap), YP w h → (K w.params).In h)
    (F : ∀ (w : World) (mg : Str → Option Value) (fa : Addr) (h : Heap), (K w.params).In h → h.Ns mainGlobals mg → mg d.name = some (.ref fa) →
      ∃ fd : FuncData, (∀ (s : Shared) (u : Value), BindsTo s fd ⟨[u], []⟩ [("_law_script", u)]) ∧ ∀ base : Heap, (K w.params).In base → base.Ns mainGlobals mg → FnOk l.prog w (K w.params) mg base CX0 10 fa fd ["_law_script"] (spLaw (K w.params))) :
    PySem.W.WalkO q loose XP YP l.row.toRowW d [] (fun f vs => PySem.call f vs) :=
  L2.walk_of (n := 63) (k := 10) (x := "_law_script") (CX := fun _ => CX0) (sp := fun w => spLaw (K w.params)) hn (by decide) hdf ⟨rfl, by decide, by decide⟩ hY F (fun _ _ a ns hl _ hS => ⟨a, ns, rfl, hS, hl, fun _ => rfl⟩) fun _ _ _ _ _ z => z
end Toy
open PySem PySem.W PyProof.Rows
set_option maxRecDepth 100000 in
set_option maxHeartbeats 0 in
theorem PySem.Challenge.cw_signsteps_k01_kinds_holds : PySem.Challenge.rw_signsteps_k01_kinds.Holds := by
  w_on; o_law; k_head; (case hw => w_witness2)
  k_fill
  refine Toy.walk (l := PySem.Challenge.rw_signsteps_k01_kinds) rfl rfl (fun w h Y => PySem.W.kIn_of Y) ?F
  case F =>
    intro w mg fa h KX G hmg
    refine' Toy.all_mk KX G hmg ?aC ?aI ?iI ?lI ?cI ?kI ?pg ?hd ?po ?sa ?mk ?kc ?nF0 ?nF1 ?aXNoCount ?aXNoSquare ?aXStepError ?aXNoWord ?aXNoVector ?aXNoUndo ?aXNoText ?aXNoTable ?aXNoSum ?aXNoStep ?aXNoProduct ?aXNoPartner ?aXNoName ?aXNoMirror ?aXNoLine ?aXNoKind ?aXNoKeep ?aXNoHalves ?aXNoGrade ?aXNoFull ?aXNoEven ?aXNoCross ?aXNoBoards ?aXBadStep ?zVE ?fdSE ?lXStepError ?dfSE ?cXStepError ?spSE ?rdSE ?kpSE ?inXNoCount ?lkXNoCount ?okXNoCount ?tlXNoCount ?gaXNoCount ?gtXNoCount ?saXNoCount ?clXNoCount ?fnXNoCount ?kpXNoCount ?inXNoSquare ?lXNoSquare ?cXNoSquare ?lkXNoSquare ?okXNoSquare ?tlXNoSquare ?gaXNoSquare ?gtXNoSquare ?saXNoSquare ?clXNoSquare ?fnXNoSquare ?kpXNoSquare ?naXNoSquare ?tXNoCount_StepError ?tXNoCount_NoCount ?tXNoCount_NoSum ?tXNoCount_NoGrade ?tXNoCount_NoProduct ?tXNoCount_NoEven ?tXNoCount_NoHalves ?tXNoCount_NoBoards ?tXNoCount_NoCross ?tXNoCount_NoKind ?tXNoCount_NoWord ?tXNoCount_NoUndo ?tXNoCount_NoLine ?tXNoCount_NoSquare ?tXNoCount_NoFull ?tXNoCount_NoVector ?tXNoCount_NoMirror ?tXNoCount_NoStep ?tXNoCount_NoPartner ?tXNoCount_NoTable ?tXNoCount_NoKeep ?tXNoCount_BadStep ?tXNoCount_NoText ?tXNoCount_NoName ?vXNoCount ?tXNoSquare_StepError ?tXNoSquare_NoCount ?tXNoSquare_NoSum ?tXNoSquare_NoGrade ?tXNoSquare_NoProduct ?tXNoSquare_NoEven ?tXNoSquare_NoHalves ?tXNoSquare_NoBoards ?tXNoSquare_NoCross ?tXNoSquare_NoKind ?tXNoSquare_NoWord ?tXNoSquare_NoUndo ?tXNoSquare_NoLine ?tXNoSquare_NoSquare ?tXNoSquare_NoFull ?tXNoSquare_NoVector ?tXNoSquare_NoMirror ?tXNoSquare_NoStep ?tXNoSquare_NoPartner ?tXNoSquare_NoTable ?tXNoSquare_NoKeep ?tXNoSquare_BadStep ?tXNoSquare_NoText ?tXNoSquare_NoName ?vXNoSquare ?eXNoCount_StepError ?eXNoSquare_StepError ?aMOST_STEPS ?a1 ?l1 ?c1 ?k1 ?a2 ?l2 ?c2 ?k2 ?a3 ?l3 ?c3 ?k3 ?a4 ?l4 ?c4 ?k4 ?a5 ?l5 ?c5 ?k5 ?a6 ?l6 ?c6 ?k6 ?a7 ?l7 ?c7 ?k7 ?a8 ?l8 ?c8 ?k8 ?a9 ?l9 ?c9 ?k9 ?a0 ?l0 ?c0 ?k0 ?zlen ?ztuple ?zsorted ?zrange ?zisinstance ?zint ?zbool ?zlist ?zstr ?zabs ?zenumerate ?zall ?zany ?zzip ?zmax ?zmin ?zsum ?zdict ?zset ?zreversed
    (case aC => k_is)
    (case aI => k_is)
    (case iI => k_is)
    (case lI => k_is)
    (case cI => k_is)
    (case kI => k_is)
    (case pg => k_is)
    (case hd => k_is)
    (case po => k_is)
    (case sa => k_is)
    (case mk => k_is)
    (case kc => k_is)
    (case nF0 => k_is)
    (case nF1 => k_is)
    (case aXNoCount => k_is)
    (case aXNoSquare => k_is)
    (case aXStepError => k_is)
    (case aXNoWord => k_is)
    (case aXNoVector => k_is)
    (case aXNoUndo => k_is)
    (case aXNoText => k_is)
    (case aXNoTable => k_is)
    (case aXNoSum => k_is)
    (case aXNoStep => k_is)
    (case aXNoProduct => k_is)
    (case aXNoPartner => k_is)
    (case aXNoName => k_is)
    (case aXNoMirror => k_is)
    (case aXNoLine => k_is)
    (case aXNoKind => k_is)
    (case aXNoKeep => k_is)
    (case aXNoHalves => k_is)
    (case aXNoGrade => k_is)
    (case aXNoFull => k_is)
    (case aXNoEven => k_is)
    (case aXNoCross => k_is)
    (case aXNoBoards => k_is)
    (case aXBadStep => k_is)
    (case zVE => k_is)
    (case fdSE => k_is)
    (case lXStepError => k_is)
    (case dfSE => k_is)
    (case cXStepError => k_is)
    (case spSE => k_is)
    (case rdSE => k_is)
    (case kpSE => k_is)
    (case inXNoCount => k_is)
    (case lkXNoCount => k_is)
    (case okXNoCount => decide +kernel)
    (case tlXNoCount => decide +kernel)
    (case gaXNoCount => k_is)
    (case gtXNoCount => k_is)
    (case saXNoCount => k_is)
    (case clXNoCount => k_is)
    (case fnXNoCount => k_is)
    (case kpXNoCount => k_is)
    (case inXNoSquare => k_is)
    (case lXNoSquare => k_is)
    (case cXNoSquare => k_is)
    (case lkXNoSquare => k_is)
    (case okXNoSquare => decide +kernel)
    (case tlXNoSquare => decide +kernel)
    (case gaXNoSquare => k_is)
    (case gtXNoSquare => k_is)
    (case saXNoSquare => k_is)
    (case clXNoSquare => k_is)
    (case fnXNoSquare => k_is)
    (case kpXNoSquare => k_is)
    (case naXNoSquare => k_is)
    (case tXNoCount_StepError => kit_is)
    (case tXNoCount_NoCount => kit_is)
    (case tXNoCount_NoSum => kit_is)
    (case tXNoCount_NoGrade => kit_is)
    (case tXNoCount_NoProduct => kit_is)
    (case tXNoCount_NoEven => kit_is)
    (case tXNoCount_NoHalves => kit_is)
    (case tXNoCount_NoBoards => kit_is)
    (case tXNoCount_NoCross => kit_is)
    (case tXNoCount_NoKind => kit_is)
    (case tXNoCount_NoWord => kit_is)
    (case tXNoCount_NoUndo => kit_is)
    (case tXNoCount_NoLine => kit_is)
    (case tXNoCount_NoSquare => kit_is)
    (case tXNoCount_NoFull => kit_is)
    (case tXNoCount_NoVector => kit_is)
    (case tXNoCount_NoMirror => kit_is)
    (case tXNoCount_NoStep => kit_is)
    (case tXNoCount_NoPartner => kit_is)
    (case tXNoCount_NoTable => kit_is)
    (case tXNoCount_NoKeep => kit_is)
    (case tXNoCount_BadStep => kit_is)
    (case tXNoCount_NoText => kit_is)
    (case tXNoCount_NoName => kit_is)
    (case vXNoCount => kit_is)
    (case tXNoSquare_StepError => kit_is)
    (case tXNoSquare_NoCount => kit_is)
    (case tXNoSquare_NoSum => kit_is)
    (case tXNoSquare_NoGrade => kit_is)
    (case tXNoSquare_NoProduct => kit_is)
    (case tXNoSquare_NoEven => kit_is)
    (case tXNoSquare_NoHalves => kit_is)
    (case tXNoSquare_NoBoards => kit_is)
    (case tXNoSquare_NoCross => kit_is)
    (case tXNoSquare_NoKind => kit_is)
    (case tXNoSquare_NoWord => kit_is)
    (case tXNoSquare_NoUndo => kit_is)
    (case tXNoSquare_NoLine => kit_is)
    (case tXNoSquare_NoSquare => kit_is)
    (case tXNoSquare_NoFull => kit_is)
    (case tXNoSquare_NoVector => kit_is)
    (case tXNoSquare_NoMirror => kit_is)
    (case tXNoSquare_NoStep => kit_is)
    (case tXNoSquare_NoPartner => kit_is)
    (case tXNoSquare_NoTable => kit_is)
    (case tXNoSquare_NoKeep => kit_is)
    (case tXNoSquare_BadStep => kit_is)
    (case tXNoSquare_NoText => kit_is)
    (case tXNoSquare_NoName => kit_is)
    (case vXNoSquare => kit_is)
    (case eXNoCount_StepError => kts_exm)
    (case eXNoSquare_StepError => kts_exm)
    (case aMOST_STEPS => k_is)
    (case a1 => k_is)
    (case l1 => k_is)
    (case c1 => k_is)
    (case k1 => k_is)
    (case a2 => k_is)
    (case l2 => k_is)
    (case c2 => k_is)
    (case k2 => k_is)
    (case a3 => k_is)
    (case l3 => k_is)
    (case c3 => k_is)
    (case k3 => k_is)
    (case a4 => k_is)
    (case l4 => k_is)
    (case c4 => k_is)
    (case k4 => k_is)
    (case a5 => k_is)
    (case l5 => k_is)
    (case c5 => k_is)
    (case k5 => k_is)
    (case a6 => k_is)
    (case l6 => k_is)
    (case c6 => k_is)
    (case k6 => k_is)
    (case a7 => k_is)
    (case l7 => k_is)
    (case c7 => k_is)
    (case k7 => k_is)
    (case a8 => k_is)
    (case l8 => k_is)
    (case c8 => k_is)
    (case k8 => k_is)
    (case a9 => k_is)
    (case l9 => k_is)
    (case c9 => k_is)
    (case k9 => k_is)
    (case a0 => k_is)
    (case l0 => k_is)
    (case c0 => k_is)
    (case k0 => k_is)
    (case zlen => k_is)
    (case ztuple => k_is)
    (case zsorted => k_is)
    (case zrange => k_is)
    (case zisinstance => k_is)
    (case zint => k_is)
    (case zbool => k_is)
    (case zlist => k_is)
    (case zstr => k_is)
    (case zabs => k_is)
    (case zenumerate => k_is)
    (case zall => k_is)
    (case zany => k_is)
    (case zzip => k_is)
    (case zmax => k_is)
    (case zmin => k_is)
    (case zsum => k_is)
    (case zdict => k_is)
    (case zset => k_is)
    (case zreversed => k_is)
