import PyProof.Rows.All
import Wide.All
import OpenK.AllK
import Wide.FinOn
import Lean
import PyProof.EqAt
import PyProof.EqKinds
import PyProof.TupleCall
import KE.KEqDict
import PyProof.NeKinds
import KE.KDictLaws
import KE.KDictList
import PyProof.ConsumeWalk
import PyProof.SumWalkG
import PyProof.DictRoadsH
import Wide.Seal
import PyProof.DictWalks
import PyProof.DictItems
import PyProof.FactsAll.dict_3
import PyProof.ZipIter
import PyProof.Draws
import PyProof.TupleIter
import PyProof.WalksMore
import PyProof.Rows.ZipGen
import PyProof.EnumMake
import PyProof.Rows.CallKwBuiltin
import PyProof.Rows.CallKw2
import PyProof.Rows.Exc
import OpenK.KWalk
import PySem.Challenge.RW_commonforms_k07_the_least_common_form
set_option bootstrap.genMatcherCode false
set_option Elab.async false
set_option linter.all false
set_option maxRecDepth 100000
namespace L2
open PySem PySem.Spec PyProof.Rows

noncomputable abbrev Key := Sum Int Str
noncomputable def keyIs : Key → Value → Bool
  | .inl k, v => Value.isInt k v
  | .inr x, v => Value.isStrOf x v
noncomputable def keyH (w : World) : Key → Int
  | .inl k => hashInt k
  | .inr x => hashStr w x
theorem keyIs_shape : ∀ {k : Key} {v : Value}, keyIs k v = true → (∃ i t, k = Sum.inl i ∧ v = Value.int i t) ∨ (∃ x t, k = Sum.inr x ∧ v = Value.str x t)
  | .inl i, v, h => by
    obtain ⟨t, e⟩ := Value.isInt_shape (k := i) (v := v) h
    exact .inl ⟨i, t, rfl, e⟩
  | .inr x, v, h => by
    obtain ⟨t, e⟩ := Value.isStrOf_shape (x := x) (v := v) h
    exact .inr ⟨x, t, rfl, e⟩
theorem keyIs_int (i : Int) (t : Tok) : keyIs (.inl i) (.int i t) = true := by simp [keyIs, Value.isInt]
theorem keyIs_str (x : Str) (t : Tok) : keyIs (.inr x) (.str x t) = true := by simp [keyIs, Value.isStrOf]
theorem key_ll (a b : Int) : decide ((Sum.inl a : Key) = Sum.inl b) = (a == b) := by
  by_cases e : a = b
  · subst e; simp
  · have h : ¬ (Sum.inl a : Key) = Sum.inl b := fun q => e (Sum.inl.inj q)
    rw [decide_eq_false h]
    exact (beq_eq_false_iff_ne.mpr e).symm
theorem key_rr (a b : Str) : decide ((Sum.inr a : Key) = Sum.inr b) = decide (a = b) := by
  by_cases e : a = b
  · subst e; simp
  · have h : ¬ (Sum.inr a : Key) = Sum.inr b := fun q => e (Sum.inr.inj q)
    rw [decide_eq_false h, decide_eq_false e]
theorem key_lr (a : Int) (b : Str) : decide ((Sum.inl a : Key) = Sum.inr b) = false := decide_eq_false (fun q => nomatch q)
theorem key_rl (a : Str) (b : Int) : decide ((Sum.inr a : Key) = Sum.inl b) = false := decide_eq_false (fun q => nomatch q)

noncomputable def mixKind (prog : Program) (w : World) : PySem.KeyKind prog w Key where
  is := keyIs
  hash := keyH w
  inj := fun v a b ha hb => by
    rcases keyIs_shape ha with ⟨i, t, rfl, rfl⟩ | ⟨x, t, rfl, rfl⟩
    · rcases keyIs_shape hb with ⟨j, u, rfl, e⟩ | ⟨y, u, rfl, e⟩
      · injection e with e1 _; rw [e1]
      · exact nomatch e
    · rcases keyIs_shape hb with ⟨j, u, rfl, e⟩ | ⟨y, u, rfl, e⟩
      · exact nomatch e
      · injection e with e1 _; rw [e1]
  byValue := fun k v h => by
    rcases keyIs_shape h with ⟨i, t, rfl, rfl⟩ | ⟨x, t, rfl, rfl⟩ <;> rfl
  pyHash := fun hv h => by
    rcases keyIs_shape hv with ⟨i, t, rfl, rfl⟩ | ⟨x, t, rfl, rfl⟩
    · exact wpAny_pyHash_int h
    · exact wpAny_pyHash_str h
  eqBool := fun hu hv h => by
    rcases keyIs_shape hu with ⟨i, t, rfl, rfl⟩ | ⟨x, t, rfl, rfl⟩
    · rcases keyIs_shape hv with ⟨j, u, rfl, rfl⟩ | ⟨y, u, rfl, rfl⟩
      · rw [key_ll] at h; exact wpAny_eqBool_int h
      · rw [key_lr] at h; exact SeqAt.EqAt.int_str i t y u _ _ _ _ h
    · rcases keyIs_shape hv with ⟨j, u, rfl, rfl⟩ | ⟨y, u, rfl, rfl⟩
      · rw [key_rl] at h; exact SeqAt.EqAt.str_int x t j u _ _ _ _ h
      · rw [key_rr] at h; exact wpAny_eqBool_str h
  «strs» := fun k x t v h => by
    rcases keyIs_shape h with ⟨i, u, rfl, e⟩ | ⟨y, u, rfl, e⟩
    · exact nomatch e
    · injection e with e1 _
      subst e1
      cases v <;> rfl

theorem mixKind_int (prog : Program) (w : World) (i : Int) (t : Tok) : (mixKind prog w).is (.inl i) (.int i t) = true := keyIs_int i t
theorem mixKind_str (prog : Program) (w : World) (x : Str) (t : Tok) : (mixKind prog w).is (.inr x) (.str x t) = true := keyIs_str x t
end L2

namespace L2
open PySem PySem.Spec PyProof.Rows

inductive V where
  | non | bl (b : Bool) | int (i : Int) | str (x : Str) | byt (b : Array UInt8) | flt (b : UInt64) | ref (a : Addr) | ty (n : String)
  deriving DecidableEq

noncomputable def RelV : V → Value → Prop
  | .non, u => u = Value.none
  | .bl b, u => u = Value.bool b
  | .int i, u => ∃ t, u = Value.int i t
  | .str x, u => ∃ t, u = Value.str x t
  | .byt b, u => ∃ t, u = Value.bytes b t
  | .flt b, u => ∃ t, u = Value.float b t
  | .ref a, u => u = Value.ref a
  | .ty n, u => u = Value.type n

noncomputable abbrev Vals : List V → List Value → Prop := Paired RelV
theorem Vals.length {xs : List V} {us : List Value} (r : Vals xs us) : xs.length = us.length := Paired.length r
theorem Vals.get : ∀ {xs : List V} {us : List Value} {i : Nat} {x : V}, Vals xs us → xs[i]? = some x → ∃ u, us[i]? = some u ∧ RelV x u
  | _, _, _, _, .nil, e => by simp at e
  | _, _, 0, _, .cons r _, e => by simp at e; subst e; exact ⟨_, rfl, r⟩
  | _, _, i + 1, x, .cons _ t, e => by
    obtain ⟨u, h1, h2⟩ := Vals.get (i := i) (x := x) t (by simpa using e)
    exact ⟨u, by simpa using h1, h2⟩
theorem Vals.set {x : V} {u : Value} (r : RelV x u) : ∀ {xs : List V} {us : List Value} (i : Nat), Vals xs us → Vals (xs.set i x) (us.set i u)
  | _, _, _, .nil => .nil
  | _, _, 0, .cons _ t => .cons r t
  | _, _, i + 1, .cons q t => .cons q (Vals.set r i t)
theorem Vals.append : ∀ {xs ys : List V} {us ws : List Value}, Vals xs us → Vals ys ws → Vals (xs ++ ys) (us ++ ws)
  | _, _, _, _, .nil, s => s
  | _, _, _, _, .cons r t, s => .cons r (Vals.append t s)
theorem Vals.take : ∀ {xs : List V} {us : List Value} (n : Nat), Vals xs us → Vals (xs.take n) (us.take n)
  | _, _, 0, _ => .nil
  | _, _, _ + 1, .nil => .nil
  | _, _, n + 1, .cons r t => .cons r (Vals.take n t)
theorem Vals.drop : ∀ {xs : List V} {us : List Value} (n : Nat), Vals xs us → Vals (xs.drop n) (us.drop n)
  | _, _, 0, r => r
  | _, _, _ + 1, .nil => .nil
  | _, _, n + 1, .cons _ t => Vals.drop n t
theorem Vals.none_of : ∀ {xs : List V} {us : List Value} {i : Nat}, Vals xs us → xs[i]? = none → us[i]? = none := fun {xs us i} r e => by
  have h1 := r.length
  have h2 : xs.length ≤ i := List.getElem?_eq_none_iff.mp e
  exact List.getElem?_eq_none_iff.mpr (by omega)

noncomputable def RelO : Option V → Option Value → Prop
  | some v, some u => RelV v u
  | none, none => True
  | _, _ => False
noncomputable def KV {κ : Type} : List (κ × V) → List (κ × Value) → Prop := Paired fun (p : κ × V) (q : κ × Value) => p.1 = q.1 ∧ RelV p.2 q.2

noncomputable def kV : Key → V
  | .inl i => .int i
  | .inr x => .str x

inductive HO where
    | lst (xs : List V)
    | tup (xs : List V)
    | dK (kvs : List (Key × V)) | dT (kvs : List (List Key × V))
    | set (S : Int → Bool) (n : Nat)
    | ins (C dx : Addr) (fs : List (Str × V))
    | own (x : Addr)
    | xd (fs : List (Str × V))
    | met (f x : Addr)
    | rng (lo hi : Int)
    | frz (o : Obj) (u : HO)
    | tbl (ps : Array Value)
    | ext (φ : Heap → Prop)

noncomputable abbrev Hp := Addr → Option HO
noncomputable def upd (H : Hp) (a : Addr) (o : HO) : Hp := fun b => if b = a then some o else H b
theorem upd_same {H : Hp} {a : Addr} {o : HO} : upd H a o a = some o := by unfold upd; rw [if_pos rfl]
theorem upd_ne {H : Hp} {a b : Addr} {o : HO} (h : b ≠ a) : upd H a o b = H b := by unfold upd; rw [if_neg h]
theorem upd_upd {H : Hp} {a : Addr} {o u : HO} : upd (upd H a o) a u = upd H a u := by
  funext b; unfold upd; split <;> rfl
theorem ne_of {H : Hp} {a b : Addr} {o u : HO} (h : H a = some o) (h' : H b = some u) (d : o ≠ u) : a ≠ b := by
  intro e; subst e; rw [h] at h'; exact d (Option.some.inj h')
theorem ne_of_none {H : Hp} {a b : Addr} {o : HO} (h : H a = some o) (h' : H b = none) : a ≠ b := by
  intro e; subst e; rw [h] at h'; cases h'

section
variable (P : Program) (w : World)
noncomputable def ObjOk (H : Hp) (h : Heap) (a : Addr) : HO → Prop
  | .lst xs => xs.length ≤ sizeLine ∧ ∃ (its : List Value) (n : Nat), Vals xs its ∧ h.get? a = some { cls := .type "list", data := .seq its.toArray n }
  | .tup xs => xs.length ≤ sizeLine ∧ ∃ its : List Value, Vals xs its ∧ IsTup h a its.toArray
  | .dK kvs => kvs.length ≤ sizeLine ∧ (a == sysModules) = false ∧ ∃ vs, KV kvs vs ∧ h.DictOf (mixKind P w) a vs
  | .dT kvs => kvs.length ≤ sizeLine ∧ (a == sysModules) = false ∧ ∃ xs : List (List Key × Addr × Value),
      Paired (fun (p : List Key × V) (q : List Key × Addr × Value) => p.1 = q.1 ∧ H q.2.1 = some (.tup (p.1.map kV)) ∧ RelV p.2 q.2.2) kvs xs ∧
      ∃ o es ep, h.get? a = some o ∧ o.ExactDict ∧ o.data = .dict es ep ∧ es.toList = xs.map (entryOfKey (tupleKind (mixKind P w))) ∧ (xs.map (·.1)).Nodup
  | .set S n => h.SetOf (intKind P w) a S n
  | .ins C dx fs => H dx = some (.own a) ∧ fs.length ≤ 1000 ∧ dx ≠ a ∧ h.get? a = some (PySem.W.instObj C dx) ∧
      ∃ mA, h.Ns1 dx mA ∧ (∀ f, RelO (fs.lookup f) (mA f)) ∧ PySem.Within mA (fs.map (·.1))
  | .own _ => ∃ o, h.get? a = some o
  | .xd fs => ∃ mA, h.Ns1 a mA ∧ ∀ f, RelO (fs.lookup f) (mA f)
  | .rng lo hi => ∃ t u v, h.get? a = some { cls := .type "range", data := .fields #[.int lo t, .int hi u, .int 1 v] }
  | .frz o u => h.get? a = some o ∧ ObjOk H h a u
  | .tbl ps => h.get? a = some { cls := .none, data := .fields ps }
  | .met f x => h.get? a = some (PySem.W.methodObj (.ref f) (.ref x))
  | .ext φ => φ h ∧ (∃ o, h.get? a = some o) ∧ ∀ h1 h2 : Heap, φ h1 → (∀ o, h1.get? a = some o → h2.get? a = some o) → φ h2
noncomputable def HOk (H : Hp) (h : Heap) : Prop := ∀ a o, H a = some o → ObjOk P w H h a o
end

section
variable {P : Program} {w : World} {H H' : Hp} {h h' : Heap} {a : Addr} {o : HO}
theorem ObjOk.lt (x : ObjOk P w H h a o) : a < h.objs.size := by
  cases o with
  | lst xs => obtain ⟨_, _, _, _, e⟩ := x; exact Heap.lt_size e
  | tup xs => obtain ⟨_, _, _, p⟩ := x; exact p.lt
  | dK kvs => obtain ⟨_, _, _, _, o, _, _, e, _⟩ := x; exact Heap.lt_size e
  | dT kvs => obtain ⟨_, _, _, _, o, _, _, e, _⟩ := x; exact Heap.lt_size e
  | set S n => obtain ⟨o, _, _, _, e, _⟩ := x; exact Heap.lt_size e
  | ins C dx fs => obtain ⟨_, _, _, e, _⟩ := x; exact Heap.lt_size e
  | own y => obtain ⟨_, e⟩ := x; exact Heap.lt_size e
  | xd fs => obtain ⟨_, ⟨_, _, _, e, _⟩, _⟩ := x; exact Heap.lt_size e
  | rng lo hi => obtain ⟨_, _, _, e⟩ := x; exact Heap.lt_size e
  | frz ob u => obtain ⟨e, _⟩ := x; exact Heap.lt_size e
  | tbl ps => exact Heap.lt_size (show h.get? a = some _ from x)
  | met f y => exact Heap.lt_size (show h.get? a = some _ from x)
  | ext φ => obtain ⟨_, ⟨_, e⟩, _⟩ := x; exact Heap.lt_size e
theorem Paired.mapP {α β : Type} {F G : α → β → Prop} : ∀ {l₁ : List α} {l₂ : List β}, Paired F l₁ l₂ → (∀ a b, F a b → G a b) → Paired G l₁ l₂
  | _, _, .nil, _ => .nil
  | _, _, .cons r t, f => .cons (f _ _ r) (Paired.mapP t f)
theorem ObjOk.stay (x : ObjOk P w H h a o) (k : ∀ b u, (b = a ∨ H b = some (.own a)) → h.get? b = some u → h'.get? b = some u)
    (ho : ∀ b, H b = some (.own a) → H' b = some (.own a)) (ht : ∀ b xs, H b = some (.tup xs) → H' b = some (.tup xs)) : ObjOk P w H' h' a o := by
  induction o with
  | lst xs => obtain ⟨z, its, n, r, e⟩ := x; exact ⟨z, its, n, r, k _ _ (.inl rfl) e⟩
  | tup xs => obtain ⟨z, its, r, ob, e, c⟩ := x; exact ⟨z, its, r, ob, k _ _ (.inl rfl) e, c⟩
  | dK kvs => obtain ⟨z, y, vs, r, ob, es, ep, e, c⟩ := x; exact ⟨z, y, vs, r, ob, es, ep, k _ _ (.inl rfl) e, c⟩
  | dT kvs =>
    obtain ⟨z, y, xs, r, ob, es, ep, e, c⟩ := x
    exact ⟨z, y, xs, Paired.mapP r fun p q z => ⟨z.1, ht _ _ z.2.1, z.2.2⟩, ob, es, ep, k _ _ (.inl rfl) e, c⟩
  | set S n => obtain ⟨ob, es, ep, t, e, c⟩ := x; exact ⟨ob, es, ep, t, k _ _ (.inl rfl) e, c⟩
  | ins C dx fs =>
    obtain ⟨d, z, ne, e, mA, ⟨od, es, ep, e2, c⟩, r⟩ := x
    exact ⟨ho _ d, z, ne, k _ _ (.inl rfl) e, mA, ⟨od, es, ep, k _ _ (.inr d) e2, c⟩, r⟩
  | own y => obtain ⟨ob, e⟩ := x; exact ⟨ob, k _ _ (.inl rfl) e⟩
  | xd fs => obtain ⟨mA, ⟨od, es, ep, e, c⟩, r⟩ := x; exact ⟨mA, ⟨od, es, ep, k _ _ (.inl rfl) e, c⟩, r⟩
  | rng lo hi => obtain ⟨t, u, v, e⟩ := x; exact ⟨t, u, v, k _ _ (.inl rfl) e⟩
  | frz ob u ih => obtain ⟨e, q⟩ := x; exact ⟨k _ _ (.inl rfl) e, ih q⟩
  | tbl ps =>
    have e : h.get? a = some { cls := .none, data := .fields ps } := x
    show h'.get? a = some { cls := .none, data := .fields ps }
    exact k a _ (.inl rfl) e
  | met f y =>
    have e : h.get? a = some (PySem.W.methodObj (.ref f) (.ref y)) := x
    show h'.get? a = some (PySem.W.methodObj (.ref f) (.ref y))
    exact k a _ (.inl rfl) e
  | ext φ => obtain ⟨p, ⟨o, e⟩, st⟩ := x; exact ⟨st _ _ p fun o q => k _ _ (.inl rfl) q, ⟨o, k _ _ (.inl rfl) e⟩, st⟩
theorem HOk.lt (x : HOk P w H h) (e : H a = some o) : a < h.objs.size := (x a o e).lt
theorem HOk.fresh (x : HOk P w H h) (e : h.objs.size ≤ a) : H a = none := by
  cases q : H a with
  | none => rfl
  | some u => exact absurd (Nat.lt_of_lt_of_le (x.lt q) e) (Nat.lt_irrefl _)
theorem HOk.kept (x : HOk P w H h) (k : ∀ b u, h.get? b = some u → h'.get? b = some u) : HOk P w H h' := fun a o e =>
  (x a o e).stay (fun b u _ q => k b u q) (fun _ q => q) fun _ _ q => q
theorem HOk.laid (x : HOk P w H h) (k : ∀ b u, h.get? b = some u → h'.get? b = some u) (hp : h.objs.size ≤ a) (new : ObjOk P w (upd H a o) h' a o) : HOk P w (upd H a o) h' := fun b u e => by
  have hn := x.fresh hp
  by_cases hb : b = a
  · subst hb; rw [upd_same] at e; cases e; exact new
  · rw [upd_ne hb] at e
    exact (x b u e).stay (fun c v _ q => k c v q) (fun c q => by rw [upd_ne (ne_of_none q hn)]; exact q) fun c xs q => by rw [upd_ne (ne_of_none q hn)]; exact q
end

noncomputable def Rd (H : Hp) (a : Addr) (u : HO) : Prop := H a = some u ∨ ∃ o, H a = some (.frz o u)
theorem Rd.of {H : Hp} {a : Addr} {u : HO} (h : H a = some u) : Rd H a u := .inl h
theorem Rd.ok {P : Program} {w : World} {H : Hp} {h : Heap} {a : Addr} {u : HO} (r : Rd H a u) (x : HOk P w H h) : ObjOk P w H h a u := by
  rcases r with r | ⟨o, r⟩
  · exact x a u r
  · obtain ⟨_, q⟩ := x a _ r
    exact q
noncomputable def Mut : Option HO → Prop
  | some (.lst _) => True
  | some (.dK _) => True
  | some (.dT _) => True
  | some (.set _ _) => True
  | some (.ins _ _ _) => True
  | some (.ext _) => True
  | _ => False
section
variable {P : Program} {w : World} {H : Hp} {h h' : Heap} {x e : Addr} {o' : HO}
theorem HOk.write (ok : HOk P w H h) (mu : Mut (H x)) (he : e = x ∨ H e = some (.own x)) (k : ∀ b u, b ≠ e → h.get? b = some u → h'.get? b = some u) (heo : ∃ u, h'.get? e = some u)
    (new : ObjOk P w (upd H x o') h' x o') : HOk P w (upd H x o') h' := fun b u q => by
  have nown : ∀ c y, H c = some (.own y) → c ≠ x := fun c y r z => by subst z; rw [r] at mu; exact mu
  have ntup : ∀ c xs, H c = some (.tup xs) → c ≠ x := fun c xs r z => by subst z; rw [r] at mu; exact mu
  by_cases hb : b = x
  · subst hb; rw [upd_same] at q; cases q; exact new
  · rw [upd_ne hb] at q
    by_cases hbe : b = e
    · have q' : H b = some (.own x) := by
        rcases he with z | z
        · exact absurd (hbe.trans z) hb
        · rw [hbe]; exact z
      rw [q] at q'; cases q'
      obtain ⟨v, hv⟩ := heo
      exact ⟨v, by rw [hbe]; exact hv⟩
    · refine (ok b u q).stay (fun c v hc r => k c v ?_ r) (fun c r => by rw [upd_ne (nown c b r)]; exact r) fun c xs r => by rw [upd_ne (ntup c xs r)]; exact r
      rcases hc with rfl | hc
      · exact hbe
      · rintro rfl
        rcases he with z | z
        · exact nown c b hc z
        · rw [hc] at z; cases z; exact hb rfl
end

structure Un (fs ex : List Addr) (H H' : Hp) (h h' : Heap) : Prop where
  keep : ∀ b o, h.get? b = some o → H b = none → b ∉ fs → b ∉ ex → h'.get? b = some o
  slot : ∀ b o, h.get? b = some o → H b = none → b ∈ fs → b ∉ ex → ∃ sl, h'.get? b = some { o with slots := sl }
  free : ∀ b o, h.get? b = some o → H b = none → b ∉ ex → H' b = none
  there : ∀ b o, h.get? b = some o → b ∉ ex → ∃ o', h'.get? b = some o'
  tups : ∀ b xs, H b = some (.tup xs) → H' b = some (.tup xs)
  frzs : ∀ b o u, H b = some (.frz o u) → H' b = some (.frz o u)
  tbls : ∀ b ps, H b = some (.tbl ps) → ∃ more, H' b = some (.tbl (ps ++ more))
section
variable {fs fs' ex ex' : List Addr} {H H1 H2 : Hp} {h h1 h2 h' : Heap} {a x e : Addr} {o : HO}
theorem Un.any (u : Un fs ex H H1 h h1) {b : Addr} {ob : Obj} (q : h.get? b = some ob) (n : H b = none) (hx : b ∉ ex) : ∃ sl, h1.get? b = some { ob with slots := sl } := by
  by_cases hb : b ∈ fs
  · exact u.slot b ob q n hb hx
  · exact ⟨ob.slots, u.keep b ob q n hb hx⟩
theorem Un.trans (a : Un fs ex H H1 h h1) (b : Un fs ex H1 H2 h1 h2) : Un fs ex H H2 h h2 where
  keep := fun c ob q n hc hx => b.keep c ob (a.keep c ob q n hc hx) (a.free c ob q n hx) hc hx
  slot := fun c ob q n hc hx => by
    obtain ⟨sl, e1⟩ := a.slot c ob q n hc hx
    obtain ⟨sl', e2⟩ := b.slot c _ e1 (a.free c ob q n hx) hc hx
    exact ⟨sl', e2⟩
  free := fun c ob q n hx => by
    obtain ⟨o', e1⟩ := a.there c ob q hx
    exact b.free c o' e1 (a.free c ob q n hx) hx
  there := fun c ob q hx => by
    obtain ⟨o', e1⟩ := a.there c ob q hx
    exact b.there c o' e1 hx
  tups := fun c xs q => b.tups c xs (a.tups c xs q)
  frzs := fun c ob xs q => b.frzs c ob xs (a.frzs c ob xs q)
  tbls := fun c ps q => by
    obtain ⟨m1, e1⟩ := a.tbls c ps q
    obtain ⟨m2, e2⟩ := b.tbls c _ e1
    exact ⟨m1 ++ m2, by rw [e2, Array.append_assoc]⟩
theorem Un.kept (k : ∀ b u, h.get? b = some u → h'.get? b = some u) : Un fs ex H H h h' :=
  ⟨fun b ob q _ _ _ => k b ob q, fun b ob q _ _ _ => ⟨ob.slots, k b ob q⟩, fun _ _ _ n _ => n, fun b ob q _ => ⟨ob, k b ob q⟩, fun _ _ q => q, fun _ _ _ q => q, fun _ ps q => ⟨#[], by rw [q]; simp⟩⟩
theorem Un.refl : Un fs ex H H h h := Un.kept fun _ _ q => q
theorem Un.laid (k : ∀ b u, h.get? b = some u → h'.get? b = some u) (hp : h.objs.size ≤ a) (hn : H a = none) : Un fs ex H (upd H a o) h h' where
  keep := fun b u q _ _ _ => k b u q
  slot := fun b u q _ _ _ => ⟨u.slots, k b u q⟩
  free := fun b u q n _ => by rw [upd_ne (Nat.ne_of_lt (Nat.lt_of_lt_of_le (Heap.lt_size q) hp))]; exact n
  there := fun b u q _ => ⟨u, k b u q⟩
  tups := fun b xs q => by rw [upd_ne (ne_of_none q hn)]; exact q
  frzs := fun b u xs q => by rw [upd_ne (ne_of_none q hn)]; exact q
  tbls := fun b ps q => ⟨#[], by rw [upd_ne (ne_of_none q hn), q]; simp⟩
theorem Un.write (mu : Mut (H x)) (he : e = x ∨ H e = some (.own x)) (k : ∀ b u, b ≠ e → h.get? b = some u → h'.get? b = some u) (heo : ∃ u, h'.get? e = some u) : Un fs ex H (upd H x o) h h' := by
  have hx : ∀ b, H b = none → b ≠ x := fun b n z => by subst z; rw [n] at mu; exact mu
  have hb : ∀ b, H b = none → b ≠ e := fun b n z => by
    subst z
    rcases he with r | r
    · exact hx b n r
    · rw [n] at r; cases r
  have hm : ∀ b u, H b = some u → ¬ Mut (some u) → b ≠ x := fun b u q nm z => by subst z; rw [q] at mu; exact nm mu
  refine ⟨fun b u q n _ _ => k b u (hb b n) q, fun b u q n _ _ => ⟨u.slots, k b u (hb b n) q⟩, fun b u q n _ => by rw [upd_ne (hx b n)]; exact n, fun b u q _ => ?_,
    fun b xs q => by rw [upd_ne (hm b _ q fun z => z)]; exact q, fun b u xs q => by rw [upd_ne (hm b _ q fun z => z)]; exact q, fun b ps q => ⟨#[], by rw [upd_ne (hm b _ q fun z => z), q]; simp⟩⟩
  by_cases hbe : b = e
  · subst hbe; exact heo
  · exact ⟨u, k b u hbe q⟩
theorem Un.mono (u : Un fs ex H H1 h h1) (hs : ∀ b ∈ fs, b ∈ fs') (hx : ∀ b ∈ ex, b ∈ ex') : Un fs' ex' H H1 h h1 :=
  ⟨fun b ob q n hb he => u.keep b ob q n (fun z => hb (hs b z)) fun z => he (hx b z), fun _ _ q n _ he => u.any q n fun z => he (hx _ z), fun b ob q n he => u.free b ob q n fun z => he (hx b z), fun b ob q he => u.there b ob q fun z => he (hx b z), u.tups, u.frzs, u.tbls⟩
end

noncomputable def trk (h : Heap) (H : Hp) : List Addr := (List.range h.objs.size).filter fun a => (H a).isSome
noncomputable def hidT (h : Heap) (H : Hp) : Heap := PySem.W.hideAll h (trk h H)
theorem hidT_size (h : Heap) (H : Hp) : (hidT h H).objs.size = h.objs.size := PySem.W.hideAll_size _ _
theorem hidT_get {h : Heap} {H : Hp} {b : Addr} {o : Obj} (e : h.get? b = some o) (n : H b = none) : (hidT h H).get? b = some o :=
  PySem.W.hideAll_get _ e fun hm => by
    have q : (H b).isSome = true := (List.mem_filter.mp hm).2
    rw [n] at q; simp at q
theorem of_hidT {h : Heap} {H : Hp} {b : Addr} {o : Obj} (e : (hidT h H).get? b = some o) : h.get? b = some o ∧ H b = none := by
  have e' : h.get? b = some o := PySem.W.of_hideAll (trk h H) e
  refine ⟨e', ?_⟩
  cases q : H b with
  | none => rfl
  | some x =>
    have hm : b ∈ trk h H := List.mem_filter.mpr ⟨List.mem_range.mpr (Heap.lt_size e'), by simp [q]⟩
    have z : (hidT h H).get? b = none := PySem.W.hideAll_none (trk h H) hm
    rw [z] at e; cases e

noncomputable def allNews (g h : Heap) (L : Addr) : List (Addr × Obj) := (List.range h.objs.size).filterMap fun a => if a = L ∨ (g.get? a).isSome = true then none else (h.get? a).map fun o => (a, o)
noncomputable def rest (g h : Heap) (L d : Addr) : List (Addr × Obj) := (allNews g h L).filter fun p => decide (p.1 ≠ d)
end L2

namespace L2
open PySem PySem.Spec PyProof.Rows

structure Mod (K : PySem.W.Frag) (mg : Str → Option Value) (base : Heap) : Prop where
  kin : K.In base
  glob : base.Ns mainGlobals mg
  blt : ∃ mb, base.Ns builtinsNs mb ∧ ∀ x : Str, x ≠ "__name__" → mb x = bootBuiltins x
  nolimit : base.NoLimit

structure Cx where
  prog : Program
  w : World
  K : PySem.W.Frag
  mg : Str → Option Value
  base : Heap
  A : Around
  N : List Str
  s₀ : Shared
  H₀ : Hp
  env : Env
  outer : List Env
  stack : List Env
  ex : List Addr
  fn : Str → Bool
  calm : Bool
  pn : List (Addr × Obj)
  xe : Value → Shared → Prop
noncomputable def frs (l : List Env) : List Addr := l.filterMap (·.frame)
noncomputable abbrev Cx.fs (X : Cx) : List Addr := frs X.outer

noncomputable def Vis (sc : Scope) (x : Str) : Prop := sc.names.lookup x = some .local ∨ sc.names.lookup x = some .cell ∨ sc.names.lookup x = some .free
noncomputable def Loc (sc : Scope) (x : Str) : Prop := sc.names.lookup x = some .local ∨ sc.names.lookup x = some .cell
noncomputable def Look (env : Env) (h : Heap) (m : Str → Option Value) (x : Str) (u : Value) : Prop :=
  (env.kindOf x = some .local ∧ m x = some u) ∨ ((env.kindOf x = some .cell ∨ env.kindOf x = some .free) ∧ ∃ c, env.cells.lookup x = some c ∧ h.IsCell c (some u))

structure Cx.Ok (X : Cx) : Prop where
  mod : Mod X.K X.mg X.base
  kind : X.env.scope.kind = .function
  glob : X.env.globals = mainGlobals
  blt : X.env.builtins = builtinsNs
  above : X.s₀.heap.objs.size ≤ X.env.locals
  inj : ∀ x y c, X.env.cells.lookup x = some c → X.env.cells.lookup y = some c → x = y
  has : ∀ x, (X.env.kindOf x = some .cell ∨ X.env.kindOf x = some .free) → ∃ c, X.env.cells.lookup x = some c
  cab : ∀ x c, X.fn x = true → X.env.cells.lookup x = some c → X.s₀.heap.objs.size ≤ c
  hd : X.calm = true → X.A.handled = none
  frames : X.A.frames = some X.stack
  stk : X.stack = X.outer ∨ (X.stack = X.env :: X.outer ∧ X.env.frame = some X.env.locals)
  exf : ∀ b ∈ X.ex, b ≠ X.env.locals ∧ ∀ x c, X.env.cells.lookup x = some c → c ≠ b
  bs : ∀ b o, X.base.get? b = some o → X.s₀.heap.get? b = some o ∧ X.H₀ b = none
  bsz : X.base.objs.size ≤ X.s₀.heap.objs.size
  noex : ∀ b o, X.base.get? b = some o → b ∉ X.ex
  exfs : ∀ b ∈ X.ex, b ∉ X.fs
  funs : X.s₀.heap.FunFrames X.base X.outer
  frf : ∀ b ∈ X.fs, X.H₀ b = none

structure Inv (X : Cx) (pins : List (Addr × Obj)) (σ : List (Option V)) (H : Hp) (s : Shared) : Prop where
  ok : X.Ok
  os : s.os = X.s₀.os
  bare : AllBare s.gens
  base : Un X.fs X.ex X.H₀ H X.s₀.heap s.heap
  loc : ∃ m, s.heap.Ns X.env.locals m ∧ ∀ (i : Nat) (x : Str) (v : V), X.N[i]? = some x → σ[i]? = some (some v) → Vis X.env.scope x → ∃ u, RelV v u ∧ Look X.env s.heap m x u
  cell : ∀ x c, X.env.cells.lookup x = some c → ∃ v, s.heap.IsCell c v
  free : H X.env.locals = none
  freeC : ∀ x c, X.env.cells.lookup x = some c → H c = none
  pin : ∀ p ∈ X.pn ++ pins, s.heap.get? p.1 = some p.2 ∧ H p.1 = none ∧ p.1 ≠ X.env.locals ∧ p.1 ∉ X.fs ∧ ∀ v, p.2.data ≠ .cell v
  hok : HOk X.prog X.w H s.heap
  len : σ.length = X.N.length

section
variable {X : Cx} {pins : List (Addr × Obj)} {σ : List (Option V)} {H H' : Hp} {s : Shared} {h' : Heap}

theorem Cx.Ok.nofr (ok : X.Ok) {b : Addr} {o : Obj} (e : X.base.get? b = some o) : b ∉ X.fs := fun hb => by
  have := (ok.funs.mem hb).1
  rw [e] at this; cases this
theorem Inv.bs (I : Inv X pins σ H s) : ∀ b o, X.base.get? b = some o → s.heap.get? b = some o ∧ H b = none := fun b o e =>
  ⟨I.base.keep b o (I.ok.bs b o e).1 (I.ok.bs b o e).2 (I.ok.nofr e) (I.ok.noex b o e), I.base.free b o (I.ok.bs b o e).1 (I.ok.bs b o e).2 (I.ok.noex b o e)⟩
theorem Inv.bk (I : Inv X pins σ H s) : ∀ b o, X.base.get? b = some o → s.heap.get? b = some o := fun b o e => (I.bs b o e).1
theorem Inv.mod (I : Inv X pins σ H s) : Mod X.K X.mg X.base := I.ok.mod
theorem Inv.kIn (I : Inv X pins σ H s) : X.K.In s.heap := I.ok.mod.kin.keeps I.bk
theorem Inv.nolimit (I : Inv X pins σ H s) : s.heap.NoLimit := I.ok.mod.nolimit.keeps I.bk
theorem Inv.fr (I : Inv X pins σ H s) : ∃ m, Fr X.base X.env.locals s.heap m :=
  let ⟨m, hn, _⟩ := I.loc
  ⟨m, hn, I.bk, Nat.le_trans I.ok.bsz I.ok.above⟩
theorem Inv.lt (I : Inv X pins σ H s) : X.env.locals < s.heap.objs.size := let ⟨_, hn, _⟩ := I.loc; hn.lt
theorem Inv.sz (I : Inv X pins σ H s) : X.s₀.heap.objs.size ≤ s.heap.objs.size := Nat.le_trans I.ok.above (Nat.le_of_lt I.lt)
theorem Inv.nofs (I : Inv X pins σ H s) {a : Addr} (h : s.heap.objs.size ≤ a) : a ∉ X.fs := fun hb => by
  obtain ⟨_, o, ho, _⟩ := I.ok.funs.mem hb
  exact absurd (Nat.lt_of_lt_of_le (Heap.lt_size ho) (Nat.le_trans I.sz h)) (Nat.lt_irrefl _)
theorem Inv.cne (I : Inv X pins σ H s) : ∀ x c, X.env.cells.lookup x = some c → c ≠ X.env.locals := fun x c e z => by
  obtain ⟨v, o, ho, hd⟩ := I.cell x c e
  obtain ⟨m, ⟨o', es, ep, ho', hd', _⟩, _⟩ := I.loc
  rw [z, ho'] at ho; cases ho; rw [hd'] at hd; cases hd
theorem Inv.funs (I : Inv X pins σ H s) : s.heap.FunFrames X.base X.outer := by
  have all : ∀ (l : List Env), (∀ b ∈ frs l, b ∈ X.fs) → X.s₀.heap.FunFrames X.base l → s.heap.FunFrames X.base l := by
    intro l
    induction l with
    | nil => intro _ _; trivial
    | cons env r ih =>
      intro hs hl
      obtain ⟨hk, ⟨L, o, hf, hn, ho, hd⟩, hr⟩ := hl
      have hL : L ∈ X.fs := hs L (by unfold frs; rw [List.filterMap_cons, hf]; exact List.mem_cons_self)
      obtain ⟨sl, e⟩ := I.base.slot L o ho (I.ok.frf L hL) hL fun z => I.ok.exfs L z hL
      exact ⟨hk, ⟨L, _, hf, hn, e, hd⟩, ih (fun b hb => hs b (by unfold frs; rw [List.filterMap_cons, hf]; exact List.mem_cons_of_mem _ hb)) hr⟩
  exact all X.outer (fun _ hb => hb) I.ok.funs

theorem Inv.stack (I : Inv X pins σ H s) : s.heap.FunFrames X.base X.stack := by
  rcases I.ok.stk with e | ⟨e, hf⟩
  · rw [e]; exact I.funs
  · rw [e]
    obtain ⟨m, hn, _⟩ := I.loc
    refine .cons (by rw [I.ok.kind]; decide) hf hn ?_ I.funs
    exact Heap.get?_none_of_le (Nat.le_trans I.ok.bsz I.ok.above)
theorem Inv.stkSub (I : Inv X pins σ H s) : ∀ b ∈ frs X.stack, b ∈ X.env.locals :: X.fs := fun b hb => by
  rcases I.ok.stk with e | ⟨e, hf⟩
  · rw [e] at hb; exact List.mem_cons_of_mem _ hb
  · rw [e] at hb
    unfold frs at hb
    rw [List.filterMap_cons, hf] at hb
    exact hb
theorem Inv.stkFree (I : Inv X pins σ H s) : ∀ b ∈ frs X.stack, H b = none := fun b hb => by
  rcases List.mem_cons.mp (I.stkSub b hb) with e | hb
  · rw [e]; exact I.free
  · obtain ⟨_, o, ho, _⟩ := I.ok.funs.mem hb
    exact I.base.free b o ho (I.ok.frf b hb) fun z => I.ok.exfs b z hb

theorem Inv.step {g' : Array GenState} {t' : Nat} {d' : Drawn} {ch : List Addr} (I : Inv X pins σ H s)
    (hch : ∀ b ∈ ch, (b ∈ X.ex ∨ X.s₀.heap.objs.size ≤ b) ∧ b ≠ X.env.locals ∧ (∀ x c, X.env.cells.lookup x = some c → c ≠ b) ∧ ∀ p ∈ X.pn ++ pins, p.1 ≠ b)
    (keep : ∀ b o, b ≠ X.env.locals → b ∉ X.fs → b ∉ ch → s.heap.get? b = some o → H b = none → h'.get? b = some o)
    (slot : ∀ b o, b ≠ X.env.locals → b ∈ X.fs → b ∉ ch → s.heap.get? b = some o → H b = none → ∃ sl, h'.get? b = some { o with slots := sl }) (free : ∀ b o, b ∉ ch → s.heap.get? b = some o → H b = none → H' b = none)
    (there : ∀ b o, b ∉ ch → s.heap.get? b = some o → ∃ o', h'.get? b = some o')
    (tups : ∀ b xs, H b = some (.tup xs) → H' b = some (.tup xs)) (frzs : ∀ b o u, H b = some (.frz o u) → H' b = some (.frz o u)) (tbls : ∀ b ps, H b = some (.tbl ps) → ∃ more, H' b = some (.tbl (ps ++ more)))
    (ns : ∀ m, s.heap.Ns X.env.locals m → h'.Ns X.env.locals m) (hok : HOk X.prog X.w H' h') (hg : AllBare g') :
    Inv X pins σ H' { s with heap := h', gens := g', drawn := d', toks := t' } := by
  have neL : ∀ b o, X.s₀.heap.get? b = some o → b ≠ X.env.locals := fun b o e => Nat.ne_of_lt (Nat.lt_of_lt_of_le (Heap.lt_size e) I.ok.above)
  have neC : ∀ b o, X.s₀.heap.get? b = some o → b ∉ X.ex → b ∉ ch := fun b o e hx hb => by
    rcases (hch b hb).1 with z | z
    · exact hx z
    · exact absurd (Nat.lt_of_lt_of_le (Heap.lt_size e) z) (Nat.lt_irrefl _)
  have cellK : ∀ x c, X.env.cells.lookup x = some c → ∀ v, s.heap.IsCell c v → h'.IsCell c v := fun x c e v ⟨o, ho, hd⟩ => by
    have nch : c ∉ ch := fun z => (hch c z).2.2.1 x c e rfl
    by_cases hc : c ∈ X.fs
    · obtain ⟨sl, q⟩ := slot c o (I.cne x c e) hc nch ho (I.freeC x c e)
      exact ⟨_, q, hd⟩
    · exact ⟨o, keep c o (I.cne x c e) hc nch ho (I.freeC x c e), hd⟩
  refine ⟨I.ok, I.os, hg, ⟨fun b o e n hb hx => ?_, fun b o e n hb hx => ?_, fun b o e n hx => ?_, fun b o e hx => ?_, fun b xs e => tups b xs (I.base.tups b xs e), fun b o xs e => frzs b o xs (I.base.frzs b o xs e), fun b ps e => ?_⟩, ?_, fun x c e => ?_, ?_, fun x c e => ?_, fun p hp => ?_, hok, I.len⟩
  · exact keep b o (neL b o e) hb (neC b o e hx) (I.base.keep b o e n hb hx) (I.base.free b o e n hx)
  · obtain ⟨sl, e1⟩ := I.base.slot b o e n hb hx
    obtain ⟨sl', e2⟩ := slot b _ (neL b o e) hb (neC b o e hx) e1 (I.base.free b o e n hx)
    exact ⟨sl', e2⟩
  · obtain ⟨o', e1⟩ := I.base.there b o e hx
    exact free b o' (neC b o e hx) e1 (I.base.free b o e n hx)
  · obtain ⟨o', e1⟩ := I.base.there b o e hx
    exact there b o' (neC b o e hx) e1
  · obtain ⟨m1, e1⟩ := I.base.tbls b ps e
    obtain ⟨m2, e2⟩ := tbls b _ e1
    exact ⟨m1 ++ m2, by rw [e2, Array.append_assoc]⟩
  · obtain ⟨m, hn, hl⟩ := I.loc
    refine ⟨m, ns m hn, fun i x v e1 e2 e3 => ?_⟩
    obtain ⟨u, r, l⟩ := hl i x v e1 e2 e3
    refine ⟨u, r, ?_⟩
    rcases l with l | ⟨k, c, e, z⟩
    · exact .inl l
    · exact .inr ⟨k, c, e, cellK x c e _ z⟩
  · obtain ⟨v, z⟩ := I.cell x c e
    exact ⟨v, cellK x c e v z⟩
  · obtain ⟨m, ⟨o, _, _, ho, _⟩, _⟩ := I.loc
    exact free _ o (fun z => (hch _ z).2.1 rfl) ho I.free
  · obtain ⟨v, o, ho, hd⟩ := I.cell x c e
    exact free c o (fun z => (hch c z).2.2.1 x c e rfl) ho (I.freeC x c e)
  · obtain ⟨e, n, ne, nf, d⟩ := I.pin p hp
    have nch : p.1 ∉ ch := fun z => (hch p.1 z).2.2.2 p hp rfl
    exact ⟨keep p.1 p.2 ne nf nch e n, free p.1 p.2 nch e n, ne, nf, d⟩
theorem Inv.un {t' : Nat} (I : Inv X pins σ H s) (u : Un X.fs [] H H' s.heap h') (hok : HOk X.prog X.w H' h') : Inv X pins σ H' { s with heap := h', toks := t' } := by
  obtain ⟨m, ⟨o, es, ep, ho, r⟩, _⟩ := id I.loc
  obtain ⟨sl, hL⟩ := u.any ho I.free (by simp)
  exact I.step (g' := s.gens) (d' := s.drawn) (ch := []) (fun _ z => nomatch z) (fun b o _ hb _ e n => u.keep b o e n hb (by simp)) (fun b o _ hb _ e n => u.slot b o e n hb (by simp)) (fun b o _ e n => u.free b o e n (by simp)) (fun b o _ e => u.there b o e (by simp)) u.tups u.frzs u.tbls (fun m' hm => by
    obtain ⟨o', es', ep', ho', r'⟩ := hm
    rw [ho] at ho'; cases ho'
    exact ⟨_, es', ep', hL, r'⟩) hok I.bare
theorem Inv.call {g' : Array GenState} {t' : Nat} {d' : Drawn} {ch : List Addr} (I : Inv X pins σ H s) (u : Un (frs X.stack) ch H H' s.heap h') (hok : HOk X.prog X.w H' h') (hg : AllBare g')
    (hch : ∀ b ∈ ch, (b ∈ X.ex ∨ X.s₀.heap.objs.size ≤ b) ∧ b ≠ X.env.locals ∧ (∀ x c, X.env.cells.lookup x = some c → c ≠ b) ∧ ∀ p ∈ X.pn ++ pins, p.1 ≠ b) :
    Inv X pins σ H' { s with heap := h', gens := g', drawn := d', toks := t' } := by
  obtain ⟨m, ⟨o, es, ep, ho, r⟩, _⟩ := id I.loc
  obtain ⟨sl, hL⟩ := u.any ho I.free fun z => (hch _ z).2.1 rfl
  exact I.step (ch := ch) hch (fun b o hL hb hc e n => u.keep b o e n (fun z => (List.mem_cons.mp (I.stkSub b z)).elim hL hb) hc) (fun b o _ _ hc e n => u.any e n hc) (fun b o hc e n => u.free b o e n hc) (fun b o hc e => u.there b o e hc) u.tups u.frzs u.tbls (fun m' hm => by
    obtain ⟨o', es', ep', ho', r'⟩ := hm
    rw [ho] at ho'; cases ho'
    exact ⟨_, es', ep', hL, r'⟩) hok hg
theorem Inv.turned {t' : Nat} {it : Addr} (I : Inv X pins σ H s) (k : ∀ b o, b ≠ it → s.heap.get? b = some o → h'.get? b = some o) (hn : H it = none) (hL : it ≠ X.env.locals)
    (h1 : it ∈ X.ex ∨ X.s₀.heap.objs.size ≤ it) (h2 : ∀ x c, X.env.cells.lookup x = some c → c ≠ it) (h3 : ∀ p ∈ X.pn ++ pins, p.1 ≠ it) : Inv X pins σ H { s with heap := h', toks := t' } := by
  have nit : ∀ b u, H b = some u → b ≠ it := fun b u e z => by rw [z, hn] at e; cases e
  refine I.step (g' := s.gens) (d' := s.drawn) (ch := [it]) (fun b hb => ?_) (fun b o _ _ hc e _ => k b o (fun z => hc (by simp [z])) e) (fun b o _ _ hc e _ => ⟨o.slots, k b o (fun z => hc (by simp [z])) e⟩) (fun _ _ _ _ n => n)
    (fun b o hc e => ⟨o, k b o (fun z => hc (by simp [z])) e⟩) (fun _ _ e => e) (fun _ _ _ e => e) (fun b ps e => ⟨#[], by rw [e]; simp⟩) (fun m hm => ?_) (fun b u e => ?_) I.bare
  · have e : b = it := by simpa using hb
    subst e
    exact ⟨h1, hL, h2, h3⟩
  · obtain ⟨o, es, ep, ho, r⟩ := hm
    exact ⟨o, es, ep, k _ o (Ne.symm hL) ho, r⟩
  · refine (I.hok b u e).stay (fun c v hc q => k c v ?_ q) (fun _ q => q) fun _ _ q => q
    rcases hc with z | z
    · rw [z]; exact nit b u e
    · exact nit c _ z
theorem Inv.tok (I : Inv X pins σ H s) (t : Nat) : Inv X pins σ H { s with toks := t } := I.un (h' := s.heap) (t' := t) Un.refl I.hok
theorem Inv.kept {t' : Nat} (I : Inv X pins σ H s) (k : ∀ b u, s.heap.get? b = some u → h'.get? b = some u) : Inv X pins σ H { s with heap := h', toks := t' } := I.un (Un.kept k) (I.hok.kept k)
theorem Inv.laid {a : Addr} {o : HO} {t' : Nat} (I : Inv X pins σ H s) (k : ∀ b u, s.heap.get? b = some u → h'.get? b = some u) (hp : s.heap.objs.size ≤ a) (new : ObjOk X.prog X.w (upd H a o) h' a o) :
    Inv X pins σ (upd H a o) { s with heap := h', toks := t' } := I.un (Un.laid k hp (I.hok.fresh hp)) (I.hok.laid k hp new)
theorem Inv.write {x e : Addr} {o : HO} {t' : Nat} (I : Inv X pins σ H s) (mu : Mut (H x)) (he : e = x ∨ H e = some (.own x)) (k : ∀ b u, b ≠ e → s.heap.get? b = some u → h'.get? b = some u) (heo : ∃ u, h'.get? e = some u)
    (new : ObjOk X.prog X.w (upd H x o) h' x o) : Inv X pins σ (upd H x o) { s with heap := h', toks := t' } := I.un (Un.write mu he k heo) (I.hok.write mu he k heo new)
theorem Inv.pins_of {pins' : List (Addr × Obj)} (I : Inv X pins σ H s) (h : ∀ p ∈ pins', s.heap.get? p.1 = some p.2 ∧ H p.1 = none ∧ p.1 ≠ X.env.locals ∧ p.1 ∉ X.fs ∧ ∀ v, p.2.data ≠ .cell v) : Inv X pins' σ H s :=
  ⟨I.ok, I.os, I.bare, I.base, I.loc, I.cell, I.free, I.freeC, fun p hp => (List.mem_append.mp hp).elim (fun z => I.pin p (List.mem_append_left _ z)) (h p), I.hok, I.len⟩

theorem nodup_ix {N : List Str} (hN : N.Nodup) {i j : Nat} {x : Str} (a : N[i]? = some x) (b : N[j]? = some x) : i = j := by
  obtain ⟨h1, e1⟩ := List.getElem?_eq_some_iff.mp a
  obtain ⟨h2, e2⟩ := List.getElem?_eq_some_iff.mp b
  exact (List.getElem_inj hN).mp (e1.trans e2.symm)

theorem store_ok2 {M : Model} {A : Around} {E : Value → Shared → Prop} {i : Nat} {x : Str} {v : V} {u : Value} {Q : Unit → Shared → Prop} (I : Inv X pins σ H s) (hN : X.N.Nodup) (hi : X.N[i]? = some x) (hx : Loc X.env.scope x) (r : RelV v u)
    (h : ∀ s', Inv X pins (σ.set i (some v)) H s' → (∃ a, Heap.SameBut a s.heap s'.heap ∧ (a = X.env.locals ∨ X.env.cells.lookup x = some a)) → Q () s') (hf : X.fn x = true ∨ X.env.scope.names.lookup x = some .local := by first | exact .inl rfl | exact .inr rfl | assumption) : wpAny M A (storeName X.env x u) Q E s := by
  obtain ⟨m, hn, hl⟩ := id I.loc
  have hcls : (X.env.scope.kind == .class || (X.env.scope.kind == .module && X.env.locals != X.env.globals)) = false := by rw [I.ok.kind]; rfl
  have hiσ : i < σ.length := by rw [I.len]; exact (List.getElem?_eq_some_iff.mp hi).1
  have cne := I.cne
  have tracked : ∀ {a : Addr} {h' : Heap}, (∃ o, s.heap.get? a = some o ∧ H a = none) → Heap.SameBut a s.heap h' → HOk X.prog X.w H h' := fun {a h'} ha hs b ob e => by
    obtain ⟨_, _, hfree⟩ := ha
    refine (I.hok b ob e).stay (fun c w' hc q => (hs.2 c ?_).trans q) (fun _ q => q) fun _ _ q => q
    rintro rfl
    rcases hc with rfl | hc
    · rw [hfree] at e; cases e
    · rw [hfree] at hc; cases hc
  rcases hx with hk | hk
  · refine wpAny_storeName_local hk hn (fun h' hn' hs => ?_) hcls
    obtain ⟨oL, _, _, hoL, _⟩ := id hn
    refine h _ ⟨I.ok, I.os, I.bare, ⟨fun b o e n hb hx => ?_, fun b o e n hb hx => ?_, I.base.free, fun b o e hx => ?_, I.base.tups, I.base.frzs, I.base.tbls⟩, ⟨_, hn', fun j y v' e1 e2 e3 => ?_⟩, fun y c e => ?_, I.free, I.freeC, fun p hp => ?_, tracked ⟨oL, hoL, I.free⟩ hs, by simpa using I.len⟩ ⟨_, hs, .inl rfl⟩
    · exact (hs.2 b (Nat.ne_of_lt (Nat.lt_of_lt_of_le (Heap.lt_size e) I.ok.above))).trans (I.base.keep b o e n hb hx)
    · obtain ⟨sl, e1⟩ := I.base.slot b o e n hb hx
      exact ⟨sl, (hs.2 b (Nat.ne_of_lt (Nat.lt_of_lt_of_le (Heap.lt_size e) I.ok.above))).trans e1⟩
    · obtain ⟨o', e1⟩ := I.base.there b o e hx
      exact ⟨o', (hs.2 b (Nat.ne_of_lt (Nat.lt_of_lt_of_le (Heap.lt_size e) I.ok.above))).trans e1⟩
    · by_cases hj : j = i
      · subst hj
        rw [hi] at e1; cases e1
        rw [List.getElem?_set_self hiσ] at e2
        cases e2
        exact ⟨u, r, .inl ⟨hk, by simp⟩⟩
      · rw [List.getElem?_set_ne (Ne.symm hj)] at e2
        obtain ⟨u', r', q⟩ := hl j y v' e1 e2 e3
        refine ⟨u', r', ?_⟩
        rcases q with ⟨k, e⟩ | ⟨k, c, e, z⟩
        · refine .inl ⟨k, ?_⟩
          have : y ≠ x := fun e => hj (nodup_ix hN e1 (e ▸ hi))
          simp [this, e]
        · exact .inr ⟨k, c, e, z.sameBut hs (cne y c e)⟩
    · obtain ⟨w', z⟩ := I.cell y c e
      exact ⟨w', z.sameBut hs (cne y c e)⟩
    · obtain ⟨e, n, ne, nf, d⟩ := I.pin p hp
      exact ⟨(hs.2 p.1 ne).trans e, n, ne, nf, d⟩
  · have hfn : X.fn x = true := by
      rcases hf with z | z
      · exact z
      · rw [z] at hk; cases hk
    obtain ⟨c, hc⟩ := I.ok.has x (.inl hk)
    obtain ⟨w', z⟩ := I.cell x c hc
    refine wpAny_storeName_cell I.ok.kind hk hc z (fun h' hc' hs => ?_)
    obtain ⟨oc, hoc, hocd⟩ := id z
    refine h { s with heap := h' } ⟨I.ok, I.os, I.bare, ⟨fun b o e n hb hx => ?_, fun b o e n hb hx => ?_, I.base.free, fun b o e hx => ?_, I.base.tups, I.base.frzs, I.base.tbls⟩, ⟨m, hn.sameBut hs (Ne.symm (cne x c hc)), fun j y v' e1 e2 e3 => ?_⟩, fun y c' e => ?_, I.free, I.freeC, fun p hp => ?_, tracked ⟨oc, hoc, I.freeC x c hc⟩ hs, by simpa using I.len⟩ ⟨c, hs, .inr hc⟩
    · exact (hs.2 b (Nat.ne_of_lt (Nat.lt_of_lt_of_le (Heap.lt_size e) (I.ok.cab x c hfn hc)))).trans (I.base.keep b o e n hb hx)
    · obtain ⟨sl, e1⟩ := I.base.slot b o e n hb hx
      exact ⟨sl, (hs.2 b (Nat.ne_of_lt (Nat.lt_of_lt_of_le (Heap.lt_size e) (I.ok.cab x c hfn hc)))).trans e1⟩
    · obtain ⟨o', e1⟩ := I.base.there b o e hx
      exact ⟨o', (hs.2 b (Nat.ne_of_lt (Nat.lt_of_lt_of_le (Heap.lt_size e) (I.ok.cab x c hfn hc)))).trans e1⟩
    · by_cases hj : j = i
      · subst hj
        rw [hi] at e1; cases e1
        rw [List.getElem?_set_self hiσ] at e2
        cases e2
        exact ⟨u, r, .inr ⟨.inl hk, c, hc, hc'⟩⟩
      · rw [List.getElem?_set_ne (Ne.symm hj)] at e2
        obtain ⟨u', r', q⟩ := hl j y v' e1 e2 e3
        refine ⟨u', r', ?_⟩
        rcases q with q | ⟨k, c', e, z'⟩
        · exact .inl q
        · refine .inr ⟨k, c', e, z'.sameBut hs ?_⟩
          rintro rfl
          exact hj (nodup_ix hN e1 (I.ok.inj _ _ _ e hc ▸ hi))
    · by_cases hcc : c' = c
      · subst hcc; exact ⟨_, hc'⟩
      · obtain ⟨w2, z2⟩ := I.cell y c' e
        exact ⟨w2, z2.sameBut hs hcc⟩
    · obtain ⟨e, n, ne, nf, d⟩ := I.pin p hp
      refine ⟨(hs.2 p.1 ?_).trans e, n, ne, nf, d⟩
      intro q
      rw [q, hoc] at e
      have q' : oc = p.2 := Option.some.inj e
      exact d w' (by rw [← q']; exact hocd)
theorem store_ok {M : Model} {A : Around} {E : Value → Shared → Prop} {i : Nat} {x : Str} {v : V} {u : Value} {Q : Unit → Shared → Prop} (I : Inv X pins σ H s) (hN : X.N.Nodup) (hi : X.N[i]? = some x) (hx : Loc X.env.scope x) (r : RelV v u)
    (h : ∀ s', Inv X pins (σ.set i (some v)) H s' → Q () s') (hf : X.fn x = true ∨ X.env.scope.names.lookup x = some .local := by first | exact .inl rfl | exact .inr rfl | assumption) : wpAny M A (storeName X.env x u) Q E s :=
  store_ok2 I hN hi hx r (fun s' I' _ => h s' I') hf
theorem Inv.call' {s' : Shared} {ch : List Addr} (I : Inv X pins σ H s) (ho : s'.os = s.os) (u : Un (frs X.stack) ch H H' s.heap s'.heap) (hok : HOk X.prog X.w H' s'.heap) (hg : AllBare s'.gens)
    (hch : ∀ b ∈ ch, (b ∈ X.ex ∨ X.s₀.heap.objs.size ≤ b) ∧ b ≠ X.env.locals ∧ (∀ x c, X.env.cells.lookup x = some c → c ≠ b) ∧ ∀ p ∈ X.pn ++ pins, p.1 ≠ b) : Inv X pins σ H' s' := by
  obtain ⟨h', g', d', t', o'⟩ := s'
  have e : o' = s.os := ho
  subst e
  exact I.call (g' := g') (t' := t') (d' := d') u hok hg hch
end

noncomputable abbrev XK := Value → Option Addr → Hp → Prop
noncomputable abbrev St := List (Option V)
noncomputable abbrev VK := V → Hp → Prop
noncomputable abbrev TE := St → Hp → VK → Prop
noncomputable abbrev TT := St → Hp → (Bool → Hp → Prop) → Prop
noncomputable abbrev TA := St → Hp → (List V → Hp → Prop) → Prop
structure Ends where
  nx : St → Hp → Prop
  rt : VK
  bk : St → Hp → Prop := fun _ _ => False
  ct : St → Hp → Prop := fun _ _ => False
noncomputable abbrev TS := Ends → St → Hp → Prop

noncomputable def EP (X : Cx) (pins : List (Addr × Obj)) (σ : St) (Q : VK) (u : Value) (s' : Shared) : Prop := ∃ v H', Inv X pins σ H' s' ∧ RelV v u ∧ Q v H'
noncomputable def TP (X : Cx) (pins : List (Addr × Obj)) (σ : St) (Q : Bool → Hp → Prop) (b : Bool) (s' : Shared) : Prop := ∃ H', Inv X pins σ H' s' ∧ Q b H'
noncomputable def AP (X : Cx) (pins : List (Addr × Obj)) (σ : St) (Q : List V → Hp → Prop) (us : List Value) (s' : Shared) : Prop := ∃ vs H', Inv X pins σ H' s' ∧ Vals vs us ∧ Q vs H'
noncomputable def SP (X : Cx) (pins : List (Addr × Obj)) (D : Ends) (f : Flow) (s' : Shared) : Prop :=
  match f with
  | .next => ∃ σ' H', Inv X pins σ' H' s' ∧ D.nx σ' H'
  | .brk => ∃ σ' H', Inv X pins σ' H' s' ∧ D.bk σ' H'
  | .cont => ∃ σ' H', Inv X pins σ' H' s' ∧ D.ct σ' H'
  | .ret u => ∃ v σ' H', Inv X pins σ' H' s' ∧ RelV v u ∧ D.rt v H'

noncomputable def PE (X : Cx) (e : Expr) (t : TE) : Prop :=
  ∀ (pins : List (Addr × Obj)) (s : Shared) (σ : St) (H : Hp) (Q : VK), Inv X pins σ H s → t σ H Q → wpAny (model X.prog X.w) X.A (eval e X.env) (EP X pins σ Q) X.xe s
noncomputable def PT (X : Cx) (e : Expr) (t : TT) : Prop :=
  ∀ (pins : List (Addr × Obj)) (s : Shared) (σ : St) (H : Hp) (Q : Bool → Hp → Prop), Inv X pins σ H s → t σ H Q → wpAny (model X.prog X.w) X.A (isTrue e X.env (eval e X.env)) (TP X pins σ Q) X.xe s
noncomputable def PW (X : Cx) (e : Expr) (t : TT) : Prop :=
  ∀ (whole : Sem Value) (pins : List (Addr × Obj)) (s : Shared) (σ : St) (H : Hp) (Q : Bool → Hp → Prop), Inv X pins σ H s → t σ H Q → wpAny (model X.prog X.w) X.A (isTrue e X.env whole) (TP X pins σ Q) X.xe s
theorem PW.pt {X : Cx} {e : Expr} {t : TT} (h : PW X e t) : PT X e t := h _
noncomputable def PA (X : Cx) (es : List Expr) (t : TA) : Prop :=
  ∀ (pos : Pos) (pins : List (Addr × Obj)) (s : Shared) (σ : St) (H : Hp) (Q : List V → Hp → Prop), Inv X pins σ H s → t σ H Q → wpAny (model X.prog X.w) X.A (spliced (backTo pos (starEach es X.env))) (AP X pins σ Q) X.xe s
noncomputable def PS (X : Cx) (st : Stmt) (t : TS) : Prop :=
  ∀ (pins : List (Addr × Obj)) (s : Shared) (σ : St) (H : Hp) (D : Ends), Inv X pins σ H s → t D σ H → wpAny (model X.prog X.w) X.A (exec st X.env) (SP X pins D) X.xe s
noncomputable def PSs (X : Cx) (st : List Stmt) (t : TS) : Prop :=
  ∀ (pins : List (Addr × Obj)) (s : Shared) (σ : St) (H : Hp) (D : Ends), Inv X pins σ H s → t D σ H → wpAny (model X.prog X.w) X.A (execs st X.env) (SP X pins D) X.xe s
theorem thn {α : Type} {t : Sem α} {Q Q' : α → Shared → Prop} {M : Model} {A : Around} {E : Value → Shared → Prop} {s : Shared} (h : wpAny M A t Q E s) (hQ : ∀ a s, Q a s → Q' a s) : wpAny M A t Q' E s := wpAny_mono h hQ fun _ _ x => x
end L2

namespace L2
open PySem PySem.Spec PyProof.Rows
section
variable {X : Cx}

theorem bin {a b : Expr} {ta tb : TE} (ha : PE X a ta) (hb : PE X b tb) {pins : List (Addr × Obj)} {s : Shared} {σ : St} {H : Hp} {R : V → V → Hp → Prop} (I : Inv X pins σ H s) (h : ta σ H fun x H1 => tb σ H1 fun y H2 => R x y H2)
    {α : Type} {Q : α → Shared → Prop} {f : Value → Value → Sem α}
    (hf : ∀ v u s2 x y H2, Inv X pins σ H2 s2 → RelV x v → RelV y u → R x y H2 → wpAny (model X.prog X.w) X.A (f v u) Q X.xe s2) :
    wpAny (model X.prog X.w) X.A (eval a X.env) (fun v s₁ => wpAny (model X.prog X.w) X.A (eval b X.env) (fun u s₂ => wpAny (model X.prog X.w) X.A (f v u) Q X.xe s₂) X.xe s₁) X.xe s := by
  refine thn (ha pins s σ H _ I h) fun v s1 ⟨x, H1, I1, r1, q1⟩ => ?_
  refine thn (hb pins s1 σ H1 _ I1 q1) fun u s2 ⟨y, H2, I2, r2, q2⟩ => ?_
  exact hf v u s2 x y H2 I2 r1 r2 q2

noncomputable def tVar (i : Nat) : TE := fun σ H Q => ∃ v, σ[i]? = some (some v) ∧ Q v H
noncomputable def tC (v : V) : TE := fun _ H Q => Q v H
theorem pe_var {i : Nat} {x : Str} {pos : Pos} (hN : X.N[i]? = some x) (hv : Vis X.env.scope x) (hd : (x == ("__debug__" : Str)) = false := by decide) (hcd : (x == ("__classdict__" : Str)) = false := by decide) : PE X (.Name x pos) (tVar i) := by
  intro pins s σ H Q I h
  obtain ⟨v, e, h⟩ := h
  obtain ⟨m, hn, hl⟩ := I.loc
  obtain ⟨u, r, l⟩ := hl i x v hN e hv
  have fin : EP X pins σ Q u s := ⟨v, H, I, r, h⟩
  rcases l with ⟨hk, hm⟩ | ⟨hk, c, hc, hcell⟩
  · exact wpAny_Name (wpAny_loadName_local I.ok.kind hk hn hm fin) hd
  · rcases hk with hk | hk
    · exact wpAny_Name (wpAny_loadName_cell I.ok.kind hk hc hcell fin) hd
    · exact wpAny_Name (wpAny_loadName_free I.ok.kind hk hc hcell fin hcd) hd
theorem pe_int {i j pos} : PE X (.Constant (.int i) j pos) (tC (.int i)) := fun _ _ _ H _ I h => wpAny_Constant_int ⟨.int i, H, I.tok _, ⟨_, rfl⟩, h⟩
theorem pe_bl {b j pos} : PE X (.Constant (.bool b) j pos) (tC (.bl b)) := fun _ _ _ H _ I h => Constant_bool ⟨.bl b, H, I, rfl, h⟩
theorem pe_non {j pos} : PE X (.Constant .none j pos) (tC .non) := fun _ _ _ H _ I h => Constant_none ⟨.non, H, I, rfl, h⟩
theorem pe_str {x j pos} : PE X (.Constant (.str x) j pos) (tC (.str x)) := fun _ _ _ H _ I h => Calls.Constant_str ⟨.str x, H, I.tok _, ⟨_, rfl⟩, h⟩

noncomputable def Gl (X : Cx) (x : Str) : Prop := X.env.kindOf x = some .globalImplicit
theorem ld_glob {E : Value → Shared → Prop} {pins : List (Addr × Obj)} {s : Shared} {σ : St} {H : Hp} {x : Str} {u : Value} {pos : Pos} {Q : Value → Shared → Prop} (I : Inv X pins σ H s) (hg : Gl X x) (hm : X.mg x = some u) (h : Q u s)
    (hd : (x == ("__debug__" : Str)) = false := by decide) : wpAny (model X.prog X.w) X.A (eval (.Name x pos) X.env) Q E s :=
  Calls.Name_function_global I.ok.kind hg (Calls.loadGlobal_global (by rw [I.ok.glob]; exact I.mod.glob.keeps I.bk) hm h) hd
theorem ld_blt {E : Value → Shared → Prop} {pins : List (Addr × Obj)} {s : Shared} {σ : St} {H : Hp} {x : Str} {u : Value} {pos : Pos} {Q : Value → Shared → Prop} (I : Inv X pins σ H s) (hg : Gl X x) (hm : X.mg x = none) (hv : bootBuiltins x = some u) (h : Q u s)
    (hn : x ≠ "__name__" := by decide) (hd : (x == ("__debug__" : Str)) = false := by decide) : wpAny (model X.prog X.w) X.A (eval (.Name x pos) X.env) Q E s := by
  obtain ⟨mb, h1, h2⟩ := I.mod.blt
  exact Calls.Name_function_global I.ok.kind hg (Calls.loadGlobal_builtin (by rw [I.ok.glob]; exact I.mod.glob.keeps I.bk) hm (by rw [I.ok.blt]; exact h1.keeps I.bk) ((h2 x hn).trans hv) h) hd
theorem pe_bltn {x : Str} {v : V} {u : Value} {pos : Pos} (hg : Gl X x) (hm : X.mg x = none) (hv : bootBuiltins x = some u) (r : RelV v u) (hn : x ≠ "__name__" := by decide) (hd : (x == ("__debug__" : Str)) = false := by decide) : PE X (.Name x pos) (tC v) :=
  fun _ _ _ H _ I h => ld_blt I hg hm hv ⟨v, H, I, r, h⟩ hn hd

variable {a b : Expr} {ta tb : TE} {pos : Pos}
variable {tA tB' : TT} {rest : List Expr}
noncomputable def tAnd (t u : TT) : TT := fun σ H Q => t σ H fun c H1 => if c = true then u σ H1 Q else Q false H1
noncomputable def tOr (t u : TT) : TT := fun σ H Q => t σ H fun c H1 => if c = true then Q true H1 else u σ H1 Q
noncomputable def tNot (t : TT) : TT := fun σ H Q => t σ H fun c H1 => Q (!c) H1
theorem pw_and1 (ha : PT X a tA) : PW X (.BoolOp .And [a] pos) tA := by
  intro wh pins s σ H Q I h
  refine isTrue_and (thn (ha pins s σ H Q I h) fun c s1 e => ?_)
  cases c with
  | true => exact isTrue_and_nil e
  | false => exact e
theorem pw_or1 (ha : PT X a tA) : PW X (.BoolOp .Or [a] pos) tA := by
  intro wh pins s σ H Q I h
  refine isTrue_or (thn (ha pins s σ H Q I h) fun c s1 e => ?_)
  cases c with
  | false => exact isTrue_or_nil e
  | true => exact e
theorem pw_and (ha : PT X a tA) (hb : PW X (.BoolOp .And (b :: rest) pos) tB') : PW X (.BoolOp .And (a :: b :: rest) pos) (tAnd tA tB') := by
  intro wh pins s σ H Q I h
  refine isTrue_and (thn (ha pins s σ H _ I h) fun c s1 ⟨H1, I1, q1⟩ => ?_)
  cases c with
  | true => exact hb wh pins s1 σ H1 Q I1 q1
  | false => exact ⟨H1, I1, q1⟩
theorem pw_or (ha : PT X a tA) (hb : PW X (.BoolOp .Or (b :: rest) pos) tB') : PW X (.BoolOp .Or (a :: b :: rest) pos) (tOr tA tB') := by
  intro wh pins s σ H Q I h
  refine isTrue_or (thn (ha pins s σ H _ I h) fun c s1 ⟨H1, I1, q1⟩ => ?_)
  cases c with
  | true => exact ⟨H1, I1, q1⟩
  | false => exact hb wh pins s1 σ H1 Q I1 q1
theorem pt_not (ha : PT X a tA) : PT X (.UnaryOp .Not a pos) (tNot tA) := by
  intro pins s σ H Q I h
  exact isTrue_not (ha pins s σ H (fun c H1 => Q (!c) H1) I h)
noncomputable def tAndV (ta tb : TE) : TE := fun σ H Q => ta σ H fun x H1 => ∃ c, x = .bl c ∧ if c = true then tb σ H1 Q else Q (.bl false) H1
noncomputable def tOrV (ta tb : TE) : TE := fun σ H Q => ta σ H fun x H1 => ∃ c, x = .bl c ∧ if c = true then Q (.bl true) H1 else tb σ H1 Q
theorem pe_one {op} {t : TE} (h : PE X a t) : PE X (.BoolOp op [a] pos) t := fun pins s σ H Q I hw => BoolOp_one (h pins s σ H Q I hw)
theorem pe_and (ha : PE X a ta) (hb : PE X (.BoolOp .And (b :: rest) pos) tb) : PE X (.BoolOp .And (a :: b :: rest) pos) (tAndV ta tb) := by
  intro pins s σ H Q I h
  refine BoolOp_and (thn (ha pins s σ H _ I h) fun v s1 ⟨x, H1, I1, r1, q1⟩ => ?_)
  obtain ⟨c, rfl, q1⟩ := q1
  cases r1
  refine wpAny_truthy_bool ?_
  cases c with
  | true => exact hb pins s1 σ H1 Q I1 q1
  | false => exact ⟨.bl false, H1, I1, rfl, q1⟩
theorem pe_or (ha : PE X a ta) (hb : PE X (.BoolOp .Or (b :: rest) pos) tb) : PE X (.BoolOp .Or (a :: b :: rest) pos) (tOrV ta tb) := by
  intro pins s σ H Q I h
  refine BoolOp_or (thn (ha pins s σ H _ I h) fun v s1 ⟨x, H1, I1, r1, q1⟩ => ?_)
  obtain ⟨c, rfl, q1⟩ := q1
  cases r1
  refine wpAny_truthy_bool ?_
  cases c with
  | false => exact hb pins s1 σ H1 Q I1 q1
  | true => exact ⟨.bl true, H1, I1, rfl, q1⟩
noncomputable def tIf (t : TT) (ta tb : TE) : TE := fun σ H Q => t σ H fun c H1 => if c = true then ta σ H1 Q else tb σ H1 Q
theorem pe_ifExp {c : Expr} (hc : PT X c tA) (ha : PE X a ta) (hb : PE X b tb) : PE X (.IfExp c a b pos) (tIf tA ta tb) := by
  intro pins s σ H Q I h
  refine wpAny_IfExp (thn (hc pins s σ H _ I h) fun d s1 ⟨H1, I1, q1⟩ => ?_)
  cases d with
  | true => exact ha pins s1 σ H1 Q I1 q1
  | false => exact hb pins s1 σ H1 Q I1 q1
end
end L2

namespace L2
open PySem PySem.Spec PyProof.Rows

noncomputable def SqL (K : PySem.W.Frag) (H : Hp) (a : Addr) (xs : List V) : Prop :=
  Rd H a (.lst xs) ∨
    ∃ (o : Obj) (its : Array Value) (n : Nat), K.lookup a = some o ∧ o.cls = .type "list" ∧ o.dict = none ∧ o.data = .seq its n ∧ its.size ≤ sizeLine ∧ Vals xs its.toList
noncomputable def SqT (K : PySem.W.Frag) (H : Hp) (a : Addr) (xs : List V) : Prop :=
  Rd H a (.tup xs) ∨
    ∃ (o : Obj) (its : Array Value) (n : Nat), K.lookup a = some o ∧ o.cls = .type "tuple" ∧ o.data = .seq its n ∧ its.size ≤ sizeLine ∧ Vals xs its.toList
noncomputable def absV : Value → Option V
  | .none => some .non
  | .bool b => some (.bl b)
  | .int i _ => some (.int i)
  | .str x _ => some (.str x)
  | .bytes b _ => some (.byt b)
  | .float b _ => some (.flt b)
  | .ref a => some (.ref a)
  | .type n => some (.ty n)
  | _ => none
theorem RelV.abs {x : V} {u : Value} (r : RelV x u) : absV u = some x := by
  cases x with
  | non => cases r; rfl
  | bl _ => cases r; rfl
  | int _ => obtain ⟨t, rfl⟩ := r; rfl
  | str _ => obtain ⟨t, rfl⟩ := r; rfl
  | byt _ => obtain ⟨t, rfl⟩ := r; rfl
  | flt _ => obtain ⟨t, rfl⟩ := r; rfl
  | ref _ => cases r; rfl
  | ty _ => cases r; rfl
theorem RelV.inj {x y : V} {u : Value} (r : RelV x u) (q : RelV y u) : x = y := Option.some.inj (r.abs.symm.trans q.abs)
theorem Vals.inj : ∀ {xs ys : List V} {us : List Value}, Vals xs us → Vals ys us → xs = ys
  | _, _, _, .nil, .nil => rfl
  | _, _, _, .cons r t, .cons r' t' => by rw [r.inj r', Vals.inj t t']
section
variable {X : Cx} {pins : List (Addr × Obj)} {σ : St} {H : Hp} {s : Shared} {a : Addr} {xs ys : List V}
theorem SqL.of {K : PySem.W.Frag} (h : H a = some (.lst xs)) : SqL K H a xs := .inl (.inl h)
theorem SqT.of {K : PySem.W.Frag} (h : H a = some (.tup xs)) : SqT K H a xs := .inl (.inl h)
theorem Inv.list (I : Inv X pins σ H s) (h : SqL X.K H a xs) : ∃ its : List Value, Vals xs its ∧ PlainL s.heap a its.toArray ∧ xs.length ≤ sizeLine := by
  rcases h with h | ⟨o, its, n, hk, hc, hd, hs, hz, r⟩
  · obtain ⟨z, its, n, r, e⟩ := h.ok I.hok
    exact ⟨its, r, ⟨_, n, e, rfl, rfl, rfl⟩, z⟩
  · refine ⟨its.toList, r, ⟨o, n, I.kIn a o hk, hc, hd, by simpa using hs⟩, ?_⟩
    have e := r.length
    simp only [Array.length_toList] at e
    omega
theorem Inv.tuple (I : Inv X pins σ H s) (h : SqT X.K H a xs) : ∃ its : List Value, Vals xs its ∧ IsTup s.heap a its.toArray ∧ xs.length ≤ sizeLine := by
  rcases h with h | ⟨o, its, n, hk, hc, hs, hz, r⟩
  · obtain ⟨z, its, r, p⟩ := h.ok I.hok
    exact ⟨its, r, p, z⟩
  · refine ⟨its.toList, r, ⟨o, I.kIn a o hk, hc, n, by simpa using hs⟩, ?_⟩
    have e := r.length
    simp only [Array.length_toList] at e
    omega
theorem Inv.list_inj (I : Inv X pins σ H s) (h : SqL X.K H a xs) (h' : SqL X.K H a ys) : xs = ys := by
  obtain ⟨its, r, ⟨o, n, e, _, _, d⟩, _⟩ := I.list h
  obtain ⟨its', r', ⟨o', n', e', _, _, d'⟩, _⟩ := I.list h'
  rw [e] at e'; cases e'
  rw [d] at d'
  injection d' with d1 _
  have : its = its' := by simpa using congrArg Array.toList d1
  subst this
  exact r.inj r'
theorem Inv.tuple_inj (I : Inv X pins σ H s) (h : SqT X.K H a xs) (h' : SqT X.K H a ys) : xs = ys := by
  obtain ⟨its, r, ⟨o, e, _, n, d⟩, _⟩ := I.tuple h
  obtain ⟨its', r', ⟨o', e', _, n', d'⟩, _⟩ := I.tuple h'
  rw [e] at e'; cases e'
  rw [d] at d'
  injection d' with d1 _
  have : its = its' := by simpa using congrArg Array.toList d1
  subst this
  exact r.inj r'
end

noncomputable abbrev Cx.wish (X : Cx) (E : Value → Shared → Prop) : Cx := { X with xe := E }
noncomputable abbrev Cx.nox (X : Cx) : Cx := X.wish fun _ _ => False
theorem Cx.Ok.wish {X : Cx} (ok : X.Ok) (E : Value → Shared → Prop) : (X.wish E).Ok :=
  ⟨ok.mod, ok.kind, ok.glob, ok.blt, ok.above, ok.inj, ok.has, ok.cab, ok.hd, ok.frames, ok.stk, ok.exf, ok.bs, ok.bsz, ok.noex, ok.exfs, ok.funs, ok.frf⟩
theorem Cx.Ok.unwish {X : Cx} {E : Value → Shared → Prop} (ok : (X.wish E).Ok) : X.Ok :=
  ⟨ok.mod, ok.kind, ok.glob, ok.blt, ok.above, ok.inj, ok.has, ok.cab, ok.hd, ok.frames, ok.stk, ok.exf, ok.bs, ok.bsz, ok.noex, ok.exfs, ok.funs, ok.frf⟩
section
variable {X : Cx} {pins : List (Addr × Obj)} {σ : St} {H : Hp} {s : Shared} {E : Value → Shared → Prop}
theorem Inv.wish (I : Inv X pins σ H s) (E : Value → Shared → Prop) : Inv (X.wish E) pins σ H s := ⟨I.ok.wish E, I.os, I.bare, I.base, I.loc, I.cell, I.free, I.freeC, I.pin, I.hok, I.len⟩
theorem Inv.unwish (I : Inv (X.wish E) pins σ H s) : Inv X pins σ H s := ⟨I.ok.unwish, I.os, I.bare, I.base, I.loc, I.cell, I.free, I.freeC, I.pin, I.hok, I.len⟩
theorem SP.unwish {D : Ends} {f : Flow} {s' : Shared} (h : SP (X.wish E) pins D f s') : SP X pins D f s' := by
  cases f with
  | next => obtain ⟨σ', H', I, q⟩ := h; exact ⟨σ', H', I.unwish, q⟩
  | brk => obtain ⟨σ', H', I, q⟩ := h; exact ⟨σ', H', I.unwish, q⟩
  | cont => obtain ⟨σ', H', I, q⟩ := h; exact ⟨σ', H', I.unwish, q⟩
  | ret u => obtain ⟨v, σ', H', I, r, q⟩ := h; exact ⟨v, σ', H', I.unwish, r, q⟩
theorem PE.nox {e : Expr} {t : TE} (h : PE X.nox e t) : PE X e t := fun pins s σ H Q I hw =>
  wpAny_mono (h pins s σ H Q (I.wish _) hw) (fun _ _ ⟨v, H', I', r, q⟩ => ⟨v, H', I'.unwish, r, q⟩) fun _ _ z => False.elim z
theorem PT.nox {e : Expr} {t : TT} (h : PT X.nox e t) : PT X e t := fun pins s σ H Q I hw =>
  wpAny_mono (h pins s σ H Q (I.wish _) hw) (fun _ _ ⟨H', I', q⟩ => ⟨H', I'.unwish, q⟩) fun _ _ z => False.elim z
theorem PSs.nox {st : List Stmt} {t : TS} (h : PSs X.nox st t) : PSs X st t := fun pins s σ H D I hw =>
  wpAny_mono (h pins s σ H D (I.wish _) hw) (fun _ _ q => q.unwish) fun _ _ z => False.elim z
end

section
variable {X : Cx} {st : Stmt} {rest : List Stmt} {t u : TS} {e : Expr} {te : TE} {pos : Pos}
noncomputable def tNext : TS := fun D σ H => D.nx σ H
noncomputable def tSeq (t u : TS) : TS := fun D σ H => t { D with nx := u D } σ H
theorem pss_nil : PSs X [] tNext := fun _ _ σ H _ I h => wpAny_execs_nil ⟨σ, H, I, h⟩
theorem pss_cons (h1 : PS X st t) (h2 : PSs X rest u) : PSs X (st :: rest) (tSeq t u) := by
  intro pins s σ H D I h
  refine wpAny_execs_cons (thn (h1 pins s σ H { D with nx := u D } I h) fun f s1 q => ?_)
  cases f with
  | next =>
    obtain ⟨σ', H', I', q⟩ := q
    exact h2 pins s1 σ' H' D I' q
  | ret v => exact q
  | brk => exact q
  | cont => exact q
noncomputable def tBreak : TS := fun D σ H => D.bk σ H
noncomputable def tCont : TS := fun D σ H => D.ct σ H
theorem ps_pass : PS X (.Pass pos) tNext := fun _ _ σ H _ I h => wpAny_Pass ⟨σ, H, I, h⟩
theorem ps_break : PS X (.Break pos) tBreak := fun _ _ σ H _ I h => wpAny_Break ⟨σ, H, I, h⟩
theorem ps_continue : PS X (.Continue pos) tCont := fun _ _ σ H _ I h => wpAny_Continue ⟨σ, H, I, h⟩
theorem Inv.quiet {pins : List (Addr × Obj)} {σ : St} {H : Hp} {s : Shared} (I : Inv X pins σ H s) : interactive X.env = false := by simp [interactive, I.ok.kind]
noncomputable def tDrop (te : TE) : TS := fun D σ H => te σ H fun _ H1 => D.nx σ H1
theorem ps_expr (he : PE X e te) (hs : swapsWith e none pos.line X.env = pure false := by rfl) : PS X (.Expr e pos) (tDrop te) := by
  intro pins s σ H D I h
  exact wpAny_Expr_any (thn (he pins s σ H _ I h) fun v s1 ⟨x, H1, I1, r1, q1⟩ => ⟨σ, H1, I1, q1⟩) I.quiet hs
noncomputable def tRet (te : TE) : TS := fun D σ H => te σ H D.rt
theorem ps_ret (he : PE X e te) : PS X (.Return (some e) pos) (tRet te) := by
  intro pins s σ H D I h
  exact wpAny_Return_some (thn (he pins s σ H _ I h) fun v s1 ⟨x, H1, I1, r1, q1⟩ => ⟨x, σ, H1, I1, r1, q1⟩)
noncomputable def tRetN : TS := fun D _ H => D.rt .non H
theorem ps_retN : PS X (.Return none pos) tRetN := fun _ _ σ H _ I h => wpAny_Return_none ⟨.non, σ, H, I, rfl, h⟩
noncomputable def tIfS (c : TT) (t u : TS) : TS := fun D σ H => c σ H fun b H1 => if b = true then t D σ H1 else u D σ H1
theorem ps_if {c : Expr} {a b : List Stmt} {tc : TT} (hc : PT X c tc) (ha : PSs X a t) (hb : PSs X b u) : PS X (.If c a b pos) (tIfS tc t u) := by
  intro pins s σ H D I h
  refine wpAny_If (thn (hc pins s σ H _ I h) fun d s1 ⟨H1, I1, q1⟩ => ?_)
  cases d with
  | true => exact ha pins s1 σ H1 D I1 q1
  | false => exact hb pins s1 σ H1 D I1 q1
end

noncomputable abbrev TG := V → St → Hp → (St → Hp → Prop) → Prop
noncomputable abbrev TGs := List V → St → Hp → (St → Hp → Prop) → Prop
noncomputable def PG (X : Cx) (target : Expr) (t : TG) : Prop :=
  ∀ (pins : List (Addr × Obj)) (s : Shared) (σ : St) (H : Hp) (v : V) (u : Value) (Q : St → Hp → Prop), Inv X pins σ H s → RelV v u → t v σ H Q →
    wpAny (model X.prog X.w) X.A (assign target X.env u) (fun _ s' => ∃ σ' H', Inv X pins σ' H' s' ∧ Q σ' H') X.xe s
noncomputable def PGs (X : Cx) (ts : List Expr) (t : TGs) : Prop :=
  ∀ (pins : List (Addr × Obj)) (s : Shared) (σ : St) (H : Hp) (vs : List V) (us : List Value) (Q : St → Hp → Prop), Inv X pins σ H s → Vals vs us → t vs σ H Q →
    wpAny (model X.prog X.w) X.A (assignInOrder ((assignEach ts X.env).map (·.2)) us) (fun _ s' => ∃ σ' H', Inv X pins σ' H' s' ∧ Q σ' H') X.xe s
noncomputable abbrev TSet := V → V → V → Hp → (Hp → Prop) → Prop
noncomputable def PSet (X : Cx) (t : TSet) : Prop :=
  ∀ (pins : List (Addr × Obj)) (s : Shared) (σ : St) (H : Hp) (o i v : V) (ov iv u : Value) (Q : Hp → Prop), Inv X pins σ H s → RelV o ov → RelV i iv → RelV v u → t o i v H Q →
    wpAny (model X.prog X.w) X.A (setItem ov iv u) (fun _ s' => ∃ H', Inv X pins σ H' s' ∧ Q H') X.xe s
section
variable {X : Cx} {pos : Pos}
noncomputable def gName (i : Nat) : TG := fun v σ H Q => Q (σ.set i (some v)) H
theorem pg_name {i : Nat} {x : Str} (hN : X.N.Nodup) (hi : X.N[i]? = some x) (hx : Loc X.env.scope x) (hf : X.fn x = true ∨ X.env.scope.names.lookup x = some .local := by first | exact .inl rfl | exact .inr rfl | assumption) : PG X (.Name x pos) (gName i) := by
  intro pins s σ H v u Q I r h
  exact wpAny_assign_Name (store_ok I hN hi hx r (fun s' I' => ⟨_, H, I', h⟩) hf)
noncomputable def gNil : TGs := fun vs σ H Q => vs = [] ∧ Q σ H
noncomputable def gCons (t : TG) (u : TGs) : TGs := fun vs σ H Q => ∃ v r, vs = v :: r ∧ t v σ H fun σ' H' => u r σ' H' Q
theorem pgs_nil : PGs X [] gNil := by
  intro pins s σ H vs us Q I r h
  obtain ⟨e, h⟩ := h
  subst e
  cases r
  exact assignInOrder_nil ⟨σ, H, I, h⟩
theorem pgs_cons {e : Expr} {es : List Expr} {t : TG} {u : TGs} (h1 : PG X e t) (h2 : PGs X es u)
    (hs : (assignEach (e :: es) X.env).map (·.2) = assign e X.env :: (assignEach es X.env).map (·.2) := by rfl) : PGs X (e :: es) (gCons t u) := by
  intro pins s σ H vs us Q I r h
  obtain ⟨v, vr, e1, h⟩ := h
  subst e1
  cases r with
  | cons r rr =>
    rw [hs]
    refine assignInOrder_cons (thn (h1 pins s σ H _ _ _ I r h) fun _ s1 ⟨σ1, H1, I1, q1⟩ => ?_)
    exact h2 pins s1 σ1 H1 _ _ Q I1 rr q1
noncomputable def gTup (K : PySem.W.Frag) (n : Nat) (t : TGs) : TG := fun v σ H Q => ∃ a xs, v = .ref a ∧ SqT K H a xs ∧ xs.length = n ∧ t xs σ H Q
theorem pg_tup {es : List Expr} {k : Nat} {t : TGs} {n : Nat} (hc : X.calm = true) (h : PGs X es t)
    (hn : (assignEach es X.env).length = n := by rfl) (hst : (assignEach es X.env).findIdx? (·.1) = none := by rfl) : PG X (.Tuple es k pos) (gTup X.K n t) := by
  intro pins s σ H v u Q I r hw
  obtain ⟨a, xs, e1, hq, hl, hw⟩ := hw
  subst e1
  cases r
  obtain ⟨its, rv, ht, hz⟩ := I.tuple hq
  refine assign_Tuple_tuple (I.ok.hd hc) ht (by simp [hn, ← hl, rv.length]) hst fun h' hx => ?_
  have I1 : Inv X pins σ H { s with heap := h' } := I.kept (t' := s.toks) fun b o e => hx b o (Nat.ne_of_lt (Heap.lt_size e)) e
  exact h pins _ σ H xs _ Q I1 (by simpa using rv) hw
noncomputable def gSub (to ti : TE) (t : TSet) : TG := fun v σ H Q => to σ H fun o H1 => ti σ H1 fun i H2 => t o i v H2 fun H3 => Q σ H3
theorem pg_sub {o i : Expr} {to ti : TE} {t : TSet} (ho : PE X o to) (hi : PE X i ti) (hs : PSet X t)
    (ha : ∀ v, assign (.Subscript o i pos) X.env v = (do
      let ov ← holding [v] (eval o X.env)
      let iv ← holding [v, ov] (eval i X.env)
      standAt pos
      holding [v, ov, iv] (setItem ov iv v)
      release [v, ov, iv] []) := by intro _; rfl) : PG X (.Subscript o i pos) (gSub to ti t) := by
  intro pins s σ H v u Q I r h
  rw [ha]
  refine wpAny_bind (wpAny_holding (thn (ho pins s σ H _ I h) fun ov s1 ⟨x, H1, I1, r1, q1⟩ => ?_))
  refine wpAny_bind (wpAny_holding (thn (hi pins s1 σ H1 _ I1 q1) fun iv s2 ⟨y, H2, I2, r2, q2⟩ => ?_))
  refine wpAny_bind (wpAny_standAt (wpAny_bind (wpAny_holding (thn (hs pins s2 σ H2 x y v ov iv u _ I2 r1 r2 r q2) fun _ s3 ⟨H3, I3, q3⟩ => ?_))))
  exact wpAny_release ⟨σ, H3, I3, q3⟩
noncomputable def tAsg (te : TE) (g : TG) : TS := fun D σ H => te σ H fun x H1 => g x σ H1 D.nx
theorem ps_asg {tg e : Expr} {te : TE} {g : TG} (he : PE X e te) (hg : PG X tg g) (hs : swapsWithSole [tg] e pos.line X.env = pure false := by rfl) (hw : swappedStores [tg] e X.env = pure none := by rfl)
    (h1 : (assignEach [tg] X.env).map (·.2) = [assign tg X.env] := by rfl) : PS X (.Assign [tg] e pos) (tAsg te g) := by
  intro pins s σ H D I h
  refine wpAny_Assign_stores (thn (he pins s σ H _ I h) fun v s1 ⟨x, H1, I1, r1, q1⟩ => ?_) hs hw
  rw [h1]
  exact thn (hg pins s1 σ H1 x v _ I1 r1 q1) fun _ s2 q => q
theorem ps_set {i : Nat} {x : Str} {e : Expr} {te : TE} {pos' : Pos} (hN : X.N.Nodup) (hi : X.N[i]? = some x) (hx : Loc X.env.scope x) (he : PE X e te) (hs : swapsWith e (some (.Name x pos')) pos.line X.env = pure false := by rfl) (hf : X.fn x = true ∨ X.env.scope.names.lookup x = some .local := by first | exact .inl rfl | exact .inr rfl | assumption) :
    PS X (.Assign [.Name x pos'] e pos) (tAsg te (gName i)) := by
  intro pins s σ H D I h
  refine wpAny_Assign_Name (thn (he pins s σ H _ I h) fun v s1 ⟨y, H1, I1, r1, q1⟩ => ?_) hs
  exact store_ok I1 hN hi hx r1 (fun s2 I2 => ⟨_, H1, I2, q1⟩) hf
end

section
variable {X : Cx} {pos : Pos}
end

structure It where
  go : Nat → Hp → Prop
  yld : Nat → Hp → V → Hp → Prop
  stop : Nat → Hp → Prop
noncomputable def FpOk (X : Cx) (pins : List (Addr × Obj)) (H : Hp) (b : Addr) : Prop :=
  H b = none ∧ b ≠ X.env.locals ∧ b ∉ X.fs ∧ (b ∈ X.ex ∨ X.s₀.heap.objs.size ≤ b) ∧ (∀ x c, X.env.cells.lookup x = some c → c ≠ b) ∧ ∀ p ∈ X.pn ++ pins, p.1 ≠ b
theorem Inv.fpOk {X : Cx} {pins : List (Addr × Obj)} {σ : St} {H H' : Hp} {s : Shared} {b : Addr} (I : Inv X pins σ H s) (hb : s.heap.objs.size ≤ b) (hn : H' b = none) : FpOk X pins H' b := by
  refine ⟨hn, Nat.ne_of_gt (Nat.lt_of_lt_of_le I.lt hb), I.nofs hb, .inr (Nat.le_trans I.sz hb), fun x c e z => ?_, fun p hp z => ?_⟩
  · obtain ⟨v, q⟩ := I.cell x c e
    exact absurd (Nat.lt_of_lt_of_le q.lt (by rw [z]; exact hb)) (Nat.lt_irrefl _)
  · exact absurd (Nat.lt_of_lt_of_le (Heap.lt_size (I.pin p hp).1) (by rw [z]; exact hb)) (Nat.lt_irrefl _)
structure Turn (P : Program) (w : World) (K : PySem.W.Frag) (tg : Expr) (J : It) (fp : List Addr) (it : Addr) (tn : Nat → Heap → Prop) : Prop where
  mem : it ∈ fp
  obj : ∀ i h, tn i h → ∀ b ∈ fp, ∃ o, h.get? b = some o ∧ ∀ v, o.data ≠ .cell v
  keep : ∀ i h h', tn i h → (∀ b ∈ fp, ∀ o, h.get? b = some o → h'.get? b = some o) → tn i h'
  item : ∀ (X : Cx), X.prog = P → X.w = w → X.K = K → X.calm = true → ∀ (i : Nat) (pins : List (Addr × Obj)) (s : Shared) (σ : St) (H : Hp) (E : Value → Shared → Prop), Inv X pins σ H s → (∀ b ∈ fp, FpOk X pins H b) → tn i s.heap → J.go i H →
    wpAny (model P w) X.A (pyNext (.ref it)) (fun r s1 => ∃ u, r = some u ∧
      wpAny (model P w) X.A (letOwnedTupleGo tg (.ref it) u) (fun _ s2 => ∃ x H', Inv X pins σ H' s2 ∧ RelV x u ∧ J.yld i H x H' ∧ tn (i + 1) s2.heap ∧ ∀ b ∈ fp, H' b = none) E s1) E s
  done : ∀ (X : Cx), X.prog = P → X.w = w → X.K = K → X.calm = true → ∀ (i : Nat) (pins : List (Addr × Obj)) (s : Shared) (σ : St) (H : Hp) (E : Value → Shared → Prop), Inv X pins σ H s → (∀ b ∈ fp, FpOk X pins H b) → tn i s.heap → J.stop i H →
    wpAny (model P w) X.A (pyNext (.ref it)) (fun r s1 => r = none ∧ Inv X pins σ H s1) E s
  self : ∀ (A : Around) (i : Nat) (s : Shared) (Q : Value → Shared → Prop) (E : Value → Shared → Prop), tn i s.heap → Q (.ref it) s → wpAny (model P w) A (pyIter (.ref it)) Q E s
noncomputable abbrev TI := St → Hp → (It → Hp → Prop) → Prop
noncomputable def PIE (X : Cx) (pins : List (Addr × Obj)) (σ : St) (tg : Expr) (R : It → Hp → Prop) (itv : Value) (s2 : Shared) : Prop :=
  ∃ (it : Addr) (fp : List Addr) (tn : Nat → Heap → Prop) (J : It) (H' : Hp), itv = .ref it ∧ Inv X pins σ H' s2 ∧ Turn X.prog X.w X.K tg J fp it tn ∧ tn 0 s2.heap ∧ (∀ b ∈ fp, FpOk X pins H' b) ∧ R J H'
noncomputable def PI (X : Cx) (tg iter : Expr) (wi : TI) : Prop :=
  ∀ (pins : List (Addr × Obj)) (s : Shared) (σ : St) (H : Hp) (R : It → Hp → Prop), Inv X pins σ H s → wi σ H R →
    wpAny (model X.prog X.w) X.A (eval iter X.env) (fun v s1 => wpAny (model X.prog X.w) X.A (pyIter v) (PIE X pins σ tg R) X.xe s1) X.xe s

theorem go_of {M : Model} {A : Around} {E : Value → Shared → Prop} {s : Shared} {tg : Expr} {it : Addr} {u : Value} {o : Obj} {n : String} {vs : Array Value} {Q : Unit → Shared → Prop} (ho : s.heap.get? it = some o) (hc : o.cls = .type n) (hd : o.data = .fields vs)
    (hn : ["enumerate", "zip", "dict_itemiterator", "dict_reverseitemiterator", "odict_iterator", "itertools.zip_longest", "itertools.pairwise"].contains n = false) (hQ : Q () s) : wpAny M A (letOwnedTupleGo tg (.ref it) u) Q E s := by
  unfold letOwnedTupleGo
  cases tg <;> first
    | exact wpAny_pure hQ
    | (cases u <;> first
        | exact wpAny_pure hQ
        | (refine wpAny_bind (wpAny_load ho ?_)
           rw [hc, hd]
           show wpAny M A (if (["enumerate", "zip", "dict_itemiterator", "dict_reverseitemiterator", "odict_iterator", "itertools.zip_longest", "itertools.pairwise"].contains n && vs[0]? == some (rawInt _)) = true then _ else _) Q E s
           rw [if_neg (by intro h; rw [hn, Bool.false_and] at h; cases h)]
           exact wpAny_pure hQ))

noncomputable def Itl (K : PySem.W.Frag) (a : Addr) : It :=
  ⟨fun i H => ∃ xs x, SqL K H a xs ∧ xs[i]? = some x, fun i H x H' => H' = H ∧ ∀ xs, SqL K H a xs → xs[i]? = some x, fun i H => ∃ xs, SqL K H a xs ∧ xs.length ≤ i⟩
noncomputable def Itt (K : PySem.W.Frag) (a : Addr) : It :=
  ⟨fun i H => ∃ xs x, SqT K H a xs ∧ xs[i]? = some x, fun i H x H' => H' = H ∧ ∀ xs, SqT K H a xs → xs[i]? = some x, fun i H => ∃ xs, SqT K H a xs ∧ xs.length ≤ i⟩
noncomputable def Itr (lo : Int) (n : Nat) : It := ⟨fun i _ => i < n, fun i H x H' => H' = H ∧ x = .int (lo + i), fun i _ => n ≤ i⟩
theorem turn_list {P : Program} {w : World} {K : PySem.W.Frag} {tg : Expr} (a it : Addr) : Turn P w K tg (Itl K a) [it] it (fun i h => h.IsListIter it a i) where
  mem := by simp
  obj := fun i h st b hb => by
    have e : b = it := by simpa using hb
    subst e
    obtain ⟨o, e, c, d⟩ := st
    exact ⟨o, e, fun v z => by rw [d] at z; cases z⟩
  keep := fun i h h' st k => st.at fun o e => k it (by simp) o e
  item := by
    intro X hP hw hK hc i pins s σ H E I hf st hg
    subst hP hw hK
    obtain ⟨xs, x, hq, hx⟩ := hg
    obtain ⟨its, rv, p, hz⟩ := I.list hq
    obtain ⟨u, hu, ru⟩ := rv.get hx
    obtain ⟨f0, f1, f2, f3, f4, f5⟩ := hf it (by simp)
    refine wpAny_pyNext_list_item st p.isList (x := u) (by simpa using hu) fun h' st' sb => ?_
    have I1 : Inv X pins σ H { s with heap := h' } := I.turned (t' := s.toks) (fun b o hb e => (sb.2 b hb).trans e) f0 f1 f3 f4 f5
    obtain ⟨o, e, c, d⟩ := id st'
    exact ⟨u, rfl, go_of (s := { s with heap := h' }) e c d (by decide) ⟨x, H, I1, ru, ⟨rfl, fun ys hy => by rw [I.list_inj hy hq]; exact hx⟩, st', fun b hb => (hf b hb).1⟩⟩
  done := by
    intro X hP hw hK hc i pins s σ H E I hf st hg
    subst hP hw hK
    obtain ⟨xs, hq, hx⟩ := hg
    obtain ⟨its, rv, p, hz⟩ := I.list hq
    obtain ⟨f0, f1, f2, f3, f4, f5⟩ := hf it (by simp)
    have hl := rv.length
    exact wpAny_pyNext_list_end (I.ok.hd hc) st p.isList (by simp; omega) fun h' eb => ⟨rfl, I.turned (t' := s.toks) (fun b o hb e => eb b o hb e) f0 f1 f3 f4 f5⟩
  self := fun _ _ _ _ _ st h => wpAny_pyIter_listiter st h
theorem turn_tuple {P : Program} {w : World} {K : PySem.W.Frag} {tg : Expr} (a it : Addr) : Turn P w K tg (Itt K a) [it] it (fun i h => h.IsTupleIter it a i) where
  mem := by simp
  obj := fun i h st b hb => by
    have e : b = it := by simpa using hb
    subst e
    obtain ⟨o, e, c, d⟩ := st
    exact ⟨o, e, fun v z => by rw [d] at z; cases z⟩
  keep := fun i h h' st k => st.at fun o e => k it (by simp) o e
  item := by
    intro X hP hw hK hc i pins s σ H E I hf st hg
    subst hP hw hK
    obtain ⟨xs, x, hq, hx⟩ := hg
    obtain ⟨its, rv, p, hz⟩ := I.tuple hq
    obtain ⟨u, hu, ru⟩ := rv.get hx
    obtain ⟨f0, f1, f2, f3, f4, f5⟩ := hf it (by simp)
    refine wpAny_pyNext_tuple_item st (show s.heap.IsTuple a its.toArray from p) (x := u) (by simpa using hu) fun h' st' sb => ?_
    have I1 : Inv X pins σ H { s with heap := h' } := I.turned (t' := s.toks) (fun b o hb e => (sb.2 b hb).trans e) f0 f1 f3 f4 f5
    obtain ⟨o, e, c, d⟩ := id st'
    exact ⟨u, rfl, go_of (s := { s with heap := h' }) e c d (by decide) ⟨x, H, I1, ru, ⟨rfl, fun ys hy => by rw [I.tuple_inj hy hq]; exact hx⟩, st', fun b hb => (hf b hb).1⟩⟩
  done := by
    intro X hP hw hK hc i pins s σ H E I hf st hg
    subst hP hw hK
    obtain ⟨xs, hq, hx⟩ := hg
    obtain ⟨its, rv, p, hz⟩ := I.tuple hq
    obtain ⟨f0, f1, f2, f3, f4, f5⟩ := hf it (by simp)
    have hl := rv.length
    exact wpAny_pyNext_tuple_end (I.ok.hd hc) st (show s.heap.IsTuple a its.toArray from p) (by simp; omega) fun h' eb => ⟨rfl, I.turned (t' := s.toks) (fun b o hb e => eb b o hb e) f0 f1 f3 f4 f5⟩
  self := fun _ _ _ _ _ st h => wpAny_pyIter_tupleiter st h
theorem turn_range {P : Program} {w : World} {K : PySem.W.Frag} {tg : Expr} (it : Addr) (lo : Int) (n : Nat) : Turn P w K tg (Itr lo n) [it] it (fun i h => IsRangeIter h it (lo + (i : Nat) * 1) ((n : Int) - (i : Nat)) 1) where
  mem := by simp
  obj := fun i h st b hb => by
    have e : b = it := by simpa using hb
    subst e
    exact ⟨_, st, fun v z => by
      have z' : Data.fields _ = Data.cell v := z
      cases z'⟩
  keep := fun i h h' st k => k it (by simp) _ st
  item := by
    intro X hP hw hK hc i pins s σ H E I hf st hg
    subst hP hw hK
    obtain ⟨f0, f1, f2, f3, f4, f5⟩ := hf it (by simp)
    have W := Walks.range (prog := X.prog) (w := X.w) (I.ok.hd hc) it lo 1 n
    refine W.item i s _ _ hg st fun v h' tk hv st' kk => ?_
    obtain ⟨t, rfl⟩ := hv
    have I1 : Inv X pins σ H { s with heap := h', toks := tk } := I.turned (fun b o hb e => kk b o (by simpa using hb) e) f0 f1 f3 f4 f5
    refine ⟨_, rfl, go_of (s := { s with heap := h', toks := tk }) (n := "range_iterator") st' rfl rfl (by decide) ⟨.int (lo + i), H, I1, ⟨t, ?_⟩, ⟨rfl, rfl⟩, st', fun b hb => (hf b hb).1⟩⟩
    rw [Int.mul_one]
  done := by
    intro X hP hw hK hc i pins s σ H E I hf st hg
    subst hP hw hK
    obtain ⟨f0, f1, f2, f3, f4, f5⟩ := hf it (by simp)
    exact wpAny_pyNext_range_end (I.ok.hd hc) st (by have : n ≤ i := hg; omega) fun h' eb => ⟨rfl, I.turned (t' := s.toks) (fun b o hb e => eb b o hb e) f0 f1 f3 f4 f5⟩
  self := fun _ _ _ _ _ st h => wpAny_pyIter_rangeiter st h
end L2

namespace L2
open PySem PySem.Spec PyProof.Rows
section
variable {X : Cx} {tg : Expr}
noncomputable def iList (K : PySem.W.Frag) (tl : TE) : TI := fun σ H R => tl σ H fun x H1 => ∃ a, x = .ref a ∧ (∃ xs, SqL K H1 a xs) ∧ R (Itl K a) H1
noncomputable def iTup (K : PySem.W.Frag) (tl : TE) : TI := fun σ H R => tl σ H fun x H1 => ∃ a, x = .ref a ∧ (∃ xs, SqT K H1 a xs) ∧ R (Itt K a) H1
theorem pi_list {l : Expr} {tl : TE} (hl : PE X l tl) : PI X tg l (iList X.K tl) := by
  intro pins s σ H R I h
  refine thn (hl pins s σ H _ I h) fun v s1 ⟨x, H1, I1, r1, q1⟩ => ?_
  obtain ⟨a, e, ⟨xs, hq⟩, q⟩ := q1
  subst e
  cases r1
  obtain ⟨its, rv, p, hz⟩ := I1.list hq
  refine wpAny_pyIter_list p.isList ?_
  refine ⟨s1.heap.objs.size, [s1.heap.objs.size], _, _, H1, rfl, I1.kept (t' := s1.toks) fun b o e => Heap.get?_push_of_some _ e, turn_list a _, ⟨_, Heap.get?_push_size _ rfl, rfl, rfl⟩, fun b hb => ?_, q⟩
  have e : b = s1.heap.objs.size := by simpa using hb
  subst e
  exact I1.fpOk (Nat.le_refl _) (I1.hok.fresh (Nat.le_refl _))
theorem pi_tup {l : Expr} {tl : TE} (hl : PE X l tl) : PI X tg l (iTup X.K tl) := by
  intro pins s σ H R I h
  refine thn (hl pins s σ H _ I h) fun v s1 ⟨x, H1, I1, r1, q1⟩ => ?_
  obtain ⟨a, e, ⟨xs, hq⟩, q⟩ := q1
  subst e
  cases r1
  obtain ⟨its, rv, p, hz⟩ := I1.tuple hq
  refine wpAny_pyIter_tuple (show s1.heap.IsTuple a its.toArray from p) ?_
  refine ⟨s1.heap.objs.size, [s1.heap.objs.size], _, _, H1, rfl, I1.kept (t' := s1.toks) fun b o e => Heap.get?_push_of_some _ e, turn_tuple a _, ⟨_, Heap.get?_push_size _ rfl, rfl, rfl⟩, fun b hb => ?_, q⟩
  have e : b = s1.heap.objs.size := by simpa using hb
  subst e
  exact I1.fpOk (Nat.le_refl _) (I1.hok.fresh (Nat.le_refl _))
theorem range_it {pins : List (Addr × Obj)} {σ : St} {H : Hp} {s : Shared} {R : It → Hp → Prop} {E : Value → Shared → Prop} {lo hi : Int} {t u v : Tok} {tk : Nat} (I : Inv X pins σ H s) (h1 : -(2 ^ 62) ≤ lo) (h2 : lo < 2 ^ 62) (h3 : -(2 ^ 62) ≤ hi) (h4 : hi < 2 ^ 62)
    (q : R (Itr lo (hi - lo).toNat) H) : wpAny (model X.prog X.w) X.A (pyIter (.ref s.heap.objs.size)) (PIE X pins σ tg R) E { s with heap := s.heap.push { cls := .type "range", data := .fields #[.int lo t, .int hi u, .int 1 v] }, toks := tk } := by
  refine wpAny_pyIter_range (IsRange.new ..) (small_one h1 h2 h3 h4) ?_
  have I1 : Inv X pins σ H { s with heap := s.heap.push { cls := .type "range", data := .fields #[.int lo t, .int hi u, .int 1 v] }, toks := tk } := I.kept fun b o e => Heap.get?_push_of_some _ e
  refine ⟨(s.heap.push { cls := .type "range", data := .fields #[.int lo t, .int hi u, .int 1 v] }).objs.size, [(s.heap.push { cls := .type "range", data := .fields #[.int lo t, .int hi u, .int 1 v] }).objs.size], _, _, H, rfl,
    I1.kept (t' := tk) fun b o e => Heap.get?_push_of_some _ e, turn_range _ lo (hi - lo).toNat, ?_, fun b hb => ?_, q⟩
  · have e1 : lo + ((0 : Nat) : Int) * 1 = lo := by simp
    have e2 : (((hi - lo).toNat : Nat) : Int) - ((0 : Nat) : Int) = Builtin.Range.rangeSize lo hi 1 := by rw [rangeSize_one]; split <;> omega
    show IsRangeIter _ _ (lo + ((0 : Nat) : Int) * 1) ((((hi - lo).toNat : Nat) : Int) - ((0 : Nat) : Int)) 1
    rw [e1, e2]
    exact Heap.get?_push_size _ rfl
  · have e : b = (s.heap.push { cls := .type "range", data := .fields #[.int lo t, .int hi u, .int 1 v] }).objs.size := by simpa using hb
    subst e
    exact I1.fpOk (Nat.le_refl _) (I1.hok.fresh (Nat.le_refl _))
noncomputable def iRng1 (ta : TA) : TI := fun σ H R => ta σ H fun vs H1 => ∃ j : Int, vs = [.int j] ∧ -(2 ^ 62) ≤ j ∧ j < 2 ^ 62 ∧ R (Itr 0 j.toNat) H1
theorem pi_range1 {a : Expr} {ta : TA} {p pos : Pos} (hg : Gl X "range") (hm : X.mg "range" = none) (ha : PA X [a] ta) (hs : starEach [a] X.env = [(false, eval a X.env)] := by rfl) : PI X tg (.Call (.Name "range" p) [a] [] pos) (iRng1 ta) := by
  intro pins s σ H R I h
  refine Call_ (ld_blt I hg hm boot_range (PyProof.Rows.callWith_type1 (thn (ha pos pins s σ H _ I h) fun us s1 ⟨vs, H1, I1, r1, q1⟩ => ?_) hs rfl))
  obtain ⟨j, e, q1, q2, q⟩ := q1
  subst e
  cases r1 with
  | cons r rr =>
    cases rr
    obtain ⟨t, rfl⟩ := r
    exact call_range_1 (range_it I1 (by omega) (by omega) q1 q2 (by simpa using q))
noncomputable def tFor (wi : TI) (g : TG) (tb : TS) : TS := fun D σ H => wi σ H fun J H1 => ∃ W : Nat → Nat → St → Hp → Prop, (∃ m, W 0 m σ H1) ∧ ∀ i m σ H, W i m σ H →
  (J.stop i H ∧ D.nx σ H) ∨ (J.go i H ∧ ∃ N : St → Hp → Prop, (∀ σ' H', N σ' H' → ∃ m', m' < m ∧ W (i + 1) m' σ' H') ∧ ∀ x H', J.yld i H x H' → g x σ H' fun σ2 H2 => tb { D with nx := N, ct := N, bk := D.nx } σ2 H2)
noncomputable def pinsAt (fp : List Addr) (h : Heap) : List (Addr × Obj) := fp.filterMap fun b => (h.get? b).map fun o => (b, o)
theorem mem_pinsAt {fp : List Addr} {h : Heap} {b : Addr} {o : Obj} (hb : b ∈ fp) (e : h.get? b = some o) : (b, o) ∈ pinsAt fp h := List.mem_filterMap.mpr ⟨b, hb, by rw [e]; rfl⟩
theorem of_pinsAt {fp : List Addr} {h : Heap} {p : Addr × Obj} (hp : p ∈ pinsAt fp h) : p.1 ∈ fp ∧ h.get? p.1 = some p.2 := by
  obtain ⟨b, hb, e⟩ := List.mem_filterMap.mp hp
  cases q : h.get? b with
  | none => rw [q] at e; cases e
  | some o =>
    rw [q] at e
    have e' : (b, o) = p := Option.some.inj e
    subst e'
    exact ⟨hb, q⟩
theorem Inv.pinned {pins : List (Addr × Obj)} {σ : St} {H : Hp} {s : Shared} {fp : List Addr} (I : Inv X pins σ H s) (hf : ∀ b ∈ fp, FpOk X pins H b) (ho : ∀ b ∈ fp, ∃ o, s.heap.get? b = some o ∧ ∀ v, o.data ≠ .cell v) : Inv X (pins ++ pinsAt fp s.heap) σ H s :=
  I.pins_of fun p hp => (List.mem_append.mp hp).elim (fun z => I.pin p (List.mem_append_right _ z)) fun z => by
    obtain ⟨hb, e⟩ := of_pinsAt z
    obtain ⟨f0, f1, f2, _⟩ := hf p.1 hb
    obtain ⟨o, e', d⟩ := ho p.1 hb
    rw [e] at e'; cases e'
    exact ⟨e, f0, f1, f2, d⟩
theorem Inv.unpinned {pins pl : List (Addr × Obj)} {σ : St} {H : Hp} {s : Shared} (I : Inv X (pins ++ pl) σ H s) : Inv X pins σ H s := I.pins_of fun p hp => I.pin p (List.mem_append_right _ (List.mem_append_left _ hp))
theorem ps_for {iter : Expr} {body : List Stmt} {wi : TI} {g : TG} {tb : TS} {pos : Pos} (hp : PassesOwn (model X.prog X.w) X.A X.env X.xe) (hc : X.calm = true) (hi : PI X tg iter wi) (hg : PG X tg g) (hb : PSs X body tb)
    (hs : ∀ x, foldedSetIterable iter X.env x = pure x := by intro _; rfl) : PS X (.For tg iter body [] pos) (tFor wi g tb) := by
  intro pins s σ H D I h
  refine wpAny_For (thn (hi pins s σ H _ I h) fun v s1 h1 => thn h1 fun itv s2 h2 => ?_) hs
  obtain ⟨it, fp, tn, J, H2, e, I2, T, st2, f2, W, ⟨m0, w0⟩, turn⟩ := h2
  subst e
  -- what stays true of the iterator's objects through the loop
  have stat : ∀ {H' : Hp}, (∀ b ∈ fp, H' b = none) → ∀ b ∈ fp, FpOk X pins H' b := fun hn b hb => ⟨hn b hb, (f2 b hb).2⟩
  refine codeAny_forLoop_any (fun n s' => ∃ i σ' H', Inv X pins σ' H' s' ∧ tn i s'.heap ∧ (∀ b ∈ fp, H' b = none) ∧ W i n σ' H') ?_ m0 ⟨0, σ, H2, I2, st2, fun b hb => (f2 b hb).1, w0⟩
  rintro n s3 ⟨i, σ3, H3, I3, st3, fr3, w3⟩
  rcases turn i n σ3 H3 w3 with ⟨stop, qn⟩ | ⟨go, N, hN, step⟩
  · refine wpAny_passesOwn hp (thn (T.done X rfl rfl rfl hc i pins s3 σ3 H3 X.xe I3 (stat fr3) st3 stop) fun r s4 ⟨hr, I4⟩ => ?_)
    subst hr
    exact wpAny_execs_nil ⟨σ3, H3, I4, qn⟩
  · refine wpAny_passesOwn hp (thn (T.item X rfl rfl rfl hc i pins s3 σ3 H3 X.xe I3 (stat fr3) st3 go) fun r s4 ⟨u, hr, h4⟩ => ?_)
    subst hr
    refine wpAny_passesOwn hp (thn h4 fun _ s5 ⟨x, H5, I5, r5, y5, st5, fr5⟩ => ?_)
    have I5' := I5.pinned (stat fr5) (T.obj _ _ st5)
    refine wpAny_passesOwn hp (thn (hg _ s5 σ3 H5 x u _ I5' r5 (step x H5 y5)) fun _ s6 ⟨σ6, H6, I6, q6⟩ => ?_)
    refine wpAny_passesOwn hp (thn (hb _ s6 σ6 H6 _ I6 q6) fun f s7 q7 => ?_)
    have again : ∀ {σ7 : St} {H7 : Hp}, Inv X (pins ++ pinsAt fp s5.heap) σ7 H7 s7 → N σ7 H7 → ∃ m, m < n ∧ ∃ i σ' H', Inv X pins σ' H' s7 ∧ tn i s7.heap ∧ (∀ b ∈ fp, H' b = none) ∧ W i m σ' H' := fun {σ7 H7} I7 n7 => by
      obtain ⟨m', hm, w7⟩ := hN σ7 H7 n7
      refine ⟨m', hm, i + 1, σ7, H7, I7.unpinned, T.keep _ _ _ st5 fun b hb o e => (I7.pin (b, o) (List.mem_append_right _ (List.mem_append_right _ (mem_pinsAt hb e)))).1, fun b hb => ?_, w7⟩
      obtain ⟨o, e, d⟩ := T.obj _ _ st5 b hb
      exact (I7.pin (b, o) (List.mem_append_right _ (List.mem_append_right _ (mem_pinsAt hb e)))).2.1
    cases f with
    | next => obtain ⟨σ7, H7, I7, n7⟩ := q7; exact again I7 n7
    | cont => obtain ⟨σ7, H7, I7, n7⟩ := q7; exact again I7 n7
    | brk => obtain ⟨σ7, H7, I7, q7⟩ := q7; exact ⟨σ7, H7, I7.unpinned, q7⟩
    | ret v => obtain ⟨x7, σ7, H7, I7, r7, q7⟩ := q7; exact ⟨x7, σ7, H7, I7.unpinned, r7, q7⟩
end

end L2

namespace L2
open PySem PySem.Spec PyProof.Rows

noncomputable abbrev R2 := V → V → Hp → VK → Prop
noncomputable def OpR (X : Cx) (f : Value → Value → Sem Value) (r : R2) : Prop :=
  ∀ (pins : List (Addr × Obj)) (s : Shared) (σ : St) (H : Hp) (x y : V) (v u : Value) (Q : VK), Inv X pins σ H s → RelV x v → RelV y u → r x y H Q →
    wpAny (model X.prog X.w) X.A (f v u) (EP X pins σ Q) X.xe s
noncomputable def UnR (X : Cx) (f : Value → Sem Value) (r : V → Hp → VK → Prop) : Prop :=
  ∀ (pins : List (Addr × Obj)) (s : Shared) (σ : St) (H : Hp) (x : V) (v : Value) (Q : VK), Inv X pins σ H s → RelV x v → r x H Q →
    wpAny (model X.prog X.w) X.A (f v) (EP X pins σ Q) X.xe s
noncomputable def CallR (X : Cx) (f : Value) (r : List V → Hp → VK → Prop) : Prop :=
  ∀ (pins : List (Addr × Obj)) (s : Shared) (σ : St) (H : Hp) (xs : List V) (us : List Value) (Q : VK), Inv X pins σ H s → Vals xs us → r xs H Q →
    wpAny (model X.prog X.w) X.A (call f us) (EP X pins σ Q) X.xe s
noncomputable def TruR (X : Cx) (r : V → Hp → (Bool → Hp → Prop) → Prop) : Prop :=
  ∀ (pins : List (Addr × Obj)) (s : Shared) (σ : St) (H : Hp) (x : V) (v : Value) (Q : Bool → Hp → Prop), Inv X pins σ H s → RelV x v → r x H Q →
    wpAny (model X.prog X.w) X.A (truthy v) (TP X pins σ Q) X.xe s

noncomputable def tOp (r : R2) (ta tb : TE) : TE := fun σ H Q => ta σ H fun x H1 => tb σ H1 fun y H2 => r x y H2 Q
noncomputable def tUn (r : V → Hp → VK → Prop) (ta : TE) : TE := fun σ H Q => ta σ H fun x H1 => r x H1 Q
noncomputable def rI (C : Int → Int → Prop) (g : Int → Int → V) : R2 := fun x y H Q => ∃ i j, x = .int i ∧ y = .int j ∧ C i j ∧ Q (g i j) H
noncomputable def rI0 (g : Int → Int → V) : R2 := fun x y H Q => ∃ i j, x = .int i ∧ y = .int j ∧ Q (g i j) H
noncomputable def rU (g : Int → V) : V → Hp → VK → Prop := fun x H Q => ∃ i, x = .int i ∧ Q (g i) H

section
variable {X : Cx} {a b c : Expr} {ta tb tc : TE} {pos : Pos}

theorem binT (ha : PE X a ta) (hb : PE X b tb) {pins : List (Addr × Obj)} {s : Shared} {σ : St} {H : Hp} {R : V → V → Hp → Prop} (I : Inv X pins σ H s)
    (h : ta σ H fun x H1 => tb σ H1 fun y H2 => R x y H2) {Q : Value → Shared → Prop} {f : Value → Value → Sem Value}
    (hf : ∀ v u s2 x y H2, Inv X pins σ H2 s2 → RelV x v → RelV y u → R x y H2 → wpAny (model X.prog X.w) X.A (f v u) Q X.xe s2) :
    wpAny (model X.prog X.w) X.A (eval a X.env) (fun v s₁ => wpAny (model X.prog X.w) X.A (eval b X.env) (fun u s₂ => wpAny (model X.prog X.w) X.A (f v u) Q X.xe s₂) X.xe s₁) X.xe s := by
  refine thn (ha pins s σ H _ I h) fun v s1 ⟨x, H1, I1, r1, q1⟩ => ?_
  refine thn (hb pins s1 σ H1 _ I1 q1) fun u s2 ⟨y, H2, I2, r2, q2⟩ => ?_
  exact hf v u s2 x y H2 I2 r1 r2 q2

theorem pe_op {op : Operator} {r : R2} (ho : OpR X (binaryOp op) r) (ha : PE X a ta) (hb : PE X b tb) : PE X (.BinOp a op b pos) (tOp r ta tb) := by
  intro pins s σ H Q I h
  exact wpAny_BinOp (binT ha hb I h fun v u s2 x y H2 I2 rx ry q => ho pins s2 σ H2 x y v u Q I2 rx ry q)
theorem pe_un {op : UnaryOp} {r : V → Hp → VK → Prop} (ho : UnR X (unaryOp op) r) (ha : PE X a ta) : PE X (.UnaryOp op a pos) (tUn r ta) := by
  intro pins s σ H Q I h
  exact UnaryOp_ (thn (ha pins s σ H _ I h) fun v s1 ⟨x, H1, I1, r1, q1⟩ => ho pins s1 σ H1 x v Q I1 r1 q1)
theorem opI {f : Value → Value → Sem Value} {C : Int → Int → Prop} {g : Int → Int → Int}
    (rule : ∀ (i j : Int) (t u : Tok) (s : Shared) (Q : Value → Shared → Prop) (E : Value → Shared → Prop), C i j → Q (.int (g i j) s.toks) { s with toks := s.toks + 1 } → wpAny (model X.prog X.w) X.A (f (.int i t) (.int j u)) Q E s) :
    OpR X f (rI C fun i j => .int (g i j)) := by
  intro pins s σ H x y v u Q I rx ry h
  obtain ⟨i, j, rfl, rfl, hc, q⟩ := h
  obtain ⟨t, rfl⟩ := rx
  obtain ⟨t', rfl⟩ := ry
  exact rule i j t t' s _ _ hc ⟨.int (g i j), H, I.tok _, ⟨_, rfl⟩, q⟩
theorem opI0 {f : Value → Value → Sem Value} {g : Int → Int → Int}
    (rule : ∀ (i j : Int) (t u : Tok) (s : Shared) (Q : Value → Shared → Prop) (E : Value → Shared → Prop), Q (.int (g i j) s.toks) { s with toks := s.toks + 1 } → wpAny (model X.prog X.w) X.A (f (.int i t) (.int j u)) Q E s) :
    OpR X f (rI0 fun i j => .int (g i j)) := by
  intro pins s σ H x y v u Q I rx ry h
  obtain ⟨i, j, rfl, rfl, q⟩ := h
  obtain ⟨t, rfl⟩ := rx
  obtain ⟨t', rfl⟩ := ry
  exact rule i j t t' s _ _ ⟨.int (g i j), H, I.tok _, ⟨_, rfl⟩, q⟩
theorem opB0 {f : Value → Value → Sem Value} {g : Int → Int → Bool}
    (rule : ∀ (i j : Int) (t u : Tok) (s : Shared) (Q : Value → Shared → Prop) (E : Value → Shared → Prop), Q (.bool (g i j)) s → wpAny (model X.prog X.w) X.A (f (.int i t) (.int j u)) Q E s) :
    OpR X f (rI0 fun i j => .bl (g i j)) := by
  intro pins s σ H x y v u Q I rx ry h
  obtain ⟨i, j, rfl, rfl, q⟩ := h
  obtain ⟨t, rfl⟩ := rx
  obtain ⟨t', rfl⟩ := ry
  exact rule i j t t' s _ _ ⟨.bl (g i j), H, I, rfl, q⟩

noncomputable def CDiv (i j : Int) : Prop := 0 < j ∧ j < 1073741824
noncomputable def CMul (i j : Int) : Prop := (-(2 ^ 64) < i ∧ i < 2 ^ 64) ∨ (-(2 ^ 64) < j ∧ j < 2 ^ 64)
theorem CMul.ok {i j : Int} (h : CMul i j) : IntMulOk i j := by
  rcases h with ⟨h1, h2⟩ | ⟨h1, h2⟩
  · exact .of_left (intBits_le_64 h1 h2)
  · exact .of_right (intBits_le_64 h1 h2)
theorem op_add : OpR X (binaryOp .Add) (rI0 fun i j => .int (i + j)) := opI0 fun _ _ _ _ _ _ _ q => add_int q
theorem op_sub : OpR X (binaryOp .Sub) (rI0 fun i j => .int (i - j)) := opI0 fun _ _ _ _ _ _ _ q => sub_int q
theorem op_mul : OpR X (binaryOp .Mult) (rI CMul fun i j => .int (i * j)) := opI fun _ _ _ _ _ _ _ hc q => mul_int q hc.ok
theorem op_fdiv : OpR X (binaryOp .FloorDiv) (rI CDiv fun i j => .int (i / j)) := opI fun i j _ _ _ _ _ hc q => by
  have h1 : (0 : Int) < j := hc.1
  have h2 : j < 1073741824 := hc.2
  exact floordiv_int (by omega) (by rw [Int.fdiv_eq_ediv_of_nonneg i (by omega)]; exact q) (.inl (PyProof.noPylong_small (by omega)))
theorem op_mod : OpR X (binaryOp .Mod) (rI (fun _ j => 0 < j) fun i j => .int (i % j)) := opI fun i j _ _ _ _ _ hc q => by
  have h1 : (0 : Int) < j := hc
  exact mod_int' (by omega) (by rw [Int.fmod_eq_emod_of_nonneg i (by omega)]; exact q)
theorem unI {f : Value → Sem Value} {g : Int → Int}
    (rule : ∀ (i : Int) (t : Tok) (s : Shared) (Q : Value → Shared → Prop) (E : Value → Shared → Prop), Q (.int (g i) s.toks) { s with toks := s.toks + 1 } → wpAny (model X.prog X.w) X.A (f (.int i t)) Q E s) :
    UnR X f (rU fun i => .int (g i)) := by
  intro pins s σ H x v Q I rx h
  obtain ⟨i, rfl, q⟩ := h
  obtain ⟨t, rfl⟩ := rx
  exact rule i t s _ _ ⟨.int (g i), H, I.tok _, ⟨_, rfl⟩, q⟩
theorem un_neg : UnR X (unaryOp .USub) (rU fun i => .int (-i)) := unI fun _ _ _ _ _ q => neg_int q
end

section
variable {X : Cx} {a b c : Expr} {ta tb tc : TE} {pos : Pos}
theorem fin_bl {pins : List (Addr × Obj)} {σ : St} {H : Hp} {s : Shared} {Q : VK} {k k' : Bool} (I : Inv X pins σ H s) (q : Q (.bl k) H) (e : k = k') : EP X pins σ Q (.bool k') s := by
  subst e
  exact ⟨.bl k, H, I, rfl, q⟩
theorem op_lt : OpR X (compareOp .Lt) (rI0 fun i j => .bl (decide (i < j))) := opB0 fun _ _ _ _ _ _ _ q => lt_int q
theorem op_le : OpR X (compareOp .LtE) (rI0 fun i j => .bl (decide (i ≤ j))) := opB0 fun _ _ _ _ _ _ _ q => le_int q
theorem op_gt : OpR X (compareOp .Gt) (rI0 fun i j => .bl (decide (j < i))) := opB0 fun _ _ _ _ _ _ _ q => gt_int q
theorem op_ge : OpR X (compareOp .GtE) (rI0 fun i j => .bl (decide (j ≤ i))) := opB0 fun _ _ _ _ _ _ _ q => ge_int q
theorem op_isN : OpR X (compareOp .Is) (fun x y H Q => y = .non ∧ Q (.bl (decide (x = .non))) H) := by
  intro pins s σ H x y v u Q I rx ry h
  obtain ⟨rfl, q⟩ := h
  cases ry
  refine is_none_gen (fin_bl I q ?_)
  cases x <;> first
    | (cases rx; rfl)
    | (obtain ⟨t, rfl⟩ := rx; rfl)
theorem op_notN : OpR X (compareOp .IsNot) (fun x y H Q => y = .non ∧ Q (.bl (!decide (x = .non))) H) := by
  intro pins s σ H x y v u Q I rx ry h
  obtain ⟨rfl, q⟩ := h
  cases ry
  refine isnot_none_gen (fin_bl I q ?_)
  cases x <;> first
    | (cases rx; rfl)
    | (obtain ⟨t, rfl⟩ := rx; rfl)

theorem OpR.or {f : Value → Value → Sem Value} {r r' : R2} (h : OpR X f r) (h' : OpR X f r') : OpR X f (fun x y H Q => r x y H Q ∨ r' x y H Q) := by
  intro pins s σ H x y v u Q I rx ry q
  rcases q with q | q
  · exact h pins s σ H x y v u Q I rx ry q
  · exact h' pins s σ H x y v u Q I rx ry q

theorem pe_cmpR {op : CmpOp} {r : R2} (ho : OpR X (compareOp op) r) (ha : PE X a ta) (hb : PE X b tb) (hm : behindInMarks op b = false) : PE X (.Compare a [op] [b] pos) (tOp r ta tb) := by
  intro pins s σ H Q I h
  exact wpAny_Compare1 (binT ha hb I h fun v u s2 x y H2 I2 rx ry q => ho pins s2 σ H2 x y v u Q I2 rx ry q) hm
noncomputable def tTest (t : TE) : TT := fun σ H Q => t σ H fun x H' => ∃ k, x = .bl k ∧ Q k H'
theorem pt_cmpR {op : CmpOp} {r : R2} (ho : OpR X (compareOp op) r) (ha : PE X a ta) (hb : PE X b tb) (hm : behindInMarks op b = false) : PT X (.Compare a [op] [b] pos) (tTest (tOp r ta tb)) := by
  intro pins s σ H Q I h
  refine wpAny_isTrue_Compare1 (thn (ha pins s σ H _ I h) fun v s1 ⟨x, H1, I1, r1, q1⟩ => thn (hb pins s1 σ H1 _ I1 q1) fun u s2 ⟨y, H2, I2, r2, q2⟩ =>
    thn (ho pins s2 σ H2 x y v u _ I2 r1 r2 q2) fun c s3 ⟨z, H3, I3, r3, k, e, q3⟩ => ?_) hm
  subst e
  cases r3
  exact wpAny_truthy_bool ⟨H3, I3, q3⟩
noncomputable def TruV (K : PySem.W.Frag) (x : V) (H : Hp) (k : Bool) : Prop :=
  match x with
  | .non => k = false
  | .bl b => k = b
  | .int i => k = (i != 0)
  | .str y => y.length ≤ sizeLine ∧ k = ((y.length : Int) != 0)
  | .byt y => y.size ≤ sizeLine ∧ k = ((y.size : Int) != 0)
  | .ref p => (∃ xs, SqL K H p xs ∧ k = !xs.isEmpty) ∨ (∃ xs, SqT K H p xs ∧ k = !xs.isEmpty) ∨ ∃ kvs, H p = some (.dK kvs) ∧ k = !kvs.isEmpty
  | _ => False
theorem isEmpty_kv {κ : Type} {kvs : List (κ × V)} {vs : List (κ × Value)} (r : KV kvs vs) : (!vs.isEmpty) = !kvs.isEmpty := by
  cases r <;> rfl
theorem isEmpty_of {xs : List V} {its : List Value} (r : Vals xs its) : (!its.toArray.isEmpty) = !xs.isEmpty := by
  cases r <;> simp
theorem line63 : (sizeLine : Nat) < 2 ^ 63 := by rw [sizeLine_eq]; decide
theorem tru_ok : TruR X (fun x H Q => ∃ k, TruV X.K x H k ∧ Q k H) := by
  intro pins s σ H x v Q I rx h
  obtain ⟨k, e, q⟩ := h
  have hl := line63
  have hs : sizeLine = 16777216 := sizeLine_eq
  cases x with
  | non =>
    cases rx
    have e' : k = false := e
    subst e'
    exact truthy_none ⟨H, I, q⟩
  | bl b =>
    cases rx
    have e' : k = b := e
    subst e'
    exact wpAny_truthy_bool ⟨H, I, q⟩
  | int i =>
    obtain ⟨t, rfl⟩ := rx
    have e' : k = (i != 0) := e
    subst e'
    exact PySem.P.truthy_int ⟨H, I, q⟩
  | str y =>
    obtain ⟨t, rfl⟩ := rx
    obtain ⟨hy, e'⟩ : y.length ≤ sizeLine ∧ k = ((y.length : Int) != 0) := e
    subst e'
    exact PySem.P.truthy_str (by omega) ⟨H, I.tok _, q⟩
  | byt y =>
    obtain ⟨t, rfl⟩ := rx
    obtain ⟨hy, e'⟩ : y.size ≤ sizeLine ∧ k = ((y.size : Int) != 0) := e
    subst e'
    exact PySem.W.truthy_bytes (by omega) ⟨H, I.tok _, q⟩
  | ref p =>
    cases rx
    have e' : (∃ xs, SqL X.K H p xs ∧ k = !xs.isEmpty) ∨ (∃ xs, SqT X.K H p xs ∧ k = !xs.isEmpty) ∨ ∃ kvs, H p = some (.dK kvs) ∧ k = !kvs.isEmpty := e
    rcases e' with ⟨xs, hx, e'⟩ | ⟨xs, hx, e'⟩ | ⟨kvs, hx, e'⟩
    · subst e'
      obtain ⟨its, r, pl, hz⟩ := I.list hx
      have hlen := r.length
      exact wpAny_truthy_list pl.isList (by simp only [List.size_toArray]; omega) ⟨H, I.tok _, by rw [isEmpty_of r]; exact q⟩
    · subst e'
      obtain ⟨its, r, pl, hz⟩ := I.tuple hx
      have hlen := r.length
      exact truthy_tuple pl (by simp only [List.size_toArray]; omega) ⟨H, I.tok _, by rw [isEmpty_of r]; exact q⟩
    · subst e'
      obtain ⟨hz, hS, vs, r, m⟩ : kvs.length ≤ sizeLine ∧ (p == sysModules) = false ∧ ∃ vs, KV kvs vs ∧ s.heap.DictOf (mixKind X.prog X.w) p vs := I.hok p _ hx
      have hlen : kvs.length = vs.length := Paired.length r
      exact wpAny_truthy_dict hS m (by omega) ⟨H, I.tok _, by rw [isEmpty_kv r]; exact q⟩
  | _ => exact (show False from e).elim
theorem pt_truth (ha : PE X a ta) (he : ∀ whole, isTrue a X.env whole = (do let v ← whole; standAt a.pos; holding [v] (truthy v))) :
    PT X a (fun σ H Q => ta σ H fun x H' => ∃ k, TruV X.K x H' k ∧ Q k H') := by
  intro pins s σ H Q I h
  exact isTrue_plain (thn (ha pins s σ H _ I h) fun v s1 ⟨x, H1, I1, r1, q1⟩ => tru_ok pins s1 σ H1 x v Q I1 r1 q1) (he _)

theorem op_add_str : OpR X (binaryOp .Add) (fun x y H Q => ∃ i j, x = .str i ∧ y = .str j ∧ i.length + j.length ≤ sizeLine ∧ Q (.str (i ++ j)) H) := by
  intro pins s σ H x y v u Q I rx ry h
  obtain ⟨i, j, rfl, rfl, hz, q⟩ := h
  obtain ⟨t, rfl⟩ := rx
  obtain ⟨t', rfl⟩ := ry
  exact add_str (fun t' tk => ⟨.str (i ++ j), H, I.tok _, ⟨_, rfl⟩, q⟩) hz
theorem vals1 {x : V} {us : List Value} (r : Vals [x] us) : ∃ u, us = [u] ∧ RelV x u := by
  cases r with
  | cons r1 r2 => cases r2; exact ⟨_, rfl, r1⟩
theorem vals2 {x y : V} {us : List Value} (r : Vals [x, y] us) : ∃ u w', us = [u, w'] ∧ RelV x u ∧ RelV y w' := by
  cases r with
  | cons r1 r2 =>
    cases r2 with
    | cons r3 r4 => cases r4; exact ⟨_, _, rfl, r1, r3⟩
noncomputable def LenV (K : PySem.W.Frag) (x : V) (H : Hp) (n : Nat) : Prop :=
  match x with
  | .str y => y.length ≤ sizeLine ∧ n = y.length
  | .byt y => y.size ≤ sizeLine ∧ n = y.size
  | .ref p => (∃ xs, SqL K H p xs ∧ n = xs.length) ∨ ∃ xs, SqT K H p xs ∧ n = xs.length
  | _ => False
theorem call_len : CallR X (.builtin "len") (fun xs H Q => ∃ x n, xs = [x] ∧ LenV X.K x H n ∧ Q (.int n) H) := by
  intro pins s σ H xs us Q I r h
  obtain ⟨x, n, rfl, e, q⟩ := h
  obtain ⟨u, rfl, rx⟩ := vals1 r
  have hl := line63
  have hs : sizeLine = 16777216 := sizeLine_eq
  cases x with
  | str y =>
    obtain ⟨t, rfl⟩ := rx
    obtain ⟨hy, e'⟩ : y.length ≤ sizeLine ∧ n = y.length := e
    subst e'
    exact len_str (by omega) ⟨.int _, H, I.tok _, ⟨_, rfl⟩, q⟩
  | byt y =>
    obtain ⟨t, rfl⟩ := rx
    obtain ⟨hy, e'⟩ : y.size ≤ sizeLine ∧ n = y.size := e
    subst e'
    exact PySem.W.len_bytes (by omega) ⟨.int _, H, I.tok _, ⟨_, rfl⟩, q⟩
  | ref p =>
    cases rx
    have e' : (∃ xs, SqL X.K H p xs ∧ n = xs.length) ∨ ∃ xs, SqT X.K H p xs ∧ n = xs.length := e
    rcases e' with ⟨xs, hx, e'⟩ | ⟨xs, hx, e'⟩
    · subst e'
      obtain ⟨its, r', pl, hz⟩ := I.list hx
      have hlen := r'.length
      exact Calls.call_len_list pl.isList (by simp only [List.size_toArray]; omega) ⟨.int xs.length, H, I.tok _, ⟨_, by simp only [List.size_toArray]; rw [hlen]⟩, q⟩
    · subst e'
      obtain ⟨its, r', pl, hz⟩ := I.tuple hx
      have hlen := r'.length
      exact len_tuple pl (by simp only [List.size_toArray]; omega) ⟨.int xs.length, H, I.tok _, ⟨_, by simp only [List.size_toArray]; rw [hlen]⟩, q⟩
  | _ => exact (show False from e).elim
end
end L2

namespace L2
open PySem PySem.Spec PyProof.Rows

structure ObjM (h : Heap) (x dx C : Addr) (mA : Str → Option Value) : Prop where
  obj : h.get? x = some (PySem.W.instObj C dx)
  ns : h.Ns1 dx mA
  ne : dx ≠ x

theorem lookIn_ns {h : Heap} {dx : Addr} {mA : Str → Option Value} (n : h.Ns1 dx mA) : ∃ od, h.get? dx = some od ∧ ∀ name, PySem.W.lookIn name od = some (mA name) := by
  obtain ⟨o, es, ep, ho, hd, hk, _, hm⟩ := n
  refine ⟨o, ho, fun name => ?_⟩
  have e := hm name
  unfold nsFind findBy at e
  rw [← Array.find?_toList] at e
  unfold PySem.W.lookIn
  rw [hd]
  dsimp only
  split
  · rename_i y q
    rw [q] at e
    exact congrArg some e
  · rename_i q
    rw [q] at e
    have a : es.toList.any (·.refKey) = false := by
      rw [List.any_eq_false]
      intro y hy
      obtain ⟨z, t, hkey⟩ := hk y (Array.mem_toList_iff.mp hy)
      simp [DictEntry.refKey, hkey]
    have a' : ¬ es.toList.any (·.refKey) = true := by rw [a]; exact Bool.false_ne_true
    rw [if_neg a']
    exact congrArg some e

theorem ObjM.look {h : Heap} {x dx C : Addr} {mA : Str → Option Value} (I : ObjM h x dx C mA) : ∃ od, PySem.W.InstAt h x (PySem.W.instObj C dx) C (some od) ∧ ∀ name, PySem.W.lookIn name od = some (mA name) :=
  let ⟨od, ho, hl⟩ := lookIn_ns I.ns
  ⟨od, ⟨I.obj, rfl, rfl, ho⟩, hl⟩

section
variable {prog : Program} {w : World} {A : Around} {E : Value → Shared → Prop} {s : Shared} {K : PySem.W.Frag} {x dx C f : Addr} {mA : Str → Option Value} {name : Str} {v : Value}

end

theorem RelO.some_of {v : V} {o : Option Value} (r : RelO (some v) o) : ∃ u, o = some u ∧ RelV v u := by
  cases o with
  | none => exact (show False from r).elim
  | some u => exact ⟨u, rfl, r⟩
theorem RelO.none_of {o : Option Value} (r : RelO none o) : o = none := by
  cases o with
  | none => rfl
  | some u => exact (show False from r).elim
section
variable {P : Program} {w : World} {H H' : Hp} {h h' : Heap} {a C dx : Addr} {fs fs' : List (Str × V)}
theorem ins_get (hok : HOk P w H h) (e : H a = some (.ins C dx fs)) : ∃ mA, ObjM h a dx C mA ∧ (∀ f, RelO (fs.lookup f) (mA f)) ∧ PySem.Within mA (fs.map (·.1)) ∧ fs.length ≤ 1000 ∧ H dx = some (.own a) := by
  obtain ⟨d, z, ne, ob, mA, n, r, q⟩ := (show ObjOk P w H h a (.ins C dx fs) from hok a _ e)
  exact ⟨mA, ⟨ob, n, ne⟩, r, q, z, d⟩
end

structure Cls (K : PySem.W.Frag) (C : Addr) : Prop where
  pg : PySem.W.plainGet K C Str.empty = true
  hd : PySem.W.hasDictIn K C = true
  po : PySem.W.plainOver K C = true
  sa : PySem.W.findIn K (.ref C) "__setattr__" = some (some (.builtin "object.__setattr__"))
theorem Cls.get {K : PySem.W.Frag} {C : Addr} (c : Cls K C) (f : Str) : PySem.W.plainGet K C f = true := c.pg
structure Con (K : PySem.W.Frag) (C : Addr) (f : Str) (v : V) (u : Value) : Prop where
  at_ : PySem.W.findIn K (.ref C) f = some (some u)
  rel : RelV v u
  get : PySem.W.specialIn K u "__get__" = some none
  cp : PySem.W.copiedNames.contains f = false
structure Meth (K : PySem.W.Frag) (C : Addr) (m : Str) (f : Addr) : Prop where
  at_ : PySem.W.findIn K (.ref C) m = some (some (.ref f))
  fn : PySem.W.isFn K (.ref f) = true
  kp : PySem.W.keepIn K (.ref f) = true

section
variable {X : Cx} {pins : List (Addr × Obj)} {σ : St} {H : Hp} {s : Shared} {a C dx : Addr} {fs : List (Str × V)} {f : Str} {v : V} {A : Around} {E : Value → Shared → Prop}

theorem Inv.made (I : Inv X pins σ H s) : Inv X pins σ (upd (upd H s.heap.objs.size (.own (s.heap.objs.size + 1))) (s.heap.objs.size + 1) (.ins C s.heap.objs.size []))
    { s with heap := (s.heap.push PySem.W.emptyDict).push (PySem.W.instObj C s.heap.objs.size) } := by
  have e1 : (s.heap.push PySem.W.emptyDict).get? s.heap.objs.size = some PySem.W.emptyDict := Heap.get?_push_size s.heap rfl
  have e2 : ((s.heap.push PySem.W.emptyDict).push (PySem.W.instObj C s.heap.objs.size)).get? (s.heap.objs.size + 1) = some (PySem.W.instObj C s.heap.objs.size) := by
    have := Heap.get?_push_size (s.heap.push PySem.W.emptyDict) (o := PySem.W.instObj C s.heap.objs.size) rfl
    rwa [Heap.size_push] at this
  have e3 : (s.heap.push PySem.W.emptyDict).Ns s.heap.objs.size (fun _ => none) := ⟨PySem.W.emptyDict, #[], _, e1, rfl, (fun e he => absurd he (by simp)), fun _ => rfl⟩
  have I1 := I.laid (a := s.heap.objs.size) (o := .own (s.heap.objs.size + 1)) (h' := s.heap.push PySem.W.emptyDict) (t' := s.toks) (fun b u q => Heap.get?_push_of_some _ q) (Nat.le_refl _) ⟨_, e1⟩
  refine I1.laid (a := s.heap.objs.size + 1) (o := .ins C s.heap.objs.size []) (t' := s.toks) (fun b u q => Heap.get?_push_of_some _ q) (Nat.le_of_eq (Heap.size_push _ _)) ?_
  have ne : s.heap.objs.size ≠ s.heap.objs.size + 1 := Nat.ne_of_lt (Nat.lt_succ_self _)
  refine ⟨by rw [upd_ne ne, upd_same], Nat.zero_le _, ne, e2, fun _ => none, (Heap.Ns1.of_empty e3).at fun o q => Heap.get?_push_of_some _ q, fun _ => True.intro, fun y hy => absurd rfl hy⟩

end

section
variable {X : Cx} {o e value : Expr} {f : Str} {pos pos' tpos : Pos} {ta tv : TE}
end

section
variable {X : Cx} {pins : List (Addr × Obj)} {σ : St} {H : Hp} {s : Shared} {A : Around} {E : Value → Shared → Prop} {Q : Value → Shared → Prop} {c : Value} {b : Bool}
inductive TyOf (K : PySem.W.Frag) (H : Hp) : V → Value → Prop where
  | non : TyOf K H .non (.type "NoneType")
  | bl (x : Bool) : TyOf K H (.bl x) (.type "bool")
  | int (i : Int) : TyOf K H (.int i) (.type "int")
  | str (x : Str) : TyOf K H (.str x) (.type "str")
  | flt (x : UInt64) : TyOf K H (.flt x) (.type "float")
  | lst {a : Addr} {xs : List V} (e : H a = some (.lst xs)) : TyOf K H (.ref a) (.type "list")
  | frz {a : Addr} {o : Obj} {xs : List V} (e : H a = some (.frz o (.lst xs))) : TyOf K H (.ref a) (.type "list")
  | tup {a : Addr} {xs : List V} (e : H a = some (.tup xs)) : TyOf K H (.ref a) (.type "tuple")
  | dK {a : Addr} {kvs : List (Key × V)} (e : H a = some (.dK kvs)) : TyOf K H (.ref a) (.type "dict")
  | dT {a : Addr} {kvs : List (List Key × V)} (e : H a = some (.dT kvs)) : TyOf K H (.ref a) (.type "dict")
  | ins {a C dx : Addr} {fs : List (Str × V)} (e : H a = some (.ins C dx fs)) (cl : Cls K C) (ha : PySem.W.findIn K (.ref C) "__class__" = some (some (.builtin "object.__class__")))
      (hn : PySem.W.specialIn K (.builtin "object.__class__") "__get__" = some (some (.builtin "getset_descriptor.__get__"))) (htk : PySem.W.takesIn K (.builtin "object.__class__") = some true)
      (hm : PySem.W.mroIn K C (.type "object") = some true) : TyOf K H (.ref a) (.ref C)
theorem isinst_ok {x : V} {u t : Value} (I : Inv X pins σ H s) (rx : RelV x u) (ty : TyOf X.K H x t) (e : PySem.W.kitOne X.K t c = some b) (h : ∀ tk, Q (.bool b) { s with toks := tk }) :
    wpAny (model X.prog X.w) A (call (.builtin "isinstance") [u, c]) Q E s := by
  cases ty with
  | non => cases (show u = Value.none from rx); exact PySem.W.kia_one PySem.W.kitx_none I.kIn True.intro e (fun z => nomatch z) h
  | bl y => cases (show u = Value.bool y from rx); exact PySem.W.kia_one PySem.W.kitx_bool I.kIn True.intro e (fun z => nomatch z) h
  | int i => obtain ⟨t, q⟩ := (show ∃ t, u = Value.int i t from rx); cases q; exact PySem.W.kia_one PySem.W.kitx_int I.kIn True.intro e (fun z => nomatch z) h
  | str y => obtain ⟨t, q⟩ := (show ∃ t, u = Value.str y t from rx); cases q; exact PySem.W.kia_one PySem.W.kitx_str I.kIn True.intro e (fun z => nomatch z) h
  | flt y => obtain ⟨t, q⟩ := (show ∃ t, u = Value.float y t from rx); cases q; exact PySem.W.kia_one PySem.W.kitx_float I.kIn True.intro e (fun z => nomatch z) h
  | @lst a xs ea =>
    cases (show u = Value.ref a from rx)
    obtain ⟨_, _, n, _, h1⟩ := (show ObjOk X.prog X.w H s.heap a (.lst xs) from I.hok a _ ea)
    exact PySem.W.kia_one PySem.W.kitx_list I.kIn ⟨_, h1, rfl⟩ e (fun z => nomatch z) h
  | @frz a ob xs ea =>
    cases (show u = Value.ref a from rx)
    obtain ⟨_, _, _, n, _, h1⟩ := (show ObjOk X.prog X.w H s.heap a (.frz ob (.lst xs)) from I.hok a _ ea)
    exact PySem.W.kia_one PySem.W.kitx_list I.kIn ⟨_, h1, rfl⟩ e (fun z => nomatch z) h
  | @tup a xs ea =>
    cases (show u = Value.ref a from rx)
    obtain ⟨_, _, _, p⟩ := (show ObjOk X.prog X.w H s.heap a (.tup xs) from I.hok a _ ea)
    obtain ⟨o, h1, h2, _⟩ := p
    exact PySem.W.kia_one PySem.W.kitx_tuple I.kIn ⟨o, h1, h2⟩ e (fun z => nomatch z) h
  | @dK a kvs ea =>
    cases (show u = Value.ref a from rx)
    obtain ⟨_, _, vs, _, p⟩ := (show ObjOk X.prog X.w H s.heap a (.dK kvs) from I.hok a _ ea)
    obtain ⟨o, es, ep, h1, h2, _⟩ := p
    exact PySem.W.kia_one PySem.W.kitx_dict I.kIn ⟨o, h1, h2.1⟩ e (fun z => nomatch z) h
  | @dT a kvs ea =>
    cases (show u = Value.ref a from rx)
    obtain ⟨_, _, xs, _, o, es, ep, h1, h2, _⟩ := (show ObjOk X.prog X.w H s.heap a (.dT kvs) from I.hok a _ ea)
    exact PySem.W.kia_one PySem.W.kitx_dict I.kIn ⟨o, h1, h2.1⟩ e (fun z => nomatch z) h
  | @ins a C dx fs ea cl ha hn htk hm =>
    cases (show u = Value.ref a from rx)
    obtain ⟨mA, O, _⟩ := ins_get I.hok ea
    obtain ⟨od, J, _⟩ := O.look
    exact PySem.W.kia_one (PySem.W.kitx_own (cl.get _) cl.hd ha hn htk hm) I.kIn J e (fun z => nomatch z) h
end
end L2

namespace L2
open PySem PySem.Spec PyProof.Rows

structure Room (k : Nat) (A : Around) : Prop where
  hd : A.handled = none
  dp : A.depth + 3 * k + 5 < recursionLimit
  un : A.units + 16 * k + 200 < cLine
theorem Room.mono {j k : Nat} {A : Around} (r : Room k A) (h : j ≤ k) : Room j A := ⟨r.hd, by have := r.dp; omega, by have := r.un; omega⟩
theorem Room.deeper {k : Nat} {A : Around} (r : Room (k + 1) A) (env : Env) : Room k (A.deeper env) :=
  ⟨r.hd, by have := r.dp; show A.depth + 1 + 3 * k + 5 < _; omega, by have := r.un; show A.units + 3 + 16 * k + 200 < _; omega⟩
theorem Room.in1 {k : Nat} {A : Around} (r : Room (k + 1) A) : Room k A.in1 :=
  ⟨r.hd, by have := r.dp; show A.depth + 3 * k + 5 < _; omega, by have := r.un; show A.units + 1 + 16 * k + 200 < _; omega⟩
theorem Room.depth {k : Nat} {A : Around} (r : Room k A) : A.depth < recursionLimit := by have := r.dp; omega
theorem Room.units {k : Nat} {A : Around} (r : Room k A) : A.units + 64 < cLine := by have := r.un; omega
noncomputable def tNil : TA := fun _ H Q => Q [] H
noncomputable def tCons (ta : TE) (tr : TA) : TA := fun σ H Q => ta σ H fun x H1 => tr σ H1 fun xs H2 => Q (x :: xs) H2
section
variable {X : Cx} {e : Expr} {es : List Expr} {te : TE} {t : TA} {pos : Pos}
theorem pa_nil : PA X [] tNil := fun _ _ _ _ H Q I h => Calls.spliced_nil ⟨[], H, I, .nil, h⟩
theorem pa_cons (ha : PE X e te) (hr : PA X es t) (hs : starEach (e :: es) X.env = (false, eval e X.env) :: starEach es X.env := by rfl) : PA X (e :: es) (tCons te t) := by
  intro pos pins s σ H Q I h
  rw [hs]
  show wpAny _ _ (spliced ((false, eval e X.env) :: backTo pos (starEach es X.env))) _ _ s
  refine Calls.spliced_cons (thn (ha pins s σ H _ I h) fun u s1 ⟨x, H1, I1, r1, q1⟩ => ?_)
  exact thn (hr pos pins s1 σ H1 _ I1 q1) fun us s2 ⟨xs, H2, I2, r2, q2⟩ => ⟨x :: xs, H2, I2, .cons r1 r2, q2⟩

noncomputable def tTup (t : TA) : TE := fun σ H Q => t σ H fun xs H1 => xs.length ≤ sizeLine ∧ ∀ p, H1 p = none → Q (.ref p) (upd H1 p (.tup xs))
noncomputable def tLst (t : TA) : TE := fun σ H Q => t σ H fun xs H1 => xs.length ≤ sizeLine ∧ ∀ p, H1 p = none → Q (.ref p) (upd H1 p (.lst xs))
theorem pe_tup {x1} (h : PA X es t) : PE X (.Tuple es x1 pos) (tTup t) := by
  intro pins s σ H Q I hq
  refine wpAny_Tuple_spliced (thn (h pos pins s σ H _ I hq) fun us s1 ⟨xs, H1, I1, r, z, q⟩ => ⟨by rw [← r.length]; exact z, ?_⟩)
  have hf : H1 s1.heap.objs.size = none := I1.hok.fresh (Nat.le_refl _)
  refine ⟨.ref s1.heap.objs.size, upd H1 s1.heap.objs.size (.tup xs), I1.laid (t' := s1.toks) (fun b u e => Heap.get?_push_of_some _ e) (Nat.le_refl _) ?_, rfl, q _ hf⟩
  exact ⟨z, us, r, ⟨_, Heap.get?_push_size _ rfl, rfl, _, rfl⟩⟩
theorem pe_lst (h : PA X es t) : PE X (.List es pos) (tLst t) := by
  intro pins s σ H Q I hq
  refine wpAny_List_spliced (thn (h pos pins s σ H _ I hq) fun us s1 ⟨xs, H1, I1, r, z, q⟩ => ⟨by rw [← r.length]; exact z, ?_⟩)
  have hf : H1 s1.heap.objs.size = none := I1.hok.fresh (Nat.le_refl _)
  refine ⟨.ref s1.heap.objs.size, upd H1 s1.heap.objs.size (.lst xs), I1.laid (t' := s1.toks) (fun b u e => Heap.get?_push_of_some _ e) (Nat.le_refl _) ?_, rfl, q _ hf⟩
  exact ⟨z, us, 0, r, Heap.get?_push_size _ rfl⟩
end

noncomputable abbrev Sp := List V → Hp → VK → XK → Prop
noncomputable abbrev CXT := List Env → Hp → Shared → XK → Value → Shared → Prop

structure Env0 (P : Program) (w : World) (K : PySem.W.Frag) (mg : Str → Option Value) (base : Heap) (A : Around) (outer : List Env) (s : Shared) (H : Hp) : Prop where
  frames : A.frames = some outer
  mod : Mod K mg base
  bs : ∀ b o, base.get? b = some o → s.heap.get? b = some o ∧ H b = none
  bsz : base.objs.size ≤ s.heap.objs.size
  funs : s.heap.FunFrames base outer
  frf : ∀ b ∈ frs outer, H b = none
  hok : HOk P w H s.heap
  bare : AllBare s.gens
noncomputable def CE (outer : List Env) (P : Program) (w : World) (H : Hp) (s : Shared) (Q : VK) (u : Value) (s' : Shared) : Prop :=
  ∃ v H', s'.os = s.os ∧ AllBare s'.gens ∧ Un (frs outer) [] H H' s.heap s'.heap ∧ HOk P w H' s'.heap ∧ RelV v u ∧ Q v H'
noncomputable def CR (CX : CXT) (outer : List Env) (P : Program) (w : World) (H : Hp) (s : Shared) (Q : VK) (E : XK) (r : Result) (s' : Shared) : Prop :=
  match r with
  | .ok (.ret u) => CE outer P w H s Q u s'
  | .ok _ => False
  | .error e => CX outer H s E e s'
structure FnOk (P : Program) (w : World) (K : PySem.W.Frag) (mg : Str → Option Value) (base : Heap) (CX : CXT) (k : Nat) (f : Addr) (fd : FuncData) (ps : List Str) (sp : Sp) : Prop where
  len : ∀ vs H Q E, sp vs H Q E → vs.length = ps.length
  run : ∀ (A : Around) (outer : List Env) (s : Shared) (H : Hp) (args : Args) (us : List Value) (vs : List V) (Q : VK) (E : XK), Room k A → Env0 P w K mg base A outer s H → BindsTo s fd args (ps.zip us) → Vals vs us → sp vs H Q E →
    codeAny (model P w) A (.call (.ref f) args) (CR CX outer P w H s Q E) s
theorem FnOk.mono {P : Program} {w : World} {K : PySem.W.Frag} {mg : Str → Option Value} {base : Heap} {CX : CXT} {j k : Nat} {f : Addr} {fd : FuncData} {ps : List Str} {sp : Sp} (F : FnOk P w K mg base CX j f fd ps sp) (h : j ≤ k) :
    FnOk P w K mg base CX k f fd ps sp := ⟨F.len, fun A outer s H args us vs Q E hr => F.run A outer s H args us vs Q E (hr.mono h)⟩
theorem FnOk.imp {P : Program} {w : World} {K : PySem.W.Frag} {mg : Str → Option Value} {base : Heap} {CX : CXT} {k : Nat} {f : Addr} {fd : FuncData} {ps : List Str} {sp sp' : Sp} (F : FnOk P w K mg base CX k f fd ps sp)
    (h : ∀ vs H Q E, sp' vs H Q E → sp vs H Q E) : FnOk P w K mg base CX k f fd ps sp' :=
  ⟨fun vs H Q E q => F.len vs H Q E (h _ _ _ _ q), fun A outer s H args us vs Q E hr he hb hv hs => F.run A outer s H args us vs Q E hr he hb hv (h _ _ _ _ hs)⟩

theorem Env0.in1 {P : Program} {w : World} {K : PySem.W.Frag} {mg : Str → Option Value} {base : Heap} {A : Around} {outer : List Env} {s : Shared} {H : Hp} (e : Env0 P w K mg base A outer s H) :
    Env0 P w K mg base A.in1 outer s H := ⟨e.frames, e.mod, e.bs, e.bsz, e.funs, e.frf, e.hok, e.bare⟩

section
variable {X : Cx} {pins : List (Addr × Obj)} {σ : St} {H : Hp} {s s' : Shared}
theorem Inv.env0 (I : Inv X pins σ H s) : Env0 X.prog X.w X.K X.mg X.base X.A X.stack s H :=
  ⟨I.ok.frames, I.ok.mod, I.bs, Nat.le_trans I.ok.bsz I.sz, I.stack, I.stkFree, I.hok, I.bare⟩
theorem Inv.after {Q : VK} {u : Value} (I : Inv X pins σ H s) (h : CE X.stack X.prog X.w H s Q u s') : EP X pins σ Q u s' := by
  obtain ⟨v, H', os, bare, un, hok, r, q⟩ := h
  obtain ⟨hh, g, d, t, os'⟩ := s'
  obtain rfl : os' = s.os := os
  exact ⟨v, H', I.call (h' := hh) (g' := g) (d' := d) (t' := t) (ch := []) un hok bare (fun b z => absurd z (by simp)), r, q⟩
end

noncomputable def tCall (sp : Sp) (dvs : List V) (E : XK) (t : TA) : TE := fun σ H Q => t σ H fun vs H1 => sp (vs ++ dvs) H1 Q E
noncomputable def Binds (K : PySem.W.Frag) (fd : FuncData) (ps : List Str) (ds : List Value) : Prop :=
  ∀ (s : Shared) (us : List Value), K.In s.heap → (us ++ ds).length = ps.length → BindsTo s fd ⟨us, []⟩ (ps.zip (us ++ ds))
theorem Binds.all {K : PySem.W.Frag} {fd : FuncData} {ps : List Str} (h : ∀ us : List Value, us.length = ps.length → bindArgs fd ⟨us, []⟩ = pure (ps.zip us)) : Binds K fd ps [] := fun s us _ hl => by
  rw [List.append_nil] at hl ⊢
  exact .of_eq (h us hl)

noncomputable def Passes (CX : CXT) (X : Cx) (E : XK) : Prop := ∀ (pins : List (Addr × Obj)) (σ : St) (H : Hp) (s : Shared) (e : Value) (s' : Shared), Inv X pins σ H s → CX X.stack H s E e s' → X.xe e s'

section
variable {X : Cx} {CX : CXT} {k : Nat} {f C : Addr} {fd : FuncData} {ps : List Str} {sp : Sp} {dvs : List V} {ds : List Value} {E : XK} {x m : Str} {p pos apos : Pos} {e o : Expr} {es : List Expr} {ta : TE} {t : TA}

theorem run_fn {pins : List (Addr × Obj)} {σ : St} {H : Hp} {s : Shared} {Q : VK} {us : List Value} {vs : List V} (F : FnOk X.prog X.w X.K X.mg X.base CX k f fd ps sp) (hr : Room k X.A) (hb : Binds X.K fd ps ds) (hd : Vals dvs ds) (hx : Passes CX X E)
    (I : Inv X pins σ H s) (r : Vals vs us) (h : sp (vs ++ dvs) H Q E) : wpAny (model X.prog X.w) X.A (call (.ref f) us) (EP X pins σ Q) X.xe s := by
  have r2 : Vals (vs ++ dvs) (us ++ ds) := r.append hd
  have hl : (us ++ ds).length = ps.length := by rw [← r2.length]; exact F.len _ _ _ _ h
  refine wpAny_call (codeAny_mono (F.run X.A X.stack s H ⟨us, []⟩ (us ++ ds) (vs ++ dvs) Q E hr I.env0 (hb s us I.kIn hl) r2 h) fun r s' hq => ?_)
  cases r with
  | error e => exact hx pins σ H s e s' I hq
  | ok fl =>
    cases fl with
    | ret u => exact I.after hq
    | next => exact False.elim hq
    | brk => exact False.elim hq
    | cont => exact False.elim hq

theorem pe_call (F : FnOk X.prog X.w X.K X.mg X.base CX k f fd ps sp) (hr : Room k X.A) (hg : Gl X x) (hm : X.mg x = some (.ref f)) (hk : PySem.W.keepIn X.K (.ref f) = true) (hb : Binds X.K fd ps ds) (hd : Vals dvs ds) (hx : Passes CX X E)
    (ha : PA X (e :: es) t) (hdb : (x == ("__debug__" : Str)) = false := by decide) (he : starEach (e :: es) X.env = (false, eval e X.env) :: starEach es X.env := by rfl) (hpl : (backTo pos (starEach es X.env)).any (·.1) = false := by rfl) :
    PE X (.Call (.Name x p) (e :: es) [] pos) (tCall sp dvs E t) := by
  intro pins s σ H Q I h
  refine wpAny_Call_Name_kw (ld_glob I hg hm ?_ hdb)
  refine PySem.W.callWith_K (h₀ := X.base) I.ok.mod.kin hk (thn (ha pos pins s σ H _ I h) fun us s1 ⟨vs, H1, I1, r, q⟩ => ⟨I1.kIn, ?_⟩) he hpl
  exact run_fn F hr hb hd hx I1 r q
structure Mk (K : PySem.W.Frag) (C f : Addr) : Prop where
  makes : PySem.W.makesIn K C = true
  init : PySem.W.findIn K (.ref C) "__init__" = some (some (.ref f))
  fn : PySem.W.isFn K (.ref f) = true
  kp : PySem.W.keepIn K (.ref C) = true

end

section
variable {X : Cx} {CX : CXT} {k : Nat} {f C : Addr} {fd : FuncData} {ps ks : List Str} {sp : Sp} {E : XK} {x m : Str} {p pos apos kpos : Pos} {e o : Expr} {es : List Expr} {kws : List Keyword} {te ta : TE} {t tk : TA} {nm : Option Str}
structure KBinds (K : PySem.W.Frag) (fd : FuncData) (ps ks : List Str) (g : List Value → List Value → List Value) (gV : List V → List V → List V) : Prop where
  to : ∀ (s : Shared) (us ws : List Value), K.In s.heap → (g us ws).length = ps.length → BindsTo s fd ⟨us, ks.zip ws⟩ (ps.zip (g us ws))
  rel : ∀ {vs : List V} {us : List Value} {zs : List V} {ws : List Value}, Vals vs us → Vals zs ws → Vals (gV vs zs) (g us ws)
variable {g : List Value → List Value → List Value} {gV : List V → List V → List V}
end

structure FnScope (N P : List Str) (sc : Scope) : Prop where
  kind : sc.kind = .function
  co : sc.isCoroutine = false
  gen : sc.isGenerator = false
  nd : N.Nodup
  pre : N.take P.length = P
  par : ∀ x ∈ P, sc.names.lookup x = some .local ∨ sc.names.lookup x = some .cell
  nofree : ∀ y ∈ sc.names, y.2 ≠ .free

theorem bindL_out {kindOf : Str → Option NameKind} {x : Str} : ∀ {binds : List (Str × Value)} {m : Str → Option Value}, (∀ v, (x, v) ∉ binds) → bindL kindOf binds m x = m x
  | [], _, _ => rfl
  | (n, v) :: r, m, h => by
    unfold bindL
    rw [bindL_out fun w hw => h w (List.mem_cons_of_mem _ hw)]
    split
    · have : x ≠ n := by rintro rfl; exact h v List.mem_cons_self
      simp [this]
    · rfl
theorem bindC_out {kindOf : Str → Option NameKind} {x : Str} : ∀ {binds : List (Str × Value)} {m : Str → Option Value}, (∀ v, (x, v) ∉ binds) → bindC kindOf binds m x = m x
  | [], _, _ => rfl
  | (n, v) :: r, m, h => by
    unfold bindC
    rw [bindC_out fun w hw => h w (List.mem_cons_of_mem _ hw)]
    split
    · rfl
    · have : x ≠ n := by rintro rfl; exact h v List.mem_cons_self
      simp [this]
theorem bindL_get {kindOf : Str → Option NameKind} {x : Str} {v : Value} : ∀ {P : List Str} {vs : List Value} {i : Nat} {m : Str → Option Value}, P.Nodup → P[i]? = some x → vs[i]? = some v → kindOf x = some .local →
    bindL kindOf (P.zip vs) m x = some v
  | [], _, _, _, _, h, _, _ => by simp at h
  | _ :: _, [], _, _, _, _, h, _ => by simp at h
  | p :: P, w :: vs, 0, m, nd, h1, h2, hk => by
    simp at h1 h2; subst h1; subst h2
    show bindL kindOf ((p, w) :: P.zip vs) m p = _
    unfold bindL
    rw [bindL_out fun v hv => (List.nodup_cons.mp nd).1 (List.of_mem_zip hv).1, if_pos hk]
    simp
  | p :: P, w :: vs, i + 1, m, nd, h1, h2, hk => by
    show bindL kindOf ((p, w) :: P.zip vs) m x = _
    unfold bindL
    exact bindL_get (i := i) (List.nodup_cons.mp nd).2 (by simpa using h1) (by simpa using h2) hk
theorem bindC_get {kindOf : Str → Option NameKind} {x : Str} {v : Value} : ∀ {P : List Str} {vs : List Value} {i : Nat} {m : Str → Option Value}, P.Nodup → P[i]? = some x → vs[i]? = some v → kindOf x ≠ some .local →
    bindC kindOf (P.zip vs) m x = some v
  | [], _, _, _, _, h, _, _ => by simp at h
  | _ :: _, [], _, _, _, _, h, _ => by simp at h
  | p :: P, w :: vs, 0, m, nd, h1, h2, hk => by
    simp at h1 h2; subst h1; subst h2
    show bindC kindOf ((p, w) :: P.zip vs) m p = _
    unfold bindC
    rw [bindC_out fun v hv => (List.nodup_cons.mp nd).1 (List.of_mem_zip hv).1, if_neg hk]
    simp
  | p :: P, w :: vs, i + 1, m, nd, h1, h2, hk => by
    show bindC kindOf ((p, w) :: P.zip vs) m x = _
    unfold bindC
    exact bindC_get (i := i) (List.nodup_cons.mp nd).2 (by simpa using h1) (by simpa using h2) hk

noncomputable def start (N : List Str) (vs : List V) : St := vs.map some ++ List.replicate (N.length - vs.length) none

noncomputable def cxOf (CX : CXT) (P : Program) (w : World) (K : PySem.W.Frag) (mg : Str → Option Value) (base : Heap) (N : List Str) (qual : Str) (scope : Scope) (f : Addr) (cd : Value) (A : Around) (outer : List Env) (s : Shared) (H : Hp) (E : XK) : Cx where
  prog := P
  w := w
  K := K
  mg := mg
  base := base
  A := A.deeper (envOfC qual scope s.heap.objs.size f cd)
  N := N
  s₀ := s
  H₀ := H
  env := envOfC qual scope s.heap.objs.size f cd
  outer := outer
  stack := envOfC qual scope s.heap.objs.size f cd :: outer
  ex := []
  calm := true
  fn := fun _ => true
  pn := []
  xe := fun e s' => wpAny (model P w) (A.deeper (envOfC qual scope s.heap.objs.size f cd)) (leaving (envOfC qual scope s.heap.objs.size f cd) e) (fun _ s'' => CX outer H s E e s'') (fun e' s'' => CX outer H s E e' s'') s'

theorem cell_has {sc : Scope} {n : Nat} {x : Str} (h : sc.names.lookup x = some .cell) : ∃ c, (cellsFrom n sc.names []).lookup x = some c := by
  have q := PySem.W.cellsFrom_some sc.names n [] (.inl h)
  exact Option.isSome_iff_exists.mp q

theorem inv_start {CX : CXT} {P : Program} {w : World} {K : PySem.W.Frag} {mg : Str → Option Value} {base : Heap} {N ps : List Str} {qual : Str} {scope : Scope} {f : Addr} {cd : Value} {A : Around} {outer : List Env} {s s1 : Shared} {H : Hp} {E : XK} {us : List Value} {vs : List V}
    (S : FnScope N ps scope) (hd : A.handled = none) (e0 : Env0 P w K mg base A outer s H) (hl : vs.length = ps.length) (r : Vals vs us)
    (x : InCallC s s.heap.objs.size (bindL (envOfC qual scope s.heap.objs.size f cd).kindOf (ps.zip us) fun _ => none) (cellsFrom (s.heap.objs.size + 1) scope.names []) (bindC (envOfC qual scope s.heap.objs.size f cd).kindOf (ps.zip us) fun _ => none) s1) :
    Inv (cxOf CX P w K mg base N qual scope f cd A outer s H E) [] (start N vs) H s1 := by
  have hpl : ps.length ≤ N.length := by have := congrArg List.length S.pre; rw [List.length_take] at this; omega
  obtain ⟨h1, tk, rfl, hk⟩ := x.done
  have noA : ∀ b : Addr, b ∉ (cxOf CX P w K mg base N qual scope f cd A outer s H E).ex := fun b z => absurd (show b ∈ ([] : List Addr) from z) (by simp)
  refine ⟨⟨e0.mod, S.kind, rfl, rfl, Nat.le_refl _, fun y z c h1 h2 => ?_, fun y hy => ?_, fun y c _ h => ?_, fun _ => hd, Around.frames_deeper e0.frames, .inr ⟨rfl, rfl⟩, fun b z => absurd z (noA b), e0.bs, e0.bsz, fun b _ _ => noA b, fun b z => absurd z (noA b), e0.funs, e0.frf⟩,
    rfl, e0.bare, Un.kept hk, ⟨_, x.toInCall.ns, fun i y v h1 h2 h3 => ?_⟩, fun y c h => ⟨_, x.cell y c h⟩, e0.hok.fresh (Nat.le_refl _), fun y c h => ?_, fun p hp => absurd (show p ∈ ([] : List (Addr × Obj)) from hp) (by simp), e0.hok.kept hk, ?_⟩
  · exact name_of_addr x.apart (PySem.mem_of_lookup h1) (PySem.mem_of_lookup h2)
  · have hy : scope.names.lookup y = some .cell ∨ scope.names.lookup y = some .free := hy
    rcases hy with hy | hy
    · exact cell_has hy
    · exact absurd rfl (S.nofree _ (PySem.mem_of_lookup hy))
  · exact Nat.le_of_lt (x.above y c (PySem.mem_of_lookup h))
  · have hi : i < vs.length := by
      unfold start at h2
      by_cases hi : i < vs.length
      · exact hi
      · rw [List.getElem?_append_right (by simpa using hi)] at h2
        rw [List.getElem?_replicate] at h2
        split at h2 <;> cases h2
    have ha : vs[i]? = some v := by
      unfold start at h2
      rw [List.getElem?_append_left (by simpa using hi), List.getElem?_map] at h2
      cases e : vs[i]? with
      | none => rw [e] at h2; cases h2
      | some a => rw [e] at h2; cases h2; rfl
    obtain ⟨u, hu, rv⟩ := r.get ha
    have hp : ps[i]? = some y := by
      rw [← S.pre, List.getElem?_take_of_lt (by omega)]; exact h1
    have ndP : ps.Nodup := by rw [← S.pre]; exact S.nd.sublist (List.take_sublist _ _)
    refine ⟨u, rv, ?_⟩
    rcases S.par y (List.mem_of_getElem? hp) with k | k
    · exact .inl ⟨k, bindL_get ndP hp hu k⟩
    · obtain ⟨c, e⟩ := cell_has (n := s.heap.objs.size + 1) k
      refine .inr ⟨.inl k, c, e, ?_⟩
      have q := x.cell y c e
      rw [bindC_get ndP hp hu (by show scope.names.lookup y ≠ _; rw [k]; decide)] at q
      exact q
  · exact e0.hok.fresh (Nat.le_of_lt (x.above y c (PySem.mem_of_lookup h)))
  · unfold start
    show _ = N.length
    rw [List.length_append, List.length_map, List.length_replicate]
    omega

theorem fn_of {CX : CXT} {P : Program} {w : World} {K : PySem.W.Frag} {mg : Str → Option Value} {base : Heap} {k : Nat} {f : Addr} {name qual : Str} {params : Arguments} {body : List Stmt} {scope : Scope} {dV kV doc pm cdv ct oc : Value} {an od : Option Addr}
    {osl : Array (Option Value)} {N ps : List Str} {sp : Sp} (lk : K.lookup f = some ⟨oc, od, .func (PySem.W.fnOf name qual params body scope dV kV doc pm an cdv ct), osl⟩) (hcd : PySem.W.codeIn K cdv qual = true) (S : FnScope N ps scope)
    (len : ∀ vs H Q E, sp vs H Q E → vs.length = ps.length)
    (hbody : ∀ (A : Around) (outer : List Env) (s : Shared) (H : Hp) (vs : List V) (Q : VK) (E : XK), Room k (A.deeper (envOfC qual scope s.heap.objs.size f cdv)) → sp vs H Q E →
      ∃ t, PSs (cxOf CX P w K mg base N qual scope f cdv A outer s H E) body t ∧ t { nx := fun _ H' => Q .non H', rt := Q } (start N vs) H) :
    FnOk P w K mg base CX (k + 1) f (PySem.W.fnOf name qual params body scope dV kV doc pm an cdv ct) ps sp := by
  refine ⟨len, fun A outer s H args us vs Q E hr e0 hb r hsp => ?_⟩
  have hl := len _ _ _ _ hsp
  have KX : K.In s.heap := e0.mod.kin.keeps fun b o e => (e0.bs b o e).1
  have lim : s.heap.NoLimit := e0.mod.nolimit.keeps fun b o e => (e0.bs b o e).1
  have hkind : ∀ y ∈ ps.zip us, scope.names.lookup y.1 = some .local ∨ (scope.names.lookup y.1 = some .cell ∧ ((cellsFrom (s.heap.objs.size + 1) scope.names []).lookup y.1).isSome = true) := fun ⟨n, v⟩ hy => by
    rcases S.par n (List.of_mem_zip hy).1 with q | q
    · exact .inl q
    · exact .inr ⟨q, PySem.W.cellsFrom_some _ _ _ (.inl q)⟩
  refine codeAny_call_function hr.depth (KX _ _ lk) rfl S.co S.gen rfl (PySem.W.codeRec_of KX hcd) (hb _ _ _ _ ?_)
  refine wpAny_newFunctionEnv_cells S.kind hkind fun env he s1 x => ?_
  subst he
  refine ⟨lim.keeps x.toInCall.keep, codeAny_func ?_⟩
  obtain ⟨t, ht, hq⟩ := hbody A outer s H vs Q E (hr.deeper _) hsp
  have I : Inv (cxOf CX P w K mg base N qual scope f cdv A outer s H E) [] (start N vs) H s1 := inv_start S hr.hd e0 hl r x
  refine wpAny_mono (ht [] s1 (start N vs) H _ I hq) (fun fl s' hs => ?_) fun e s' hs => hs
  have fin : ∀ {σ' : St} {H' : Hp} {v : V} {u : Value}, Inv (cxOf CX P w K mg base N qual scope f cdv A outer s H E) [] σ' H' s' → RelV v u → Q v H' → CE outer P w H s Q u s' :=
    fun {σ' H' v u} J rv q => ⟨v, H', J.os, J.bare, J.base, J.hok, rv, q⟩
  cases fl with
  | ret u =>
    obtain ⟨v, σ', H', J, rv, q⟩ := hs
    exact fin J rv q
  | next =>
    obtain ⟨σ', H', J, q⟩ := hs
    exact fin (v := V.non) (u := Value.none) J rfl q
  | brk =>
    obtain ⟨_, _, _, q⟩ := hs
    exact False.elim q
  | cont =>
    obtain ⟨_, _, _, q⟩ := hs
    exact False.elim q
end L2

namespace L2
open PySem PySem.Spec PyProof.Rows
section
variable {X : Cx} {x : Str} {p pos : Pos} {e : Expr} {es : List Expr} {t : TA} {id T : String} {r : List V → Hp → VK → Prop}

noncomputable def tCB (r : List V → Hp → VK → Prop) (t : TA) : TE := fun σ H Q => t σ H fun vs H1 => r vs H1 Q
theorem pe_callB (hc : CallR X (.builtin id) r) (hg : Gl X x) (hm : X.mg x = none) (hv : bootBuiltins x = some (.builtin id)) (ha : PA X (e :: es) t) (hn : x ≠ "__name__" := by decide) (hdb : (x == ("__debug__" : Str)) = false := by decide)
    (he : starEach (e :: es) X.env = (false, eval e X.env) :: starEach es X.env := by rfl) (hpl : (backTo pos (starEach es X.env)).any (·.1) = false := by rfl) : PE X (.Call (.Name x p) (e :: es) [] pos) (tCB r t) := by
  intro pins s σ H Q I h
  refine wpAny_Call_Name_kw (ld_blt I hg hm hv ?_ hn hdb)
  exact PyProof.Rows.callWith_builtin1 (thn (ha pos pins s σ H _ I h) fun us s1 ⟨vs, H1, I1, r1, q1⟩ => hc pins s1 σ H1 vs us Q I1 r1 q1) he hpl
theorem pe_callTy (hc : CallR X (.type T) r) (hg : Gl X x) (hm : X.mg x = none) (hv : bootBuiltins x = some (.type T)) (ha : PA X (e :: es) t) (hn : x ≠ "__name__" := by decide) (hdb : (x == ("__debug__" : Str)) = false := by decide)
    (he : starEach (e :: es) X.env = (false, eval e X.env) :: starEach es X.env := by rfl) (hpl : (backTo pos (starEach es X.env)).any (·.1) = false := by rfl) : PE X (.Call (.Name x p) (e :: es) [] pos) (tCB r t) := by
  intro pins s σ H Q I h
  refine wpAny_Call_Name_kw (ld_blt I hg hm hv ?_ hn hdb)
  exact PyProof.Rows.callWith_type1 (thn (ha pos pins s σ H _ I h) fun us s1 ⟨vs, H1, I1, r1, q1⟩ => hc pins s1 σ H1 vs us Q I1 r1 q1) he hpl
end
end L2

namespace HT
open PySem PyProof.Rows

section
open PySem.SeqAt
open PySem.AutoSeq1 (wpAny_loadPart')
open PySem.MeetsSeq PySem.MeetsSeq2 PySem.MeetsSeq3

end

section
variable {prog : Program} {w : World} {A : Around} {E : Value → Shared → Prop} {s : Shared}

theorem cat_tup {t b : Addr} {vs ws : List Value} {Q : Value → Shared → Prop} (ht : IsTup s.heap t vs.toArray) (hb : IsTup s.heap b ws.toArray) (hv : vs ≠ [])
    (h1 : ws = [] → Q (.ref t) s) (h2 : ws ≠ [] → Q (.ref s.heap.objs.size) { s with heap := s.heap.push { cls := .type "tuple", data := .seq (vs ++ ws).toArray } })
    (hsz : vs.length + ws.length ≤ sizeLine) : wpAny (model prog w) A (binaryOp .Add (.ref t) (.ref b)) Q E s := by
  obtain ⟨⟨cls, dd, data, sl⟩, ho, hc, n, hd⟩ := id ht
  obtain ⟨⟨cls2, dd2, data2, sl2⟩, ho2, hc2, n2, hd2⟩ := id hb
  simp only at hc hd hc2 hd2
  subst hc hd hc2 hd2
  have e : vs.toArray ++ ws.toArray = (vs ++ ws).toArray := by simp
  by_cases hw : ws = []
  · exact concat_meets ⟨_, ho, rfl⟩ ⟨_, ho2, rfl⟩ noFill_tuple_add seq_tuple_add PySem.F.slot_tuple_add PySem.F.entry_tuple_add (PySem.F.args_tuple_add_2 _ _)
      (tuple_addW1 t b vs.toArray ws.toArray n n2 dd dd2 sl sl2 (by simpa using hv) (by simp [hw])) ⟨ho, ho2, h1 hw⟩
  · refine concat_meets ⟨_, ho, rfl⟩ ⟨_, ho2, rfl⟩ noFill_tuple_add seq_tuple_add PySem.F.slot_tuple_add PySem.F.entry_tuple_add (PySem.F.args_tuple_add_2 _ _)
      (tuple_addW2 t b vs.toArray ws.toArray n n2 dd dd2 sl sl2 (by simpa using hv) (by simpa using hw) (by rw [List.size_toArray, List.size_toArray]; exact hsz)) ⟨ho, ho2, ?_⟩
    rw [e]
    exact h2 hw

noncomputable def sIx (n d : Nat) : Option Int → Nat
  | none => d
  | some v => if v < 0 then (v + (n : Int)).toNat else min v.toNat n
theorem sIx_le (n d : Nat) (hd : d ≤ n) (o : Option Int) : sIx n d o ≤ n := by
  cases o with
  | none => exact hd
  | some v =>
    show (if v < 0 then (v + (n : Int)).toNat else min v.toNat n) ≤ n
    by_cases hv : v < 0
    · rw [if_pos hv]; omega
    · rw [if_neg hv]; exact Nat.min_le_right _ _
theorem clip_eq (v : Int) (n d : Nat) : (if v < 0 then max (v + (n : Int)) 0 else min v (n : Int)) = ((sIx n d (some v) : Nat) : Int) := by
  show (if v < 0 then max (v + (n : Int)) 0 else min v (n : Int)) = (((if v < 0 then (v + (n : Int)).toNat else min v.toNat n) : Nat) : Int)
  by_cases hv : v < 0
  · simp only [if_pos hv]; omega
  · simp only [if_neg hv]; omega
theorem adjust_gen (lo hi : Option Int) (n : Nat) : Builtin.Slice.sliceAdjust lo hi 1 (n : Int) = (((sIx n 0 lo : Nat) : Int), ((sIx n n hi : Nat) : Int)) := by
  have h1 : ¬ ((1 : Int) < 0) := by omega
  unfold Builtin.Slice.sliceAdjust
  simp only [h1, if_false]
  refine Prod.ext ?_ ?_
  · cases lo with
    | none => rfl
    | some v => exact clip_eq v n 0
  · cases hi with
    | none => rfl
    | some v => exact clip_eq v n n
theorem places_gen (i j : Nat) : Builtin.Slice.slicePlaces (i : Int) (j : Int) 1 = j - i := by
  unfold Builtin.Slice.slicePlaces
  have h1 : (1 : Int) > 0 := by omega
  simp only [h1, if_true, Int.ediv_one]
  split <;> omega
theorem slicePart_ {v : Value} {o : Option Int} {Q : Option Int → Shared → Prop} (p : IsPart v o) (h : Q o s) : wpAny (model prog w) A (Builtin.Slice.slicePartIndex v) Q E s := by
  cases p with
  | none => exact slicePart_none h
  | int i t => exact slicePart_int h
theorem sliceApplied_gen {sl : Addr} {vl vu : Value} {lo hi : Option Int} {n : Nat} {Q : Int × Int × Nat → Shared → Prop} (hs : s.heap.IsSliceOf sl vl vu .none) (pl : IsPart vl lo) (pu : IsPart vu hi)
    (h : Q (((sIx n 0 lo : Nat) : Int), 1, sIx n n hi - sIx n 0 lo) s) : wpAny (model prog w) A (Builtin.Slice.sliceApplied (.ref sl) (pure (n : Int))) Q E s := by
  obtain ⟨os, hos, hcs, hds⟩ := id hs
  unfold Builtin.Slice.sliceApplied Builtin.Slice.sliceFields
  refine wpAny_bind (wpAny_bind (wpAny_field hos hds (x := vl) rfl (wpAny_bind (wpAny_field hos hds (x := vu) rfl (wpAny_bind (wpAny_field hos hds (x := .none) rfl (wpAny_pure ?_)))))))
  refine wpAny_bind (slicePart_none ?_)
  show wpAny _ _ (if ((1 : Int) == 0) = true then _ else _) _ _ s
  rw [if_neg (by decide)]
  refine wpAny_bind (slicePart_ pl (wpAny_bind (slicePart_ pu (wpAny_bind (wpAny_pure ?_)))))
  show wpAny _ _ (match Builtin.Slice.sliceAdjust lo hi 1 (n : Int) with | (lo, hi) => pure (lo, (1 : Int), Builtin.Slice.slicePlaces lo hi 1)) _ _ s
  rw [adjust_gen lo hi n]
  show wpAny _ _ (pure (((sIx n 0 lo : Nat) : Int), (1 : Int), Builtin.Slice.slicePlaces ((sIx n 0 lo : Nat) : Int) ((sIx n n hi : Nat) : Int) 1)) _ _ s
  rw [places_gen]
  exact wpAny_pure h
theorem pick_gen (xs : Array Value) (i k : Nat) : ((List.range k).filterMap fun (m : Nat) => xs[((i : Int) + (m : Int) * 1).toNat]?).toArray = ((xs.toList.drop i).take k).toArray := by
  have e : (fun (m : Nat) => xs[((i : Int) + (m : Int) * 1).toNat]?) = fun m => xs[i + m]? := by
    funext m
    have : ((i : Int) + (m : Int) * 1).toNat = i + m := by omega
    rw [this]
  rw [e]
  have := pick_run xs i k
  rw [List.filterMap_map] at this
  have e2 : ((fun x => xs[x]?) ∘ fun x => i + x) = fun m => xs[i + m]? := rfl
  rw [e2] at this
  rw [this]

theorem getItem_tuple_cut {t sl : Addr} {items : Array Value} {vl vu : Value} {lo hi : Option Int} {Q : Value → Shared → Prop} (ht : IsTup s.heap t items) (hs : s.heap.IsSliceOf sl vl vu .none) (pl : IsPart vl lo) (pu : IsPart vu hi)
    (hw : ¬ (sIx items.size 0 lo = 0 ∧ sIx items.size items.size hi = items.size))
    (h : Q (.ref s.heap.objs.size) { s with heap := s.heap.push { cls := .type "tuple", data := .seq ((items.toList.drop (sIx items.size 0 lo)).take (sIx items.size items.size hi - sIx items.size 0 lo)).toArray } })
    (hsz : items.size ≤ sizeLine) : wpAny (model prog w) A (getItem (.ref t) (.ref sl)) Q E s := by
  have htake : sizeOk (.seq ((items.toList.drop (sIx items.size 0 lo)).take (sIx items.size items.size hi - sIx items.size 0 lo)).toArray) := by
    show ((items.toList.drop (sIx items.size 0 lo)).take (sIx items.size items.size hi - sIx items.size 0 lo)).toArray.size ≤ sizeLine
    rw [List.size_toArray, List.length_take, List.length_drop, Array.length_toList]
    omega
  have hj : sIx items.size items.size hi ≤ items.size := sIx_le _ _ (Nat.le_refl _) hi
  obtain ⟨os, hos, hcs, hds⟩ := id hs
  have hTs : s.TypeIs (.ref sl) "slice" := ⟨os, hos, hcs⟩
  unfold getItem
  try with_reducible refine wpAny_holding ?_
  first | refine wpAny_bind (wpAny_pure ?_) | skip
  refine wpAny_bind (wpAny_sequenceKey ht.typeIs (by decide) ?_)
  refine wpAny_bind (wpAny_callSpecial?_slot (name := Str.ofString "__getitem__") ht.typeIs PyProof.Rows.slot_tuple_getitem
    (wpAny_call_entry PyProof.Rows.slot_tuple_getitem ht.typeIs entry_tuple_getitem ?_ (args_tuple_getitem _ _)))
  show wpAny _ _ (Builtin.Tuple.tupleItemsOf (.ref t) >>= _) _ _ s
  refine wpAny_bind (tupleItemsOf_ ht ?_)
  refine wpAny_bind (wpAny_typeOf hTs ?_)
  rw [if_pos (by decide)]
  refine wpAny_bind (sliceApplied_gen hs pl pu ?_)
  have hno : ¬ ((((sIx items.size 0 lo : Nat) : Int) == 0 && (1 : Int) == 1 && (sIx items.size items.size hi - sIx items.size 0 lo) == items.size) = true) := by
    intro q
    rw [Bool.and_eq_true, Bool.and_eq_true] at q
    have q1 : ((sIx items.size 0 lo : Nat) : Int) = 0 := eq_of_beq q.1.1
    have q2 : sIx items.size items.size hi - sIx items.size 0 lo = items.size := eq_of_beq q.2
    exact hw ⟨by omega, by omega⟩
  show wpAny _ _ (if (((sIx items.size 0 lo : Nat) : Int) == 0 && (1 : Int) == 1 && (sIx items.size items.size hi - sIx items.size 0 lo) == items.size) = true then _ else _) _ _ s
  rw [if_neg hno, pick_gen]
  first
    | exact wpAny_bind (m := Builtin.Tuple.tupleExact _) (wpAny_newObj_type (wpAny_pure ⟨_, rfl, wpAny_pure h⟩) htake)
    | exact wpAny_bind (m := Builtin.Tuple.tupleExact _) (wpAny_newObj_type (wpAny_bind (wpAny_pure (wpAny_pure ⟨_, rfl, wpAny_pure h⟩))) htake)
    | exact wpAny_bind (wpAny_bind (m := Builtin.Tuple.tupleExact _) (wpAny_newObj_type (wpAny_pure (wpAny_pure ⟨_, rfl, wpAny_pure h⟩)) htake))
    | exact wpAny_bind (wpAny_bind (m := Builtin.Tuple.tupleExact _) (wpAny_newObj_type (wpAny_pure ⟨_, rfl, wpAny_pure h⟩) htake))
end
end HT

namespace L2
open PySem PySem.Spec PyProof.Rows

noncomputable abbrev TO := St → Hp → (Option Int → Hp → Prop) → Prop
noncomputable def PO (X : Cx) (e : Option Expr) (t : TO) : Prop :=
  ∀ (pins : List (Addr × Obj)) (s : Shared) (σ : St) (H : Hp) (Q : Option Int → Hp → Prop), Inv X pins σ H s → t σ H Q →
    wpAny (model X.prog X.w) X.A (evalPart e X.env) (fun u s' => ∃ o H', Inv X pins σ H' s' ∧ IsPart u o ∧ Q o H') X.xe s
noncomputable def tNoPart : TO := fun _ H Q => Q none H
noncomputable def tPart (t : TE) : TO := fun σ H Q => t σ H fun x H1 => ∃ i, x = .int i ∧ Q (some i) H1

section
variable {X : Cx} {e : Expr} {te : TE} {lo hi : Option Expr} {tl th : TO} {pos p2 : Pos}

theorem po_none : PO X none tNoPart := by
  intro pins s σ H Q I h
  rw [evalPart_none]
  exact wpAny_pure ⟨none, H, I, .none, h⟩
theorem po_some (h : PE X e te) : PO X (some e) (tPart te) := by
  intro pins s σ H Q I hw
  rw [evalPart_some]
  refine thn (h pins s σ H _ I hw) fun u s1 ⟨x, H1, I1, r1, q1⟩ => ?_
  obtain ⟨i, rfl, q⟩ := q1
  obtain ⟨t, rfl⟩ := r1
  exact ⟨some i, H1, I1, .int i t, q⟩

noncomputable def SlR (X : Cx) (r : V → Option Int → Option Int → Hp → VK → Prop) : Prop :=
  ∀ (pins : List (Addr × Obj)) (s : Shared) (σ : St) (H : Hp) (x : V) (v vl vu : Value) (lo hi : Option Int) (sl : Addr) (Q : VK), Inv X pins σ H s → RelV x v → s.heap.IsSliceOf sl vl vu .none → IsPart vl lo → IsPart vu hi → r x lo hi H Q →
    ∃ T id, typeLookup (.type T) "__getitem__" = pure (some (.builtin id)) ∧ s.TypeIs v T ∧ wpAny (model X.prog X.w) X.A (getItem v (.ref sl)) (EP X pins σ Q) X.xe s
theorem SlR.or {r r' : V → Option Int → Option Int → Hp → VK → Prop} (h : SlR X r) (h' : SlR X r') : SlR X (fun x lo hi H Q => r x lo hi H Q ∨ r' x lo hi H Q) := by
  intro pins s σ H x v vl vu lo hi sl Q I rx hs pl pu q
  rcases q with q | q
  · exact h pins s σ H x v vl vu lo hi sl Q I rx hs pl pu q
  · exact h' pins s σ H x v vl vu lo hi sl Q I rx hs pl pu q
noncomputable def tSl (r : V → Option Int → Option Int → Hp → VK → Prop) (te : TE) (tl th : TO) : TE := fun σ H Q => te σ H fun x H1 => tl σ H1 fun l H2 => th σ H2 fun u H3 => r x l u H3 Q
theorem pe_slice {r : V → Option Int → Option Int → Hp → VK → Prop} (hr : SlR X r) (he : PE X e te) (hl : PO X lo tl) (hu : PO X hi th) : PE X (.Subscript e (.Slice lo hi none p2) pos) (tSl r te tl th) := by
  intro pins s σ H Q I h
  refine Subscript_ (thn (he pins s σ H _ I h) fun v s1 ⟨x, H1, I1, r1, q1⟩ => ?_)
  refine wpAny_Slice (thn (hl pins s1 σ H1 _ I1 q1) fun vl s2 ⟨l, H2, I2, pl, q2⟩ => thn (hu pins s2 σ H2 _ I2 q2) fun vu s3 ⟨u, H3, I3, pu, q3⟩ => ?_)
  rw [evalPart_none]
  refine wpAny_pure ?_
  have I4 : Inv X pins σ H3 { s3 with heap := s3.heap.push { cls := .type "slice", data := .fields #[vl, vu, .none] } } := I3.kept (t' := s3.toks) fun b ob q => Heap.get?_push_of_some _ q
  obtain ⟨T, id, hT, ht, hg⟩ := hr pins { s3 with heap := s3.heap.push { cls := .type "slice", data := .fields #[vl, vu, .none] } } σ H3 x v vl vu l u s3.heap.objs.size Q I4 r1 (Heap.IsSliceOf.new ..) pl pu q3
  show wpAny (model X.prog X.w) X.A (subscriptTail e (.Slice lo hi none p2) v (.ref s3.heap.objs.size)) (EP X pins σ Q) X.xe { s3 with heap := s3.heap.push { cls := .type "slice", data := .fields #[vl, vu, .none] } }
  exact tail_any (ops := [.ref s3.heap.objs.size, v]) ht hT hg (by with_unfolding_all rfl)

noncomputable def cutV (xs : List V) (lo hi : Option Int) : List V := (xs.drop (HT.sIx xs.length 0 lo)).take (HT.sIx xs.length xs.length hi - HT.sIx xs.length 0 lo)
theorem cutV_length (xs : List V) (lo hi : Option Int) : (cutV xs lo hi).length ≤ xs.length := by
  unfold cutV
  rw [List.length_take, List.length_drop]
  omega
noncomputable def rSlT (K : PySem.W.Frag) : V → Option Int → Option Int → Hp → VK → Prop := fun x lo hi H Q => ∃ a xs, x = .ref a ∧ SqT K H a xs ∧
  ¬ (HT.sIx xs.length 0 lo = 0 ∧ HT.sIx xs.length xs.length hi = xs.length) ∧ ∀ p, H p = none → Q (.ref p) (upd H p (.tup (cutV xs lo hi)))
theorem sl_tup : SlR X (rSlT X.K) := by
  intro pins s σ H x v vl vu lo hi sl Q I rx hs pl pu h
  obtain ⟨a, xs, rfl, hx, hw, q⟩ := h
  cases rx
  obtain ⟨its, r, ht, hz⟩ := I.tuple hx
  have hlen : its.toArray.size = xs.length := by rw [List.size_toArray]; exact r.length.symm
  refine ⟨"tuple", _, PyProof.Rows.slot_tuple_getitem.lookup, ht.typeIs, ?_⟩
  refine HT.getItem_tuple_cut ht hs pl pu (by rw [hlen]; exact hw) ?_ (by rw [hlen]; exact hz)
  rw [hlen]
  refine ⟨.ref s.heap.objs.size, _, I.laid (t' := s.toks) (o := .tup (cutV xs lo hi)) (fun b ob q => Heap.get?_push_of_some _ q) (Nat.le_refl _) ?_, rfl, q _ (I.hok.fresh (Nat.le_refl _))⟩
  exact ⟨Nat.le_trans (cutV_length xs lo hi) hz, _, (r.drop (HT.sIx xs.length 0 lo)).take (HT.sIx xs.length xs.length hi - HT.sIx xs.length 0 lo), IsTup.new _ _⟩

noncomputable def rCatT (K : PySem.W.Frag) : R2 := fun x y H Q => ∃ a b xs ys, x = .ref a ∧ y = .ref b ∧ SqT K H a xs ∧ SqT K H b ys ∧ xs ≠ [] ∧ xs.length + ys.length ≤ sizeLine ∧
  (ys = [] → Q (.ref a) H) ∧ (ys ≠ [] → ∀ p, H p = none → Q (.ref p) (upd H p (.tup (xs ++ ys))))
theorem Vals.nil_iff {xs : List V} {us : List Value} (r : Vals xs us) : us = [] ↔ xs = [] := by
  cases r with
  | nil => simp
  | cons _ _ => simp
theorem op_catT : OpR X (binaryOp .Add) (rCatT X.K) := by
  intro pins s σ H x y v u Q I rx ry h
  obtain ⟨a, b, xs, ys, rfl, rfl, ha, hb, hx, hz, q1, q2⟩ := h
  cases rx
  cases ry
  obtain ⟨its, r1, p1, _⟩ := I.tuple ha
  obtain ⟨its2, r2, p2, _⟩ := I.tuple hb
  refine HT.cat_tup p1 p2 (fun z => hx (r1.nil_iff.mp z)) (fun z => ⟨.ref a, H, I, rfl, q1 (r2.nil_iff.mp z)⟩) (fun z => ?_) (by rw [← r1.length, ← r2.length]; exact hz)
  refine ⟨.ref s.heap.objs.size, _, I.laid (t' := s.toks) (o := .tup (xs ++ ys)) (fun b ob q => Heap.get?_push_of_some _ q) (Nat.le_refl _) ?_, rfl, q2 (fun w => z (r2.nil_iff.mpr w)) _ (I.hok.fresh (Nat.le_refl _))⟩
  exact ⟨by rw [List.length_append]; exact hz, _, r1.append r2, IsTup.new _ _⟩
end
end L2

namespace L2
open PySem PySem.Spec PyProof.Rows

noncomputable def ixN (n : Nat) (i : Int) : Option Nat := if 0 ≤ i then (if i < n then some i.toNat else none) else if -(n : Int) ≤ i then some (i + n).toNat else none
noncomputable def atI {α : Type} (xs : List α) (i : Int) : Option α := (ixN xs.length i).bind fun j => xs[j]?
theorem ixN_seq {n : Nat} {i : Int} {j : Nat} (h : ixN n i = some j) : seqIndex? i n = some j ∧ j < n ∧ -(n : Int) ≤ i ∧ i < n := by
  unfold ixN at h
  by_cases h0 : 0 ≤ i
  · rw [if_pos h0] at h
    by_cases h1 : i < n
    · rw [if_pos h1] at h
      have e : i.toNat = j := Option.some.inj h
      exact ⟨by rw [seqIndex_of h0 h1, e], by omega, by omega, h1⟩
    · rw [if_neg h1] at h; cases h
  · rw [if_neg h0] at h
    by_cases h1 : -(n : Int) ≤ i
    · rw [if_pos h1] at h
      have e : (i + n).toNat = j := Option.some.inj h
      exact ⟨by rw [seqIndex_neg (by omega) h1, e], by omega, h1, by omega⟩
    · rw [if_neg h1] at h; cases h
theorem atI_get {α : Type} {xs : List α} {i : Int} {v : α} (h : atI xs i = some v) : ∃ j, seqIndex? i xs.length = some j ∧ xs[j]? = some v ∧ j < xs.length ∧ -(xs.length : Int) ≤ i ∧ i < xs.length := by
  unfold atI at h
  cases e : ixN xs.length i with
  | none => rw [e] at h; cases h
  | some j =>
    rw [e] at h
    obtain ⟨h1, h2, h3, h4⟩ := ixN_seq e
    exact ⟨j, h1, h, h2, h3, h4⟩
noncomputable def PlainIx (b : Expr) : Prop := ∀ o i, subscripted b false o i = operate [o, i] (getItem o i)
noncomputable def IxR (X : Cx) (r : R2) : Prop :=
  ∀ (value slice : Expr) (pins : List (Addr × Obj)) (s : Shared) (σ : St) (H : Hp) (x y : V) (v u : Value) (Q : VK), Inv X pins σ H s → RelV x v → RelV y u → r x y H Q →
    subscripted slice false v u = operate [v, u] (getItem v u) → wpAny (model X.prog X.w) X.A (subscriptTail value slice v u) (EP X pins σ Q) X.xe s
noncomputable def MtR (X : Cx) (id : String) (r : V → List V → Hp → VK → Prop) : Prop :=
  ∀ (pins : List (Addr × Obj)) (s : Shared) (σ : St) (H : Hp) (x : V) (xs : List V) (v : Value) (us : List Value) (Q : VK), Inv X pins σ H s → RelV x v → Vals xs us → r x xs H Q →
    wpAny (model X.prog X.w) X.A (call (.builtin id) (v :: us)) (EP X pins σ Q) X.xe s
section
variable {X : Cx} {a b : Expr} {ta tb : TE} {pos : Pos}
theorem IxR.or {r r' : R2} (h : IxR X r) (h' : IxR X r') : IxR X (fun x y H Q => r x y H Q ∨ r' x y H Q) := by
  intro value slice pins s σ H x y v u Q I rx ry q hs
  rcases q with q | q
  · exact h value slice pins s σ H x y v u Q I rx ry q hs
  · exact h' value slice pins s σ H x y v u Q I rx ry q hs
theorem MtR.or {id : String} {r r' : V → List V → Hp → VK → Prop} (h : MtR X id r) (h' : MtR X id r') : MtR X id (fun x xs H Q => r x xs H Q ∨ r' x xs H Q) := by
  intro pins s σ H x xs v us Q I rx rs q
  rcases q with q | q
  · exact h pins s σ H x xs v us Q I rx rs q
  · exact h' pins s σ H x xs v us Q I rx rs q
theorem pe_ix {r : R2} (hr : IxR X r) (ha : PE X a ta) (hb : PE X b tb) (hs : PlainIx b) : PE X (.Subscript a b pos) (tOp r ta tb) := by
  intro pins s σ H Q I h
  exact Subscript_ (binT ha hb I h fun v u s2 x y H2 I2 rx ry q => hr a b pins s2 σ H2 x y v u Q I2 rx ry q (hs _ _))

noncomputable def rIxL (K : PySem.W.Frag) : R2 := fun x y H Q => ∃ p xs i v, x = .ref p ∧ y = .int i ∧ SqL K H p xs ∧ atI xs i = some v ∧ Q v H
noncomputable def rIxT (K : PySem.W.Frag) : R2 := fun x y H Q => ∃ p xs i v, x = .ref p ∧ y = .int i ∧ SqT K H p xs ∧ atI xs i = some v ∧ Q v H
noncomputable def rIxS : R2 := fun x y H Q => ∃ z i c, x = .str z ∧ y = .int i ∧ z.length ≤ sizeLine ∧ atI z.cps.toList i = some c ∧ Q (.str ⟨#[c]⟩) H
theorem ix_list : IxR X (rIxL X.K) := by
  intro value slice pins s σ H x y v u Q I rx ry h hs
  obtain ⟨p, xs, i, z, rfl, rfl, hq, he, q⟩ := h
  cases rx
  obtain ⟨t, rfl⟩ := ry
  obtain ⟨its, r, pl, hz⟩ := I.list hq
  obtain ⟨j, h1, h2, h3, h4, h5⟩ := atI_get he
  obtain ⟨w, ew, rw'⟩ := r.get h2
  have hl := r.length
  have hn := line63
  have fin : EP X pins σ Q w s := ⟨z, H, I, rw', q⟩
  by_cases h0 : 0 ≤ i
  · have hj : i.toNat = j := by
      rw [seqIndex_of h0 h5] at h1
      exact Option.some.inj h1
    exact item_listR pl.isList h0 (by omega) (by rw [hj]; simpa using ew) fin hs
  · have hj : (i + (its.toArray.size : Int)).toNat = j := by
      rw [seqIndex_neg (by omega) h4] at h1
      rw [List.size_toArray, ← hl]
      exact Option.some.inj h1
    exact subscriptTail_builtinR (x := w) pl.isList.typeIs slot_list_getitem.lookup
      (wpAny_getItem_list_neg (Q := fun r s' => r = w ∧ EP X pins σ Q r s') pl.isList (by omega) (by rw [List.size_toArray] <;> omega) (by omega) (by rw [hj]; simpa using ew) ⟨rfl, fin⟩) hs
theorem ix_tup : IxR X (rIxT X.K) := by
  intro value slice pins s σ H x y v u Q I rx ry h hs
  obtain ⟨p, xs, i, z, rfl, rfl, hq, he, q⟩ := h
  cases rx
  obtain ⟨t, rfl⟩ := ry
  obtain ⟨its, r, pl, hz⟩ := I.tuple hq
  obtain ⟨j, h1, h2, h3, h4, h5⟩ := atI_get he
  obtain ⟨w, ew, rw'⟩ := r.get h2
  have hl := r.length
  have hn := line63
  have fin : EP X pins σ Q w s := ⟨z, H, I, rw', q⟩
  exact subscriptTail_builtinR (x := w) pl.typeIs slot_tuple_getitem.lookup
    (getItem_tuple (j := j) (Q := fun r s' => r = w ∧ EP X pins σ Q r s') pl (by omega) (by omega) (by rw [List.size_toArray, ← hl]; exact h1) (by simpa using ew) ⟨rfl, fin⟩) hs
theorem ix_str : IxR X rIxS := by
  intro value slice pins s σ H x y v u Q I rx ry h hs
  obtain ⟨z, i, c, rfl, rfl, hz, he, q⟩ := h
  obtain ⟨t, rfl⟩ := rx
  obtain ⟨t', rfl⟩ := ry
  obtain ⟨j, h1, h2, h3, h4, h5⟩ := atI_get he
  have hl : z.cps.toList.length = z.length := by simp [Str.length]
  rw [hl] at h1 h4 h5
  have hn := line63
  exact tail_any (typeIs_str s z t) slot_str_getitem.lookup (getItem_str (c := c) (by
    have e1 : decide (i < -(2 ^ 63 : Int)) = false := decide_eq_false (by omega)
    have e2 : decide (i ≥ 2 ^ 63) = false := decide_eq_false (by omega)
    rw [e1, e2, Bool.or_false]) (by rw [h1]; simpa using h2) ⟨.str ⟨#[c]⟩, H, I.tok _, ⟨_, rfl⟩, q⟩) hs
noncomputable def rIx (K : PySem.W.Frag) : R2 := fun x y H Q => rIxL K x y H Q ∨ rIxT K x y H Q ∨ rIxS x y H Q
theorem ix_seq : IxR X (rIx X.K) := ix_list.or (ix_tup.or ix_str)

theorem mapSeq_set (its : List Value) (n j : Nat) (u : Value) : Obj.mapSeq (·.setIfInBounds j u) { cls := .type "list", data := .seq its.toArray n } = { cls := .type "list", data := .seq (its.set j u).toArray n } := by
  simp [Obj.mapSeq]
theorem Inv.lst {pins : List (Addr × Obj)} {σ : St} {H : Hp} {s : Shared} {p : Addr} {xs : List V} (I : Inv X pins σ H s) (h : H p = some (.lst xs)) :
    ∃ (its : List Value) (n : Nat), Vals xs its ∧ s.heap.get? p = some { cls := .type "list", data := .seq its.toArray n } ∧ xs.length ≤ sizeLine := by
  obtain ⟨z, its, n, r, e⟩ := I.hok p _ h
  exact ⟨its, n, r, e, z⟩
theorem Inv.lstUpd {pins : List (Addr × Obj)} {σ : St} {H : Hp} {s : Shared} {p : Addr} {xs ys : List V} {its its' : List Value} {n n' : Nat} {f : Obj → Obj} (I : Inv X pins σ H s) (h : H p = some (.lst xs))
    (ho : s.heap.get? p = some { cls := .type "list", data := .seq its.toArray n }) (hf : f { cls := .type "list", data := .seq its.toArray n } = { cls := .type "list", data := .seq its'.toArray n' }) (r : Vals ys its') (hz : ys.length ≤ sizeLine) (t : Nat) :
    Inv X pins σ (upd H p (.lst ys)) { s with heap := s.heap.update p f, toks := t } := by
  have e : (s.heap.update p f).get? p = some { cls := .type "list", data := .seq its'.toArray n' } := by
    rw [Heap.get?_update_self f ho (by rw [hf] <;> rfl), hf]
  refine I.write (x := p) (e := p) (by rw [h]; trivial) (.inl rfl) (fun b u hb q => (Heap.get?_update_other _ _ (Ne.symm hb)).trans q) ⟨_, e⟩ ?_
  exact ⟨hz, its', n', r, e⟩
noncomputable def rSetL : V → V → V → Hp → (Hp → Prop) → Prop := fun o i v H Q => ∃ p xs k j, o = .ref p ∧ i = .int k ∧ H p = some (.lst xs) ∧ ixN xs.length k = some j ∧ Q (upd H p (.lst (xs.set j v)))
theorem set_list : PSet X rSetL := by
  intro pins s σ H o i v ov iv u Q I ro ri rv h
  obtain ⟨p, xs, k, j, rfl, rfl, hp, hj, q⟩ := h
  cases ro
  obtain ⟨t, rfl⟩ := ri
  obtain ⟨its, n, r, ho, hz⟩ := I.lst hp
  obtain ⟨h1, h2, h3, h4⟩ := ixN_seq hj
  have hl := r.length
  have hn := line63
  have I' : Inv X pins σ (upd H p (.lst (xs.set j v))) { s with heap := s.heap.update p (Obj.mapSeq (·.setIfInBounds j u)) } :=
    I.lstUpd hp ho (mapSeq_set its n j u) (r.set rv j) (by rw [List.length_set]; exact hz) s.toks
  by_cases h0 : 0 ≤ k
  · have hk : k.toNat = j := by
      rw [seqIndex_of h0 h4] at h1
      exact Option.some.inj h1
    exact PySem.W.ki_setAt ho h0 (by omega) (by rw [List.size_toArray, ← hl]; exact h4) (by rw [hk]; exact ⟨_, I', q⟩)
  · have hk : (k + (its.toArray.size : Int)).toNat = j := by
      rw [seqIndex_neg (by omega) h3] at h1
      rw [List.size_toArray, ← hl]
      exact Option.some.inj h1
    exact PySem.W.ki_setBack ho (by omega) (by rw [List.size_toArray, ← hl]; exact h3) (by omega) (by rw [hk]; exact ⟨_, I', q⟩)

theorem slice_bounds (lo hi : Option Int) (n : Nat) : (sliceBounds lo hi none n).1 = ((HT.sIx n 0 lo : Nat) : Int) ∧ (sliceBounds lo hi none n).2.1 = ((HT.sIx n n hi : Nat) : Int) ∧ (sliceBounds lo hi none n).2.2 = 1 := by
  refine ⟨?_, ?_, rfl⟩
  · cases lo with
    | none => simp [sliceBounds, HT.sIx]
    | some i =>
      simp only [sliceBounds, HT.sIx, Option.getD_none, show (1 : Int) > 0 by decide, if_true]
      by_cases h : i < 0
      · simp only [h, if_true] <;> omega
      · simp only [h, if_false] <;> omega
  · cases hi with
    | none => simp [sliceBounds, HT.sIx]
    | some i =>
      simp only [sliceBounds, HT.sIx, Option.getD_none, show (1 : Int) > 0 by decide, if_true]
      by_cases h : i < 0
      · simp only [h, if_true] <;> omega
      · simp only [h, if_false] <;> omega
theorem slicePick_cut (its : List Value) (lo hi : Option Int) : slicePick its.toArray lo hi none = ((its.drop (HT.sIx its.length 0 lo)).take (HT.sIx its.length its.length hi - HT.sIx its.length 0 lo)).toArray := by
  obtain ⟨h1, h2, h3⟩ := slice_bounds lo hi its.toArray.size
  unfold slicePick
  rw [h1, h2, h3]
  simp only [sliceRange_one, pick_run, List.size_toArray] <;> rfl
noncomputable def rSlL (K : PySem.W.Frag) : V → Option Int → Option Int → Hp → VK → Prop := fun x lo hi H Q => ∃ a xs, x = .ref a ∧ SqL K H a xs ∧ ∀ p, H p = none → Q (.ref p) (upd H p (.lst (cutV xs lo hi)))
theorem sl_list : SlR X (rSlL X.K) := by
  intro pins s σ H x v vl vu lo hi sl Q I rx hs pl pu h
  obtain ⟨a, xs, rfl, hx, q⟩ := h
  cases rx
  obtain ⟨its, r, ht, hz⟩ := I.list hx
  have hlen := r.length
  refine ⟨"list", _, slot_list_getitem.lookup, ht.isList.typeIs, ?_⟩
  refine wpAny_getItem_list_slice ht.isList hs pl pu .none (by simp) ?_ (by rw [List.size_toArray] <;> omega)
  rw [slicePick_cut, ← hlen]
  refine ⟨.ref s.heap.objs.size, _, I.laid (t' := s.toks) (o := .lst (cutV xs lo hi)) (fun b ob q => Heap.get?_push_of_some _ q) (Nat.le_refl _) ?_, rfl, q _ (I.hok.fresh (Nat.le_refl _))⟩
  exact ⟨Nat.le_trans (cutV_length xs lo hi) hz, _, 0, (r.drop (HT.sIx xs.length 0 lo)).take (HT.sIx xs.length xs.length hi - HT.sIx xs.length 0 lo), Heap.get?_push_size _ rfl⟩

theorem CallR.or {f : Value} {r r' : List V → Hp → VK → Prop} (h : CallR X f r) (h' : CallR X f r') : CallR X f (fun xs H Q => r xs H Q ∨ r' xs H Q) := by
  intro pins s σ H xs us Q I rs q
  rcases q with q | q
  · exact h pins s σ H xs us Q I rs q
  · exact h' pins s σ H xs us Q I rs q
theorem call_list_of : CallR X (.type "list") (fun xs H Q => ∃ p ys, xs = [.ref p] ∧ (SqL X.K H p ys ∨ SqT X.K H p ys) ∧ ∀ l, H l = none → Q (.ref l) (upd H l (.lst ys))) := by
  intro pins s σ H xs us Q I r h
  obtain ⟨p, ys, rfl, hq, q⟩ := h
  obtain ⟨u, rfl, rx⟩ := vals1 r
  cases rx
  have fin : ∀ (its : List Value), Vals ys its → ys.length ≤ sizeLine → ∀ (h' : Heap) (c' : Nat), (∀ b o', s.heap.get? b = some o' → h'.get? b = some o') →
      h'.get? s.heap.objs.size = some { cls := .type "list", dict := none, data := .seq its.toArray c', slots := #[] } → EP X pins σ Q (.ref s.heap.objs.size) { s with heap := h' } := fun its r' hz h' c' kp e =>
    ⟨.ref s.heap.objs.size, _, I.laid (t' := s.toks) kp (Nat.le_refl _) (show ObjOk X.prog X.w _ h' _ (.lst ys) from ⟨hz, its, c', r', e⟩), rfl, q _ (I.hok.fresh (Nat.le_refl _))⟩
  rcases hq with hq | hq
  · obtain ⟨its, r', pl, hz⟩ := I.list hq
    have hlen := r'.length
    obtain ⟨o, ho, hc, n, hd⟩ := pl.isList
    exact call_list_seq p (.inl rfl) ho hc hd (fun h' c' kp e => fin its r' hz h' c' kp e) (by simp only [List.size_toArray] <;> omega)
  · obtain ⟨its, r', pl, hz⟩ := I.tuple hq
    have hlen := r'.length
    obtain ⟨o, ho, hc, n, hd⟩ := pl
    exact call_list_seq p (.inr rfl) ho hc hd (fun h' c' kp e => fin its r' hz h' c' kp e) (by simp only [List.size_toArray] <;> omega)
theorem call_tuple_of : CallR X (.type "tuple") (fun xs H Q => ∃ p ys, xs = [.ref p] ∧ ((SqL X.K H p ys ∧ ∀ l, H l = none → Q (.ref l) (upd H l (.tup ys))) ∨ (SqT X.K H p ys ∧ Q (.ref p) H))) := by
  intro pins s σ H xs us Q I r h
  obtain ⟨p, ys, rfl, h⟩ := h
  obtain ⟨u, rfl, rx⟩ := vals1 r
  cases rx
  rcases h with ⟨hq, q⟩ | ⟨hq, q⟩
  · obtain ⟨its, r', pl, hz⟩ := I.list hq
    have hlen := r'.length
    refine call_tuple_list pl.isList (fun h' kp => ?_) (by simp only [List.size_toArray] <;> omega)
    have I1 : Inv X pins σ H { s with heap := h' } := I.kept (t' := s.toks) kp
    have I2 : Inv X pins σ (upd H h'.objs.size (.tup ys)) { s with heap := h'.push { cls := .type "tuple", data := .seq its.toArray } } :=
      I1.laid (t' := s.toks) (fun b o e => Heap.get?_push_of_some _ e) (Nat.le_refl _) (show ObjOk X.prog X.w _ _ _ (.tup ys) from ⟨hz, its, r', IsTup.new _ _⟩)
    exact ⟨.ref h'.objs.size, _, I2, rfl, q _ (I1.hok.fresh (Nat.le_refl _))⟩
  · obtain ⟨its, r', pl, hz⟩ := I.tuple hq
    exact call_tuple_same pl ⟨.ref p, H, I, rfl, q⟩

noncomputable def tyV (K : PySem.W.Frag) (T : String) (x : V) (H : Hp) : Prop := match x with
  | .str _ => T = "str"
  | .int _ => T = "int"
  | .ref p => (T = "list" ∧ ∃ xs, SqL K H p xs) ∨ (T = "tuple" ∧ ∃ o, K.lookup p = some o ∧ o.cls = .type "tuple" ∧ o.dict = none) ∨
      (T = "dict" ∧ ((∃ kvs, H p = some (.dK kvs)) ∨ ∃ kvs, H p = some (.dT kvs))) ∨ (T = "set" ∧ ∃ S n, H p = some (.set S n))
  | _ => False
theorem tyV_is {pins : List (Addr × Obj)} {σ : St} {H : Hp} {s : Shared} {T : String} {x : V} {v : Value} (I : Inv X pins σ H s) (r : RelV x v) (ty : tyV X.K T x H) :
    s.TypeIs v T ∧ ∀ a, v = .ref a → ∃ ob, s.heap.get? a = some ob ∧ ob.dict = none := by
  cases x with
  | str z =>
    obtain ⟨t, rfl⟩ := r
    cases (show T = "str" from ty)
    exact ⟨typeIs_str s z t, fun _ e => nomatch e⟩
  | int i =>
    obtain ⟨t, rfl⟩ := r
    cases (show T = "int" from ty)
    exact ⟨typeIs_int s i t, fun _ e => nomatch e⟩
  | ref p =>
    cases r
    rcases ty with ⟨rfl, xs, hq⟩ | ⟨rfl, o, hk, hc, hd⟩ | ⟨rfl, hk⟩ | ⟨rfl, S, n, hk⟩
    · obtain ⟨its, _, pl, _⟩ := I.list hq
      refine ⟨pl.isList.typeIs, fun a e => ?_⟩
      cases e
      obtain ⟨o, n, e, c, hd, _⟩ := pl
      exact ⟨o, e, hd⟩
    · refine ⟨⟨o, I.kIn p o hk, hc⟩, fun a e => ?_⟩
      cases e
      exact ⟨o, I.kIn _ o hk, hd⟩
    · have z : ∃ o, s.heap.get? p = some o ∧ o.ExactDict := by
        rcases hk with ⟨kvs, hk⟩ | ⟨kvs, hk⟩
        · obtain ⟨_, _, _, _, o, _, _, e, ex, _⟩ := I.hok p _ hk
          exact ⟨o, e, ex⟩
        · obtain ⟨_, _, _, _, o, _, _, e, ex, _⟩ := I.hok p _ hk
          exact ⟨o, e, ex⟩
      obtain ⟨o, e, ex⟩ := z
      refine ⟨⟨o, e, ex.1⟩, fun a e2 => ?_⟩
      cases e2
      exact ⟨o, e, ex.2.1⟩
    · obtain ⟨o, _, _, _, e, ex, _⟩ := I.hok p _ hk
      refine ⟨⟨o, e, ex.1⟩, fun a e2 => ?_⟩
      cases e2
      exact ⟨o, e, ex.2.1⟩
  | _ => exact False.elim ty
noncomputable def tBM0 (K : PySem.W.Frag) (T : String) (r : V → List V → Hp → VK → Prop) (to : TE) : TE := fun σ H Q => to σ H fun x H1 => tyV K T x H1 ∧ r x [] H1 Q
noncomputable def tBM (K : PySem.W.Frag) (T : String) (r : V → List V → Hp → VK → Prop) (to : TE) (t : TA) : TE := fun σ H Q => to σ H fun x H1 => tyV K T x H1 ∧ t σ H1 fun xs H2 => r x xs H2 Q
variable {o e : Expr} {es : List Expr} {to : TE} {t : TA} {name : Str} {apos cpos : Pos} {T id : String} {r : V → List V → Hp → VK → Prop}
theorem pe_bm0 (pa : PlainAttrs T) (slot : Slot T name id) (hty : typeOf (.builtin id) = pure (.type "method_descriptor")) (hm : MtR X id r) (ho : PE X o to)
    (hbase : attributeBase o name X.env (eval o X.env) = eval o X.env := by rfl) (hline : (apos.endLine == cpos.line) = true := by rfl) : PE X (.Call (.Attribute o name apos) [] [] cpos) (tBM0 X.K T r to) := by
  intro pins s σ H Q I h
  refine wpAny_Call_method0_late hbase hline (thn (ho pins s σ H _ I h) fun v s1 ⟨x, H1, I1, r1, ty, q1⟩ => ?_)
  obtain ⟨h1, h2⟩ := tyV_is I1 r1 ty
  exact ⟨T, id, pa, slot, hty, h1, h2, Calls.callWith_builtin rfl (PySem.evalArgs_none (hm pins s1 σ H1 x [] v [] Q I1 r1 .nil q1))⟩
theorem pe_bm (pa : PlainAttrs T) (slot : Slot T name id) (hty : typeOf (.builtin id) = pure (.type "method_descriptor")) (hm : MtR X id r) (ho : PE X o to) (ha : PA X (e :: es) t)
    (hbase : attributeBase o name X.env (eval o X.env) = eval o X.env := by rfl)
    (hfew : ((backTo cpos (starEach (e :: es) X.env)).all (fun x => !x.1) && (backToKw cpos (keywordEach [] X.env)).all (fun x => x.1.isSome)
      && decide ((e :: es).length + ([] : List Keyword).length + (if ([] : List Keyword).isEmpty then 0 else 1) < 30)) = true := by rfl)
    (hline : (apos.endLine == cpos.line) = true := by rfl) (hs : starEach (e :: es) X.env = (false, eval e X.env) :: starEach es X.env := by rfl) (hplain : (backTo cpos (starEach es X.env)).any (·.1) = false := by rfl) :
    PE X (.Call (.Attribute o name apos) (e :: es) [] cpos) (tBM X.K T r to t) := by
  intro pins s σ H Q I h
  refine wpAny_Call_method_late hbase hfew hline rfl (thn (ho pins s σ H _ I h) fun v s1 ⟨x, H1, I1, r1, ty, q1⟩ => ?_)
  obtain ⟨h1, h2⟩ := tyV_is I1 r1 ty
  refine ⟨T, id, pa, slot, hty, h1, h2, ?_⟩
  have hA := ha cpos pins s1 σ H1 _ I1 q1
  rw [hs] at hA ⊢
  refine Calls.callWith_builtin (by show (false || (backTo cpos (starEach es X.env)).any (·.1)) = false; rw [hplain] <;> rfl) (Calls.evalArgs_plain ?_)
  exact thn hA fun us s2 ⟨vs, H2, I2, r2, q2⟩ => hm pins s2 σ H2 x vs v us Q I2 r1 r2 q2
/- xs.append(e), list.index on a module's tuple .. are MtR facts of 06m -/
end
end L2

namespace L2
open PySem PySem.Spec PyProof.Rows

noncomputable def MtM (X : Cx) (id : String) (r : V → List V → Hp → VK → Prop) : Prop :=
  ∀ (pins : List (Addr × Obj)) (s : Shared) (σ : St) (H : Hp) (x : V) (xs : List V) (v : Value) (us : List Value) (Q : VK), Inv X pins σ H s → RelV x v → Vals xs us → r x xs H Q →
    wpAny (model X.prog X.w) X.A (call (.builtin id) (v :: us)) (EP X pins σ Q) X.xe s

theorem Vals.one : ∀ {x : V} {us : List Value}, Vals [x] us → ∃ u, us = [u] ∧ RelV x u
  | _, _, .cons r .nil => ⟨_, rfl, r⟩
theorem Vals.two : ∀ {x y : V} {us : List Value}, Vals [x, y] us → ∃ u v, us = [u, v] ∧ RelV x u ∧ RelV y v
  | _, _, _, .cons r (.cons q .nil) => ⟨_, _, rfl, r, q⟩
theorem Vals.zero : ∀ {us : List Value}, Vals [] us → us = []
  | _, .nil => rfl
section
variable {X : Cx} {pins : List (Addr × Obj)} {σ : St} {H : Hp} {s : Shared} {l b : Addr} {xs ys zs : List V}

theorem Inv.lset {its its' : List Value} {n : Nat} {f : Array Value → Array Value} {t' : Nat} (I : Inv X pins σ H s) (hH : H l = some (.lst xs))
    (e : s.heap.get? l = some { cls := .type "list", data := .seq its.toArray n }) (hf : f its.toArray = its'.toArray) (hv : Vals ys its') (hz : ys.length ≤ sizeLine) :
    Inv X pins σ (upd H l (.lst ys)) { s with heap := s.heap.update l (Obj.mapSeq f), toks := t' } := by
  have q := PySem.IsL.update e f
  rw [hf] at q
  refine I.write (x := l) (e := l) (by rw [hH]; exact trivial) (.inl rfl) (fun b' u hb hu => (Heap.get?_update_other s.heap (Obj.mapSeq f) (Ne.symm hb)).trans hu) ⟨_, q⟩ ?_
  exact ⟨hz, its', _, hv, q⟩
theorem Inv.lnew {its : List Value} {t' : Nat} (I : Inv X pins σ H s) (hv : Vals ys its) (hz : ys.length ≤ sizeLine) :
    Inv X pins σ (upd H s.heap.objs.size (.lst ys)) { s with heap := s.heap.push { cls := .type "list", data := .seq its.toArray }, toks := t' } :=
  I.laid (fun _ _ q => Heap.get?_push_of_some _ q) (Nat.le_refl _) ⟨hz, its, 0, hv, Heap.get?_push_size _ rfl⟩
theorem Inv.fresh (I : Inv X pins σ H s) : H s.heap.objs.size = none := I.hok.fresh (Nat.le_refl _)
theorem Inv.lstM (I : Inv X pins σ H s) (hH : H l = some (.lst xs)) : xs.length ≤ sizeLine ∧ ∃ (its : List Value) (n : Nat), Vals xs its ∧ xs.length = its.length ∧ s.heap.get? l = some { cls := .type "list", data := .seq its.toArray n } := by
  obtain ⟨z, its, n, r, e⟩ := I.hok l _ hH
  exact ⟨z, its, n, r, r.length, e⟩

end

section
variable {X : Cx}

noncomputable def rAppend : V → List V → Hp → VK → Prop := fun x vs H Q => ∃ l xs y, x = .ref l ∧ vs = [y] ∧ H l = some (.lst xs) ∧ xs.length < sizeLine ∧ Q .non (upd H l (.lst (xs ++ [y])))
theorem mt_append : MtM X "list.append" rAppend := by
  intro pins s σ H x vs v us Q I rx rv h
  obtain ⟨l, xs, y, rfl, rfl, hH, hz, q⟩ := h
  cases rx
  obtain ⟨u, rfl, ru⟩ := rv.one
  obtain ⟨z, its, n, r, hl, e⟩ := I.lstM hH
  refine call_meets F.slot_list_append ⟨_, e, rfl⟩ F.entry_list_append (F.args_list_append_2 _ _) (PySem.list_append l its.toArray n u (by rw [List.size_toArray]; omega)) ⟨e, ?_⟩
  refine ⟨.non, _, I.lset (its' := its ++ [u]) hH e (by simp) (r.append (.cons ru .nil)) ?_, rfl, q⟩
  rw [List.length_append, List.length_singleton]
  omega

noncomputable def rCat : R2 := fun x y H Q => ∃ l b xs zs, x = .ref l ∧ y = .ref b ∧ H l = some (.lst xs) ∧ H b = some (.lst zs) ∧ xs.length + zs.length ≤ sizeLine ∧ ∀ p, H p = none → Q (.ref p) (upd H p (.lst (xs ++ zs)))
theorem op_cat : OpR X (binaryOp .Add) rCat := by
  intro pins s σ H x y v u Q I rx ry h
  obtain ⟨l, b, xs, zs, rfl, rfl, hH, hB, hz, q⟩ := h
  cases rx
  cases ry
  obtain ⟨z, its, n, r, hl, e⟩ := I.lstM hH
  obtain ⟨z2, its2, n2, r2, hl2, e2⟩ := I.lstM hB
  refine PySem.P.add_list e e2 ?_ (by rw [List.size_toArray, List.size_toArray]; omega)
  have ea : its.toArray ++ its2.toArray = (its ++ its2).toArray := by simp
  rw [ea]
  exact ⟨.ref _, _, I.lnew (t' := s.toks) (r.append r2) (by rw [List.length_append]; omega), rfl, q _ I.fresh⟩
end

section
variable {prog : Program} {w : World} {A : Around} {E : Value → Shared → Prop} {s : Shared}
set_option maxRecDepth 100000 in
end

section
variable {X : Cx}
end
end L2

namespace Att
open PySem PySem.W PySem.Calls PyProof.Rows

theorem ints_of_wellAll {P : Params} {h : Heap} : ∀ (ns : List Int) (vs : List Value), WellAll P h vs (ns.map WData.int) → IntsAre vs ns := by
  intro ns
  induction ns with
  | nil =>
    intro vs w
    rw [List.map_nil] at w
    cases w
    exact .nil
  | cons n ns ih =>
    intro vs w
    rw [List.map_cons] at w
    cases w with
    | cons a b =>
      cases a
      exact .cons _ _ (ih _ b)

theorem script_of {l : OpenLaw} {n : Nat} (hn : l.most = some n) {P : Params} {h : Heap} {args : List WData} {vals : List Value}
    (hpre : l.row.toRowW.claim.pre args = true) (hwl : WellAll P h vals args) :
    ∃ a vs ns, vals = [Value.ref a] ∧ args = [WData.list (ns.map WData.int)] ∧ h.get? a = some { cls := .type "list", data := .seq vs.toArray } ∧ IntsAre vs ns ∧ ns.length ≤ n := by
  have hsh : WShape.hasAll [] args [.list .int] = true := (pre_splitW hpre).1
  have hc : l.pre.holds [] { args := args } = true := (pre_splitW hpre).2
  obtain ⟨d, r, rfl, h1, h2⟩ := hasAllW_cons hsh
  obtain rfl := hasAllW_nil h2
  obtain ⟨xs, rfl, h3⟩ := hasW_list h1
  obtain ⟨ns, rfl⟩ := items_int h3
  have hlen : ns.length ≤ n := by
    unfold OpenLaw.pre at hc
    have h4 : (WTm.not (.lt (.lit (.int (n : Int))) (.len (.arg 0)))).holds [] { args := [.list (ns.map .int)] } = true := by
      have h4 := (holds_andW hc).1
      rw [hn] at h4
      exact h4
    have h5 := condW_of h4 (w_not (w_lt w_lit (w_len_list (w_arg rfl))))
    rw [List.length_map] at h5
    refine Nat.le_of_not_lt fun q => ?_
    have q' : (n : Int) < ((ns.length : Nat) : Int) := by omega
    first
      | (rw [decide_eq_true q'] at h5; exact absurd h5 (by decide))
      | (simp at h5; omega)
  cases hwl with
  | cons w1 w2 =>
    cases w2
    cases w1 with
    | list ho hall => exact ⟨_, _, ns, rfl, rfl, ho, ints_of_wellAll ns _ hall, hlen⟩

theorem post_true (l : OpenLaw) (args : List WData) : l.row.toRowW.claim.post args (.bool true) args = true :=
  postW_of (r := l.row.toRowW) (X := (true == true))
    (show WShape.has [] (.bool true) .bool = true by first | rfl | decide | simp [WShape.has, WShape.arms, WShape.armsAll])
    (show (WTm.eq .res (.lit (.bool true))).value [] { args := args, res := some (.bool true), after := args } = some (.bool (true == true)) from w_eq_bool (w_res rfl) w_lit) rfl

theorem attach_call {l : OpenLaw} {n : Nat} {q : Program} {loose : List Str} {XP : (Str → Option Value) → Heap → Prop} {YP : World → Heap → Prop} {d : DefRec}
    (hn : l.most = some n) (hdf : d.params.defaults = [])
    (call : ∀ (w : World) (s₀ s₁ : Shared) (mg mb : Str → Option Value) (fa : Addr) (o : Obj) (pm cd doc : Value) (a : Addr) (vs : List Value) (ns : List Int),
      Ground q loose [] XP w s₀ mg mb s₁.heap → YP w s₁.heap →
      s₁.heap.get? fa = some o → o.data = .func (docDef d.name d.params d.body d.scope pm cd doc) → s₁.heap.CodeRec cd d.name → mg d.name = some (.ref fa) →
      s₁.heap.get? a = some { cls := .type "list", data := .seq vs.toArray } → IntsAre vs ns → ns.length ≤ n → s₁.gens = #[] →
      codeAny (model l.prog w) callerA (.call (.ref fa) ⟨[.ref a], []⟩) (fun r s' => r = .ok (.ret (.bool true)) ∧ OldK s₁.heap s'.heap ∧ s'.os = s₁.os ∧ AllBare s'.gens) s₁) :
    WalkO q loose XP YP l.row.toRowW d [] (fun f vs => PySem.call f vs) := by
  intro w s₀ s₁ mg mb G Y fa o pm cd doc dV kV ho hd hcd hD hmg hg args vals as hpre hlay hrd hwl hlo
  obtain rfl : dV = .none := Dflts.none hD hdf
  obtain rfl : kV = .none := Dflts.noKw hD
  obtain ⟨a, vs, ns, rfl, rfl, hobj, hints, hlen⟩ := script_of hn hpre hwl
  refine enter_call (codeAny_mono (call w s₀ s₁ mg mb fa o pm cd doc a vs ns G Y ho (fd_plain hd) hcd hmg hobj hints hlen hg) fun r s' hq => ?_)
  obtain ⟨rfl, h2, h3, h4⟩ := hq
  exact ⟨.inl ⟨.bool true, .bool true, [], rfl, fun _ => rfl, .bool true, post_true l _, fun _ => ⟨List.Pairwise.nil, fun _ hm => (nomatch hm)⟩⟩, h2, h3, h4⟩

section
variable {prog : Program} {w : World} {A : Around} {E : Value → Shared → Prop} {s : Shared} {K : Frag}

noncomputable def ledger (h : Heap) (L d : Addr) : List (Addr × Obj) := (List.range h.objs.size).filterMap fun a => if a = L ∨ a = d then none else (h.get? a).map fun o => (a, o)
end
end Att

namespace L2
open PySem PySem.Spec PyProof.Rows

theorem vals_ints : ∀ {vs : List Value} {ns : List Int}, IntsAre vs ns → Vals (ns.map V.int) vs
  | _, _, .nil => .nil
  | _, _, .cons n t h => .cons ⟨t, rfl⟩ (vals_ints h)

noncomputable def Only (H : Hp) : Prop := ∀ b, H b = none ∨ ∃ o xs, H b = some (.frz o (.lst xs))

theorem law_call {P : Program} {w : World} {K : PySem.W.Frag} {mg mb : Str → Option Value} {CX : CXT} {k : Nat} {fa a : Addr} {fd : FuncData} {x : Str} {sp : Sp} {s₁ : Shared} {vs : List Value} {ns : List Int}
    (KX : K.In s₁.heap) (hns : s₁.heap.Ns mainGlobals mg) (hb : s₁.heap.Ns builtinsNs mb) (hbb : ∀ x : Str, x ≠ "__name__" → mb x = bootBuiltins x) (hlim : s₁.heap.NoLimit) (hg : s₁.gens = #[])
    (ha : s₁.heap.get? a = some { cls := .type "list", data := .seq vs.toArray }) (hi : IntsAre vs ns) (hl : ns.length ≤ sizeLine) (hr : Room k callerA)
    (F : ∀ base : Heap, K.In base → base.Ns mainGlobals mg → FnOk P w K mg base CX k fa fd [x] sp) (hbind : ∀ (s : Shared) (u : Value), BindsTo s fd ⟨[u], []⟩ [(x, u)])
    (hsp : ∀ H : Hp, Only H → SqL K H a (ns.map V.int) → sp [.ref a] H (fun v _ => v = .bl true) fun _ _ _ => False)
    (hCX : ∀ H e s', CX [] H s₁ (fun _ _ _ => False) e s' → False) :
    codeAny (model P w) callerA (.call (.ref fa) ⟨[.ref a], []⟩) (fun r s' => r = .ok (.ret (.bool true)) ∧ OldK s₁.heap s'.heap ∧ s'.os = s₁.os ∧ AllBare s'.gens) s₁ := by
  have rv := vals_ints hi
  have lenV := hi.length
  -- from an abstract heap in which nothing but the script may be tracked
  have core : ∀ H : Hp, Only H → SqL K H a (ns.map V.int) → HOk P w H s₁.heap → (∀ b, H b ≠ none → b = a) → (H a ≠ none → K.lookup a = none) →
      codeAny (model P w) callerA (.call (.ref fa) ⟨[.ref a], []⟩) (fun r s' => r = .ok (.ret (.bool true)) ∧ OldK s₁.heap s'.heap ∧ s'.os = s₁.os ∧ AllBare s'.gens) s₁ := by
    intro H hO hS hok hA hK
    have base_of : ∀ {b : Addr} {o : Obj}, s₁.heap.get? b = some o → H b = none → (hidT s₁.heap H).get? b = some o := fun e n => hidT_get e n
    have noA : ∀ {b : Addr} {o : Obj} {es : Array DictEntry} {ep : Nat}, s₁.heap.get? b = some o → o.data = .dict es ep → H b = none := fun {b o es ep} e d => by
      cases q : H b with
      | none => rfl
      | some u =>
        have e' : b = a := hA b (by rw [q]; simp)
        subst e'
        rw [ha] at e; cases e
        have d' : Data.seq vs.toArray _ = Data.dict es ep := d
        cases d'
    have nsK : ∀ {b : Addr} {m : Str → Option Value}, s₁.heap.Ns b m → (hidT s₁.heap H).Ns b m := fun {b m} ⟨o, es, ep, e, d, r⟩ => ⟨o, es, ep, base_of e (noA e d), d, r⟩
    have hKb : K.In (hidT s₁.heap H) := fun b o e => base_of (KX b o e) (by
      cases q : H b with
      | none => rfl
      | some u =>
        have e' : b = a := hA b (by rw [q]; simp)
        subst e'
        rw [hK (by rw [q]; simp)] at e; cases e)
    have hM : Mod K mg (hidT s₁.heap H) := ⟨hKb, nsK hns, ⟨mb, nsK hb, hbb⟩, let ⟨mc, h1, h2⟩ := hlim; ⟨mc, nsK h1, h2⟩⟩
    have e0 : Env0 P w K mg (hidT s₁.heap H) callerA [] s₁ H := ⟨rfl, hM, fun b o e => of_hidT e, Nat.le_of_eq (hidT_size _ _), trivial, fun b hb => absurd (show b ∈ ([] : List Addr) from hb) (by simp), hok, .of_eq hg⟩
    refine codeAny_mono ((F _ hKb (nsK hns)).run callerA [] s₁ H ⟨[.ref a], []⟩ [.ref a] [.ref a] _ _ hr e0 (hbind s₁ (.ref a)) (.cons rfl .nil) (hsp H hO hS)) fun r s' h => ?_
    cases r with
    | error e => exact (hCX H e s' h).elim
    | ok fl =>
      cases fl with
      | next => exact False.elim h
      | brk => exact False.elim h
      | cont => exact False.elim h
      | ret u =>
        obtain ⟨v, H', os, bare, un, hok', r', q⟩ := h
        have q' : v = .bl true := q
        subst q'
        obtain rfl : u = Value.bool true := r'
        refine ⟨rfl, OldK.of_keep fun b o e => ?_, os, bare⟩
        cases q : H b with
        | none => exact un.keep b o e q (by intro z; exact absurd (show b ∈ ([] : List Addr) from z) (by simp)) (by simp)
        | some u =>
          rcases hO b with z | ⟨ob, xs, z⟩
          · rw [q] at z; cases z
          · have z2 := un.frzs b ob _ z
            obtain ⟨e1, _⟩ := hok b _ z
            obtain ⟨e2, _⟩ := hok' b _ z2
            rw [e] at e1; cases e1
            exact e2
  cases hk : K.lookup a with
  | some o =>
    -- the script is one of the module's own objects
    have e := KX a o hk
    rw [ha] at e
    cases e
    refine core (fun _ => none) (fun _ => .inl rfl) (.inr ⟨_, vs.toArray, _, hk, rfl, rfl, rfl, by rw [List.size_toArray, lenV]; exact hl, by simpa using rv⟩) (fun b u z => by have z' : (none : Option HO) = some u := z; cases z') (fun b z => absurd rfl z) fun z => absurd rfl z
  | none =>
    refine core (fun b => if b = a then some (.frz { cls := .type "list", data := .seq vs.toArray } (.lst (ns.map V.int))) else none) (fun b => ?_) (.inl (.inr ⟨{ cls := .type "list", data := .seq vs.toArray }, if_pos rfl⟩)) (fun b u z => ?_) (fun b z => ?_) fun _ => hk
    · by_cases hb : b = a
      · exact .inr ⟨_, _, if_pos hb⟩
      · exact .inl (if_neg hb)
    · by_cases hb : b = a
      · have z' := (if_pos hb).symm.trans z
        cases z'
        subst hb
        exact ⟨ha, by rw [List.length_map]; exact hl, vs, _, rv, ha⟩
      · have z' := (if_neg hb).symm.trans z
        cases z'
    · by_cases hb : b = a
      · exact hb
      · exact absurd (if_neg hb) z
end L2

namespace L2
open PySem PySem.Spec PyProof.Rows

noncomputable abbrev KOf {K : PySem.W.Frag} {h : Heap} (_ : K.In h) : PySem.W.Frag := K

theorem walk_of {l : PySem.W.OpenLaw} {n k : Nat} {q : Program} {loose : List Str} {XP : (Str → Option Value) → Heap → Prop} {YP : World → Heap → Prop} {d : DefRec} {K : Params → PySem.W.Frag} {CX : World → CXT} {sp : World → Sp} {x : Str}
    (hn : l.most = some n) (hn2 : n ≤ sizeLine) (hdf : d.params.defaults = []) (hr : Room k callerA)
    (hY : ∀ (w : World) (h : Heap), YP w h → (K w.params).In h)
    (F : ∀ (w : World) (mg : Str → Option Value) (fa : Addr) (h : Heap), (K w.params).In h → h.Ns mainGlobals mg → mg d.name = some (.ref fa) →
      ∃ fd : FuncData, (∀ (s : Shared) (u : Value), BindsTo s fd ⟨[u], []⟩ [(x, u)]) ∧
        ∀ base : Heap, (K w.params).In base → base.Ns mainGlobals mg → FnOk l.prog w (K w.params) mg base (CX w) k fa fd [x] (sp w))
    (hsp : ∀ (w : World) (H : Hp) (a : Addr) (ns : List Int), ns.length ≤ n → Only H → SqL (K w.params) H a (ns.map V.int) → sp w [.ref a] H (fun v _ => v = .bl true) fun _ _ _ => False)
    (hCX : ∀ (w : World) (H : Hp) (s : Shared) (e : Value) (s' : Shared), CX w [] H s (fun _ _ _ => False) e s' → False) :
    PySem.W.WalkO q loose XP YP l.row.toRowW d [] (fun f vs => PySem.call f vs) := by
  refine Att.attach_call hn hdf fun w s₀ s₁ mg mb fa o pm cd doc a vs ns G Y ho hd hcd hmg hobj hints hlen hg => ?_
  have KX := hY w _ Y
  obtain ⟨fd, hb, hF⟩ := F w mg fa _ KX G.T.g hmg
  exact law_call KX G.T.g G.T.b G.T.builtins G.T.nolimit hg hobj hints (Nat.le_trans hlen hn2) hr hF hb (fun H hO hS => hsp w H a ns hlen hO hS) fun H e s' => hCX w H s₁ e s'
end L2

namespace L2
open PySem PySem.Spec PyProof.Rows

noncomputable def defArgs (s : Stmt) : Arguments := match s with
  | .FunctionDef _ a _ _ _ _ _ _ _ _ => a
  | _ => { posonlyargs := [], args := [], vararg := none, kwonlyargs := [], kw_defaults := [], kwarg := none, defaults := [] }
noncomputable def defBody (s : Stmt) : List Stmt := match s with
  | .FunctionDef _ _ b _ _ _ _ _ _ _ => b
  | _ => []
noncomputable def defScope (s : Stmt) : Scope := match s with
  | .FunctionDef _ _ _ _ _ _ sc _ _ _ => sc
  | _ => { kind := .function, names := [], isGenerator := false, isCoroutine := false }

noncomputable abbrev CX0 : CXT := fun _ _ _ _ _ _ => False
noncomputable abbrev E0 : XK := fun _ _ _ => False
theorem pass0 {X : Cx} : Passes CX0 X E0 := fun _ _ _ _ _ _ _ h => h.elim

structure Fun (K : PySem.W.Frag) (x qual : Str) (st : Stmt) (f : Addr) (fd : FuncData) : Prop where
  ex : ∃ (oc : Value) (od : Option Addr) (kV doc pm : Value) (an : Option Addr) (cdv ct : Value) (osl : Array (Option Value)),
    fd = PySem.W.fnOf x qual (defArgs st) (defBody st) (defScope st) .none kV doc pm an cdv ct ∧ K.lookup f = some ⟨oc, od, .func fd, osl⟩ ∧ PySem.W.codeIn K cdv qual = true
  kp : PySem.W.keepIn K (.ref f) = true
section
variable {P : Program} {w : World} {K : PySem.W.Frag} {mg : Str → Option Value} {base : Heap}
theorem Fun.ok {x qual : Str} {st : Stmt} {f : Addr} {fd : FuncData} {N ps : List Str} {k : Nat} {sp : Sp} (F : Fun K x qual st f fd) (S : FnScope N ps (defScope st)) (len : ∀ vs H Q E, sp vs H Q E → vs.length = ps.length)
    (hbody : ∀ (cdv : Value) (A : Around) (outer : List Env) (s : Shared) (H : Hp) (vs : List V) (Q : VK) (E : XK), Room k (A.deeper (envOfC qual (defScope st) s.heap.objs.size f cdv)) → sp vs H Q E →
      ∃ t, PSs (cxOf CX0 P w K mg base N qual (defScope st) f cdv A outer s H E).nox (defBody st) t ∧ t { nx := fun _ H' => Q .non H', rt := Q } (start N vs) H) : FnOk P w K mg base CX0 (k + 1) f fd ps sp := by
  obtain ⟨oc, od, kV, doc, pm, an, cdv, ct, osl, rfl, lk, hcd⟩ := F.ex
  refine fn_of lk hcd S len fun A outer s H vs Q E hr hsp => ?_
  obtain ⟨t, h, q⟩ := hbody cdv A outer s H vs Q E hr hsp
  exact ⟨t, h.nox, q⟩
theorem Fun.binds {x qual : Str} {st : Stmt} {f : Addr} {fd : FuncData} {ps : List Str} (F : Fun K x qual st f fd)
    (h : ∀ (kV doc pm : Value) (an : Option Addr) (cdv ct : Value) (us : List Value), us.length = ps.length → bindArgs (PySem.W.fnOf x qual (defArgs st) (defBody st) (defScope st) .none kV doc pm an cdv ct) ⟨us, []⟩ = pure (ps.zip us)) : Binds K fd ps [] := by
  obtain ⟨oc, od, kV, doc, pm, an, cdv, ct, osl, rfl, lk, hcd⟩ := F.ex
  exact .all (h kV doc pm an cdv ct)
theorem fun_mk {x qual : Str} {st : Stmt} {f : Addr} {oc : Value} {od an : Option Addr} {osl : Array (Option Value)} {kV doc pm cdv ct : Value} (l : K.lookup f = some ⟨oc, od, .func (PySem.W.fnOf x qual (defArgs st) (defBody st) (defScope st) .none kV doc pm an cdv ct), osl⟩)
    (c : PySem.W.codeIn K cdv qual = true) (k : PySem.W.keepIn K (.ref f) = true) : Fun K x qual st f (PySem.W.fnOf x qual (defArgs st) (defBody st) (defScope st) .none kV doc pm an cdv ct) := ⟨⟨oc, od, kV, doc, pm, an, cdv, ct, osl, rfl, l, c⟩, k⟩
end
section
variable {X : Cx}
end

theorem iteF {A B : Prop} (h : B) : if false = true then A else B := by
  rw [if_neg Bool.false_ne_true]
  exact h
theorem iteT {A B : Prop} (h : A) : if true = true then A else B := by
  rw [if_pos rfl]
  exact h
noncomputable def Same (H H' : Hp) : Prop := ∀ b o, H b = some o → H' b = some o
theorem Same.refl (H : Hp) : Same H H := fun _ _ h => h
theorem Same.trans {H H1 H2 : Hp} (a : Same H H1) (b : Same H1 H2) : Same H H2 := fun c o h => b c o (a c o h)
theorem Same.free {H H' : Hp} (e : Same H H') {l : Addr} (h : H' l = Option.none) : H l = Option.none := by
  cases q : H l with
  | none => rfl
  | some o =>
    rw [e l o q] at h
    cases h
theorem Same.seq {K : PySem.W.Frag} {H H' : Hp} {a : Addr} {xs : List V} (e : Same H H') (h : SqL K H a xs) : SqL K H' a xs := by
  rcases h with (h | ⟨o, h⟩) | h
  · exact .inl (.inl (e _ _ h))
  · exact .inl (.inr ⟨o, e _ _ h⟩)
  · exact .inr h

end L2

namespace L2
open PySem PySem.Spec PyProof.Rows
section
variable {κ : Type} [DecidableEq κ]
noncomputable def valV (kvs : List (κ × V)) (k : κ) : Option V := (kvs.find? fun kv => decide (kv.1 = k)).map (·.2)
noncomputable def putK (kvs : List (κ × V)) (k : κ) (v : V) : List (κ × V) :=
  if (kvs.any fun kv => decide (kv.1 = k)) = true then kvs.map (fun kv => if kv.1 = k then (kv.1, v) else kv) else kvs ++ [(k, v)]
noncomputable def dropK (kvs : List (κ × V)) (k : κ) : List (κ × V) := kvs.filter fun kv => decide (kv.1 ≠ k)

theorem valV_pos {p : κ × V} {r : List (κ × V)} {k : κ} (e : p.1 = k) : valV (p :: r) k = some p.2 := by simp [valV, List.find?_cons, e]
theorem valV_neg {p : κ × V} {r : List (κ × V)} {k : κ} (e : ¬ p.1 = k) : valV (p :: r) k = valV r k := by simp [valV, List.find?_cons, e]
theorem valV_any (k : κ) : ∀ kvs : List (κ × V), (kvs.any fun kv => decide (kv.1 = k)) = (valV kvs k).isSome
  | [] => rfl
  | p :: r => by
    rw [List.any_cons]
    by_cases e : p.1 = k
    · simp only [valV_pos e, decide_eq_true e, Bool.true_or, Option.isSome_some]
    · rw [valV_neg e, decide_eq_false e, Bool.false_or]; exact valV_any k r
theorem length_putK (kvs : List (κ × V)) (k : κ) (v : V) : (putK kvs k v).length ≤ kvs.length + 1 := by
  unfold putK
  split
  · rw [List.length_map]; omega
  · rw [List.length_append, List.length_cons, List.length_nil]; omega
theorem putK_new {kvs : List (κ × V)} {k : κ} (v : V) (h : valV kvs k = none) : putK kvs k v = kvs ++ [(k, v)] := by
  unfold putK
  rw [valV_any, h]
  exact if_neg (by decide)

theorem RelO.isSome_eq {o : Option V} {u : Option Value} (r : RelO o u) : o.isSome = u.isSome := by
  cases o with
  | none => cases u with
    | none => rfl
    | some _ => exact (show False from r).elim
  | some _ => cases u with
    | none => exact (show False from r).elim
    | some _ => rfl
theorem RelO.getD {o : Option V} {u : Option Value} {d : V} {d' : Value} (r : RelO o u) (rd : RelV d d') : RelV (o.getD d) (u.getD d') := by
  cases o with
  | none => cases u with
    | none => exact rd
    | some _ => exact (show False from r).elim
  | some _ => cases u with
    | none => exact (show False from r).elim
    | some _ => exact r

theorem KV.val {kvs : List (κ × V)} {vs : List (κ × Value)} (r : KV kvs vs) (k : κ) : RelO (valV kvs k) (valueAt vs k) := by
  unfold KV at r
  induction r with
  | nil => exact True.intro
  | @cons p q ps qs h t ih =>
    obtain ⟨h1, h2⟩ := h
    by_cases e : p.1 = k
    · have e' : q.1 = k := h1.symm.trans e
      have b : valueAt (q :: qs) k = some q.2 := by simp [valueAt, List.find?_cons, e']
      rw [valV_pos e, b]; exact h2
    · have e' : ¬ q.1 = k := fun z => e (h1.trans z)
      have b : valueAt (q :: qs) k = valueAt qs k := by simp [valueAt, List.find?_cons, e']
      rw [valV_neg e, b]; exact ih
theorem KV.any {kvs : List (κ × V)} {vs : List (κ × Value)} (r : KV kvs vs) (k : κ) : (kvs.any fun kv => decide (kv.1 = k)) = vs.any fun kv => decide (kv.1 = k) := by
  unfold KV at r
  induction r with
  | nil => rfl
  | cons h t ih => rw [List.any_cons, List.any_cons, ih, h.1]
theorem KV.repl {kvs : List (κ × V)} {vs : List (κ × Value)} (r : KV kvs vs) (k : κ) {y : V} {u : Value} (ry : RelV y u) :
    KV (kvs.map fun kv => if kv.1 = k then (kv.1, y) else kv) (vs.map fun kv => if kv.1 = k then (kv.1, u) else kv) := by
  unfold KV at r ⊢
  induction r with
  | nil => exact .nil
  | @cons p q ps qs h t ih =>
    rw [List.map_cons, List.map_cons]
    refine .cons ?_ ih
    obtain ⟨h1, h2⟩ := h
    by_cases e : p.1 = k
    · rw [if_pos e, if_pos (h1.symm.trans e)]; exact ⟨h1, ry⟩
    · rw [if_neg e, if_neg (fun z => e (h1.trans z))]; exact ⟨h1, h2⟩
theorem KV.put {kvs : List (κ × V)} {vs : List (κ × Value)} (r : KV kvs vs) (k : κ) {y : V} {u : Value} (ry : RelV y u) : KV (putK kvs k y) (stored vs k u) := by
  unfold putK stored
  rw [r.any k]
  by_cases e : (vs.any fun kv => decide (kv.1 = k)) = true
  · rw [if_pos e, if_pos e]; exact r.repl k ry
  · rw [if_neg e, if_neg e]; exact Paired.snoc r ⟨rfl, ry⟩
theorem KV.drop {kvs : List (κ × V)} {vs : List (κ × Value)} (r : KV kvs vs) (k : κ) : KV (dropK kvs k) (without vs k) := by
  unfold KV at r ⊢
  unfold dropK without
  induction r with
  | nil => exact .nil
  | @cons p q ps qs h t ih =>
    obtain ⟨h1, h2⟩ := h
    rw [List.filter_cons, List.filter_cons]
    by_cases e : p.1 = k
    · have a : ¬ decide (p.1 ≠ k) = true := by simp [e]
      have b : ¬ decide (q.1 ≠ k) = true := by simp [h1.symm.trans e]
      rw [if_neg a, if_neg b]; exact ih
    · have e' : ¬ q.1 = k := fun z => e (h1.trans z)
      have a : decide (p.1 ≠ k) = true := by simp [e]
      have b : decide (q.1 ≠ k) = true := by simp [e']
      rw [if_pos a, if_pos b]; exact .cons ⟨h1, h2⟩ ih
theorem KV.keys {kvs : List (κ × V)} {vs : List (κ × Value)} (r : KV kvs vs) : kvs.map (·.1) = vs.map (·.1) := by
  unfold KV at r
  induction r with
  | nil => rfl
  | cons h t ih => rw [List.map_cons, List.map_cons, ih, h.1]
theorem KV.length {kvs : List (κ × V)} {vs : List (κ × Value)} (r : KV kvs vs) : kvs.length = vs.length := Paired.length r
end


theorem kV_is {P : Program} {w : World} {k : Key} {u : Value} (r : RelV (kV k) u) : (mixKind P w).is k u = true := by
  cases k with
  | inl i => obtain ⟨t, e⟩ := (show ∃ t, u = Value.int i t from r); subst e; exact mixKind_int P w i t
  | inr x => obtain ⟨t, e⟩ := (show ∃ t, u = Value.str x t from r); subst e; exact mixKind_str P w x t
theorem items_are {P : Program} {w : World} : ∀ {ks : List Key} {us : List Value}, Vals (ks.map kV) us → ItemsAre (mixKind P w) ks us
  | [], _, r => by rw [List.map_nil] at r; cases r; exact .nil
  | k :: ks, _, r => by
    rw [List.map_cons] at r
    cases r with
    | cons h t => exact .cons (kV_is h) (items_are t)

noncomputable abbrev KT (H : Hp) : List (List Key × V) → List (List Key × Addr × Value) → Prop := Paired fun p q => p.1 = q.1 ∧ H q.2.1 = some (.tup (p.1.map kV)) ∧ RelV p.2 q.2.2
theorem KT.val {H : Hp} {kvs : List (List Key × V)} {xs : List (List Key × Addr × Value)} (r : KT H kvs xs) (k : List Key) : RelO (valV kvs k) ((atKey xs k).map (·.2)) := by
  induction r with
  | nil => exact True.intro
  | @cons p q ps qs h t ih =>
    obtain ⟨h1, _, h2⟩ := h
    by_cases e : p.1 = k
    · have e' : q.1 = k := h1.symm.trans e
      have b : atKey (q :: qs) k = some q.2 := by simp [atKey, List.find?_cons, e']
      rw [valV_pos e, b]; exact h2
    · have e' : ¬ q.1 = k := fun z => e (h1.trans z)
      have b : atKey (q :: qs) k = atKey qs k := by simp [atKey, List.find?_cons, e']
      rw [valV_neg e, b]; exact ih
theorem KT.repl {H : Hp} {kvs : List (List Key × V)} {xs : List (List Key × Addr × Value)} (r : KT H kvs xs) (k : List Key) {y : V} {u : Value} (ry : RelV y u) :
    KT H (kvs.map fun kv => if kv.1 = k then (kv.1, y) else kv) (xs.map (putAt k u)) := by
  induction r with
  | nil => exact .nil
  | @cons p q ps qs h t ih =>
    rw [List.map_cons, List.map_cons]
    refine .cons ?_ ih
    obtain ⟨h1, h2, h3⟩ := h
    unfold putAt
    by_cases e : p.1 = k
    · rw [if_pos e, if_pos (h1.symm.trans e)]; exact ⟨h1, h2, ry⟩
    · rw [if_neg e, if_neg (fun z => e (h1.trans z))]; exact ⟨h1, h2, h3⟩
theorem KT.put {H : Hp} {kvs : List (List Key × V)} {xs : List (List Key × Addr × Value)} (r : KT H kvs xs) (k : List Key) {b : Addr} {y : V} {u : Value} (hb : H b = some (.tup (k.map kV))) (ry : RelV y u) :
    KT H (putK kvs k y) (storedH xs k b u) := by
  have e : (kvs.any fun kv => decide (kv.1 = k)) = (atKey xs k).isSome := by
    rw [valV_any, (r.val k).isSome_eq, Option.isSome_map]
  unfold putK storedH
  rw [e]
  by_cases q : (atKey xs k).isSome = true
  · rw [if_pos q, if_pos q]; exact r.repl k ry
  · rw [if_neg q, if_neg q]; exact Paired.snoc r ⟨rfl, hb, ry⟩
theorem KT.keeps {H H' : Hp} {kvs : List (List Key × V)} {xs : List (List Key × Addr × Value)} (r : KT H kvs xs) (ht : ∀ b ys, H b = some (.tup ys) → H' b = some (.tup ys)) : KT H' kvs xs :=
  Paired.mapP r fun _ _ z => ⟨z.1, ht _ _ z.2.1, z.2.2⟩

section
variable {P : Program} {w : World} {H : Hp} {h : Heap} {a : Addr}
theorem rd_of {u : HO} (ok : HOk P w H h) (e : Rd H a u) : ObjOk P w H h a u := e.ok ok
theorem dk_rd {kvs : List (Key × V)} (ok : HOk P w H h) (e : Rd H a (.dK kvs)) : kvs.length ≤ sizeLine ∧ (a == sysModules) = false ∧ ∃ vs, KV kvs vs ∧ h.DictOf (mixKind P w) a vs :=
  show ObjOk P w H h a (.dK kvs) from rd_of ok e
theorem dk_of {kvs : List (Key × V)} (ok : HOk P w H h) (e : H a = some (.dK kvs)) : kvs.length ≤ sizeLine ∧ (a == sysModules) = false ∧ ∃ vs, KV kvs vs ∧ h.DictOf (mixKind P w) a vs := dk_rd ok (.inl e)
theorem key_of {ks : List Key} (ok : HOk P w H h) (e : H a = some (.tup (ks.map kV))) : (tupleKind (mixKind P w)).is h ks a := by
  obtain ⟨_, its, r, o, h1, h2, n, h3⟩ := (show ObjOk P w H h a (.tup (ks.map kV)) from ok a _ e)
  exact ⟨o, its.toArray, n, h1, h2, h3, by simpa using items_are r⟩
theorem dt_rd {kvs : List (List Key × V)} (ok : HOk P w H h) (e : Rd H a (.dT kvs)) : kvs.length ≤ sizeLine ∧ (a == sysModules) = false ∧
    ∃ xs, KT H kvs xs ∧ h.DictOfH (tupleKind (mixKind P w)) a xs := by
  obtain ⟨z, y, xs, r, o, es, ep, h1, h2, h3, h4, h5⟩ := (show ObjOk P w H h a (.dT kvs) from rd_of ok e)
  refine ⟨z, y, xs, r, o, es, ep, h1, h2, h3, h4, fun x hx => ?_, h5⟩
  have all : ∀ {l : List (List Key × V)} {m : List (List Key × Addr × Value)}, KT H l m → ∀ x ∈ m, (tupleKind (mixKind P w)).is h x.1 x.2.1 := by
    intro l m q
    induction q with
    | nil => intro x hx; exact nomatch hx
    | @cons p q ps qs hq t ih =>
      intro x hx
      rcases List.mem_cons.mp hx with e | hx
      · subst e
        exact key_of ok (by rw [← hq.1]; exact hq.2.1)
      · exact ih x hx
  exact all r x hx
theorem dt_of {kvs : List (List Key × V)} (ok : HOk P w H h) (e : H a = some (.dT kvs)) : kvs.length ≤ sizeLine ∧ (a == sysModules) = false ∧
    ∃ xs, KT H kvs xs ∧ h.DictOfH (tupleKind (mixKind P w)) a xs := dt_rd ok (.inl e)
end

noncomputable def DGet (H : Hp) (a : Addr) (y : V) (r : Option V) : Prop :=
  (∃ kvs k, Rd H a (.dK kvs) ∧ y = kV k ∧ r = valV kvs k) ∨ ∃ kvs k b, Rd H a (.dT kvs) ∧ y = .ref b ∧ H b = some (.tup (k.map kV)) ∧ r = valV kvs k
noncomputable def DPut (H : Hp) (a : Addr) (y v : V) (H' : Hp) : Prop :=
  (∃ kvs k, H a = some (.dK kvs) ∧ y = kV k ∧ kvs.length < sizeLine ∧ H' = upd H a (.dK (putK kvs k v))) ∨
  ∃ kvs k b, H a = some (.dT kvs) ∧ y = .ref b ∧ H b = some (.tup (k.map kV)) ∧ kvs.length < sizeLine ∧ H' = upd H a (.dT (putK kvs k v))
theorem DGet.k {H : Hp} {a : Addr} {kvs : List (Key × V)} {k : Key} (e : H a = some (.dK kvs)) : DGet H a (kV k) (valV kvs k) := .inl ⟨kvs, k, .inl e, rfl, rfl⟩
theorem DGet.t {H : Hp} {a b : Addr} {kvs : List (List Key × V)} {k : List Key} (e : H a = some (.dT kvs)) (eb : H b = some (.tup (k.map kV))) : DGet H a (.ref b) (valV kvs k) := .inr ⟨kvs, k, b, .inl e, rfl, eb, rfl⟩
theorem DPut.k {H : Hp} {a : Addr} {kvs : List (Key × V)} {k : Key} {v : V} (e : H a = some (.dK kvs)) (hl : kvs.length < sizeLine) : DPut H a (kV k) v (upd H a (.dK (putK kvs k v))) := .inl ⟨kvs, k, e, rfl, hl, rfl⟩
theorem DPut.t {H : Hp} {a b : Addr} {kvs : List (List Key × V)} {k : List Key} {v : V} (e : H a = some (.dT kvs)) (eb : H b = some (.tup (k.map kV))) (hl : kvs.length < sizeLine) :
    DPut H a (.ref b) v (upd H a (.dT (putK kvs k v))) := .inr ⟨kvs, k, b, e, rfl, eb, hl, rfl⟩


section
variable {X : Cx} {pins : List (Addr × Obj)} {σ : St} {H : Hp} {s : Shared} {a : Addr} {y v : V} {u r : Value} {o : Option V} {A : Around} {E : Value → Shared → Prop}

theorem Inv.big (I : Inv X pins σ H s) : sysModules < s.heap.objs.size := by
  have h : mainGlobals < s.heap.objs.size := (I.mod.glob.keeps I.bk).lt
  exact Nat.lt_trans (by decide) h

theorem d_getItem {Q : Value → Shared → Prop} (hu : A.units + 1 < cLine) (I : Inv X pins σ H s) (g : DGet H a y (some v)) (ry : RelV y u) (h : ∀ w' s', Inv X pins σ H s' → RelV v w' → Q w' s') :
    wpAny (model X.prog X.w) A (getItem (.ref a) u) Q E s := by
  rcases g with ⟨kvs, k, e, ey, l⟩ | ⟨kvs, k, b, e, ey, eb, l⟩
  · subst ey
    obtain ⟨z, hd, vs, rel, dd⟩ := dk_rd I.hok e
    obtain ⟨w', hw, rw'⟩ := RelO.some_of (v := v) (o := valueAt vs k) (by rw [l]; exact rel.val k)
    exact wpAny_getItem_of (kV_is ry) dd.mapOf hw (h w' _ (I.tok _) rw')
  · subst ey
    cases (show u = Value.ref b from ry)
    obtain ⟨z, hd, xs, rel, dd⟩ := dt_rd I.hok e
    obtain ⟨w', hw, rw'⟩ := RelO.some_of (v := v) (o := (atKey xs k).map (·.2)) (by rw [l]; exact rel.val k)
    obtain ⟨p, hp, hp2⟩ := Option.map_eq_some_iff.mp hw
    refine wpAny_getItem_heap (tupleKind_room_in1 hu) (key_of I.hok eb) dd hp ?_
    rw [hp2]
    exact h w' _ (I.tok _) rw'
theorem d_in {Q : Value → Shared → Prop} (hu : A.units + 1 < cLine) (I : Inv X pins σ H s) (g : DGet H a y o) (ry : RelV y u) (h : ∀ s', Inv X pins σ H s' → Q (.bool o.isSome) s') :
    wpAny (model X.prog X.w) A (compareOp .In u (.ref a)) Q E s := by
  rcases g with ⟨kvs, k, e, ey, l⟩ | ⟨kvs, k, b, e, ey, eb, l⟩
  · subst ey
    obtain ⟨z, hd, vs, rel, dd⟩ := dk_rd I.hok e
    refine wpAny_in_of (kV_is ry) hd dd.mapOf ?_
    rw [← (rel.val k).isSome_eq, ← l]
    exact h _ (I.tok _)
  · subst ey
    cases (show u = Value.ref b from ry)
    obtain ⟨z, hd, xs, rel, dd⟩ := dt_rd I.hok e
    refine wpAny_in_heap (tupleKind_room_in1 hu) (key_of I.hok eb) hd dd ?_
    have q := (rel.val k).isSome_eq
    rw [Option.isSome_map] at q
    rw [← q, ← l]
    exact h _ (I.tok _)
theorem d_notIn {Q : Value → Shared → Prop} (hu : A.units + 1 < cLine) (I : Inv X pins σ H s) (g : DGet H a y o) (ry : RelV y u) (h : ∀ s', Inv X pins σ H s' → Q (.bool (!o.isSome)) s') :
    wpAny (model X.prog X.w) A (compareOp .NotIn u (.ref a)) Q E s := by
  rcases g with ⟨kvs, k, e, ey, l⟩ | ⟨kvs, k, b, e, ey, eb, l⟩
  · subst ey
    obtain ⟨z, hd, vs, rel, dd⟩ := dk_rd I.hok e
    refine wpAny_notIn_of (kV_is ry) hd dd.mapOf ?_
    rw [← (rel.val k).isSome_eq, ← l]
    exact h _ (I.tok _)
  · subst ey
    cases (show u = Value.ref b from ry)
    obtain ⟨z, hd, xs, rel, dd⟩ := dt_rd I.hok e
    refine wpAny_notIn_heap (tupleKind_room_in1 hu) (key_of I.hok eb) hd dd ?_
    have q := (rel.val k).isSome_eq
    rw [Option.isSome_map] at q
    rw [← q, ← l]
    exact h _ (I.tok _)
theorem d_write {h' : Heap} {t' : Nat} {ob : HO} (I : Inv X pins σ H s) (mu : Mut (H a)) (hs : Heap.SameBut a s.heap h') (he : ∃ q, h'.get? a = some q) (new : ObjOk X.prog X.w (upd H a ob) h' a ob) :
    Inv X pins σ (upd H a ob) { s with heap := h', toks := t' } :=
  I.write (x := a) (e := a) mu (.inl rfl) (fun b q hb z => (hs.2 b hb).trans z) he new
theorem dk_new {P : Program} {w : World} {H' : Hp} {h' : Heap} {kvs : List (Key × V)} {vs : List (Key × Value)} (z : kvs.length ≤ sizeLine) (hd : (a == sysModules) = false) (rel : KV kvs vs) (dd : h'.DictOf (mixKind P w) a vs) :
    ObjOk P w H' h' a (.dK kvs) := ⟨z, hd, vs, rel, dd⟩
theorem d_setItem {H' : Hp} {Q : Unit → Shared → Prop} (hu : A.units + 1 < cLine) (I : Inv X pins σ H s) (g : DPut H a y v H') (ry : RelV y u) (rv : RelV v r) (h : ∀ s', Inv X pins σ H' s' → Q () s') :
    wpAny (model X.prog X.w) A (setItem (.ref a) u r) Q E s := by
  rcases g with ⟨kvs, k, e, ey, l, eH⟩ | ⟨kvs, k, b, e, ey, eb, l, eH⟩
  · subst ey eH
    obtain ⟨z, hd, vs, rel, dd⟩ := dk_of I.hok e
    have hz : vs.length ≤ sizeLine := by rw [← rel.length]; exact z
    have hl : (putK kvs k v).length ≤ sizeLine := by have := length_putK kvs k v; omega
    refine wpAny_setItem_pairs (hsz := hz) (kV_is ry) dd fun h' dd' hs => h _ ?_
    have he : ∃ q, h'.get? a = some q := let ⟨q, _, _, hq, _⟩ := dd'; ⟨q, hq⟩
    exact d_write I (by rw [e]; exact True.intro) hs he (dk_new hl hd (rel.put k rv) dd')
  · subst ey eH
    cases (show u = Value.ref b from ry)
    obtain ⟨z, hd, xs, rel, dd⟩ := dt_of I.hok e
    have hz : xs.length ≤ sizeLine := by rw [← Paired.length rel]; exact z
    have hl : (putK kvs k v).length ≤ sizeLine := by have := length_putK kvs k v; omega
    refine wpAny_setItem_heap (hsz := hz) (tupleKind_room_in1 hu) (key_of I.hok eb) dd fun h' dd' hs => h _ ?_
    obtain ⟨q, es, ep, hq, h2, h3, h4, _, h5⟩ := dd'
    refine d_write I (by rw [e]; exact True.intro) hs ⟨q, hq⟩ ⟨hl, hd, _, (rel.put k eb rv).keeps fun c ys ec => ?_, q, es, ep, hq, h2, h3, h4, h5⟩
    rw [upd_ne (ne_of ec e (fun z => nomatch z))]
    exact ec
end

section
variable {X : Cx} {pins : List (Addr × Obj)} {σ : St} {H : Hp} {s : Shared} {a : Addr} {kvs : List (Key × V)} {k : Key} {u : Value} {A : Around} {E : Value → Shared → Prop}
theorem d_clear {Q : Value → Shared → Prop} (I : Inv X pins σ H s) (e : H a = some (.dK kvs)) (h : ∀ s', Inv X pins σ (upd H a (.dK [])) s' → Q .none s') : wpAny (model X.prog X.w) A (call (.builtin "dict.clear") [.ref a]) Q E s := by
  obtain ⟨z, hd, vs, rel, dd⟩ := dk_of I.hok e
  refine call_meetsIn PySem.F.slot_dict_clear dd.typeIs PySem.F.entry_dict_clear (PySem.F.args_dict_clear_1 _) (meets_dict_clear (mixKind X.prog X.w) a) ⟨vs, dd, by rw [← rel.length]; exact z, fun h' dd' hs => h _ ?_⟩
  have he : ∃ q, h'.get? a = some q := let ⟨q, _, _, hq, _⟩ := dd'; ⟨q, hq⟩
  exact d_write (t' := s.toks) I (by rw [e]; exact True.intro) hs he (dk_new (Nat.zero_le _) hd .nil dd')
theorem d_len {Q : Value → Shared → Prop} (I : Inv X pins σ H s) (e : Rd H a (.dK kvs)) (h : ∀ t s', Inv X pins σ H s' → Q (.int kvs.length t) s') : wpAny (model X.prog X.w) A (call (.builtin "len") [.ref a]) Q E s := by
  obtain ⟨z, hd, vs, rel, dd⟩ := dk_rd I.hok e
  refine call_len_dict hd dd (by rw [← rel.length]; rw [sizeLine_eq] at z; omega) ?_
  rw [← rel.length]
  exact h _ _ (I.tok _)
end


theorem dict_typeIs {X : Cx} {pins : List (Addr × Obj)} {σ : St} {H : Hp} {s : Shared} {a : Addr} {y : V} {o : Option V} (I : Inv X pins σ H s) (g : DGet H a y o) : s.TypeIs (.ref a) "dict" := by
  rcases g with ⟨kvs, k, e, _, _⟩ | ⟨kvs, k, b, e, _, _, _⟩
  · obtain ⟨_, _, vs, _, dd⟩ := dk_rd I.hok e
    exact dd.typeIs
  · obtain ⟨_, _, xs, _, dd⟩ := dt_rd I.hok e
    exact dd.typeIs
section
variable {X : Cx} {o i e value : Expr} {pos pos' tpos : Pos} {td ty tv : TE}
end


theorem dk_empty {P : Program} {w : World} {H : Hp} (h : Heap) (hb : sysModules < h.objs.size) : ObjOk P w H (h.push { cls := .type "dict", data := .dict #[] }) h.objs.size (.dK []) :=
  ⟨Nat.zero_le _, beq_eq_false_iff_ne.mpr (Ne.symm (Nat.ne_of_lt hb)), [], .nil, Heap.DictOf.new h⟩
noncomputable def tDNewK : TE := fun _ H Q => ∀ p, H p = none → Q (.ref p) (upd H p (.dK []))
section
variable {X : Cx} {pos : Pos}
theorem pe_dnewK : PE X (.Dict [] [] pos) tDNewK := fun pins s σ H Q I h =>
  wpAny_Dict_empty ⟨.ref s.heap.objs.size, _, I.laid (a := s.heap.objs.size) (o := .dK []) (t' := s.toks) (fun _ _ q => Heap.get?_push_of_some _ q) (Nat.le_refl _) (dk_empty s.heap I.big), rfl, h _ (I.hok.fresh (Nat.le_refl _))⟩
end

structure M1 (X : Cx) (o : Expr) (m : Str) (apos : Pos) (e : Expr) (cpos : Pos) : Prop where
  base : attributeBase o m X.env (eval o X.env) = eval o X.env
  few : ((backTo cpos (starEach [e] X.env)).all (fun x => !x.1) && (backToKw cpos (keywordEach [] X.env)).all (fun x => x.1.isSome)
    && decide (([e] : List Expr).length + ([] : List Keyword).length + (if ([] : List Keyword).isEmpty then 0 else 1) < 30)) = true
  line : (apos.endLine == cpos.line) = true
  trees : backTo cpos (starEach [e] X.env) = [(false, eval e X.env)]
structure M2 (X : Cx) (o : Expr) (m : Str) (apos : Pos) (e f : Expr) (cpos : Pos) : Prop where
  base : attributeBase o m X.env (eval o X.env) = eval o X.env
  few : ((backTo cpos (starEach [e, f] X.env)).all (fun x => !x.1) && (backToKw cpos (keywordEach [] X.env)).all (fun x => x.1.isSome)
    && decide (([e, f] : List Expr).length + ([] : List Keyword).length + (if ([] : List Keyword).isEmpty then 0 else 1) < 30)) = true
  line : (apos.endLine == cpos.line) = true
  trees : backTo cpos (starEach [e, f] X.env) = [(false, eval e X.env), (false, eval f X.env)]

section
variable {X : Cx} {pins : List (Addr × Obj)} {σ : St} {H : Hp} {s : Shared} {a : Addr} {y d : V} {u r : Value} {o : Option V} {A : Around} {E : Value → Shared → Prop}
end

section
variable {X : Cx} {o e f : Expr} {apos cpos : Pos} {td ty tx : TE}
end

section
variable {X : Cx} {pins : List (Addr × Obj)} {σ : St} {H : Hp} {s : Shared} {a : Addr} {kvs : List (Key × V)} {A : Around} {E : Value → Shared → Prop}
end


section
variable {X : Cx} {pins : List (Addr × Obj)} {σ : St} {H : Hp} {s : Shared} {a : Addr} {y : V} {u : Value} {A : Around} {E : Value → Shared → Prop}
end
end L2

namespace L2
open PySem PySem.Spec PyProof.Rows
section
variable {X : Cx}
end
end L2


set_option genSizeOf false
namespace MP

inductive G where
  | non | bl (b : Bool) | int (i : Int) | str (x : List Nat) | tup (xs : List G)
  deriving Inhabited
mutual
def geq : G → G → Bool
  | .non, .non => true
  | .bl a, .bl b => a == b
  | .int i, .int j => i == j
  | .str x, .str y => x == y
  | .tup xs, .tup ys => geqs xs ys
  | _, _ => false
def geqs : List G → List G → Bool
  | [], [] => true
  | x :: xs, y :: ys => geq x y && geqs xs ys
  | _, _ => false
end
mutual
theorem geq_iff : ∀ a b : G, geq a b = true ↔ a = b
  | .non, b => by cases b <;> simp [geq]
  | .bl a, b => by cases b <;> simp [geq]
  | .int a, b => by cases b <;> simp [geq]
  | .str a, b => by cases b <;> simp [geq]
  | .tup xs, b => by
    cases b with
    | tup ys => simp [geq, geqs_iff xs ys]
    | _ => simp [geq]
theorem geqs_iff : ∀ xs ys : List G, geqs xs ys = true ↔ xs = ys
  | [], ys => by cases ys <;> simp [geqs]
  | x :: xs, ys => by
    cases ys with
    | nil => simp [geqs]
    | cons y ys => simp [geqs, geq_iff x y, geqs_iff xs ys]
end
instance : DecidableEq G := fun a b => decidable_of_iff _ (geq_iff a b)

inductive R where
  | g (x : G) | ref (i : Nat) | tr (xs : List R)
  deriving Inhabited
mutual
def req : R → R → Bool
  | .g a, .g b => geq a b
  | .ref i, .ref j => i == j
  | .tr xs, .tr ys => reqs xs ys
  | _, _ => false
def reqs : List R → List R → Bool
  | [], [] => true
  | x :: xs, y :: ys => req x y && reqs xs ys
  | _, _ => false
end
mutual
theorem req_iff : ∀ a b : R, req a b = true ↔ a = b
  | .g a, b => by cases b <;> simp [req, geq_iff]
  | .ref a, b => by cases b <;> simp [req]
  | .tr xs, b => by
    cases b with
    | tr ys => simp [req, reqs_iff xs ys]
    | _ => simp [req]
theorem reqs_iff : ∀ xs ys : List R, reqs xs ys = true ↔ xs = ys
  | [], ys => by cases ys <;> simp [reqs]
  | x :: xs, ys => by
    cases ys with
    | nil => simp [reqs]
    | cons y ys => simp [reqs, req_iff x y, reqs_iff xs ys]
end
instance : DecidableEq R := fun a b => decidable_of_iff _ (req_iff a b)

inductive Cell where
  | lst (xs : List G) | rdl (xs : List G) | dct (kvs : List (G × G)) | rls (xs : List R) | rdd (kvs : List (G × G)) | dtg (kvs : List (G × G)) | rdt (kvs : List (G × G))
  deriving DecidableEq, Inhabited

noncomputable abbrev Store := List Cell
noncomputable abbrev Env := List (Option R)

inductive Res (α : Type) where
  | ok (a : α) (σ : Store) | exc (c : String) (σ : Store) | stuck
  deriving Inhabited

noncomputable def Res.bind {α β : Type} : Res α → (α → Store → Res β) → Res β
  | .ok a σ, f => f a σ
  | .exc c σ, _ => .exc c σ
  | .stuck, _ => .stuck

@[simp] theorem bind_ok {α β : Type} (a : α) (σ : Store) (f : α → Store → Res β) : (Res.ok a σ).bind f = f a σ := rfl
@[simp] theorem bind_exc {α β : Type} (c : String) (σ : Store) (f : α → Store → Res β) : (Res.exc c σ : Res α).bind f = .exc c σ := rfl
@[simp] theorem bind_stuck {α β : Type} (f : α → Store → Res β) : (Res.stuck : Res α).bind f = .stuck := rfl

noncomputable def b2i (b : Bool) : Int := if b then 1 else 0

mutual
noncomputable def peq : G → G → Bool
  | .non, .non => true
  | .bl a, .bl b => a == b
  | .bl a, .int i => b2i a == i
  | .int i, .bl a => i == b2i a
  | .int i, .int j => i == j
  | .str x, .str y => x == y
  | .tup xs, .tup ys => peqs xs ys
  | _, _ => false
noncomputable def peqs : List G → List G → Bool
  | [], [] => true
  | x :: xs, y :: ys => peq x y && peqs xs ys
  | _, _ => false
end

mutual
noncomputable def gdep : G → Nat
  | .tup xs => gdeps xs + 1
  | _ => 0
noncomputable def gdeps : List G → Nat
  | [] => 0
  | x :: r => max (gdep x) (gdeps r)
end
noncomputable def shal (x : G) : Bool := decide (gdep x ≤ 150)

noncomputable def ixOf (n : Nat) (i : Int) : Option Nat := if 0 ≤ i then (if i < n then some i.toNat else none) else if -(n : Int) ≤ i then some (i + n).toNat else none
noncomputable def at? {α : Type} (xs : List α) (i : Int) : Option α := (ixOf xs.length i).bind fun j => xs[j]?

noncomputable def isKey : G → Bool
  | .int _ => true
  | .str _ => true
  | _ => false
mutual
noncomputable def keyG : G → Bool
  | .int _ => true
  | .str _ => true
  | .tup xs => keyGs xs
  | _ => false
noncomputable def keyGs : List G → Bool
  | [] => true
  | x :: r => keyG x && keyGs r
end
noncomputable def tkey : G → Bool
  | .tup xs => keyGs xs
  | _ => false
noncomputable def tells (kvs : List (G × G)) (k : G) : Bool := (kvs.isEmpty && decide (gdep k ≤ 100)) || (decide (gdep k ≤ 8) && kvs.all fun p => decide (gdep p.1 ≤ 8))
noncomputable def dget : List (G × G) → G → Option G
  | [], _ => none
  | (k, v) :: r, j => if k = j then some v else dget r j
noncomputable def dput : List (G × G) → G → G → List (G × G)
  | [], k, v => [(k, v)]
  | (j, u) :: r, k, v => if j = k then (j, v) :: r else (j, u) :: dput r k v
noncomputable def dictEq (a b : List (G × G)) : Bool := a.length == b.length && a.all fun p => match dget b p.1 with
  | some v => peq p.2 v
  | none => false

noncomputable def big : Nat := 100000

noncomputable def asG : R → Option G
  | .g x => some x
  | _ => none
noncomputable def allG : List R → Option (List G)
  | [] => some []
  | .g x :: r => (allG r).map (x :: ·)
  | _ :: _ => none

inductive Ty where
  | int | bool | str | tuple | list | dict
  deriving DecidableEq

inductive Prim where
  | add | sub | mul | fdiv | mod | pow
  | eq | ne | lt | le | gt | ge | isN | notN | inn | notin
  | idx | len | tup | lst | dct0 | dtg0 | setdefT | lenT
  | tupleOf | listOf | dictOf
  | get1 | get2 | setdef | append | extend | clear | index
  | sum | max1 | maxd | max2 | min2 | all
  | isInst (t : Ty)
  | slice (lo hi : Bool)


noncomputable def okG (x : G) (σ : Store) : Res R := .ok (.g x) σ

noncomputable def pAdd : List R → Store → Res R
  | [.g (.int i), .g (.int j)], σ => okG (.int (i + j)) σ
  | [.g (.str x), .g (.str y)], σ => if x.length + y.length ≤ big then okG (.str (x ++ y)) σ else .stuck
  | [.g (.tup x), .g (.tup y)], σ => if x.length + y.length ≤ big then okG (.tup (x ++ y)) σ else .stuck
  | [.ref i, .ref j], σ => match σ[i]?, σ[j]? with
    | some (.lst x), some (.lst y) => if x.length + y.length ≤ big then .ok (.ref σ.length) (σ ++ [.lst (x ++ y)]) else .stuck
    | _, _ => .stuck
  | _, _ => .stuck
noncomputable def pSub : List R → Store → Res R
  | [.g (.int i), .g (.int j)], σ => okG (.int (i - j)) σ
  | _, _ => .stuck
noncomputable def pMul : List R → Store → Res R
  | [.g (.int i), .g (.int j)], σ => if (-(2 ^ 64) < i ∧ i < 2 ^ 64) ∨ (-(2 ^ 64) < j ∧ j < 2 ^ 64) then okG (.int (i * j)) σ else .stuck
  | _, _ => .stuck
noncomputable def pFdiv : List R → Store → Res R
  | [.g (.int i), .g (.int j)], σ => if 0 < j ∧ j < 1073741824 then okG (.int (i / j)) σ else .stuck
  | _, _ => .stuck
noncomputable def pMod : List R → Store → Res R
  | [.g (.int i), .g (.int j)], σ => if 0 < j then okG (.int (i % j)) σ else .stuck
  | _, _ => .stuck
noncomputable def pPow : List R → Store → Res R
  | [.g (.int i), .g (.int j)], σ => if 0 ≤ j ∧ j ≤ 1000000 ∧ i.natAbs < 2 ^ 64 then okG (.int (i ^ j.toNat)) σ else .stuck
  | _, _ => .stuck
noncomputable def cellEq : Cell → Cell → Option Bool
  | .lst x, .lst y => if x.all shal then some (peqs x y) else none
  | .lst x, .rdl y => if x.all shal then some (peqs x y) else none
  | .rdl x, .lst y => if x.all shal then some (peqs x y) else none
  | .dct x, .dct y => if x.all (fun p => shal p.2) then some (dictEq x y) else none
  | .rdd x, .dct y => if x.all (fun p => shal p.2) then some (dictEq x y) else none
  | .dct x, .rdd y => if x.all (fun p => shal p.2) then some (dictEq x y) else none
  | .rdd x, .rdd y => if x.all (fun p => shal p.2) then some (dictEq x y) else none
  | _, _ => none
noncomputable def intKeys (xs : List (G × G)) : Bool := xs.all fun p => match p.1 with
  | .int _ => true
  | _ => false
noncomputable def asD : Cell → Option (List (G × G))
  | .dct x => some x
  | .rdd x => some x
  | _ => none
noncomputable def dctEq (c d : Cell) : Option Bool := match asD c, asD d with
  | some x, some y => if x.all (fun p => shal p.2) && (intKeys x && intKeys y) then some (dictEq x y) else none
  | _, _ => none
noncomputable def refsEq (σ : Store) : List R → List R → Option Bool
  | [], [] => some true
  | .ref i :: r, .ref j :: t => match σ[i]?, σ[j]? with
    | some c, some d => match dctEq c d with
      | some b => match refsEq σ r t with
        | some b' => some (b && b')
        | none => none
      | none => none
    | _, _ => none
  | _, _ => none
noncomputable def cellsR (σ : Store) : Cell → Cell → Option Bool
  | _, _ => none
noncomputable def reqv (σ : Store) : R → R → Option Bool
  | .g x, .g y => if shal x then some (peq x y) else none
  | .ref i, .ref j => match σ[i]?, σ[j]? with
    | some c, some d => match cellEq c d with
      | some b => some b
      | none => cellsR σ c d
    | _, _ => none
  | _, _ => none
noncomputable def pEq : List R → Store → Res R
  | [x, y], σ => match reqv σ x y with
    | some b => okG (.bl b) σ
    | none => .stuck
  | _, _ => .stuck
noncomputable def pNe : List R → Store → Res R
  | [x, y], σ => match reqv σ x y with
    | some b => okG (.bl (!b)) σ
    | none => .stuck
  | _, _ => .stuck
noncomputable def pLt : List R → Store → Res R
  | [.g (.int i), .g (.int j)], σ => okG (.bl (decide (i < j))) σ
  | _, _ => .stuck
noncomputable def pLe : List R → Store → Res R
  | [.g (.int i), .g (.int j)], σ => okG (.bl (decide (i ≤ j))) σ
  | _, _ => .stuck
noncomputable def pGt : List R → Store → Res R
  | [.g (.int i), .g (.int j)], σ => okG (.bl (decide (j < i))) σ
  | _, _ => .stuck
noncomputable def pGe : List R → Store → Res R
  | [.g (.int i), .g (.int j)], σ => okG (.bl (decide (j ≤ i))) σ
  | _, _ => .stuck
noncomputable def isNon : R → Bool
  | .g .non => true
  | _ => false
noncomputable def pIsN : List R → Store → Res R
  | [x, .g .non], σ => okG (.bl (isNon x)) σ
  | _, _ => .stuck
noncomputable def pNotN : List R → Store → Res R
  | [x, .g .non], σ => okG (.bl (!isNon x)) σ
  | _, _ => .stuck
noncomputable def hasIn (σ : Store) : R → R → Option Bool
  | .g x, .g (.tup ys) => if ys.all shal then some (ys.any fun y => peq y x) else none
  | .g x, .ref i => match σ[i]? with
    | some (.lst ys) => if ys.all shal then some (ys.any fun y => peq y x) else none
    | some (.dct kvs) => if isKey x then some (dget kvs x).isSome else none
    | some (.rdd kvs) => if isKey x then some (dget kvs x).isSome else none
    | _ => none
  | _, _ => none
noncomputable def pIn : List R → Store → Res R
  | [x, y], σ => match hasIn σ x y with
    | some b => okG (.bl b) σ
    | none => .stuck
  | _, _ => .stuck
noncomputable def pNotIn : List R → Store → Res R
  | [x, y], σ => match hasIn σ x y with
    | some b => okG (.bl (!b)) σ
    | none => .stuck
  | _, _ => .stuck
noncomputable def ofO {α : Type} (o : Option α) (f : α → Res R) : Res R := match o with
  | some x => f x
  | none => .stuck
noncomputable def pIdx : List R → Store → Res R
  | [.g (.tup xs), .g (.int i)], σ => ofO (at? xs i) fun x => okG x σ
  | [.g (.str xs), .g (.int i)], σ => ofO (at? xs i) fun c => okG (.str [c]) σ
  | [.tr xs, .g (.int i)], σ => ofO (at? xs i) fun r => .ok r σ
  | [.ref k, .g i], σ => match σ[k]?, i with
    | some (.lst xs), .int i => ofO (at? xs i) fun x => okG x σ
    | some (.rdl xs), .int i => ofO (at? xs i) fun x => okG x σ
    | some (.rls xs), .int i => ofO (at? xs i) fun r => .ok r σ
    | some (.dct kvs), i => if isKey i then ofO (dget kvs i) fun x => okG x σ else .stuck
    | some (.rdd kvs), i => if isKey i then ofO (dget kvs i) fun x => okG x σ else .stuck
    | _, _ => .stuck
  | _, _ => .stuck
noncomputable def lenOf (σ : Store) : R → Option Nat
  | .g (.tup xs) => some xs.length
  | .g (.str xs) => some xs.length
  | .tr xs => some xs.length
  | .ref k => match σ[k]? with
    | some (.lst xs) => some xs.length
    | some (.rdl xs) => some xs.length
    | some (.rls xs) => some xs.length
    | some (.dct xs) => some xs.length
    | some (.rdd xs) => some xs.length
    | some (.dtg _) => none
    | some (.rdt _) => none
    | none => none
  | _ => none
noncomputable def pLen : List R → Store → Res R
  | [x], σ => ofO (lenOf σ x) fun n => okG (.int n) σ
  | _, _ => .stuck
noncomputable def mkTup (xs : List R) : R := match allG xs with
  | some gs => .g (.tup gs)
  | none => .tr xs
noncomputable def mkLst (xs : List R) : Cell := match allG xs with
  | some gs => .lst gs
  | none => .rls xs
noncomputable def pTup (xs : List R) (σ : Store) : Res R := if xs.length ≤ 1000 then .ok (mkTup xs) σ else .stuck
noncomputable def pLst (xs : List R) (σ : Store) : Res R := if xs.length ≤ 1000 then .ok (.ref σ.length) (σ ++ [mkLst xs]) else .stuck
noncomputable def pDct0 : List R → Store → Res R
  | [], σ => .ok (.ref σ.length) (σ ++ [.dct []])
  | _, _ => .stuck
noncomputable def pDtg0 : List R → Store → Res R
  | [], σ => .ok (.ref σ.length) (σ ++ [.dtg []])
  | _, _ => .stuck
noncomputable def pSetdefT : List R → Store → Res R
  | [.ref k, .g i, .g d], σ => match σ[k]? with
    | some (.dtg kvs) => if tkey i && tells kvs i && decide (kvs.length < big) then (match dget kvs i with
      | some v => okG v σ
      | none => .ok (.g d) (σ.set k (.dtg (kvs ++ [(i, d)])))) else .stuck
    | _ => .stuck
  | _, _ => .stuck
noncomputable def pLenT : List R → Store → Res R
  | [.ref k], σ => match σ[k]? with
    | some (.dtg kvs) => okG (.int kvs.length) σ
    | _ => .stuck
  | _, _ => .stuck
noncomputable def pTupleOf : List R → Store → Res R
  | [.g (.tup xs)], σ => okG (.tup xs) σ
  | [.ref k], σ => match σ[k]? with
    | some (.lst xs) => okG (.tup xs) σ
    | some (.rdl xs) => okG (.tup xs) σ
    | _ => .stuck
  | _, _ => .stuck
noncomputable def pListOf : List R → Store → Res R
  | [.g (.tup xs)], σ => .ok (.ref σ.length) (σ ++ [.lst xs])
  | [.ref k], σ => match σ[k]? with
    | some (.lst xs) => .ok (.ref σ.length) (σ ++ [.lst xs])
    | some (.rdl xs) => .ok (.ref σ.length) (σ ++ [.lst xs])
    | some (.dct kvs) => if intKeys kvs then .ok (.ref σ.length) (σ ++ [.lst (kvs.map fun p => p.1)]) else .stuck
    | _ => .stuck
  | _, _ => .stuck
noncomputable def pDictOf : List R → Store → Res R
  | [.ref k], σ => match σ[k]? with
    | some (.dct xs) => .ok (.ref σ.length) (σ ++ [.dct xs])
    | some (.rdd xs) => .ok (.ref σ.length) (σ ++ [.dct xs])
    | _ => .stuck
  | _, _ => .stuck
noncomputable def pGet1 : List R → Store → Res R
  | [.ref k, .g i], σ => match σ[k]? with
    | some (.dct kvs) => if isKey i then okG ((dget kvs i).getD .non) σ else .stuck
    | some (.rdd kvs) => if isKey i then okG ((dget kvs i).getD .non) σ else .stuck
    | _ => .stuck
  | _, _ => .stuck
noncomputable def pGet2 : List R → Store → Res R
  | [.ref k, .g i, .g d], σ => match σ[k]? with
    | some (.dct kvs) => if isKey i then okG ((dget kvs i).getD d) σ else .stuck
    | some (.rdd kvs) => if isKey i then okG ((dget kvs i).getD d) σ else .stuck
    | _ => .stuck
  | _, _ => .stuck
noncomputable def pSetdef : List R → Store → Res R
  | [.ref k, .g i, .g d], σ => match σ[k]? with
    | some (.dct kvs) => if isKey i && decide (kvs.length < big) then (match dget kvs i with
      | some v => okG v σ
      | none => .ok (.g d) (σ.set k (.dct (dput kvs i d)))) else .stuck
    | _ => .stuck
  | _, _ => .stuck
noncomputable def pAppend : List R → Store → Res R
  | [.ref k, .g x], σ => match σ[k]? with
    | some (.lst xs) => if xs.length < big then .ok (.g .non) (σ.set k (.lst (xs ++ [x]))) else .stuck
    | _ => .stuck
  | _, _ => .stuck
noncomputable def pExtend : List R → Store → Res R
  | [.ref k, .ref j], σ => match σ[k]?, σ[j]? with
    | some (.lst xs), some (.lst ys) => if xs.length + ys.length ≤ big then .ok (.g .non) (σ.set k (.lst (xs ++ ys))) else .stuck
    | _, _ => .stuck
  | _, _ => .stuck
noncomputable def pClear : List R → Store → Res R
  | [.ref k], σ => match σ[k]? with
    | some (.dct _) => .ok (.g .non) (σ.set k (.dct []))
    | _ => .stuck
  | _, _ => .stuck
noncomputable def pIndex : List R → Store → Res R
  | [.ref k, .g x], σ => match σ[k]? with
    | some (.lst xs) => if xs.all shal then (match xs.findIdx? (fun y => peq y x) with
      | some i => okG (.int i) σ
      | none => .stuck) else .stuck
    | _ => .stuck
  | _, _ => .stuck
noncomputable def intsOf : List G → Option (List Int)
  | [] => some []
  | .int i :: r => (intsOf r).map (i :: ·)
  | _ :: _ => none
noncomputable def bools : List G → Option (List Bool)
  | [] => some []
  | .bl i :: r => (bools r).map (i :: ·)
  | _ :: _ => none
noncomputable def pSum : List R → Store → Res R
  | [.ref k], σ => match σ[k]? with
    | some (.lst xs) => ofO (intsOf xs) fun is => okG (.int is.sum) σ
    | _ => .stuck
  | _, _ => .stuck
noncomputable def maxL : Int → List Int → Int
  | m, [] => m
  | m, x :: r => maxL (if x > m then x else m) r
noncomputable def pMax1 : List R → Store → Res R
  | [.ref k], σ => match σ[k]? with
    | some (.lst xs) => match intsOf xs with
      | some (i :: is) => okG (.int (maxL i is)) σ
      | _ => .stuck
    | _ => .stuck
  | _, _ => .stuck
noncomputable def pMaxd : List R → Store → Res R
  | [.ref k, .g d], σ => match σ[k]? with
    | some (.lst xs) => match intsOf xs with
      | some (i :: is) => okG (.int (maxL i is)) σ
      | some [] => okG d σ
      | none => .stuck
    | _ => .stuck
  | _, _ => .stuck
noncomputable def pMax2 : List R → Store → Res R
  | [.g (.int i), .g (.int j)], σ => okG (.int (if j > i then j else i)) σ
  | _, _ => .stuck
noncomputable def pMin2 : List R → Store → Res R
  | [.g (.int i), .g (.int j)], σ => okG (.int (if j < i then j else i)) σ
  | _, _ => .stuck
noncomputable def pAll : List R → Store → Res R
  | [.ref k], σ => match σ[k]? with
    | some (.lst xs) => ofO (bools xs) fun bs => okG (.bl (bs.all id)) σ
    | _ => .stuck
  | _, _ => .stuck
noncomputable def tyOf (σ : Store) : R → Option (List Ty)
  | .g (.int _) => some [.int]
  | .g (.bl _) => some [.bool, .int]
  | .g (.str _) => some [.str]
  | .g (.tup _) => some [.tuple]
  | .g .non => some []
  | .tr _ => some [.tuple]
  | .ref k => match σ[k]? with
    | some (.lst _) => some [.list]
    | some (.rdl _) => some [.list]
    | some (.rls _) => some [.list]
    | some (.dct _) => some [.dict]
    | some (.rdd _) => none
    | some (.dtg _) => none
    | some (.rdt _) => none
    | none => none
noncomputable def pIsInst (t : Ty) : List R → Store → Res R
  | [x], σ => ofO (tyOf σ x) fun ts => okG (.bl (ts.contains t)) σ
  | _, _ => .stuck
noncomputable def cutIx (n d : Nat) : Option Int → Nat
  | none => d
  | some v => if v < 0 then (max (v + (n : Int)) 0).toNat else (min v (n : Int)).toNat
noncomputable def cut {α : Type} (xs : List α) (lo hi : Option Int) : List α := (xs.drop (cutIx xs.length 0 lo)).take (cutIx xs.length xs.length hi - cutIx xs.length 0 lo)
noncomputable def bounds : Bool → Bool → List R → Option (Option Int × Option Int)
  | false, false, [] => some (none, none)
  | true, false, [.g (.int i)] => some (some i, none)
  | false, true, [.g (.int j)] => some (none, some j)
  | true, true, [.g (.int i), .g (.int j)] => some (some i, some j)
  | _, _, _ => none
noncomputable def pSlice (lo hi : Bool) : List R → Store → Res R
  | .g (.tup xs) :: r, σ => ofO (bounds lo hi r) fun b => if cutIx xs.length 0 b.1 = 0 ∧ cutIx xs.length xs.length b.2 = xs.length then .stuck else okG (.tup (cut xs b.1 b.2)) σ
  | .ref k :: r, σ => match σ[k]? with
    | some (.lst xs) => ofO (bounds lo hi r) fun b => .ok (.ref σ.length) (σ ++ [.lst (cut xs b.1 b.2)])
    | _ => .stuck
  | _, _ => .stuck

noncomputable def prim : Prim → List R → Store → Res R
  | .add => pAdd | .sub => pSub | .mul => pMul | .fdiv => pFdiv | .mod => pMod | .pow => pPow
  | .eq => pEq | .ne => pNe | .lt => pLt | .le => pLe | .gt => pGt | .ge => pGe | .isN => pIsN | .notN => pNotN | .inn => pIn | .notin => pNotIn
  | .idx => pIdx | .len => pLen | .tup => pTup | .lst => pLst | .dct0 => pDct0 | .dtg0 => pDtg0 | .setdefT => pSetdefT | .lenT => pLenT
  | .tupleOf => pTupleOf | .listOf => pListOf | .dictOf => pDictOf
  | .get1 => pGet1 | .get2 => pGet2 | .setdef => pSetdef | .append => pAppend | .extend => pExtend | .clear => pClear | .index => pIndex
  | .sum => pSum | .max1 => pMax1 | .maxd => pMaxd | .max2 => pMax2 | .min2 => pMin2 | .all => pAll
  | .isInst t => pIsInst t
  | .slice lo hi => pSlice lo hi

noncomputable def tru (σ : Store) : R → Option Bool
  | .g .non => some false
  | .g (.bl b) => some b
  | .g (.int i) => some (i != 0)
  | .g (.str x) => some (!x.isEmpty)
  | .g (.tup x) => some (!x.isEmpty)
  | .tr x => some (!x.isEmpty)
  | .ref k => match σ[k]? with
    | some (.lst x) => some (!x.isEmpty)
    | some (.rdl x) => some (!x.isEmpty)
    | some (.rls x) => some (!x.isEmpty)
    | some (.dct x) => some (!x.isEmpty)
    | some (.rdd _) => none
    | some (.dtg _) => none
    | some (.rdt _) => none
    | none => none

mutual
inductive Tm where
  | var (i : Nat)
  | con (x : G)
  | glb (f : String) (x : G)
  | op (p : Prim) (as : Tms)
  | meth (p : Prim) (a : Tm) (as : Tms)
  | call (f : String) (as : Tms)
  | andT (a b : Tm)
  | orT (a b : Tm)
  | notT (a : Tm)
  | ifT (c a b : Tm)
  | chain (p q : Prim) (a b c : Tm)
  | comp (k : Nat) (caps : List Nat) (s : Src) (conds : Tms) (elt : Tm)
inductive Tms where
  | nil
  | cons (a : Tm) (as : Tms)
inductive Src where
  | over (e : Tm)
  | range1 (e : Tm)
  | range2 (a b : Tm)
  | items (e : Tm)
  | itemsT (e : Tm)
  | enum (e s : Tm)
  | zip (a b : Tm)
  | keys (e : Tm)
  | chars (e : Tm)
end

structure Walk where
  items : List R
  guard : Option (Nat × Cell)

noncomputable def okW (xs : List R) (σ : Store) : Res Walk := .ok ⟨xs, none⟩ σ
noncomputable def rangeL (lo n : Int) : List R := (List.range (n - lo).toNat).map fun (k : Nat) => .g (.int (lo + (k : Int)))
noncomputable def wOver : R → Store → Res Walk
  | .g (.tup xs), σ => okW (xs.map .g) σ
  | .ref k, σ => match σ[k]? with
    | some (.lst xs) => .ok ⟨xs.map .g, some (k, .lst xs)⟩ σ
    | some (.rdl xs) => .ok ⟨xs.map .g, some (k, .rdl xs)⟩ σ
    | _ => .stuck
  | _, _ => .stuck
noncomputable def wChars : R → Store → Res Walk
  | .g (.str xs), σ => okW (xs.map fun c => .g (.str [c])) σ
  | _, _ => .stuck
noncomputable def wKeys : R → Store → Res Walk
  | .ref k, σ => match σ[k]? with
    | some (.dct xs) => if intKeys xs then .ok ⟨xs.map fun p => .g p.1, some (k, .dct xs)⟩ σ else .stuck
    | some (.rdd xs) => if intKeys xs then .ok ⟨xs.map fun p => .g p.1, some (k, .rdd xs)⟩ σ else .stuck
    | _ => .stuck
  | _, _ => .stuck
noncomputable def small (i : Int) : Bool := decide (-(2 ^ 62) ≤ i) && decide (i < 2 ^ 62)
noncomputable def wRange : R → R → Store → Res Walk
  | .g (.int i), .g (.int j), σ => if small i && small j && decide ((j - i).toNat ≤ big) then okW (rangeL i j) σ else .stuck
  | _, _, _ => .stuck
noncomputable def wItems : R → Store → Res Walk
  | .ref k, σ => match σ[k]? with
    | some (.dct xs) => if intKeys xs then .ok ⟨xs.map fun p => .g (.tup [p.1, p.2]), some (k, .dct xs)⟩ σ else .stuck
    | some (.rdd xs) => if intKeys xs then .ok ⟨xs.map fun p => .g (.tup [p.1, p.2]), some (k, .rdd xs)⟩ σ else .stuck
    | _ => .stuck
  | _, _ => .stuck
noncomputable def wItemsT : R → Store → Res Walk
  | .ref k, σ => match σ[k]? with
    | some (.dtg xs) => .ok ⟨xs.map fun p => .g (.tup [p.1, p.2]), some (k, .rdt xs)⟩ (σ.set k (.rdt xs))
    | _ => .stuck
  | _, _ => .stuck
noncomputable def enumL : Int → List G → List R
  | _, [] => []
  | n, x :: r => .g (.tup [.int n, x]) :: enumL (n + 1) r
noncomputable def wEnum : R → R → Store → Res Walk
  | .ref k, .g (.int n), σ => match σ[k]? with
    | some (.lst xs) => if small n && decide (xs.length ≤ big) then .ok ⟨enumL n xs, some (k, .lst xs)⟩ σ else .stuck
    | _ => .stuck
  | _, _, _ => .stuck
noncomputable def zipR : List G → List G → List R
  | x :: r, y :: t => .g (.tup [x, y]) :: zipR r t
  | _, _ => []
noncomputable def wZip : R → R → Store → Res Walk
  | .g (.tup xs), .g (.tup ys), σ => okW (zipR xs ys) σ
  | _, _, _ => .stuck

noncomputable def intact (w : Option (Nat × Cell)) (σ : Store) : Bool := match w with
  | none => true
  | some (_, .dct _) => false
  | some (k, c) => decide (σ[k]? = some c)

noncomputable abbrev CallH := String → List R → Store → Res R

noncomputable def compL (f : R → Store → Res (Option R)) (w : Option (Nat × Cell)) : List R → Store → Res (List R)
  | [], σ => if intact w σ then .ok [] σ else .stuck
  | x :: r, σ => if intact w σ then (f x σ).bind fun o σ1 => (compL f w r σ1).bind fun ys σ2 => .ok (match o with | some y => y :: ys | none => ys) σ2 else .stuck

noncomputable def truR (t : Bool) (r : R) (σ : Store) : Res R := if t then ofO (tru σ r) fun b => okG (.bl b) σ else .ok r σ

noncomputable def parts : R → Option (List R)
  | .g (.tup xs) => some (xs.map .g)
  | .tr xs => some xs
  | _ => none
noncomputable def bindC (k : Nat) (x : R) : Option (List (Option R)) := if k = 1 then some [some x] else match parts x with
  | some rs => if rs.length = k then some (rs.map some) else none
  | none => none
noncomputable def turnC (k : Nat) (ce : Env) (fc : Env → Store → Res Bool) (fe : Env → Store → Res R) (x : R) (σ : Store) : Res (Option R) := match bindC k x with
  | some bs => (fc (bs ++ ce) σ).bind fun b σ1 => if b then (fe (bs ++ ce) σ1).bind fun y σ2 => .ok (some y) σ2 else .ok none σ1
  | none => .stuck
noncomputable def capsE (ε : Env) (caps : List Nat) : Env := caps.map fun i => (ε[i]?).getD none

noncomputable def recvOk (p : Prim) (r : R) (σ : Store) : Bool := match r with
  | .ref k => (match p, σ[k]? with
    | .append, some (.lst _) => true
    | .extend, some (.lst _) => true
    | .index, some (.lst _) => true
    | .clear, some (.dct _) => true
    | .get1, some (.dct _) => true
    | .get2, some (.dct _) => true
    | .setdef, some (.dct _) => true
    | .setdefT, some (.dtg _) => true
    | _, _ => false)
  | _ => false

mutual
noncomputable def ev (cl : CallH) : Bool → Tm → Env → Store → Res R
  | t, .var i, ε, σ => match ε[i]? with
    | some (some r) => truR t r σ
    | _ => .stuck
  | t, .con x, _, σ => truR t (.g x) σ
  | t, .glb _ x, _, σ => truR t (.g x) σ
  | t, .op p as, ε, σ => (evs cl as ε σ).bind fun xs σ1 => (prim p xs σ1).bind fun r σ2 => truR t r σ2
  | t, .meth p a as, ε, σ => (ev cl false a ε σ).bind fun x σ1 => if recvOk p x σ1 then (evs cl as ε σ1).bind fun xs σ2 => (prim p (x :: xs) σ2).bind fun r σ3 => truR t r σ3 else .stuck
  | t, .call f as, ε, σ => (evs cl as ε σ).bind fun xs σ1 => (cl f xs σ1).bind fun r σ2 => truR t r σ2
  | t, .andT a b, ε, σ => (ev cl t a ε σ).bind fun r σ1 => match r with
    | .g (.bl true) => ev cl t b ε σ1
    | .g (.bl false) => okG (.bl false) σ1
    | _ => .stuck
  | t, .orT a b, ε, σ => (ev cl t a ε σ).bind fun r σ1 => match r with
    | .g (.bl false) => ev cl t b ε σ1
    | .g (.bl true) => okG (.bl true) σ1
    | _ => .stuck
  | t, .notT a, ε, σ => (ev cl t a ε σ).bind fun r σ1 => ofO (tru σ1 r) fun b => okG (.bl (!b)) σ1
  | t, .ifT c a b, ε, σ => (ev cl true c ε σ).bind fun r σ1 => match r with
    | .g (.bl true) => ev cl t a ε σ1
    | .g (.bl false) => ev cl t b ε σ1
    | _ => .stuck
  | t, .chain p q a b c, ε, σ => (ev cl false a ε σ).bind fun x σ1 => (ev cl false b ε σ1).bind fun y σ2 => (prim p [x, y] σ2).bind fun r σ3 => match r with
    | .g (.bl true) => (ev cl false c ε σ3).bind fun z σ4 => (prim q [y, z] σ4).bind fun r σ5 => truR t r σ5
    | .g (.bl false) => okG (.bl false) σ3
    | _ => .stuck
  | t, .comp k caps s conds elt, ε, σ => (evW cl s ε σ).bind fun w σ1 =>
      (compL (turnC k (capsE ε caps) (evC cl conds) (ev cl false elt)) w.guard w.items σ1).bind fun ys σ2 =>
      truR t (.ref σ2.length) (σ2 ++ [mkLst ys])
noncomputable def evs (cl : CallH) : Tms → Env → Store → Res (List R)
  | .nil, _, σ => .ok [] σ
  | .cons a as, ε, σ => (ev cl false a ε σ).bind fun x σ1 => (evs cl as ε σ1).bind fun xs σ2 => .ok (x :: xs) σ2
noncomputable def evC (cl : CallH) : Tms → Env → Store → Res Bool
  | .nil, _, σ => .ok true σ
  | .cons a as, ε, σ => (ev cl true a ε σ).bind fun r σ1 => match r with
    | .g (.bl true) => evC cl as ε σ1
    | .g (.bl false) => .ok false σ1
    | _ => .stuck
noncomputable def evW (cl : CallH) : Src → Env → Store → Res Walk
  | .over e, ε, σ => (ev cl false e ε σ).bind wOver
  | .range1 e, ε, σ => (ev cl false e ε σ).bind fun r σ1 => wRange (.g (.int 0)) r σ1
  | .range2 a b, ε, σ => (ev cl false a ε σ).bind fun x σ1 => (ev cl false b ε σ1).bind fun y σ2 => wRange x y σ2
  | .items e, ε, σ => (ev cl false e ε σ).bind wItems
  | .itemsT e, ε, σ => (ev cl false e ε σ).bind wItemsT
  | .enum e s, ε, σ => (ev cl false e ε σ).bind fun x σ1 => (ev cl false s ε σ1).bind fun y σ2 => wEnum x y σ2
  | .zip a b, ε, σ => (ev cl false a ε σ).bind fun x σ1 => (ev cl false b ε σ1).bind fun y σ2 => wZip x y σ2
  | .keys e, ε, σ => (ev cl false e ε σ).bind wKeys
  | .chars e, ε, σ => (ev cl false e ε σ).bind wChars
end

mutual
inductive Stm where
  | set (i : Nat) (e : Tm)
  | unpack (is : List Nat) (e : Tm)
  | setIdx (a i v : Tm)
  | expr (e : Tm)
  | ret (e : Tm)
  | retN
  | ite (c : Tm) (a b : Blk)
  | forS (tg : List Nat) (s : Src) (b : Blk)
  | whileS (c : Tm) (b : Blk)
  | brk
  | cont
  | pass
  | raise (c : String) (a : Tm)
  | tryS (b : Blk) (c : String) (slot : Option Nat) (h : Blk)
inductive Blk where
  | nil
  | cons (s : Stm) (b : Blk)
end

inductive Out where
  | next (ε : Env) | ret (r : R) | brk (ε : Env) | cont (ε : Env)
  deriving Inhabited

noncomputable def setSlot (ε : Env) (i : Nat) (r : R) : Option Env := if i < ε.length then some (ε.set i (some r)) else none
noncomputable def setSlots : List Nat → List R → Env → Option Env
  | [], [], ε => some ε
  | i :: is, r :: rs, ε => (setSlot ε i r).bind (setSlots is rs)
  | _, _, _ => none
noncomputable def bindTg : List Nat → R → Env → Option Env
  | [i], r, ε => setSlot ε i r
  | is, r, ε => (parts r).bind fun rs => setSlots is rs ε
noncomputable def ofE (o : Option Env) (f : Env → Res Out) : Res Out := match o with
  | some ε => f ε
  | none => .stuck

noncomputable def forL (tg : List Nat) (body : Env → Store → Res Out) (w : Option (Nat × Cell)) : List R → Env → Store → Res Out
  | [], ε, σ => if intact w σ then .ok (.next ε) σ else .stuck
  | x :: r, ε, σ => if intact w σ then ofE (bindTg tg x ε) fun ε1 => (body ε1 σ).bind fun o σ1 => match o with
      | .next ε2 => forL tg body w r ε2 σ1
      | .cont ε2 => forL tg body w r ε2 σ1
      | .brk ε2 => .ok (.next ε2) σ1
      | .ret v => .ok (.ret v) σ1
    else .stuck
noncomputable def thaw (k : Nat) (kvs : List (G × G)) : Res Out → Res Out
  | .ok o σ => if σ[k]? = some (.rdd kvs) then .ok o (σ.set k (.dct kvs)) else .stuck
  | .exc c σ => if σ[k]? = some (.rdd kvs) then .exc c (σ.set k (.dct kvs)) else .stuck
  | .stuck => .stuck
noncomputable def forW (tg : List Nat) (body : Env → Store → Res Out) (w : Walk) (ε : Env) (σ : Store) : Res Out := match w.guard with
  | some (k, .dct kvs) => thaw k kvs (forL tg body (some (k, .rdd kvs)) w.items ε (σ.set k (.rdd kvs)))
  | g => forL tg body g w.items ε σ
noncomputable def whileL (test : Env → Store → Res R) (body : Env → Store → Res Out) : Nat → Env → Store → Res Out
  | 0, _, _ => .stuck
  | n + 1, ε, σ => (test ε σ).bind fun r σ1 => match r with
    | .g (.bl false) => .ok (.next ε) σ1
    | .g (.bl true) => (body ε σ1).bind fun o σ2 => match o with
      | .next ε2 => whileL test body n ε2 σ2
      | .cont ε2 => whileL test body n ε2 σ2
      | .brk ε2 => .ok (.next ε2) σ2
      | .ret v => .ok (.ret v) σ2
    | _ => .stuck

noncomputable def putAt : R → R → R → Store → Option Store
  | .ref k, .g i, .g v, σ => match σ[k]?, i with
    | some (.lst xs), .int i => (ixOf xs.length i).map fun j => σ.set k (.lst (xs.set j v))
    | some (.dct kvs), i => if isKey i && decide (kvs.length < big) then some (σ.set k (.dct (dput kvs i v))) else none
    | _, _ => none
  | _, _, _, _ => none

mutual
noncomputable def evS (cl : CallH) (W : Nat) : Stm → Env → Store → Res Out
  | .set i e, ε, σ => (ev cl false e ε σ).bind fun r σ1 => ofE (setSlot ε i r) fun ε1 => .ok (.next ε1) σ1
  | .unpack is e, ε, σ => (ev cl false e ε σ).bind fun r σ1 => match parts r with
    | some rs => ofE (setSlots is rs ε) fun ε1 => .ok (.next ε1) σ1
    | none => .stuck
  | .setIdx a i v, ε, σ => (ev cl false v ε σ).bind fun z σ1 => (ev cl false a ε σ1).bind fun x σ2 => (ev cl false i ε σ2).bind fun y σ3 => match putAt x y z σ3 with
    | some σ4 => .ok (.next ε) σ4
    | none => .stuck
  | .expr e, ε, σ => (ev cl false e ε σ).bind fun _ σ1 => .ok (.next ε) σ1
  | .ret e, ε, σ => (ev cl false e ε σ).bind fun r σ1 => .ok (.ret r) σ1
  | .retN, _, σ => .ok (.ret (.g .non)) σ
  | .ite c a b, ε, σ => (ev cl true c ε σ).bind fun r σ1 => match r with
    | .g (.bl true) => evB cl W a ε σ1
    | .g (.bl false) => evB cl W b ε σ1
    | _ => .stuck
  | .forS tg s b, ε, σ => (evW cl s ε σ).bind fun w σ1 => forW tg (fun ε σ => evB cl W b ε σ) w ε σ1
  | .whileS c b, ε, σ => whileL (fun ε σ => ev cl true c ε σ) (fun ε σ => evB cl W b ε σ) W ε σ
  | .brk, ε, σ => .ok (.brk ε) σ
  | .cont, ε, σ => .ok (.cont ε) σ
  | .pass, ε, σ => .ok (.next ε) σ
  | .raise c a, ε, σ => (ev cl false a ε σ).bind fun _ σ1 => .exc c σ1
  | .tryS _ _ _ _, _, _ => .stuck
noncomputable def evB (cl : CallH) (W : Nat) : Blk → Env → Store → Res Out
  | .nil, ε, σ => .ok (.next ε) σ
  | .cons s b, ε, σ => (evS cl W s ε σ).bind fun o σ1 => match o with
    | .next ε1 => evB cl W b ε1 σ1
    | o => .ok o σ1
end

structure Fn where
  name : String
  np : Nat
  nl : Nat
  body : Blk

noncomputable def look : List Fn → String → Option Fn
  | [], _ => none
  | d :: r, f => if d.name = f then some d else look r f

mutual
noncomputable def refsGe (n : Nat) : R → List Nat → List Nat
  | .g _, acc => acc
  | .ref i, acc => if i < n then acc else if acc.contains i then acc else acc ++ [i]
  | .tr xs, acc => refsGes n xs acc
noncomputable def refsGes (n : Nat) : List R → List Nat → List Nat
  | [], acc => acc
  | x :: r, acc => refsGes n r (refsGe n x acc)
end
mutual
noncomputable def ren (n : Nat) (ks : List Nat) : R → R
  | .g x => .g x
  | .ref i => if i < n then .ref i else .ref (n + ks.idxOf i)
  | .tr xs => .tr (rens n ks xs)
noncomputable def rens (n : Nat) (ks : List Nat) : List R → List R
  | [] => []
  | x :: r => ren n ks x :: rens n ks r
end
noncomputable def flatCell : Cell → Bool
  | .rls _ => false
  | _ => true
noncomputable def cellsAt (σ : Store) : List Nat → Option (List Cell)
  | [] => some []
  | k :: r => match σ[k]? with
    | some c => if flatCell c then (cellsAt σ r).map (c :: ·) else none
    | none => none
noncomputable def fin (n : Nat) : Res Out → Res R
  | .ok (.ret r) σ => match cellsAt σ (refsGe n r []) with
    | some cs => .ok (ren n (refsGe n r []) r) (σ.take n ++ cs)
    | none => .stuck
  | .ok (.next _) σ => okG .non (σ.take n)
  | .ok _ _ => .stuck
  | .exc c σ => .exc c (σ.take n)
  | .stuck => .stuck

noncomputable def run (P : List Fn) (W : Nat) : Nat → CallH
  | 0, _, _, _ => .stuck
  | n + 1, f, as, σ => match look P f with
    | none => .stuck
    | some d => if as.length = d.np then fin σ.length (evB (run P W n) W d.body (as.map some ++ List.replicate (d.nl - d.np) none) σ) else .stuck

end MP

set_option linter.all false
namespace MP
variable {cl : CallH} {W : Nat} {ε : Env} {σ : Store}

noncomputable def kB (cl : CallH) (W : Nat) (b : Blk) : Res Out → Res Out
  | .ok (.next ε) σ => evB cl W b ε σ
  | .ok o σ => .ok o σ
  | .exc c σ => .exc c σ
  | .stuck => .stuck
@[simp] theorem evB_cons (s : Stm) (b : Blk) : evB cl W (.cons s b) ε σ = kB cl W b (evS cl W s ε σ) := by
  rw [evB]; cases evS cl W s ε σ with
  | ok o σ => cases o <;> rfl
  | exc c σ => rfl
  | stuck => rfl
@[simp] theorem evB_nil : evB cl W .nil ε σ = .ok (.next ε) σ := by rw [evB]
@[simp] theorem kB_next (b : Blk) : kB cl W b (.ok (.next ε) σ) = evB cl W b ε σ := rfl
@[simp] theorem kB_ret (b : Blk) (r : R) : kB cl W b (.ok (.ret r) σ) = .ok (.ret r) σ := rfl
@[simp] theorem kB_brk (b : Blk) : kB cl W b (.ok (.brk ε) σ) = .ok (.brk ε) σ := rfl
@[simp] theorem kB_cont (b : Blk) : kB cl W b (.ok (.cont ε) σ) = .ok (.cont ε) σ := rfl
@[simp] theorem kB_exc (b : Blk) (c : String) : kB cl W b (.exc c σ) = .exc c σ := rfl

noncomputable def kT (t : Bool) : Res R → Res R
  | .ok r σ => truR t r σ
  | x => x
@[simp] theorem kT_f (x : Res R) : kT false x = x := by cases x <;> rfl
@[simp] theorem kT_bl (b : Bool) : kT true (.ok (.g (.bl b)) σ) = .ok (.g (.bl b)) σ := rfl
theorem kT_ok (r : R) : kT true (.ok r σ) = ofO (tru σ r) fun b => .ok (.g (.bl b)) σ := rfl
@[simp] theorem truR_f (r : R) : truR false r σ = .ok r σ := rfl
@[simp] theorem truR_t (r : R) : truR true r σ = ofO (tru σ r) fun b => .ok (.g (.bl b)) σ := rfl
@[simp] theorem ofO_some {α : Type} (a : α) (f : α → Res R) : ofO (some a) f = f a := rfl

noncomputable def kOp (t : Bool) (p : Prim) : Res (List R) → Res R
  | .ok xs σ => kT t (prim p xs σ)
  | .exc c σ => .exc c σ
  | .stuck => .stuck
@[simp] theorem ev_op (t : Bool) (p : Prim) (as : Tms) : ev cl t (.op p as) ε σ = kOp t p (evs cl as ε σ) := by
  rw [ev]; cases evs cl as ε σ with
  | ok xs σ => show (prim p xs σ).bind _ = kT t (prim p xs σ); cases prim p xs σ <;> rfl
  | exc c σ => rfl
  | stuck => rfl
@[simp] theorem kOp_ok (t : Bool) (p : Prim) (xs : List R) : kOp t p (.ok xs σ) = kT t (prim p xs σ) := rfl
noncomputable def kM2 (t : Bool) (p : Prim) (r : R) : Res (List R) → Res R
  | .ok xs σ => kT t (prim p (r :: xs) σ)
  | .exc c σ => .exc c σ
  | .stuck => .stuck
noncomputable def kM1 (cl : CallH) (t : Bool) (p : Prim) (as : Tms) (ε : Env) : Res R → Res R
  | .ok x σ => if recvOk p x σ then kM2 t p x (evs cl as ε σ) else .stuck
  | .exc c σ => .exc c σ
  | .stuck => .stuck
@[simp] theorem ev_meth (t : Bool) (p : Prim) (a : Tm) (as : Tms) : ev cl t (.meth p a as) ε σ = kM1 cl t p as ε (ev cl false a ε σ) := by
  rw [ev]; cases ev cl false a ε σ with
  | ok x σ =>
    show (if recvOk p x σ then _ else _) = if recvOk p x σ then _ else _
    cases recvOk p x σ with
    | false => rfl
    | true =>
      simp only [if_true]
      cases evs cl as ε σ with
      | ok xs σ => show (prim p (x :: xs) σ).bind _ = kT t (prim p (x :: xs) σ); cases prim p (x :: xs) σ <;> rfl
      | exc c σ => rfl
      | stuck => rfl
  | exc c σ => rfl
  | stuck => rfl
@[simp] theorem kM1_ok (t : Bool) {p : Prim} (as : Tms) {x : R} (h : recvOk p x σ = true) : kM1 cl t p as ε (.ok x σ) = kM2 t p x (evs cl as ε σ) := by simp [kM1, h]
@[simp] theorem kM2_ok (t : Bool) (p : Prim) (x : R) (xs : List R) : kM2 t p x (.ok xs σ) = kT t (prim p (x :: xs) σ) := rfl
theorem recv_append {k : Nat} {xs : List G} (h : σ[k]? = some (.lst xs)) : recvOk .append (.ref k) σ = true := by simp [recvOk, h]
theorem recv_extend {k : Nat} {xs : List G} (h : σ[k]? = some (.lst xs)) : recvOk .extend (.ref k) σ = true := by simp [recvOk, h]
theorem recv_index {k : Nat} {xs : List G} (h : σ[k]? = some (.lst xs)) : recvOk .index (.ref k) σ = true := by simp [recvOk, h]
theorem recv_clear {k : Nat} {xs : List (G × G)} (h : σ[k]? = some (.dct xs)) : recvOk .clear (.ref k) σ = true := by simp [recvOk, h]
theorem recv_get1 {k : Nat} {xs : List (G × G)} (h : σ[k]? = some (.dct xs)) : recvOk .get1 (.ref k) σ = true := by simp [recvOk, h]
theorem recv_setdef {k : Nat} {xs : List (G × G)} (h : σ[k]? = some (.dct xs)) : recvOk .setdef (.ref k) σ = true := by simp [recvOk, h]
theorem recv_get2 {k : Nat} {xs : List (G × G)} (h : σ[k]? = some (.dct xs)) : recvOk .get2 (.ref k) σ = true := by simp [recvOk, h]
noncomputable def kCall (cl : CallH) (t : Bool) (f : String) : Res (List R) → Res R
  | .ok xs σ => kT t (cl f xs σ)
  | .exc c σ => .exc c σ
  | .stuck => .stuck
@[simp] theorem ev_call (t : Bool) (f : String) (as : Tms) : ev cl t (.call f as) ε σ = kCall cl t f (evs cl as ε σ) := by
  rw [ev]; cases evs cl as ε σ with
  | ok xs σ => show (cl f xs σ).bind _ = kT t (cl f xs σ); cases cl f xs σ <;> rfl
  | exc c σ => rfl
  | stuck => rfl
@[simp] theorem kCall_ok (t : Bool) (f : String) (xs : List R) : kCall cl t f (.ok xs σ) = kT t (cl f xs σ) := rfl
noncomputable def kCons (x : R) : Res (List R) → Res (List R)
  | .ok xs σ => .ok (x :: xs) σ
  | y => y
noncomputable def kArg (cl : CallH) (as : Tms) (ε : Env) : Res R → Res (List R)
  | .ok x σ => kCons x (evs cl as ε σ)
  | .exc c σ => .exc c σ
  | .stuck => .stuck
@[simp] theorem evs_nil : evs cl .nil ε σ = .ok [] σ := by rw [evs]
@[simp] theorem evs_cons (a : Tm) (as : Tms) : evs cl (.cons a as) ε σ = kArg cl as ε (ev cl false a ε σ) := by
  rw [evs]; cases ev cl false a ε σ with
  | ok x σ => show (evs cl as ε σ).bind _ = kCons x (evs cl as ε σ); cases evs cl as ε σ <;> rfl
  | exc c σ => rfl
  | stuck => rfl
@[simp] theorem kArg_ok (as : Tms) (x : R) : kArg cl as ε (.ok x σ) = kCons x (evs cl as ε σ) := rfl
@[simp] theorem kCons_ok (x : R) (xs : List R) : kCons x (.ok xs σ) = .ok (x :: xs) σ := rfl

noncomputable def kVar (t : Bool) (σ : Store) : Option (Option R) → Res R
  | some (some r) => truR t r σ
  | _ => .stuck
@[simp] theorem ev_var (t : Bool) (i : Nat) : ev cl t (.var i) ε σ = kVar t σ (ε[i]?) := by
  rw [ev]
  cases ε[i]? with
  | none => rfl
  | some o => cases o <;> rfl
@[simp] theorem kVar_some (t : Bool) (r : R) : kVar t σ (some (some r)) = truR t r σ := rfl
@[simp] theorem ev_con (t : Bool) (x : G) : ev cl t (.con x) ε σ = truR t (.g x) σ := by rw [ev]
@[simp] theorem ev_glb (t : Bool) (f : String) (x : G) : ev cl t (.glb f x) ε σ = truR t (.g x) σ := by rw [ev]

noncomputable def kAnd (cl : CallH) (t : Bool) (b : Tm) (ε : Env) : Res R → Res R
  | .ok (.g (.bl true)) σ => ev cl t b ε σ
  | .ok (.g (.bl false)) σ => okG (.bl false) σ
  | .ok _ _ => .stuck
  | .exc c σ => .exc c σ
  | .stuck => .stuck
@[simp] theorem ev_and (t : Bool) (a b : Tm) : ev cl t (.andT a b) ε σ = kAnd cl t b ε (ev cl t a ε σ) := by
  rw [ev]; cases ev cl t a ε σ with
  | ok r σ => cases r with
    | g x => cases x with
      | bl c => cases c <;> rfl
      | _ => rfl
    | _ => rfl
  | exc c σ => rfl
  | stuck => rfl
@[simp] theorem kAnd_t (t : Bool) (b : Tm) : kAnd cl t b ε (.ok (.g (.bl true)) σ) = ev cl t b ε σ := rfl
@[simp] theorem kAnd_f (t : Bool) (b : Tm) : kAnd cl t b ε (.ok (.g (.bl false)) σ) = .ok (.g (.bl false)) σ := rfl
noncomputable def kOr (cl : CallH) (t : Bool) (b : Tm) (ε : Env) : Res R → Res R
  | .ok (.g (.bl false)) σ => ev cl t b ε σ
  | .ok (.g (.bl true)) σ => okG (.bl true) σ
  | .ok _ _ => .stuck
  | .exc c σ => .exc c σ
  | .stuck => .stuck
@[simp] theorem ev_or (t : Bool) (a b : Tm) : ev cl t (.orT a b) ε σ = kOr cl t b ε (ev cl t a ε σ) := by
  rw [ev]; cases ev cl t a ε σ with
  | ok r σ => cases r with
    | g x => cases x with
      | bl c => cases c <;> rfl
      | _ => rfl
    | _ => rfl
  | exc c σ => rfl
  | stuck => rfl
@[simp] theorem kOr_f (t : Bool) (b : Tm) : kOr cl t b ε (.ok (.g (.bl false)) σ) = ev cl t b ε σ := rfl
@[simp] theorem kOr_t (t : Bool) (b : Tm) : kOr cl t b ε (.ok (.g (.bl true)) σ) = .ok (.g (.bl true)) σ := rfl
noncomputable def kNot : Res R → Res R
  | .ok r σ => ofO (tru σ r) fun b => okG (.bl (!b)) σ
  | x => x
@[simp] theorem ev_not (t : Bool) (a : Tm) : ev cl t (.notT a) ε σ = kNot (ev cl t a ε σ) := by
  rw [ev]; cases ev cl t a ε σ <;> rfl
@[simp] theorem kNot_bl (b : Bool) : kNot (.ok (.g (.bl b)) σ) = .ok (.g (.bl (!b))) σ := rfl
theorem kNot_ok (r : R) : kNot (.ok r σ) = ofO (tru σ r) fun b => .ok (.g (.bl (!b))) σ := rfl
noncomputable def kIf (cl : CallH) (t : Bool) (a b : Tm) (ε : Env) : Res R → Res R
  | .ok (.g (.bl true)) σ => ev cl t a ε σ
  | .ok (.g (.bl false)) σ => ev cl t b ε σ
  | .ok _ _ => .stuck
  | .exc c σ => .exc c σ
  | .stuck => .stuck
@[simp] theorem ev_if (t : Bool) (c a b : Tm) : ev cl t (.ifT c a b) ε σ = kIf cl t a b ε (ev cl true c ε σ) := by
  rw [ev]; cases ev cl true c ε σ with
  | ok r σ => cases r with
    | g x => cases x with
      | bl c => cases c <;> rfl
      | _ => rfl
    | _ => rfl
  | exc c σ => rfl
  | stuck => rfl
@[simp] theorem kIf_t (t : Bool) (a b : Tm) : kIf cl t a b ε (.ok (.g (.bl true)) σ) = ev cl t a ε σ := rfl
@[simp] theorem kIf_f (t : Bool) (a b : Tm) : kIf cl t a b ε (.ok (.g (.bl false)) σ) = ev cl t b ε σ := rfl

noncomputable def kCh4 (t : Bool) (q : Prim) (y : R) : Res R → Res R
  | .ok z σ => kT t (prim q [y, z] σ)
  | x => x
noncomputable def kCh3 (cl : CallH) (t : Bool) (q : Prim) (c : Tm) (ε : Env) (y : R) : Res R → Res R
  | .ok (.g (.bl true)) σ => kCh4 t q y (ev cl false c ε σ)
  | .ok (.g (.bl false)) σ => okG (.bl false) σ
  | .ok _ _ => .stuck
  | x => x
noncomputable def kCh2 (cl : CallH) (t : Bool) (p q : Prim) (c : Tm) (ε : Env) (x : R) : Res R → Res R
  | .ok y σ => kCh3 cl t q c ε y (prim p [x, y] σ)
  | r => r
noncomputable def kCh1 (cl : CallH) (t : Bool) (p q : Prim) (b c : Tm) (ε : Env) : Res R → Res R
  | .ok x σ => kCh2 cl t p q c ε x (ev cl false b ε σ)
  | r => r
@[simp] theorem ev_chain (t : Bool) (p q : Prim) (a b c : Tm) : ev cl t (.chain p q a b c) ε σ = kCh1 cl t p q b c ε (ev cl false a ε σ) := by
  rw [ev]; cases ev cl false a ε σ with
  | ok x σ =>
    show (ev cl false b ε σ).bind _ = kCh2 cl t p q c ε x (ev cl false b ε σ)
    cases ev cl false b ε σ with
    | ok y σ =>
      show (prim p [x, y] σ).bind _ = kCh3 cl t q c ε y (prim p [x, y] σ)
      cases prim p [x, y] σ with
      | ok r σ => cases r with
        | g z => cases z with
          | bl d => cases d with
            | true =>
              show (ev cl false c ε σ).bind _ = kCh4 t q y (ev cl false c ε σ)
              cases ev cl false c ε σ with
              | ok z σ => show (prim q [y, z] σ).bind _ = kT t (prim q [y, z] σ); cases prim q [y, z] σ <;> rfl
              | exc c σ => rfl
              | stuck => rfl
            | false => rfl
          | _ => rfl
        | _ => rfl
      | exc c σ => rfl
      | stuck => rfl
    | exc c σ => rfl
    | stuck => rfl
  | exc c σ => rfl
  | stuck => rfl
@[simp] theorem kCh1_ok (t : Bool) (p q : Prim) (b c : Tm) (x : R) : kCh1 cl t p q b c ε (.ok x σ) = kCh2 cl t p q c ε x (ev cl false b ε σ) := rfl
@[simp] theorem kCh2_ok (t : Bool) (p q : Prim) (c : Tm) (x y : R) : kCh2 cl t p q c ε x (.ok y σ) = kCh3 cl t q c ε y (prim p [x, y] σ) := rfl
@[simp] theorem kCh3_t (t : Bool) (q : Prim) (c : Tm) (y : R) : kCh3 cl t q c ε y (.ok (.g (.bl true)) σ) = kCh4 t q y (ev cl false c ε σ) := rfl
@[simp] theorem kCh3_f (t : Bool) (q : Prim) (c : Tm) (y : R) : kCh3 cl t q c ε y (.ok (.g (.bl false)) σ) = .ok (.g (.bl false)) σ := rfl
@[simp] theorem kCh4_ok (t : Bool) (q : Prim) (y z : R) : kCh4 t q y (.ok z σ) = kT t (prim q [y, z] σ) := rfl

noncomputable def kW (f : R → Store → Res Walk) : Res R → Res Walk
  | .ok r σ => f r σ
  | .exc c σ => .exc c σ
  | .stuck => .stuck
@[simp] theorem evW_over (e : Tm) : evW cl (.over e) ε σ = kW wOver (ev cl false e ε σ) := by rw [evW]; cases ev cl false e ε σ <;> rfl
@[simp] theorem evW_range1 (e : Tm) : evW cl (.range1 e) ε σ = kW (wRange (.g (.int 0))) (ev cl false e ε σ) := by rw [evW]; cases ev cl false e ε σ <;> rfl
@[simp] theorem evW_items (e : Tm) : evW cl (.items e) ε σ = kW wItems (ev cl false e ε σ) := by rw [evW]; cases ev cl false e ε σ <;> rfl
@[simp] theorem evW_keys (e : Tm) : evW cl (.keys e) ε σ = kW wKeys (ev cl false e ε σ) := by rw [evW]; cases ev cl false e ε σ <;> rfl
@[simp] theorem evW_chars (e : Tm) : evW cl (.chars e) ε σ = kW wChars (ev cl false e ε σ) := by rw [evW]; cases ev cl false e ε σ <;> rfl
noncomputable def kW2 (cl : CallH) (f : R → R → Store → Res Walk) (b : Tm) (ε : Env) : Res R → Res Walk
  | .ok x σ => kW (f x) (ev cl false b ε σ)
  | .exc c σ => .exc c σ
  | .stuck => .stuck
@[simp] theorem evW_range2 (a b : Tm) : evW cl (.range2 a b) ε σ = kW2 cl wRange b ε (ev cl false a ε σ) := by
  rw [evW]; cases ev cl false a ε σ with
  | ok x σ => show (ev cl false b ε σ).bind _ = kW (wRange x) (ev cl false b ε σ); cases ev cl false b ε σ <;> rfl
  | exc c σ => rfl
  | stuck => rfl
@[simp] theorem evW_enum (a b : Tm) : evW cl (.enum a b) ε σ = kW2 cl wEnum b ε (ev cl false a ε σ) := by
  rw [evW]; cases ev cl false a ε σ with
  | ok x σ => show (ev cl false b ε σ).bind _ = kW (wEnum x) (ev cl false b ε σ); cases ev cl false b ε σ <;> rfl
  | exc c σ => rfl
  | stuck => rfl
@[simp] theorem evW_zip (a b : Tm) : evW cl (.zip a b) ε σ = kW2 cl wZip b ε (ev cl false a ε σ) := by
  rw [evW]; cases ev cl false a ε σ with
  | ok x σ => show (ev cl false b ε σ).bind _ = kW (wZip x) (ev cl false b ε σ); cases ev cl false b ε σ <;> rfl
  | exc c σ => rfl
  | stuck => rfl
@[simp] theorem kW_ok (f : R → Store → Res Walk) (r : R) : kW f (.ok r σ) = f r σ := by rw [kW]
@[simp] theorem kW2_ok (f : R → R → Store → Res Walk) (b : Tm) (x : R) : kW2 cl f b ε (.ok x σ) = kW (f x) (ev cl false b ε σ) := by rw [kW2]
@[simp] theorem wOver_tup (xs : List G) : wOver (.g (.tup xs)) σ = .ok ⟨xs.map .g, none⟩ σ := rfl
@[simp] theorem wChars_str (xs : List Nat) : wChars (.g (.str xs)) σ = .ok ⟨xs.map fun c => .g (.str [c]), none⟩ σ := rfl
theorem wOver_lst {k : Nat} {xs : List G} (h : σ[k]? = some (.lst xs)) : wOver (.ref k) σ = .ok ⟨xs.map .g, some (k, .lst xs)⟩ σ := by simp only [wOver, h]
theorem wOver_rdl {k : Nat} {xs : List G} (h : σ[k]? = some (.rdl xs)) : wOver (.ref k) σ = .ok ⟨xs.map .g, some (k, .rdl xs)⟩ σ := by simp only [wOver, h]
theorem wKeys_dct {k : Nat} {xs : List (G × G)} (h : σ[k]? = some (.dct xs)) (hi : intKeys xs = true) : wKeys (.ref k) σ = .ok ⟨xs.map fun p => .g p.1, some (k, .dct xs)⟩ σ := by simp only [wKeys, h, hi, if_true]
theorem wItems_dct {k : Nat} {xs : List (G × G)} (h : σ[k]? = some (.dct xs)) (hi : intKeys xs = true) : wItems (.ref k) σ = .ok ⟨xs.map fun p => .g (.tup [p.1, p.2]), some (k, .dct xs)⟩ σ := by simp only [wItems, h, hi, if_true]
theorem wEnum_lst {k : Nat} {xs : List G} {n : Int} (h : σ[k]? = some (.lst xs)) (hn : (small n && decide (xs.length ≤ big)) = true) : wEnum (.ref k) (.g (.int n)) σ = .ok ⟨enumL n xs, some (k, .lst xs)⟩ σ := by simp only [wEnum, h, hn, if_true]
@[simp] theorem wZip_tup (xs ys : List G) : wZip (.g (.tup xs)) (.g (.tup ys)) σ = .ok ⟨zipR xs ys, none⟩ σ := rfl
theorem wRange_ok {i j : Int} (h : (small i && small j && decide ((j - i).toNat ≤ big)) = true) : wRange (.g (.int i)) (.g (.int j)) σ = .ok ⟨rangeL i j, none⟩ σ := by simp only [wRange, h, if_true, okW]

noncomputable def compF (cl : CallH) (k : Nat) (caps : List Nat) (conds : Tms) (elt : Tm) (ε : Env) (x : R) (σ : Store) : Res (Option R) := turnC k (capsE ε caps) (evC cl conds) (ev cl false elt) x σ
noncomputable def kC2 (t : Bool) : Res (List R) → Res R
  | .ok ys σ => truR t (.ref σ.length) (σ ++ [mkLst ys])
  | .exc c σ => .exc c σ
  | .stuck => .stuck
noncomputable def kC1 (cl : CallH) (t : Bool) (k : Nat) (caps : List Nat) (conds : Tms) (elt : Tm) (ε : Env) : Res Walk → Res R
  | .ok w σ => kC2 t (compL (compF cl k caps conds elt ε) w.guard w.items σ)
  | .exc c σ => .exc c σ
  | .stuck => .stuck
@[simp] theorem ev_comp (t : Bool) (k : Nat) (caps : List Nat) (s : Src) (conds : Tms) (elt : Tm) : ev cl t (.comp k caps s conds elt) ε σ = kC1 cl t k caps conds elt ε (evW cl s ε σ) := by
  rw [ev]; cases evW cl s ε σ with
  | ok w σ =>
    show (compL (compF cl k caps conds elt ε) w.guard w.items σ).bind _ = kC2 t (compL (compF cl k caps conds elt ε) w.guard w.items σ)
    cases compL (compF cl k caps conds elt ε) w.guard w.items σ <;> rfl
  | exc c σ => rfl
  | stuck => rfl
@[simp] theorem kC1_ok (t : Bool) (k : Nat) (caps : List Nat) (conds : Tms) (elt : Tm) (w : Walk) : kC1 cl t k caps conds elt ε (.ok w σ) = kC2 t (compL (compF cl k caps conds elt ε) w.guard w.items σ) := rfl
@[simp] theorem kC2_ok (t : Bool) (ys : List R) : kC2 t (.ok ys σ) = truR t (.ref σ.length) (σ ++ [mkLst ys]) := rfl
noncomputable def kSome : Res R → Res (Option R)
  | .ok y σ => .ok (some y) σ
  | .exc c σ => .exc c σ
  | .stuck => .stuck
@[simp] theorem kSome_ok (y : R) : kSome (.ok y σ) = .ok (some y) σ := rfl
noncomputable def turnN (cl : CallH) (caps : List Nat) (elt : Tm) (ε : Env) (σ : Store) : Option (List (Option R)) → Res (Option R)
  | some bs => kSome (ev cl false elt (bs ++ capsE ε caps) σ)
  | none => .stuck
@[simp] theorem compF_nil (k : Nat) (caps : List Nat) (elt : Tm) (x : R) : compF cl k caps .nil elt ε x σ = turnN cl caps elt ε σ (bindC k x) := by
  unfold compF turnC
  cases bindC k x with
  | none => rfl
  | some bs =>
    simp only [evC, bind_ok, if_true, turnN]
    cases ev cl false elt (bs ++ capsE ε caps) σ <;> rfl
@[simp] theorem turnN_some (caps : List Nat) (elt : Tm) (bs : List (Option R)) : turnN cl caps elt ε σ (some bs) = kSome (ev cl false elt (bs ++ capsE ε caps) σ) := rfl
@[simp] theorem capsE_nil : capsE ε [] = [] := rfl
@[simp] theorem capsE_cons (i : Nat) (r : List Nat) : capsE ε (i :: r) = (ε[i]?).getD none :: capsE ε r := rfl
@[simp] theorem bindC_one (x : R) : bindC 1 x = some [some x] := rfl
@[simp] theorem bindC_two (x y : G) : bindC 2 (.g (.tup [x, y])) = some [some (.g x), some (.g y)] := rfl
noncomputable def kCond (cl : CallH) (elt : Tm) (ε : Env) : Res R → Res (Option R)
  | .ok (.g (.bl true)) σ => kSome (ev cl false elt ε σ)
  | .ok (.g (.bl false)) σ => .ok none σ
  | .ok _ _ => .stuck
  | .exc c σ => .exc c σ
  | .stuck => .stuck
noncomputable def turnO (cl : CallH) (caps : List Nat) (c elt : Tm) (ε : Env) (σ : Store) : Option (List (Option R)) → Res (Option R)
  | some bs => kCond cl elt (bs ++ capsE ε caps) (ev cl true c (bs ++ capsE ε caps) σ)
  | none => .stuck
@[simp] theorem turnO_some (caps : List Nat) (c elt : Tm) (bs : List (Option R)) : turnO cl caps c elt ε σ (some bs) = kCond cl elt (bs ++ capsE ε caps) (ev cl true c (bs ++ capsE ε caps) σ) := rfl
@[simp] theorem compF_one (k : Nat) (caps : List Nat) (c elt : Tm) (x : R) : compF cl k caps (.cons c .nil) elt ε x σ = turnO cl caps c elt ε σ (bindC k x) := by
  unfold compF turnC
  cases bindC k x with
  | none => rfl
  | some bs =>
    simp only [turnO]
    rw [evC]
    cases ev cl true c (bs ++ capsE ε caps) σ with
    | ok r σ => cases r with
      | g z => cases z with
        | bl d => cases d with
          | true =>
            simp only [bind_ok, evC, if_true]
            show _ = kSome (ev cl false elt (bs ++ capsE ε caps) σ)
            cases ev cl false elt (bs ++ capsE ε caps) σ <;> rfl
          | false => rfl
        | _ => rfl
      | _ => rfl
    | exc c σ => rfl
    | stuck => rfl
@[simp] theorem kCond_t (elt : Tm) : kCond cl elt ε (.ok (.g (.bl true)) σ) = kSome (ev cl false elt ε σ) := rfl
@[simp] theorem kCond_f (elt : Tm) : kCond cl elt ε (.ok (.g (.bl false)) σ) = .ok none σ := rfl
theorem compL_map {α : Type} {f : R → Store → Res (Option R)} {w : Option (Nat × Cell)} (a b : α → R) {σ : Store} (hw : intact w σ = true) : ∀ (xs : List α), (∀ x ∈ xs, f (a x) σ = .ok (some (b x)) σ) → compL f w (xs.map a) σ = .ok (xs.map b) σ
  | [], _ => by simp [compL, hw]
  | x :: r, h => by
    simp only [List.map_cons, compL, hw, if_true]
    rw [h x List.mem_cons_self, bind_ok, compL_map a b hw r fun y hy => h y (List.mem_cons_of_mem _ hy)]
    rfl
theorem compL_filter {α : Type} {f : R → Store → Res (Option R)} {w : Option (Nat × Cell)} (a b : α → R) (p : α → Bool) {σ : Store} (hw : intact w σ = true) : ∀ (xs : List α), (∀ x ∈ xs, f (a x) σ = .ok (if p x then some (b x) else none) σ) → compL f w (xs.map a) σ = .ok ((xs.filter p).map b) σ
  | [], _ => by simp [compL, hw]
  | x :: r, h => by
    simp only [List.map_cons, compL, hw, if_true]
    rw [h x List.mem_cons_self, bind_ok, compL_filter a b p hw r fun y hy => h y (List.mem_cons_of_mem _ hy)]
    cases hp : p x <;> simp [hp]
theorem allG_map (l : List G) : allG (l.map R.g) = some l := by
  induction l with
  | nil => rfl
  | cons x r ih => simp [allG, ih]
theorem mkLst_map {α : Type} (f : α → G) (l : List α) : mkLst (l.map fun x => R.g (f x)) = .lst (l.map f) := by
  have := allG_map (l.map f)
  rw [List.map_map] at this
  simp only [mkLst]
  rw [show (l.map fun x => R.g (f x)) = l.map (R.g ∘ f) from rfl, this]
theorem mkLst_nil : mkLst [] = .lst [] := rfl

noncomputable def kSet (ε : Env) (i : Nat) : Res R → Res Out
  | .ok r σ => ofE (setSlot ε i r) fun ε1 => .ok (.next ε1) σ
  | .exc c σ => .exc c σ
  | .stuck => .stuck
@[simp] theorem evS_set (i : Nat) (e : Tm) : evS cl W (.set i e) ε σ = kSet ε i (ev cl false e ε σ) := by rw [evS]; cases ev cl false e ε σ <;> rfl
@[simp] theorem kSet_ok (i : Nat) (r : R) : kSet ε i (.ok r σ) = ofE (setSlot ε i r) fun ε1 => .ok (.next ε1) σ := rfl
noncomputable def kUnp (ε : Env) (is : List Nat) : Res R → Res Out
  | .ok r σ => (match parts r with
    | some rs => ofE (setSlots is rs ε) fun ε1 => .ok (.next ε1) σ
    | none => .stuck)
  | .exc c σ => .exc c σ
  | .stuck => .stuck
@[simp] theorem evS_unpack (is : List Nat) (e : Tm) : evS cl W (.unpack is e) ε σ = kUnp ε is (ev cl false e ε σ) := by rw [evS]; cases ev cl false e ε σ <;> rfl
@[simp] theorem kUnp_tup (is : List Nat) (xs : List G) : kUnp ε is (.ok (.g (.tup xs)) σ) = ofE (setSlots is (xs.map .g) ε) fun ε1 => .ok (.next ε1) σ := rfl
@[simp] theorem kUnp_tr (is : List Nat) (xs : List R) : kUnp ε is (.ok (.tr xs) σ) = ofE (setSlots is xs ε) fun ε1 => .ok (.next ε1) σ := rfl
@[simp] theorem ofE_some (ε1 : Env) (f : Env → Res Out) : ofE (some ε1) f = f ε1 := rfl
noncomputable def kPut3 (x z : R) (ε : Env) : Res R → Res Out
  | .ok y σ => (match putAt x y z σ with
    | some σ4 => .ok (.next ε) σ4
    | none => .stuck)
  | .exc c σ => .exc c σ
  | .stuck => .stuck
noncomputable def kPut2 (cl : CallH) (i : Tm) (z : R) (ε : Env) : Res R → Res Out
  | .ok x σ => kPut3 x z ε (ev cl false i ε σ)
  | .exc c σ => .exc c σ
  | .stuck => .stuck
noncomputable def kPut1 (cl : CallH) (a i : Tm) (ε : Env) : Res R → Res Out
  | .ok z σ => kPut2 cl i z ε (ev cl false a ε σ)
  | .exc c σ => .exc c σ
  | .stuck => .stuck
@[simp] theorem evS_setIdx (a i v : Tm) : evS cl W (.setIdx a i v) ε σ = kPut1 cl a i ε (ev cl false v ε σ) := by
  rw [evS]; cases ev cl false v ε σ with
  | ok z σ =>
    show (ev cl false a ε σ).bind _ = kPut2 cl i z ε (ev cl false a ε σ)
    cases ev cl false a ε σ with
    | ok x σ => show (ev cl false i ε σ).bind _ = kPut3 x z ε (ev cl false i ε σ); cases ev cl false i ε σ <;> rfl
    | exc c σ => rfl
    | stuck => rfl
  | exc c σ => rfl
  | stuck => rfl
@[simp] theorem kPut1_ok (a i : Tm) (z : R) : kPut1 cl a i ε (.ok z σ) = kPut2 cl i z ε (ev cl false a ε σ) := rfl
@[simp] theorem kPut2_ok (i : Tm) (z x : R) : kPut2 cl i z ε (.ok x σ) = kPut3 x z ε (ev cl false i ε σ) := rfl
theorem kPut3_lst {k : Nat} {xs : List G} {i : Int} {v : G} {j : Nat} (h : σ[k]? = some (.lst xs)) (hi : ixOf xs.length i = some j) : kPut3 (.ref k) (.g v) ε (.ok (.g (.int i)) σ) = .ok (.next ε) (σ.set k (.lst (xs.set j v))) := by
  simp [kPut3, putAt, h, hi]
theorem kPut3_dct {k : Nat} {xs : List (G × G)} {i v : G} (h : σ[k]? = some (.dct xs)) (hi : isKey i = true) (hl : xs.length < big) : kPut3 (.ref k) (.g v) ε (.ok (.g i) σ) = .ok (.next ε) (σ.set k (.dct (dput xs i v))) := by
  cases i <;> simp_all [kPut3, putAt, isKey]
noncomputable def kExpr (ε : Env) : Res R → Res Out
  | .ok _ σ => .ok (.next ε) σ
  | .exc c σ => .exc c σ
  | .stuck => .stuck
@[simp] theorem evS_expr (e : Tm) : evS cl W (.expr e) ε σ = kExpr ε (ev cl false e ε σ) := by rw [evS]; cases ev cl false e ε σ <;> rfl
@[simp] theorem kExpr_ok (r : R) : kExpr ε (.ok r σ) = .ok (.next ε) σ := rfl
noncomputable def kRet : Res R → Res Out
  | .ok r σ => .ok (.ret r) σ
  | .exc c σ => .exc c σ
  | .stuck => .stuck
@[simp] theorem evS_ret (e : Tm) : evS cl W (.ret e) ε σ = kRet (ev cl false e ε σ) := by rw [evS]; cases ev cl false e ε σ <;> rfl
@[simp] theorem kRet_ok (r : R) : kRet (.ok r σ) = .ok (.ret r) σ := rfl
@[simp] theorem evS_retN : evS cl W .retN ε σ = .ok (.ret (.g .non)) σ := by rw [evS]
noncomputable def kIte (cl : CallH) (W : Nat) (a b : Blk) (ε : Env) : Res R → Res Out
  | .ok (.g (.bl true)) σ => evB cl W a ε σ
  | .ok (.g (.bl false)) σ => evB cl W b ε σ
  | .ok _ _ => .stuck
  | .exc c σ => .exc c σ
  | .stuck => .stuck
@[simp] theorem evS_ite (c : Tm) (a b : Blk) : evS cl W (.ite c a b) ε σ = kIte cl W a b ε (ev cl true c ε σ) := by
  rw [evS]; cases ev cl true c ε σ with
  | ok r σ => cases r with
    | g x => cases x with
      | bl c => cases c <;> rfl
      | _ => rfl
    | _ => rfl
  | exc c σ => rfl
  | stuck => rfl
@[simp] theorem kIte_t (a b : Blk) : kIte cl W a b ε (.ok (.g (.bl true)) σ) = evB cl W a ε σ := rfl
@[simp] theorem kIte_f (a b : Blk) : kIte cl W a b ε (.ok (.g (.bl false)) σ) = evB cl W b ε σ := rfl
theorem kIte_b (a b : Blk) (c : Bool) : kIte cl W a b ε (.ok (.g (.bl c)) σ) = if c = true then evB cl W a ε σ else evB cl W b ε σ := by cases c <;> rfl
noncomputable def kFor (cl : CallH) (W : Nat) (tg : List Nat) (b : Blk) (ε : Env) : Res Walk → Res Out
  | .ok w σ => forW tg (evB cl W b) w ε σ
  | .exc c σ => .exc c σ
  | .stuck => .stuck
@[simp] theorem evS_for (tg : List Nat) (s : Src) (b : Blk) : evS cl W (.forS tg s b) ε σ = kFor cl W tg b ε (evW cl s ε σ) := by rw [evS]; cases evW cl s ε σ <;> rfl
@[simp] theorem kFor_ok (tg : List Nat) (b : Blk) (w : Walk) : kFor cl W tg b ε (.ok w σ) = forW tg (evB cl W b) w ε σ := rfl
@[simp] theorem forW_none (tg : List Nat) (body : Env → Store → Res Out) (xs : List R) : forW tg body ⟨xs, none⟩ ε σ = forL tg body none xs ε σ := rfl
@[simp] theorem forW_lst (tg : List Nat) (body : Env → Store → Res Out) (xs : List R) (k : Nat) (l : List G) : forW tg body ⟨xs, some (k, .lst l)⟩ ε σ = forL tg body (some (k, .lst l)) xs ε σ := rfl
@[simp] theorem forW_rdl (tg : List Nat) (body : Env → Store → Res Out) (xs : List R) (k : Nat) (l : List G) : forW tg body ⟨xs, some (k, .rdl l)⟩ ε σ = forL tg body (some (k, .rdl l)) xs ε σ := rfl
@[simp] theorem forW_rdd (tg : List Nat) (body : Env → Store → Res Out) (xs : List R) (k : Nat) (l : List (G × G)) : forW tg body ⟨xs, some (k, .rdd l)⟩ ε σ = forL tg body (some (k, .rdd l)) xs ε σ := rfl
@[simp] theorem forW_dct (tg : List Nat) (body : Env → Store → Res Out) (xs : List R) (k : Nat) (l : List (G × G)) : forW tg body ⟨xs, some (k, .dct l)⟩ ε σ = thaw k l (forL tg body (some (k, .rdd l)) xs ε (σ.set k (.rdd l))) := rfl
@[simp] theorem thaw_ok (k : Nat) (l : List (G × G)) (o : Out) (h : σ[k]? = some (.rdd l)) : thaw k l (.ok o σ) = .ok o (σ.set k (.dct l)) := if_pos h
theorem evS_while (c : Tm) (b : Blk) : evS cl W (.whileS c b) ε σ = whileL (ev cl true c) (evB cl W b) W ε σ := by rw [evS]
@[simp] theorem evS_pass : evS cl W .pass ε σ = .ok (.next ε) σ := by rw [evS]
@[simp] theorem evS_brk : evS cl W .brk ε σ = .ok (.brk ε) σ := by rw [evS]
@[simp] theorem evS_cont : evS cl W .cont ε σ = .ok (.cont ε) σ := by rw [evS]

noncomputable def kFT (tg : List Nat) (body : Env → Store → Res Out) (w : Option (Nat × Cell)) (r : List R) : Res Out → Res Out
  | .ok (.next ε) σ => forL tg body w r ε σ
  | .ok (.cont ε) σ => forL tg body w r ε σ
  | .ok (.brk ε) σ => .ok (.next ε) σ
  | .ok (.ret v) σ => .ok (.ret v) σ
  | .exc c σ => .exc c σ
  | .stuck => .stuck
noncomputable def kFB (tg : List Nat) (body : Env → Store → Res Out) (w : Option (Nat × Cell)) (r : List R) (σ : Store) : Option Env → Res Out
  | some ε => kFT tg body w r (body ε σ)
  | none => .stuck
theorem forL_nil (tg : List Nat) (body : Env → Store → Res Out) (w : Option (Nat × Cell)) (h : intact w σ = true) : forL tg body w [] ε σ = .ok (.next ε) σ := by simp only [forL, h, if_true]
theorem forL_cons (tg : List Nat) (body : Env → Store → Res Out) (w : Option (Nat × Cell)) (x : R) (r : List R) (h : intact w σ = true) : forL tg body w (x :: r) ε σ = kFB tg body w r σ (bindTg tg x ε) := by
  simp only [forL, h, if_true]
  cases bindTg tg x ε with
  | none => rfl
  | some ε1 =>
    show (body ε1 σ).bind _ = kFT tg body w r (body ε1 σ)
    cases body ε1 σ with
    | ok o σ => cases o <;> rfl
    | exc c σ => rfl
    | stuck => rfl
@[simp] theorem kFB_some (tg : List Nat) (body : Env → Store → Res Out) (w : Option (Nat × Cell)) (r : List R) (ε1 : Env) : kFB tg body w r σ (some ε1) = kFT tg body w r (body ε1 σ) := rfl
@[simp] theorem kFT_next (tg : List Nat) (body : Env → Store → Res Out) (w : Option (Nat × Cell)) (r : List R) : kFT tg body w r (.ok (.next ε) σ) = forL tg body w r ε σ := rfl
@[simp] theorem kFT_cont (tg : List Nat) (body : Env → Store → Res Out) (w : Option (Nat × Cell)) (r : List R) : kFT tg body w r (.ok (.cont ε) σ) = forL tg body w r ε σ := rfl
@[simp] theorem kFT_brk (tg : List Nat) (body : Env → Store → Res Out) (w : Option (Nat × Cell)) (r : List R) : kFT tg body w r (.ok (.brk ε) σ) = .ok (.next ε) σ := rfl
@[simp] theorem kFT_ret (tg : List Nat) (body : Env → Store → Res Out) (w : Option (Nat × Cell)) (r : List R) (v : R) : kFT tg body w r (.ok (.ret v) σ) = .ok (.ret v) σ := rfl

variable {P : List Fn}
theorem run_call {f : String} {d : Fn} (h : look P f = some d) (n : Nat) (as : List R) (σ : Store) (hl : as.length = d.np) :
    run P W (n + 1) f as σ = fin σ.length (evB (run P W n) W d.body (as.map some ++ List.replicate (d.nl - d.np) none) σ) := by
  simp only [run, h, hl, if_true]
@[simp] theorem fin_g (n : Nat) (x : G) : fin n (.ok (.ret (.g x)) σ) = .ok (.g x) (σ.take n) := by
  simp [fin, refsGe, cellsAt, ren]
@[simp] theorem fin_next (n : Nat) : fin n (.ok (.next ε) σ) = .ok (.g .non) (σ.take n) := rfl
theorem fin_new {n k : Nat} {c : Cell} (hk : n ≤ k) (h : σ[k]? = some c) (hf : flatCell c = true) : fin n (.ok (.ret (.ref k)) σ) = .ok (.ref n) (σ.take n ++ [c]) := by
  have : ¬ k < n := by omega
  simp [fin, refsGe, cellsAt, ren, this, h, hf]
theorem fin_old {n k : Nat} (hk : k < n) : fin n (.ok (.ret (.ref k)) σ) = .ok (.ref k) (σ.take n) := by
  simp [fin, refsGe, cellsAt, ren, hk]
theorem take_app (σ g : Store) : (σ ++ g).take σ.length = σ := by simp
theorem take_self (σ : Store) : σ.take σ.length = σ := by simp

@[simp] theorem p_add (i j : Int) : prim .add [.g (.int i), .g (.int j)] σ = .ok (.g (.int (i + j))) σ := rfl
theorem p_addS (x y : List Nat) (h : x.length + y.length ≤ big) : prim .add [.g (.str x), .g (.str y)] σ = .ok (.g (.str (x ++ y))) σ := by simp [prim, pAdd, h, okG]
theorem p_addT (x y : List G) (h : x.length + y.length ≤ big) : prim .add [.g (.tup x), .g (.tup y)] σ = .ok (.g (.tup (x ++ y))) σ := by simp [prim, pAdd, h, okG]
theorem p_addL {i j : Nat} {x y : List G} (hi : σ[i]? = some (.lst x)) (hj : σ[j]? = some (.lst y)) (h : x.length + y.length ≤ big) : prim .add [.ref i, .ref j] σ = .ok (.ref σ.length) (σ ++ [.lst (x ++ y)]) := by simp [prim, pAdd, hi, hj, h]
@[simp] theorem p_sub (i j : Int) : prim .sub [.g (.int i), .g (.int j)] σ = .ok (.g (.int (i - j))) σ := rfl
theorem p_mul {i j : Int} (h : (-(2 ^ 64) < i ∧ i < 2 ^ 64) ∨ (-(2 ^ 64) < j ∧ j < 2 ^ 64)) : prim .mul [.g (.int i), .g (.int j)] σ = .ok (.g (.int (i * j))) σ := by
  simp only [prim, pMul, if_pos h, okG]
theorem p_fdiv {i j : Int} (h : 0 < j ∧ j < 1073741824) : prim .fdiv [.g (.int i), .g (.int j)] σ = .ok (.g (.int (i / j))) σ := by
  simp only [prim, pFdiv, if_pos h, okG]
theorem p_mod {i j : Int} (h : 0 < j) : prim .mod [.g (.int i), .g (.int j)] σ = .ok (.g (.int (i % j))) σ := by
  simp only [prim, pMod, if_pos h, okG]
@[simp] theorem p_eq {x : G} (y : G) (h : shal x = true) : prim .eq [.g x, .g y] σ = .ok (.g (.bl (peq x y))) σ := by simp [prim, pEq, reqv, h, okG]
@[simp] theorem p_ne {x : G} (y : G) (h : shal x = true) : prim .ne [.g x, .g y] σ = .ok (.g (.bl (!peq x y))) σ := by simp [prim, pNe, reqv, h, okG]
@[simp] theorem p_lt (i j : Int) : prim .lt [.g (.int i), .g (.int j)] σ = .ok (.g (.bl (decide (i < j)))) σ := rfl
@[simp] theorem p_le (i j : Int) : prim .le [.g (.int i), .g (.int j)] σ = .ok (.g (.bl (decide (i ≤ j)))) σ := rfl
@[simp] theorem p_gt (i j : Int) : prim .gt [.g (.int i), .g (.int j)] σ = .ok (.g (.bl (decide (j < i)))) σ := rfl
@[simp] theorem p_ge (i j : Int) : prim .ge [.g (.int i), .g (.int j)] σ = .ok (.g (.bl (decide (j ≤ i)))) σ := rfl
@[simp] theorem p_isN (x : R) : prim .isN [x, .g .non] σ = .ok (.g (.bl (isNon x))) σ := rfl
@[simp] theorem p_notN (x : R) : prim .notN [x, .g .non] σ = .ok (.g (.bl (!isNon x))) σ := rfl
theorem p_in {k : Nat} {xs : List G} {x : G} (h : σ[k]? = some (.lst xs)) (hs : xs.all shal = true) : prim .inn [.g x, .ref k] σ = .ok (.g (.bl (xs.any fun y => peq y x))) σ := by cases x <;> simp [prim, pIn, hasIn, h, hs, okG]
theorem p_notin {k : Nat} {xs : List G} {x : G} (h : σ[k]? = some (.lst xs)) (hs : xs.all shal = true) : prim .notin [.g x, .ref k] σ = .ok (.g (.bl (!xs.any fun y => peq y x))) σ := by
  cases x <;> simp [prim, pNotIn, hasIn, h, hs, okG]
theorem p_inD {k : Nat} {xs : List (G × G)} {x : G} (h : σ[k]? = some (.dct xs)) (hk : isKey x = true) : prim .inn [.g x, .ref k] σ = .ok (.g (.bl (dget xs x).isSome)) σ := by cases x <;> simp_all [prim, pIn, hasIn, okG, isKey]
theorem p_notinD {k : Nat} {xs : List (G × G)} {x : G} (h : σ[k]? = some (.dct xs)) (hk : isKey x = true) : prim .notin [.g x, .ref k] σ = .ok (.g (.bl (!(dget xs x).isSome))) σ := by cases x <;> simp_all [prim, pNotIn, hasIn, okG, isKey]
@[simp] theorem p_idxT (xs : List G) (i : Int) : prim .idx [.g (.tup xs), .g (.int i)] σ = ofO (at? xs i) fun x => .ok (.g x) σ := rfl
@[simp] theorem p_idxS (xs : List Nat) (i : Int) : prim .idx [.g (.str xs), .g (.int i)] σ = ofO (at? xs i) fun x => .ok (.g (.str [x])) σ := rfl
@[simp] theorem p_idxR (xs : List R) (i : Int) : prim .idx [.tr xs, .g (.int i)] σ = ofO (at? xs i) fun x => .ok x σ := rfl
theorem p_idxL {k : Nat} {xs : List G} (h : σ[k]? = some (.lst xs)) (i : Int) : prim .idx [.ref k, .g (.int i)] σ = ofO (at? xs i) fun x => .ok (.g x) σ := by simp [prim, pIdx, h, okG]
theorem p_idxB {k : Nat} {xs : List G} (h : σ[k]? = some (.rdl xs)) (i : Int) : prim .idx [.ref k, .g (.int i)] σ = ofO (at? xs i) fun x => .ok (.g x) σ := by simp [prim, pIdx, h, okG]
theorem p_idxQ {k : Nat} {xs : List R} (h : σ[k]? = some (.rls xs)) (i : Int) : prim .idx [.ref k, .g (.int i)] σ = ofO (at? xs i) fun x => .ok x σ := by simp [prim, pIdx, h]
theorem p_idxD {k : Nat} {xs : List (G × G)} {i : G} (h : σ[k]? = some (.dct xs)) (hk : isKey i = true) : prim .idx [.ref k, .g i] σ = ofO (dget xs i) fun x => .ok (.g x) σ := by cases i <;> simp_all [prim, pIdx, okG, isKey]
theorem p_len {x : R} {n : Nat} (h : lenOf σ x = some n) : prim .len [x] σ = .ok (.g (.int n)) σ := by simp [prim, pLen, h, ofO, okG]
theorem p_tup {xs : List R} (h : xs.length ≤ 1000) : prim .tup xs σ = .ok (mkTup xs) σ := by
  show pTup xs σ = _
  unfold pTup
  rw [if_pos h]
theorem p_lst {xs : List R} (h : xs.length ≤ 1000) : prim .lst xs σ = .ok (.ref σ.length) (σ ++ [mkLst xs]) := by
  show pLst xs σ = _
  unfold pLst
  rw [if_pos h]
@[simp] theorem p_dct0 : prim .dct0 [] σ = .ok (.ref σ.length) (σ ++ [.dct []]) := rfl
theorem p_tupleL {k : Nat} {xs : List G} (h : σ[k]? = some (.lst xs)) : prim .tupleOf [.ref k] σ = .ok (.g (.tup xs)) σ := by simp [prim, pTupleOf, h, okG]
@[simp] theorem p_tupleT (xs : List G) : prim .tupleOf [.g (.tup xs)] σ = .ok (.g (.tup xs)) σ := rfl
@[simp] theorem p_listT (xs : List G) : prim .listOf [.g (.tup xs)] σ = .ok (.ref σ.length) (σ ++ [.lst xs]) := rfl
theorem p_listL {k : Nat} {xs : List G} (h : σ[k]? = some (.lst xs)) : prim .listOf [.ref k] σ = .ok (.ref σ.length) (σ ++ [.lst xs]) := by simp [prim, pListOf, h]
theorem p_dictOf {k : Nat} {xs : List (G × G)} (h : σ[k]? = some (.dct xs)) : prim .dictOf [.ref k] σ = .ok (.ref σ.length) (σ ++ [.dct xs]) := by simp [prim, pDictOf, h]
theorem p_get1 {k : Nat} {xs : List (G × G)} {i : G} (h : σ[k]? = some (.dct xs)) (hk : isKey i = true) : prim .get1 [.ref k, .g i] σ = .ok (.g ((dget xs i).getD .non)) σ := by simp [prim, pGet1, h, hk, okG]
theorem p_get2 {k : Nat} {xs : List (G × G)} {i d : G} (h : σ[k]? = some (.dct xs)) (hk : isKey i = true) : prim .get2 [.ref k, .g i, .g d] σ = .ok (.g ((dget xs i).getD d)) σ := by simp [prim, pGet2, h, hk, okG]
theorem p_setdefY {k : Nat} {xs : List (G × G)} {i d v : G} (h : σ[k]? = some (.dct xs)) (hk : isKey i = true) (hl : xs.length < big) (hv : dget xs i = some v) : prim .setdef [.ref k, .g i, .g d] σ = .ok (.g v) σ := by simp [prim, pSetdef, h, hk, hl, hv, okG]
theorem p_setdefN {k : Nat} {xs : List (G × G)} {i d : G} (h : σ[k]? = some (.dct xs)) (hk : isKey i = true) (hl : xs.length < big) (hv : dget xs i = none) : prim .setdef [.ref k, .g i, .g d] σ = .ok (.g d) (σ.set k (.dct (dput xs i d))) := by simp [prim, pSetdef, h, hk, hl, hv]
theorem p_listD {k : Nat} {xs : List (G × G)} (h : σ[k]? = some (.dct xs)) (hi : intKeys xs = true) : prim .listOf [.ref k] σ = .ok (.ref σ.length) (σ ++ [.lst (xs.map fun p => p.1)]) := by simp [prim, pListOf, h, hi]
theorem p_all {k : Nat} {xs : List G} {bs : List Bool} (h : σ[k]? = some (.lst xs)) (hb : bools xs = some bs) : prim .all [.ref k] σ = .ok (.g (.bl (bs.all id))) σ := by simp [prim, pAll, h, hb, ofO, okG]
@[simp] theorem p_sliceT1 (x : G) (r : List G) : prim (.slice true false) [.g (.tup (x :: r)), .g (.int 1)] σ = .ok (.g (.tup (cut (x :: r) (some 1) none))) σ := by
  have : cutIx (x :: r).length 0 (some 1) ≠ 0 := by simp [cutIx]; omega
  simp only [prim, pSlice, bounds, ofO, this, false_and, if_false, okG]
theorem p_append {k : Nat} {xs : List G} {x : G} (h : σ[k]? = some (.lst xs)) (hl : xs.length < big) : prim .append [.ref k, .g x] σ = .ok (.g .non) (σ.set k (.lst (xs ++ [x]))) := by simp [prim, pAppend, h, hl]
theorem p_extend {k j : Nat} {xs ys : List G} (h : σ[k]? = some (.lst xs)) (h2 : σ[j]? = some (.lst ys)) (hl : xs.length + ys.length ≤ big) : prim .extend [.ref k, .ref j] σ = .ok (.g .non) (σ.set k (.lst (xs ++ ys))) := by simp [prim, pExtend, h, h2, hl]
theorem p_clearD {k : Nat} {xs : List (G × G)} (h : σ[k]? = some (.dct xs)) : prim .clear [.ref k] σ = .ok (.g .non) (σ.set k (.dct [])) := by simp [prim, pClear, h]
theorem p_sum {k : Nat} {xs : List G} {is : List Int} (h : σ[k]? = some (.lst xs)) (hi : intsOf xs = some is) : prim .sum [.ref k] σ = .ok (.g (.int is.sum)) σ := by simp [prim, pSum, h, hi, ofO, okG]
theorem p_isInst {x : R} {ts : List Ty} (t : Ty) (h : tyOf σ x = some ts) : prim (.isInst t) [x] σ = .ok (.g (.bl (ts.contains t))) σ := by simp [prim, pIsInst, h, ofO, okG]
theorem p_inB {k : Nat} {xs : List (G × G)} {x : G} (h : σ[k]? = some (.rdd xs)) (hk : isKey x = true) : prim .inn [.g x, .ref k] σ = .ok (.g (.bl (dget xs x).isSome)) σ := by cases x <;> simp_all [prim, pIn, hasIn, okG, isKey]
theorem p_idxE {k : Nat} {xs : List (G × G)} {i : G} (h : σ[k]? = some (.rdd xs)) (hk : isKey i = true) : prim .idx [.ref k, .g i] σ = ofO (dget xs i) fun x => .ok (.g x) σ := by cases i <;> simp_all [prim, pIdx, okG, isKey]
theorem p_get2B {k : Nat} {xs : List (G × G)} {i d : G} (h : σ[k]? = some (.rdd xs)) (hk : isKey i = true) : prim .get2 [.ref k, .g i, .g d] σ = .ok (.g ((dget xs i).getD d)) σ := by simp [prim, pGet2, h, hk, okG]
@[simp] theorem shal_non : shal .non = true := (show shal .non = true from rfl).trans (Eq.symm (Eq.refl true))
@[simp] theorem shal_bl (b : Bool) : shal (.bl b) = true := (show shal (.bl b) = true from rfl).trans (Eq.symm (Eq.refl true))
@[simp] theorem shal_int (i : Int) : shal (.int i) = true := (show shal (.int i) = true from rfl).trans (Eq.symm (Eq.refl true))
@[simp] theorem shal_str (x : List Nat) : shal (.str x) = true := (show shal (.str x) = true from rfl).trans (Eq.symm (Eq.refl true))
@[simp] theorem isKey_int (i : Int) : isKey (.int i) = true := (show isKey (.int i) = true from rfl).trans (Eq.symm (Eq.refl true))
@[simp] theorem isKey_str (i : List Nat) : isKey (.str i) = true := (show isKey (.str i) = true from rfl).trans (Eq.symm (Eq.refl true))
end MP

set_option linter.all false
namespace MP

inductive F where
  | gap (n : Int) | tie (w : List Nat) (ps : List F)
  deriving Inhabited
noncomputable abbrev sGap : List Nat := [103, 97, 112]
noncomputable abbrev sTie : List Nat := [116, 105, 101]
mutual
noncomputable def enc : F → G
  | .gap n => .tup [.str sGap, .int n]
  | .tie w ps => .tup [.str sTie, .str w, .tup (encs ps)]
noncomputable def encs : List F → List G
  | [] => []
  | x :: r => enc x :: encs r
end
theorem encs_map : ∀ l, encs l = l.map enc
  | [] => rfl
  | x :: r => by simp [encs, encs_map r]
mutual
theorem peq_enc : ∀ (a b : F), peq (enc a) (enc b) = decide (enc a = enc b)
  | .gap n, .gap m => by by_cases h : n = m <;> simp [enc, peq, peqs, h]
  | .gap n, .tie w ps => by simp [enc, peq, peqs]
  | .tie w ps, .gap n => by simp [enc, peq, peqs]
  | .tie w ps, .tie v qs => by
    have ih := peqs_enc ps qs
    by_cases h : w = v <;> simp [enc, peq, peqs, h, ih]
theorem peqs_enc : ∀ (a b : List F), peqs (encs a) (encs b) = decide (encs a = encs b)
  | [], [] => by simp [encs, peqs]
  | [], _ :: _ => by simp [encs, peqs]
  | _ :: _, [] => by simp [encs, peqs]
  | x :: r, y :: t => by
    have h1 := peq_enc x y
    have h2 := peqs_enc r t
    simp [encs, peqs, h1, h2]
end
theorem peq_self (a : F) : peq (enc a) (enc a) = true := by rw [peq_enc]; simp

noncomputable abbrev Fg := List (Int × F)
noncomputable def encD (m : Fg) : List (G × G) := m.map fun p => (.int p.1, enc p.2)
noncomputable def dval (m : Fg) (n : Int) : Option F := match m with
  | [] => none
  | (k, f) :: r => if k = n then some f else dval r n
noncomputable def dset : Fg → Int → F → Fg
  | [], n, f => [(n, f)]
  | (k, g) :: r, n, f => if k = n then (k, f) :: r else (k, g) :: dset r n f
mutual
noncomputable def fill (m : Fg) : F → F
  | .gap n => (dval m n).getD (.gap n)
  | .tie w ps => .tie w (fills m ps)
noncomputable def fills (m : Fg) : List F → List F
  | [] => []
  | x :: r => fill m x :: fills m r
end
theorem fills_map (m) : ∀ l, fills m l = l.map (fill m)
  | [] => rfl
  | x :: r => by simp [fills, fills_map m r]
mutual
noncomputable def dep : F → Nat
  | .gap _ => 1
  | .tie _ ps => deps ps + 1
noncomputable def deps : List F → Nat
  | [] => 0
  | x :: r => max (dep x) (deps r)
end
theorem dep_pos : ∀ f : F, 1 ≤ dep f
  | .gap _ => by simp [dep]
  | .tie _ _ => by simp [dep]
theorem dep_le {f : F} : ∀ {ps : List F}, f ∈ ps → dep f ≤ deps ps
  | x :: r, h => by
    rcases List.mem_cons.mp h with e | h
    · subst e; simp only [deps]; omega
    · have := dep_le h; simp only [deps]; omega
theorem deps_le {n : Nat} : ∀ {ps : List F}, (∀ f ∈ ps, dep f ≤ n) → deps ps ≤ n
  | [], _ => by simp [deps]
  | x :: r, h => by
    have h1 := h x List.mem_cons_self
    have h2 := deps_le fun f hf => h f (List.mem_cons_of_mem _ hf)
    simp only [deps]; omega

mutual
theorem gdep_enc : ∀ f : F, gdep (enc f) ≤ 2 * dep f
  | .gap n => by simp [enc, gdep, gdeps, dep]
  | .tie w ps => by
    have := gdeps_encs ps
    simp only [enc, gdep, gdeps, dep]; omega
theorem gdeps_encs : ∀ ps : List F, gdeps (encs ps) ≤ 2 * deps ps
  | [] => by simp [encs, gdeps]
  | x :: r => by
    have h1 := gdep_enc x
    have h2 := gdeps_encs r
    simp only [encs, gdeps, deps]; omega
end
theorem shal_enc {f : F} (h : dep f ≤ 75) : shal (enc f) = true := by
  have := gdep_enc f
  unfold shal
  exact decide_eq_true (by omega)
theorem dget_encD (m : Fg) (n : Int) : dget (encD m) (.int n) = (dval m n).map enc := by
  induction m with
  | nil => rfl
  | cons p r ih =>
    obtain ⟨k, f⟩ := p
    simp only [encD, List.map_cons, dget, dval] at ih ⊢
    by_cases h : k = n
    · simp [h]
    · simp [h, ih]
theorem dput_encD (m : Fg) (n : Int) (f : F) : dput (encD m) (.int n) (enc f) = encD (dset m n f) := by
  induction m with
  | nil => rfl
  | cons p r ih =>
    obtain ⟨k, g⟩ := p
    simp only [encD, List.map_cons, dput, dset] at ih ⊢
    by_cases h : k = n
    · simp [h, encD]
    · simp [h, ih, encD]
theorem dset_len (m : Fg) (n : Int) (f : F) : (dset m n f).length ≤ m.length + 1 := by
  induction m with
  | nil => simp [dset]
  | cons p r ih =>
    obtain ⟨k, g⟩ := p
    simp only [dset]
    split <;> simp <;> omega
noncomputable def keys (m : Fg) : List Int := m.map (·.1)
theorem dval_some_mem {m : Fg} {n : Int} {f : F} (h : dval m n = some f) : (n, f) ∈ m := by
  induction m with
  | nil => simp [dval] at h
  | cons p r ih =>
    obtain ⟨k, g⟩ := p
    simp only [dval] at h
    split at h
    · rename_i e; cases h; subst e; exact List.mem_cons_self
    · exact List.mem_cons_of_mem _ (ih h)
theorem dval_of_mem {m : Fg} (nd : (keys m).Nodup) {n : Int} {f : F} (h : (n, f) ∈ m) : dval m n = some f := by
  induction m with
  | nil => simp at h
  | cons p r ih =>
    obtain ⟨k, g⟩ := p
    simp only [keys, List.map_cons, List.nodup_cons] at nd
    simp only [dval]
    rcases List.mem_cons.mp h with e | h
    · cases e; simp
    · split
      · rename_i e; subst e
        exact absurd (List.mem_map.mpr ⟨(k, f), h, rfl⟩) nd.1
      · exact ih nd.2 h
theorem dset_mem {m : Fg} {n k : Int} {f g : F} (h : (k, g) ∈ dset m n f) : (k, g) ∈ m ∨ (k = n ∧ g = f) := by
  induction m with
  | nil => simp [dset] at h; exact .inr h
  | cons p r ih =>
    obtain ⟨j, e⟩ := p
    simp only [dset] at h
    split at h
    · rcases List.mem_cons.mp h with q | q
      · cases q; rename_i z; exact .inr ⟨z, rfl⟩
      · exact .inl (List.mem_cons_of_mem _ q)
    · rcases List.mem_cons.mp h with q | q
      · cases q; exact .inl List.mem_cons_self
      · rcases ih q with z | z
        · exact .inl (List.mem_cons_of_mem _ z)
        · exact .inr z
theorem dset_keys_mem {m : Fg} {n k : Int} {f : F} (h : k ∈ keys (dset m n f)) : k ∈ keys m ∨ k = n := by
  obtain ⟨p, hp, e⟩ := List.mem_map.mp h
  obtain ⟨a, b⟩ := p
  rcases dset_mem hp with z | z
  · exact .inl (List.mem_map.mpr ⟨_, z, e⟩)
  · exact .inr (by rw [← e]; exact z.1)
theorem dset_nodup {m : Fg} {n : Int} {f : F} (nd : (keys m).Nodup) : (keys (dset m n f)).Nodup := by
  induction m with
  | nil => simp [dset, keys]
  | cons p r ih =>
    obtain ⟨j, e⟩ := p
    simp only [keys, List.map_cons, List.nodup_cons] at nd
    simp only [dset]
    split
    · simp only [keys, List.map_cons, List.nodup_cons]; exact nd
    · rename_i hj
      simp only [keys, List.map_cons, List.nodup_cons]
      refine ⟨fun h => ?_, ih nd.2⟩
      rcases dset_keys_mem h with z | z
      · exact nd.1 z
      · exact hj z
variable {P : List Fn} {W : Nat}
-- is_gap: form
noncomputable def fn_is_gap : Fn := ⟨"is_gap", 1, 1,
    (.cons (.ret (.op .eq (.cons (.op .idx (.cons (.var 0) (.cons (.con (.int 0)) .nil))) (.cons (.con (.str [103, 97, 112])) .nil))))
    .nil)⟩
-- filled: form filling parts
theorem run_is_gap (h1 : look P "is_gap" = some fn_is_gap) {n : Nat} (f : F) (σ : Store) :
    run P W (n + 1) "is_gap" [.g (enc f)] σ = .ok (.g (.bl (match f with | .gap _ => true | _ => false))) σ := by
  rw [run_call h1 n _ _ rfl]
  cases f with
  | gap k => simp [fn_is_gap, enc, at?, ixOf, peq]
  | tie w ps => simp [fn_is_gap, enc, at?, ixOf, peq]
end MP


set_option linter.all false
namespace MP
variable {P : List Fn} {W : Nat}
-- _law_cell_at: script k
noncomputable def fn__law_cell_at : Fn := ⟨"_law_cell_at", 2, 2,
    (.cons (.ite (.op .lt (.cons (.var 1) (.cons (.op .len (.cons (.var 0) .nil)) .nil))) (.cons (.ret (.op .idx (.cons (.var 0) (.cons (.var 1) .nil))))
    .nil) .nil)
    (.cons (.ret (.con (.int 0)))
    .nil))⟩
-- _law_whole: found
noncomputable def fn__law_whole : Fn := ⟨"_law_whole", 1, 1,
    (.cons (.ret (.andT (.op (.isInst .int) (.cons (.var 0) .nil)) (.notT (.op (.isInst .bool) (.cons (.var 0) .nil)))))
    .nil)⟩
-- _law_form: spot many deep number words size parts k
noncomputable def fn__law_form : Fn := ⟨"_law_form", 3, 8,
    (.cons (.setIdx (.var 0) (.con (.int 0)) (.op .mod (.cons (.op .add (.cons (.op .mul (.cons (.op .idx (.cons (.var 0) (.cons (.con (.int 0)) .nil))) (.cons (.con (.int 48271)) .nil))) (.cons (.con (.int 29)) .nil))) (.cons (.con (.int 2147483647)) .nil))))
    (.cons (.set 3 (.op .fdiv (.cons (.op .idx (.cons (.var 0) (.cons (.con (.int 0)) .nil))) (.cons (.con (.int 7)) .nil))))
    (.cons (.setIdx (.var 0) (.con (.int 1)) (.op .sub (.cons (.op .idx (.cons (.var 0) (.cons (.con (.int 1)) .nil))) (.cons (.con (.int 1)) .nil))))
    (.cons (.ite (.andT (.op .eq (.cons (.op .mod (.cons (.var 3) (.cons (.con (.int 3)) .nil))) (.cons (.con (.int 0)) .nil))) (.op .gt (.cons (.var 1) (.cons (.con (.int 0)) .nil)))) (.cons (.ret (.op .tup (.cons (.con (.str [103, 97, 112])) (.cons (.op .mod (.cons (.op .fdiv (.cons (.var 3) (.cons (.con (.int 3)) .nil))) (.cons (.var 1) .nil))) .nil))))
    .nil) .nil)
    (.cons (.set 4 (.op .lst (.cons (.con (.str [97])) (.cons (.con (.str [97, 98])) (.cons (.con (.str [102])) (.cons (.con (.str [102, 103])) .nil))))))
    (.cons (.set 5 (.op .mod (.cons (.op .fdiv (.cons (.var 3) (.cons (.con (.int 3)) .nil))) (.cons (.con (.int 5)) .nil))))
    (.cons (.ite (.orT (.op .lt (.cons (.var 2) (.cons (.con (.int 2)) .nil))) (.op .lt (.cons (.op .idx (.cons (.var 0) (.cons (.con (.int 1)) .nil))) (.cons (.con (.int 4)) .nil)))) (.cons (.ret (.op .tup (.cons (.con (.str [116, 105, 101])) (.cons (.op .idx (.cons (.var 4) (.cons (.op .mod (.cons (.op .fdiv (.cons (.var 3) (.cons (.con (.int 15)) .nil))) (.cons (.con (.int 2)) .nil))) .nil))) (.cons (.op .tup .nil) .nil)))))
    .nil) .nil)
    (.cons (.set 6 (.op .lst .nil))
    (.cons (.forS [7] (.range1 (.var 5)) (.cons (.expr (.meth .append (.var 6) (.cons (.call "_law_form" (.cons (.var 0) (.cons (.var 1) (.cons (.op .sub (.cons (.var 2) (.cons (.con (.int 1)) .nil))) .nil)))) .nil)))
    .nil))
    (.cons (.ret (.op .tup (.cons (.con (.str [116, 105, 101])) (.cons (.op .idx (.cons (.var 4) (.cons (.op .mod (.cons (.op .fdiv (.cons (.var 3) (.cons (.con (.int 15)) .nil))) (.cons (.con (.int 4)) .nil))) .nil))) (.cons (.op .tupleOf (.cons (.var 6) .nil)) .nil)))))
    .nil))))))))))⟩
-- _law_drawn: cell many deep
noncomputable def fn__law_drawn : Fn := ⟨"_law_drawn", 3, 3,
    (.cons (.ret (.call "_law_form" (.cons (.op .lst (.cons (.op .mod (.cons (.var 0) (.cons (.con (.int 2147483647)) .nil))) (.cons (.con (.int 24)) .nil))) (.cons (.var 1) (.cons (.var 2) .nil)))))
    .nil)⟩
-- _law_filled: form filling
noncomputable def fn__law_filled : Fn := ⟨"_law_filled", 2, 2,
    (.cons (.ite (.op .eq (.cons (.op .idx (.cons (.var 0) (.cons (.con (.int 0)) .nil))) (.cons (.con (.str [103, 97, 112])) .nil))) (.cons (.ite (.op .inn (.cons (.op .idx (.cons (.var 0) (.cons (.con (.int 1)) .nil))) (.cons (.var 1) .nil))) (.cons (.ret (.op .idx (.cons (.var 1) (.cons (.op .idx (.cons (.var 0) (.cons (.con (.int 1)) .nil))) .nil))))
    .nil) .nil)
    (.cons (.ret (.var 0))
    .nil)) .nil)
    (.cons (.ret (.op .tup (.cons (.con (.str [116, 105, 101])) (.cons (.op .idx (.cons (.var 0) (.cons (.con (.int 1)) .nil))) (.cons (.op .tupleOf (.cons (.comp 1 [1] (.over (.op .idx (.cons (.var 0) (.cons (.con (.int 2)) .nil)))) .nil (.call "_law_filled" (.cons (.var 0) (.cons (.var 1) .nil)))) .nil)) .nil)))))
    .nil))⟩
-- _law_filling: cell numbers many deep found number
noncomputable def fn__law_filling : Fn := ⟨"_law_filling", 4, 6,
    (.cons (.set 4 (.op .dct0 .nil))
    (.cons (.forS [5] (.over (.var 1)) (.cons (.set 0 (.op .mod (.cons (.op .add (.cons (.op .mul (.cons (.var 0) (.cons (.con (.int 48271)) .nil))) (.cons (.con (.int 17)) .nil))) (.cons (.con (.int 2147483647)) .nil))))
    (.cons (.ite (.op .gt (.cons (.op .mod (.cons (.op .fdiv (.cons (.var 0) (.cons (.con (.int 5)) .nil))) (.cons (.con (.int 4)) .nil))) (.cons (.con (.int 0)) .nil))) (.cons (.setIdx (.var 4) (.var 5) (.call "_law_drawn" (.cons (.op .fdiv (.cons (.var 0) (.cons (.con (.int 20)) .nil))) (.cons (.var 2) (.cons (.var 3) .nil)))))
    .nil) .nil)
    .nil)))
    (.cons (.ret (.var 4))
    .nil)))⟩
-- _law_is_form: form
noncomputable def fn__law_is_form : Fn := ⟨"_law_is_form", 1, 1,
    (.cons (.ite (.orT (.notT (.op (.isInst .tuple) (.cons (.var 0) .nil))) (.orT (.op .lt (.cons (.op .len (.cons (.var 0) .nil)) (.cons (.con (.int 2)) .nil))) (.notT (.op (.isInst .str) (.cons (.op .idx (.cons (.var 0) (.cons (.con (.int 0)) .nil))) .nil))))) (.cons (.ret (.con (.bl false)))
    .nil) .nil)
    (.cons (.ite (.op .eq (.cons (.op .idx (.cons (.var 0) (.cons (.con (.int 0)) .nil))) (.cons (.con (.str [103, 97, 112])) .nil))) (.cons (.ret (.andT (.op .eq (.cons (.op .len (.cons (.var 0) .nil)) (.cons (.con (.int 2)) .nil))) (.call "_law_whole" (.cons (.op .idx (.cons (.var 0) (.cons (.con (.int 1)) .nil))) .nil))))
    .nil) .nil)
    (.cons (.ite (.orT (.op .ne (.cons (.op .idx (.cons (.var 0) (.cons (.con (.int 0)) .nil))) (.cons (.con (.str [116, 105, 101])) .nil))) (.orT (.op .ne (.cons (.op .len (.cons (.var 0) .nil)) (.cons (.con (.int 3)) .nil))) (.orT (.notT (.op (.isInst .str) (.cons (.op .idx (.cons (.var 0) (.cons (.con (.int 1)) .nil))) .nil))) (.notT (.op (.isInst .tuple) (.cons (.op .idx (.cons (.var 0) (.cons (.con (.int 2)) .nil))) .nil)))))) (.cons (.ret (.con (.bl false)))
    .nil) .nil)
    (.cons (.ret (.op .eq (.cons (.op .len (.cons (.comp 1 [] (.over (.op .idx (.cons (.var 0) (.cons (.con (.int 2)) .nil)))) (.cons (.notT (.call "_law_is_form" (.cons (.var 0) .nil))) .nil) (.var 0)) .nil)) (.cons (.con (.int 0)) .nil))))
    .nil))))⟩

theorem at_nat {α : Type} {xs : List α} {j : Nat} {v : α} (h : xs[j]? = some v) : at? xs (j : Int) = some v := by
  have hl : j < xs.length := (List.getElem?_eq_some_iff.mp h).1
  have : (j : Int) < xs.length := by omega
  simp [at?, ixOf, this, h]
noncomputable def cellAt (ns : List Int) (k : Nat) : Int := ns.getD k 0
theorem run_cell_at (h1 : look P "_law_cell_at" = some fn__law_cell_at) {n : Nat} {s : Nat} {ns : List Int} (k : Nat) (σ : Store) (hs : σ[s]? = some (.rdl (ns.map .int))) :
    run P W (n + 1) "_law_cell_at" [.ref s, .g (.int k)] σ = .ok (.g (.int (cellAt ns k))) σ := by
  rw [run_call h1 n _ _ rfl]
  generalize run P W n = cl
  have hl : prim .len [.ref s] σ = .ok (.g (.int (ns.length : Nat))) σ := p_len (by simp [lenOf, hs])
  by_cases h : k < ns.length
  · have hi : (k : Int) < ns.length := by omega
    have ha : at? (ns.map G.int) (k : Int) = some (.int (cellAt ns k)) := at_nat (by simp [cellAt, h])
    simp [fn__law_cell_at, hl, hi, p_idxB hs, ha]
  · have hi : ¬ (k : Int) < ns.length := by omega
    have hc : cellAt ns k = 0 := by simp [cellAt, h]
    simp [fn__law_cell_at, hl, hi, hc]
theorem run_whole_int (h1 : look P "_law_whole" = some fn__law_whole) {n : Nat} (i : Int) (σ : Store) :
    run P W (n + 1) "_law_whole" [.g (.int i)] σ = .ok (.g (.bl true)) σ := by
  rw [run_call h1 n _ _ rfl]
  simp [fn__law_whole, p_isInst, tyOf]

noncomputable def w4 : List (List Nat) := [[97], [97, 98], [102], [102, 103]]
mutual
noncomputable def okF (many : Int) : F → Prop
  | .gap n => 0 ≤ n ∧ n < many
  | .tie w ps => w ∈ w4 ∧ ps.length ≤ 4 ∧ okFs many ps
noncomputable def okFs (many : Int) : List F → Prop
  | [] => True
  | x :: r => okF many x ∧ okFs many r
end
theorem okFs_iff {many : Int} : ∀ {ps : List F}, okFs many ps ↔ ∀ f ∈ ps, okF many f
  | [] => by simp [okFs]
  | x :: r => by simp [okFs, okFs_iff (ps := r)]
theorem okFs_snoc {many : Int} {ps : List F} {f : F} (h : okFs many ps) (hf : okF many f) : okFs many (ps ++ [f]) := by
  rw [okFs_iff] at h ⊢
  intro g hg
  rcases List.mem_append.mp hg with z | z
  · exact h g z
  · simp at z; subst z; exact hf
theorem words_at {x : Int} (k : Nat) (hk : k = 2 ∨ k = 4) (h0 : 0 ≤ x) (h1 : x < k) : ∃ w, at? (w4.map G.str) x = some (.str w) ∧ w ∈ w4 := by
  have : x = 0 ∨ x = 1 ∨ x = 2 ∨ x = 3 := by omega
  rcases this with e | e | e | e <;> subst e <;> simp [at?, ixOf, w4]

theorem set_len (σ : Store) (i : Nat) (c : Cell) : (σ.set i c).length = σ.length := List.length_set
theorem get_app {σ : Store} {i : Nat} {c : Cell} (g : Store) (h : σ[i]? = some c) : (σ ++ g)[i]? = some c := by
  rw [List.getElem?_append_left (List.getElem?_eq_some_iff.mp h).1]; exact h
theorem get_set {σ : Store} {i : Nat} {c d : Cell} (h : σ[i]? = some d) : (σ.set i c)[i]? = some c := by
  rw [List.getElem?_set_self (List.getElem?_eq_some_iff.mp h).1]
theorem take_set (σ : Store) (i : Nat) (c : Cell) : (σ.set i c).take σ.length = σ.set i c := List.take_of_length_le (by simp)
theorem take_set_app (σ : Store) (i : Nat) (c : Cell) (g : Store) : (σ.set i c ++ g).take σ.length = σ.set i c := by
  have := List.take_left (l₁ := σ.set i c) (l₂ := g)
  rwa [List.length_set] at this
theorem lt_of_get {σ : Store} {i : Nat} {c : Cell} (h : σ[i]? = some c) : i < σ.length := (List.getElem?_eq_some_iff.mp h).1

noncomputable def spotC (s c : Int) : Cell := .lst [.int s, .int c]

noncomputable abbrev formLoop : Blk := (.cons (.expr (.meth .append (.var 6) (.cons (.call "_law_form" (.cons (.var 0) (.cons (.var 1) (.cons (.op .sub (.cons (.var 2) (.cons (.con (.int 1)) .nil))) .nil)))) .nil))) .nil)
theorem form_loop {cl : CallH} {i : Nat} {many : Int} {d : Nat} {τ : Store} {wd : Cell} {x3 x5 : R} {D : Int} (hD : D - 1 = (d : Int))
    (hc : ∀ (σ : Store) (s c : Int), σ[i]? = some (spotC s c) → ∃ f s' c', cl "_law_form" [.ref i, .g (.int many), .g (.int d)] σ = .ok (.g (enc f)) (σ.set i (spotC s' c')) ∧ dep f ≤ max d 1 ∧ okF many f) :
    ∀ (xs : List R) (fs : List F) (s c : Int) (o : Option R), i < τ.length → fs.length + xs.length ≤ 4 → (∀ f ∈ fs, dep f ≤ max d 1) → okFs many fs →
      ∃ gs s' c' o', forL [7] (evB cl W formLoop) none xs [some (.ref i), some (.g (.int many)), some (.g (.int D)), some x3, some (.ref τ.length), some x5, some (.ref (τ.length + 1)), o] (τ.set i (spotC s c) ++ [wd, .lst (encs fs)])
        = .ok (.next [some (.ref i), some (.g (.int many)), some (.g (.int D)), some x3, some (.ref τ.length), some x5, some (.ref (τ.length + 1)), o']) (τ.set i (spotC s' c') ++ [wd, .lst (encs gs)])
        ∧ gs.length ≤ 4 ∧ (∀ f ∈ gs, dep f ≤ max d 1) ∧ okFs many gs
  | [], fs, s, c, o, hi, hl, hd, hk => ⟨fs, s, c, o, by rw [forL_nil]; rfl, by simpa using hl, hd, hk⟩
  | x :: r, fs, s, c, o, hi, hl, hd, hk => by
    have hg : (τ.set i (spotC s c) ++ [wd, .lst (encs fs)])[i]? = some (spotC s c) := get_app _ (by simp [hi])
    obtain ⟨f, s', c', e, e1, e2⟩ := hc _ s c hg
    have hs : (τ.set i (spotC s c) ++ [wd, .lst (encs fs)]).set i (spotC s' c') = τ.set i (spotC s' c') ++ [wd, .lst (encs fs)] := by
      rw [List.set_append_left _ _ (by simpa using hi), List.set_set]
    rw [hs] at e
    have hp : (τ.set i (spotC s' c') ++ [wd, .lst (encs fs)])[τ.length + 1]? = some (.lst (encs fs)) := by
      rw [List.getElem?_append_right (by simp)]; simp
    have hp2 : (τ.set i (spotC s' c') ++ [wd, .lst (encs fs)]).set (τ.length + 1) (.lst (encs fs ++ [enc f])) = τ.set i (spotC s' c') ++ [wd, .lst (encs (fs ++ [f]))] := by
      rw [List.set_append_right _ _ (by simp)]; simp [encs_map]
    have hp0 : (τ.set i (spotC s c) ++ [wd, .lst (encs fs)])[τ.length + 1]? = some (.lst (encs fs)) := by
      rw [List.getElem?_append_right (by simp)]; simp
    have hlen : (encs fs).length < big := by simp [encs_map, big]; simp at hl; omega
    obtain ⟨gs, s2, c2, o2, ih, h1, h2, h3⟩ := form_loop hD hc (wd := wd) (x3 := x3) (x5 := x5) r (fs ++ [f]) s' c' (some x) hi (by simp at hl ⊢; omega)
      (fun g hg => by rcases List.mem_append.mp hg with z | z; exact hd g z; simp at z; subst z; exact e1) (okFs_snoc hk e2)
    refine ⟨gs, s2, c2, o2, ?_, h1, h2, h3⟩
    rw [forL_cons _ _ _ _ _ rfl]
    simp only [bindTg, setSlot, List.length_cons, List.length_nil]
    simp [kFB_some, recv_append hp0, hD, e, p_append hp hlen, hp2]
    simpa using ih

theorem run_form (h1 : look P "_law_form" = some fn__law_form) : ∀ (n d : Nat) (many : Int) (i : Nat) (σ : Store) (s c : Int), d + 1 ≤ n → σ[i]? = some (spotC s c) →
    ∃ f s' c', run P W n "_law_form" [.ref i, .g (.int many), .g (.int d)] σ = .ok (.g (enc f)) (σ.set i (spotC s' c')) ∧ dep f ≤ max d 1 ∧ okF many f
  | 0, d, _, _, _, _, _, h, _ => by omega
  | n + 1, d, many, i, σ, s, c, h, hs => by
    have hi := lt_of_get hs
    rw [run_call h1 n _ _ rfl]
    have ih : ∀ d', d = d' + 1 → ∀ (σ : Store) (s c : Int), σ[i]? = some (spotC s c) → ∃ f s' c', run P W n "_law_form" [.ref i, .g (.int many), .g (.int d')] σ = .ok (.g (enc f)) (σ.set i (spotC s' c')) ∧ dep f ≤ max d' 1 ∧ okF many f :=
      fun d' e σ s c hs => run_form h1 n d' many i σ s c (by omega) hs
    generalize run P W n = cl at ih
    generalize hs1 : (s * 48271 + 29) % 2147483647 = s1
    have hS1 : (σ.set i (.lst [.int s1, .int c]))[i]? = some (.lst [.int s1, .int c]) := get_set hs
    have hS2 : (σ.set i (.lst [.int s1, .int (c - 1)]))[i]? = some (.lst [.int s1, .int (c - 1)]) := get_set hs
    have hs' : σ[i]? = some (.lst [.int s, .int c]) := hs
    have m1 : prim .mul [.g (.int s), .g (.int 48271)] σ = .ok (.g (.int (s * 48271))) σ := p_mul (by omega)
    have m2 : prim .mod [.g (.int (s * 48271 + 29)), .g (.int 2147483647)] σ = .ok (.g (.int s1)) σ := by rw [p_mod (by omega), hs1]
    have i0 : ∀ (a b : Int), at? [G.int a, G.int b] 0 = some (.int a) := fun a b => rfl
    have i1 : ∀ (a b : Int), at? [G.int a, G.int b] 1 = some (.int b) := fun a b => rfl
    have k0 : ∀ (a b : Int), ixOf [G.int a, G.int b].length 0 = some 0 := fun a b => rfl
    have k1 : ∀ (a b : Int), ixOf [G.int a, G.int b].length 1 = some 1 := fun a b => rfl
    have dv : ∀ (σ : Store) (a b : Int), 0 < b → b < 1073741824 → prim .fdiv [.g (.int a), .g (.int b)] σ = .ok (.g (.int (a / b))) σ := fun σ a b h1 h2 => p_fdiv ⟨h1, h2⟩
    have md : ∀ (σ : Store) (a b : Int), 0 < b → prim .mod [.g (.int a), .g (.int b)] σ = .ok (.g (.int (a % b))) σ := fun σ a b h => p_mod h
    by_cases hg : s1 / 7 % 3 = 0 ∧ 0 < many
    · refine ⟨.gap (s1 / 7 / 3 % many), s1, c - 1, ?_, by simp [dep]; omega, Int.emod_nonneg _ (by omega), Int.emod_lt_of_pos _ hg.2⟩
      simp [fn__law_form, p_idxL hs', i0, i1, m1, m2, kPut3_lst hs' (k0 _ _), p_idxL hS1, kPut3_lst hS1 (k1 _ _), p_idxL hS2, dv, md, setSlot, peq, hg.1, hg.2, p_tup, mkTup, allG, enc, spotC, take_set]
    · have hb : kAnd cl true (.op .gt (.cons (.var 1) (.cons (.con (.int 0)) .nil))) [some (.ref i), some (.g (.int many)), some (.g (.int d)), some (.g (.int (s1 / 7))), none, none, none, none] (.ok (.g (.bl (s1 / 7 % 3 == 0))) (σ.set i (.lst [.int s1, .int (c - 1)]))) = .ok (.g (.bl false)) (σ.set i (.lst [.int s1, .int (c - 1)])) := by
        by_cases h0 : s1 / 7 % 3 = 0
        · have : ¬ 0 < many := fun z => hg ⟨h0, z⟩
          rw [h0]
          simp [this]
        · rw [beq_eq_false_iff_ne.mpr h0]
          rfl
      have hw : mkLst [R.g (.str [97]), R.g (.str [97, 98]), R.g (.str [102]), R.g (.str [102, 103])] = .lst (w4.map G.str) := rfl
      have hW : ∀ (τ : Store), τ.length = σ.length → (τ ++ [Cell.lst (w4.map G.str)])[σ.length]? = some (.lst (w4.map G.str)) := fun τ e => by rw [← e]; simp
      have hS3 : (σ.set i (.lst [.int s1, .int (c - 1)]) ++ [Cell.lst (w4.map G.str)])[i]? = some (.lst [.int s1, .int (c - 1)]) := get_app _ hS2
      by_cases hl : d < 2 ∨ c - 1 < 4
      · obtain ⟨w, e1, e2⟩ := words_at (x := s1 / 7 / 15 % 2) 2 (.inl rfl) (Int.emod_nonneg _ (by omega)) (Int.emod_lt_of_pos _ (by omega))
        refine ⟨.tie w [], s1, c - 1, ?_, by simp [dep, deps]; omega, e2, by simp, by simp [okFs]⟩
        have hb2 : kOr cl true (.op .lt (.cons (.op .idx (.cons (.var 0) (.cons (.con (.int 1)) .nil))) (.cons (.con (.int 4)) .nil))) [some (.ref i), some (.g (.int many)), some (.g (.int d)), some (.g (.int (s1 / 7))), some (.ref σ.length), some (.g (.int (s1 / 7 / 3 % 5))), none, none] (.ok (.g (.bl (decide ((d : Int) < 2)))) (σ.set i (.lst [.int s1, .int (c - 1)]) ++ [Cell.lst (w4.map G.str)])) = .ok (.g (.bl true)) (σ.set i (.lst [.int s1, .int (c - 1)]) ++ [Cell.lst (w4.map G.str)]) := by
          by_cases h2 : (d : Int) < 2
          · simp [h2]
          · have : c - 1 < 4 := by omega
            simp [h2, p_idxL hS3, i1, this]
        simp [fn__law_form, p_idxL hs', i0, i1, m1, m2, kPut3_lst hs' (k0 _ _), p_idxL hS1, kPut3_lst hS1 (k1 _ _), p_idxL hS2, dv, md, setSlot, peq, hb, p_lst, hw, hb2, p_idxL (hW _ (set_len _ _ _)), e1, p_tup, mkTup, allG, enc, encs, spotC, take_set_app]
      · obtain ⟨d', rfl⟩ : ∃ d', d = d' + 1 := ⟨d - 1, by omega⟩
        have hDD : ((d' + 1 : Nat) : Int) - 1 = d' := by omega
        have hD2 : ¬ ((d' + 1 : Nat) : Int) < 2 := by omega
        generalize ((d' + 1 : Nat) : Int) = D at *
        have hb2 : kOr cl true (.op .lt (.cons (.op .idx (.cons (.var 0) (.cons (.con (.int 1)) .nil))) (.cons (.con (.int 4)) .nil))) [some (.ref i), some (.g (.int many)), some (.g (.int D)), some (.g (.int (s1 / 7))), some (.ref σ.length), some (.g (.int (s1 / 7 / 3 % 5))), none, none] (.ok (.g (.bl (decide (D < 2)))) (σ.set i (.lst [.int s1, .int (c - 1)]) ++ [Cell.lst (w4.map G.str)])) = .ok (.g (.bl false)) (σ.set i (.lst [.int s1, .int (c - 1)]) ++ [Cell.lst (w4.map G.str)]) := by
          have h3 : ¬ c - 1 < 4 := by omega
          rw [decide_eq_false hD2]
          simp [p_idxL hS3, i1, h3]
        obtain ⟨w, e1, e2⟩ := words_at (x := s1 / 7 / 15 % 4) 4 (.inr rfl) (Int.emod_nonneg _ (by omega)) (Int.emod_lt_of_pos _ (by omega))
        have hz0 : 0 ≤ s1 / 7 / 3 % 5 := Int.emod_nonneg _ (by omega)
        have hz5 : s1 / 7 / 3 % 5 < 5 := Int.emod_lt_of_pos _ (by omega)
        generalize hz : s1 / 7 / 3 % 5 = z at *
        have hr : wRange (.g (.int 0)) (.g (.int z)) (σ.set i (.lst [.int s1, .int (c - 1)]) ++ [Cell.lst (w4.map G.str), .lst []]) = .ok ⟨rangeL 0 z, none⟩ (σ.set i (.lst [.int s1, .int (c - 1)]) ++ [Cell.lst (w4.map G.str), .lst []]) :=
          wRange_ok (by simp [small, big]; omega)
        obtain ⟨gs, s2, c2, o2, lp, g1, g2, g3⟩ := form_loop (W := W) (D := D) (τ := σ) (i := i) (many := many) (d := d') (wd := .lst (w4.map G.str)) (x3 := .g (.int (s1 / 7))) (x5 := .g (.int z)) hDD (ih d' rfl) (rangeL 0 z) [] s1 (c - 1) none hi (by simp [rangeL]; omega) (by simp) (by simp [okFs])
        have lp' : forL [7] (evB cl W formLoop) none (rangeL 0 z) [some (.ref i), some (.g (.int many)), some (.g (.int D)), some (.g (.int (s1 / 7))), some (.ref σ.length), some (.g (.int z)), some (.ref (σ.length + 1)), none] (σ.set i (.lst [.int s1, .int (c - 1)]) ++ [Cell.lst (w4.map G.str), .lst []]) = _ := lp
        have hp : (σ.set i (spotC s2 c2) ++ [Cell.lst (w4.map G.str), .lst (encs gs)])[σ.length + 1]? = some (.lst (encs gs)) := by
          rw [List.getElem?_append_right (by simp)]; simp
        have hq : (σ.set i (spotC s2 c2) ++ [Cell.lst (w4.map G.str), .lst (encs gs)])[σ.length]? = some (.lst (w4.map G.str)) := by
          rw [List.getElem?_append_right (by simp)]; simp
        refine ⟨.tie w gs, s2, c2, ?_, ?_, e2, g1, g3⟩
        · simp [fn__law_form, p_idxL hs', i0, i1, m1, m2, kPut3_lst hs' (k0 _ _), p_idxL hS1, kPut3_lst hS1 (k1 _ _), p_idxL hS2, dv, md, setSlot, peq, hb, p_lst, hw, hz, mkLst_nil, hb2, hr, lp', p_tupleL hp, p_idxL hq, e1, p_tup, mkTup, allG, enc, take_set_app]
        · have := deps_le g2
          simp only [dep]; omega

theorem run_drawn (h1 : look P "_law_form" = some fn__law_form) (h2 : look P "_law_drawn" = some fn__law_drawn) {n d : Nat} (hn : d + 2 ≤ n) (x many : Int) (σ : Store) :
    ∃ f, run P W n "_law_drawn" [.g (.int x), .g (.int many), .g (.int d)] σ = .ok (.g (enc f)) σ ∧ dep f ≤ max d 1 ∧ okF many f := by
  obtain ⟨n, rfl⟩ : ∃ k, n = k + 1 := ⟨n - 1, by omega⟩
  have hs : (σ ++ [spotC (x % 2147483647) 24])[σ.length]? = some (spotC (x % 2147483647) 24) := by simp
  obtain ⟨f, s', c', e, e1, e2⟩ := run_form (W := W) h1 n d many σ.length (σ ++ [spotC (x % 2147483647) 24]) _ _ (by omega) hs
  refine ⟨f, ?_, e1, e2⟩
  rw [run_call h2 n _ _ rfl]
  generalize run P W n = cl at e
  have m2 : prim .mod [.g (.int x), .g (.int 2147483647)] σ = .ok (.g (.int (x % 2147483647))) σ := p_mod (by omega)
  have hl : mkLst [R.g (.int (x % 2147483647)), R.g (.int 24)] = spotC (x % 2147483647) 24 := rfl
  simp [fn__law_drawn, m2, p_lst, hl, e]

theorem run_lfilled (h2 : look P "_law_filled" = some fn__law_filled) : ∀ (n : Nat) (f : F) (m : Fg) (d : Nat) (σ : Store), dep f ≤ n → σ[d]? = some (.dct (encD m)) →
    run P W n "_law_filled" [.g (enc f), .ref d] σ = .ok (.g (enc (fill m f))) σ
  | 0, f, _, _, _, h, _ => by have := dep_pos f; omega
  | n + 1, f, m, d, σ, h, hd => by
    have ih := run_lfilled h2 n
    rw [run_call h2 _ _ _ rfl]
    generalize run P W n = cl at ih
    cases f with
    | gap j =>
      cases e : dval m j with
      | none => simp [fn__law_filled, enc, at?, ixOf, peq, p_inD hd, dget_encD, e, fill]
      | some g => simp [fn__law_filled, enc, at?, ixOf, peq, p_inD hd, p_idxD hd, dget_encD, e, fill]
    | tie w ps =>
      simp only [dep] at h
      have hc : ∀ x ∈ ps, cl "_law_filled" [.g (enc x), .ref d] σ = .ok (.g (enc (fill m x))) σ := fun x hx => ih x m d σ (by have := dep_le hx; omega) hd
      have q := compL_map (α := F) (f := compF cl 1 [1] .nil (.call "_law_filled" (.cons (.var 0) (.cons (.var 1) .nil))) [some (R.g (G.tup [G.str sTie, G.str w, G.tup (List.map enc ps)])), some (R.ref d)]) (w := none)
        (fun x => R.g (enc x)) (fun x => R.g (enc (fill m x))) (σ := σ) rfl ps (fun x hx => by simp [hc x hx])
      have hp : (σ ++ [Cell.lst (ps.map fun x => enc (fill m x))])[σ.length]? = some (.lst (ps.map fun x => enc (fill m x))) := by simp
      simp [fn__law_filled, enc, at?, ixOf, peq, encs_map, fill, fills_map, Function.comp_def, q, mkLst_map, p_tupleL hp, p_tup, mkTup, allG]

noncomputable abbrev fillLoop : Blk := (.cons (.set 0 (.op .mod (.cons (.op .add (.cons (.op .mul (.cons (.var 0) (.cons (.con (.int 48271)) .nil))) (.cons (.con (.int 17)) .nil))) (.cons (.con (.int 2147483647)) .nil))))
    (.cons (.ite (.op .gt (.cons (.op .mod (.cons (.op .fdiv (.cons (.var 0) (.cons (.con (.int 5)) .nil))) (.cons (.con (.int 4)) .nil))) (.cons (.con (.int 0)) .nil))) (.cons (.setIdx (.var 4) (.var 5) (.call "_law_drawn" (.cons (.op .fdiv (.cons (.var 0) (.cons (.con (.int 20)) .nil))) (.cons (.var 2) (.cons (.var 3) .nil)))))
    .nil) .nil)
    .nil))
structure OkFg (many : Int) (d : Nat) (ns : List Int) (m : Fg) : Prop where
  nd : (keys m).Nodup
  sub : ∀ k ∈ keys m, k ∈ ns
  form : ∀ p ∈ m, dep p.2 ≤ max d 1 ∧ okF many p.2
theorem OkFg.set {many : Int} {d : Nat} {ns : List Int} {m : Fg} (h : OkFg many d ns m) {k : Int} {f : F} (hk : k ∈ ns) (h1 : dep f ≤ max d 1) (h2 : okF many f) : OkFg many d ns (dset m k f) := by
  refine ⟨dset_nodup h.nd, fun j hj => ?_, fun p hp => ?_⟩
  · rcases dset_keys_mem hj with z | z
    · exact h.sub j z
    · subst z; exact hk
  · obtain ⟨a, b⟩ := p
    rcases dset_mem hp with z | ⟨_, z⟩
    · exact h.form _ z
    · subst z; exact ⟨h1, h2⟩
theorem fill_loop {cl : CallH} {many : Int} {d j : Nat} {τ : Store} {ns : List Int} (hj : τ[j]? = some (.lst (ns.map .int)))
    (hc : ∀ (σ : Store) (x : Int), ∃ f, cl "_law_drawn" [.g (.int x), .g (.int many), .g (.int d)] σ = .ok (.g (enc f)) σ ∧ dep f ≤ max d 1 ∧ okF many f) :
    ∀ (xs : List Int) (m : Fg) (x : Int) (o : Option R), (∀ k ∈ xs, k ∈ ns) → m.length + xs.length ≤ 1000 → OkFg many d ns m →
      ∃ m' x' o', forL [5] (evB cl W fillLoop) (some (j, .lst (ns.map .int))) (xs.map fun k => R.g (.int k)) [some (.g (.int x)), some (.ref j), some (.g (.int many)), some (.g (.int d)), some (.ref τ.length), o] (τ ++ [.dct (encD m)])
        = .ok (.next [some (.g (.int x')), some (.ref j), some (.g (.int many)), some (.g (.int d)), some (.ref τ.length), o']) (τ ++ [.dct (encD m')]) ∧ OkFg many d ns m'
  | [], m, x, o, _, _, ok => ⟨m, x, o, by rw [List.map_nil, forL_nil]; simp [intact, get_app _ hj], ok⟩
  | k :: xs, m, x, o, hk, hl, ok => by
    have hi : ∀ m : Fg, intact (some (j, .lst (ns.map .int))) (τ ++ [.dct (encD m)]) = true := fun m => by simp [intact, get_app _ hj]
    have m1 : ∀ (σ : Store), prim .mul [.g (.int x), .g (.int 48271)] σ = .ok (.g (.int (x * 48271))) σ := fun σ => p_mul (by omega)
    have dv : ∀ (σ : Store) (a b : Int), 0 < b → b < 1073741824 → prim .fdiv [.g (.int a), .g (.int b)] σ = .ok (.g (.int (a / b))) σ := fun σ a b h1 h2 => p_fdiv ⟨h1, h2⟩
    have md : ∀ (σ : Store) (a b : Int), 0 < b → prim .mod [.g (.int a), .g (.int b)] σ = .ok (.g (.int (a % b))) σ := fun σ a b h => p_mod h
    rw [List.map_cons, forL_cons _ _ _ _ _ (hi m)]
    generalize hx : (x * 48271 + 17) % 2147483647 = x1
    by_cases hb : 0 < x1 / 5 % 4
    · obtain ⟨f, e, e1, e2⟩ := hc (τ ++ [.dct (encD m)]) (x1 / 20)
      have hp : (τ ++ [Cell.dct (encD m)])[τ.length]? = some (.dct (encD m)) := by simp
      have hs : (τ ++ [Cell.dct (encD m)]).set τ.length (.dct (encD (dset m k f))) = τ ++ [.dct (encD (dset m k f))] := by simp
      obtain ⟨m', x', o', ih, ok'⟩ := fill_loop hj hc xs (dset m k f) x1 (some (.g (.int k))) (fun q hq => hk q (List.mem_cons_of_mem _ hq)) (by have := dset_len m k f; simp at hl ⊢; omega) (ok.set (hk k List.mem_cons_self) e1 e2)
      refine ⟨m', x', o', ?_, ok'⟩
      have hlen : (encD m).length < big := by simp [encD, big]; simp at hl; omega
      simp [bindTg, setSlot, m1, md, dv, hx, hb, e, kPut3_dct hp (isKey_int k) hlen, dput_encD, hs]
      simpa using ih
    · obtain ⟨m', x', o', ih, ok'⟩ := fill_loop hj hc xs m x1 (some (.g (.int k))) (fun q hq => hk q (List.mem_cons_of_mem _ hq)) (by simp at hl ⊢; omega) ok
      refine ⟨m', x', o', ?_, ok'⟩
      simp [bindTg, setSlot, m1, md, dv, hx, hb]
      simpa using ih
theorem run_filling (h1 : look P "_law_form" = some fn__law_form) (h2 : look P "_law_drawn" = some fn__law_drawn) (h3 : look P "_law_filling" = some fn__law_filling) {n d : Nat} (hn : d + 3 ≤ n) (x many : Int) (j : Nat) (ns : List Int) (hl : ns.length ≤ 1000)
    (σ : Store) (hj : σ[j]? = some (.lst (ns.map .int))) :
    ∃ m, run P W n "_law_filling" [.g (.int x), .ref j, .g (.int many), .g (.int d)] σ = .ok (.ref σ.length) (σ ++ [.dct (encD m)]) ∧ OkFg many d ns m := by
  obtain ⟨n, rfl⟩ : ∃ k, n = k + 1 := ⟨n - 1, by omega⟩
  have hc := fun (σ : Store) (x : Int) => run_drawn (W := W) h1 h2 (n := n) (d := d) (by omega) x many σ
  rw [run_call h3 n _ _ rfl]
  generalize run P W n = cl at hc
  obtain ⟨m, x', o', e, ok⟩ := fill_loop (W := W) (cl := cl) (τ := σ) hj hc ns [] x none (fun _ h => h) (by simpa using hl) ⟨by simp [keys], by simp [keys], by simp⟩
  refine ⟨m, ?_, ok⟩
  have e' : forL [5] (evB cl W fillLoop) (some (j, .lst (ns.map .int))) (ns.map fun k => R.g (.int k)) [some (.g (.int x)), some (.ref j), some (.g (.int many)), some (.g (.int d)), some (.ref σ.length), none] (σ ++ [.dct []]) = _ := e
  have hw : wOver (.ref j) (σ ++ [.dct []]) = .ok ⟨(ns.map G.int).map .g, some (j, .lst (ns.map .int))⟩ (σ ++ [.dct []]) := wOver_lst (get_app _ hj)
  have hf : fin σ.length (.ok (.ret (.ref σ.length)) (σ ++ [Cell.dct (encD m)])) = .ok (.ref σ.length) ((σ ++ [Cell.dct (encD m)]).take σ.length ++ [.dct (encD m)]) := fin_new (Nat.le_refl _) (by simp) rfl
  simp [fn__law_filling, setSlot, hw, Function.comp_def, e', hf]

theorem run_is_form (h1 : look P "_law_whole" = some fn__law_whole) (h2 : look P "_law_is_form" = some fn__law_is_form) : ∀ (n : Nat) (f : F) (σ : Store), dep f + 1 ≤ n →
    run P W n "_law_is_form" [.g (enc f)] σ = .ok (.g (.bl true)) σ
  | 0, f, _, h => by omega
  | n + 1, f, σ, h => by
    obtain ⟨n, rfl⟩ : ∃ k, n = k + 1 := ⟨n - 1, by have := dep_pos f; omega⟩
    have ih := run_is_form h1 h2 (n + 1)
    have hw := fun (i : Int) => run_whole_int (W := W) h1 (n := n) i σ
    rw [run_call h2 _ _ _ rfl]
    generalize run P W (n + 1) = cl at ih hw
    cases f with
    | gap j => simp [fn__law_is_form, enc, at?, ixOf, peq, p_isInst, tyOf, p_len, lenOf, hw]
    | tie w ps =>
      simp only [dep] at h
      have hc : ∀ x ∈ ps, cl "_law_is_form" [.g (enc x)] σ = .ok (.g (.bl true)) σ := fun x hx => ih x σ (by have := dep_le hx; omega)
      have q := compL_filter (α := F) (f := compF cl 1 [] (.cons (.notT (.call "_law_is_form" (.cons (.var 0) .nil))) .nil) (.var 0) [some (R.g (G.tup [G.str sTie, G.str w, G.tup (List.map enc ps)]))]) (w := none)
        (fun x => R.g (enc x)) (fun x => R.g (enc x)) (fun _ => false) (σ := σ) rfl ps (fun x hx => by simp [hc x hx])
      rw [show (ps.filter fun _ => false) = [] by simp] at q
      have hl : prim .len [.ref σ.length] (σ ++ [.lst []]) = .ok (.g (.int (0 : Nat))) (σ ++ [.lst []]) := p_len (by simp [lenOf])
      simp [fn__law_is_form, enc, at?, ixOf, peq, encs_map, p_isInst, tyOf, p_len, lenOf, Function.comp_def, q, mkLst_nil, hl]
end MP


set_option linter.all false
namespace MP
theorem nodup_len : ∀ {xs ys : List Int}, xs.Nodup → (∀ x ∈ xs, x ∈ ys) → xs.length ≤ ys.length
  | [], _, _, _ => Nat.zero_le _
  | x :: r, ys, nd, h => by
    have hx := h x List.mem_cons_self
    obtain ⟨h1, h2⟩ := List.nodup_cons.mp nd
    have := nodup_len (ys := ys.erase x) h2 fun y hy => (List.mem_erase_of_ne fun z => h1 (by rw [← z]; exact hy)).mpr (h y (List.mem_cons_of_mem _ hy))
    rw [List.length_erase_of_mem hx] at this
    have := List.length_pos_of_mem hx
    simp
    omega
noncomputable def Low (d : Nat) (m : Fg) : Prop := ∀ p ∈ m, dep p.2 ≤ d
theorem Low.val {d : Nat} {m : Fg} (h : Low d m) {n : Int} {f : F} (e : dval m n = some f) : dep f ≤ d := h _ (dval_some_mem e)
mutual
theorem dep_fillL {m : Fg} {d : Nat} (h : Low d m) : ∀ f : F, dep (fill m f) ≤ dep f + d
  | .gap n => by
    rw [fill]
    cases e : dval m n with
    | none => simp [dep]
    | some g =>
      have : dep g ≤ d := h.val e
      simp [dep]; omega
  | .tie w ps => by
    have := deps_fillL h ps
    simp only [fill, dep]; omega
theorem deps_fillL {m : Fg} {d : Nat} (h : Low d m) : ∀ ps : List F, deps (fills m ps) ≤ deps ps + d
  | [] => by simp [fills, deps]
  | x :: r => by
    have h1 := dep_fillL h x
    have h2 := deps_fillL h r
    simp only [fills, deps]; omega
end
theorem encD_keys (m : Fg) : ((encD m).map fun p => R.g p.1) = m.map fun p => R.g (.int p.1) := by simp [encD]
theorem intKeys_encD (m : Fg) : intKeys (encD m) = true := by simp [intKeys, encD]

variable {P : List Fn} {W : Nat}
-- one_filling: one other both number form
end MP


set_option linter.all false
namespace MP
variable {P : List Fn} {W : Nat}
-- law: script many form filling due handed found
theorem dictEq_self {m : Fg} (nd : (keys m).Nodup) : dictEq (encD m) (encD m) = true := by
  simp only [dictEq, beq_self_eq_true, Bool.true_and, List.all_eq_true]
  intro p hp
  simp only [encD, List.mem_map] at hp
  obtain ⟨⟨k, f⟩, hm, rfl⟩ := hp
  show (match dget (encD m) (.int k) with | some v => peq (enc f) v | none => false) = true
  rw [dget_encD, dval_of_mem nd hm]
  exact peq_self f
end MP


set_option linter.all false
namespace MP
variable {P : List Fn} {W : Nat}
-- _law_is_filling: found due number
noncomputable abbrev isfL : Blk := (.cons (.ite (.orT (.notT (.call "_law_whole" (.cons (.var 2) .nil))) (.notT (.call "_law_is_form" (.cons (.op .idx (.cons (.var 0) (.cons (.var 2) .nil))) .nil)))) (.cons (.ret (.con (.bl false)))
    .nil) .nil)
    .nil)
noncomputable def fn__law_is_filling : Fn := ⟨"_law_is_filling", 2, 3,
    (.cons (.ite (.orT (.notT (.op (.isInst .dict) (.cons (.var 0) .nil))) (.op .ne (.cons (.var 0) (.cons (.var 1) .nil)))) (.cons (.ret (.con (.bl false)))
    .nil) .nil)
    (.cons (.forS [2] (.keys (.var 0)) isfL)
    (.cons (.ret (.con (.bl true)))
    .nil)))⟩
theorem isf_loop {cl : CallH} {a b : Nat} {m : Fg} {τ : Store} (ha : τ[a]? = some (.rdd (encD m))) (nd : (keys m).Nodup)
    (h1 : ∀ i : Int, cl "_law_whole" [.g (.int i)] τ = .ok (.g (.bl true)) τ) (h2 : ∀ p ∈ m, cl "_law_is_form" [.g (enc p.2)] τ = .ok (.g (.bl true)) τ) :
    ∀ (l : Fg) (x : Option R), (∀ p ∈ l, p ∈ m) → ∃ x', forL [2] (evB cl W isfL) (some (a, .rdd (encD m))) (l.map fun p => R.g (.int p.1)) [some (.ref a), some (.ref b), x] τ = .ok (.next [some (.ref a), some (.ref b), x']) τ
  | [], x, _ => ⟨x, by rw [List.map_nil, forL_nil]; simp [intact, ha]⟩
  | (k, f) :: l, x, hl => by
    have hi : intact (some (a, .rdd (encD m))) τ = true := by simp [intact, ha]
    obtain ⟨x', ih⟩ := isf_loop (b := b) ha nd h1 h2 l (some (.g (.int k))) fun p hp => hl p (List.mem_cons_of_mem _ hp)
    have hm := hl _ List.mem_cons_self
    have hv : dget (encD m) (.int k) = some (enc f) := by rw [dget_encD, dval_of_mem nd hm]; rfl
    have e2 := h2 _ hm
    refine ⟨x', ?_⟩
    rw [List.map_cons, forL_cons _ _ _ _ _ hi]
    simp [bindTg, setSlot, h1, p_idxE ha, hv, ofO, e2]
    simpa using ih
theorem low_shal {d : Nat} {m : Fg} (h : Low d m) (hd : d ≤ 75) : ((encD m).all fun p => shal p.2) = true := by
  simp only [List.all_eq_true, encD, List.mem_map]
  rintro p ⟨q, hq, rfl⟩
  exact shal_enc (by have := h q hq; omega)
theorem p_neD {a b : Nat} {σ : Store} {x y : Fg} {d : Nat} (ha : σ[a]? = some (.dct (encD x))) (hb : σ[b]? = some (.dct (encD y))) (hl : Low d x) (hd : d ≤ 75) : prim .ne [.ref a, .ref b] σ = .ok (.g (.bl (!dictEq (encD x) (encD y)))) σ := by
  simp [prim, pNe, reqv, ha, hb, cellEq, low_shal hl hd, okG]
theorem run_is_filling (hw : look P "_law_whole" = some fn__law_whole) (hf : look P "_law_is_form" = some fn__law_is_form) (hi : look P "_law_is_filling" = some fn__law_is_filling) {n a b d : Nat} {x y : Fg} {σ : Store} (hn : d + 2 ≤ n) (hd : d ≤ 75)
    (ha : σ[a]? = some (.dct (encD x))) (hb : σ[b]? = some (.dct (encD y))) (hl : Low d x) (nd : (keys x).Nodup) (he : dictEq (encD x) (encD y) = true) :
    run P W n "_law_is_filling" [.ref a, .ref b] σ = .ok (.g (.bl true)) σ := by
  obtain ⟨n, rfl⟩ : ∃ k, n = k + 2 := ⟨n - 2, by omega⟩
  have la := lt_of_get ha
  have g1 := fun (i : Int) (τ : Store) => run_whole_int (W := W) hw (n := n) i τ
  have g2 := fun (f : F) (hf' : dep f ≤ d) (τ : Store) => run_is_form (W := W) hw hf (n + 1) f τ (by omega)
  rw [run_call hi (n + 1) _ _ rfl]
  generalize run P W (n + 1) = cl at g1 g2
  have ha1 : (σ.set a (.rdd (encD x)))[a]? = some (.rdd (encD x)) := get_set ha
  obtain ⟨x', e⟩ := isf_loop (W := W) (cl := cl) (a := a) (b := b) ha1 nd (fun i => g1 i _) (fun p hp => g2 p.2 (hl p hp) _) x none fun _ h => h
  have w1 : wKeys (.ref a) σ = .ok ⟨x.map fun p => R.g (.int p.1), some (a, .dct (encD x))⟩ σ := by
    rw [wKeys_dct ha (intKeys_encD x), encD_keys]
  have t1 : thaw a (encD x) (.ok (.next [some (.ref a), some (.ref b), x']) (σ.set a (.rdd (encD x)))) = .ok (.next [some (.ref a), some (.ref b), x']) σ := by
    rw [thaw_ok _ _ _ ha1]
    congr 1
    rw [List.set_set]
    exact List.ext_getElem? fun i => by
      by_cases h : a = i
      · subst h; rw [List.getElem?_set_self la, ha]
      · rw [List.getElem?_set_ne h]
  have ht : tyOf σ (.ref a) = some [.dict] := by simp [tyOf, ha]
  simp [fn__law_is_filling, p_isInst .dict ht, p_neD ha hb hl hd, he, w1, e, t1]

-- law: script form one two three handed both due number right
theorem OkFg.low {many : Int} {d : Nat} {ns : List Int} {m : Fg} (h : OkFg many d ns m) : Low (max d 1) m := fun p hp => (h.form p hp).1
theorem OkFg.len {many : Int} {d : Nat} {ns : List Int} {m : Fg} (h : OkFg many d ns m) : m.length ≤ ns.length := by
  have := nodup_len h.nd h.sub
  simpa [keys] using this
end MP


set_option linter.all false
namespace MP
variable {P : List Fn} {W : Nat}
mutual
noncomputable def sz : F → Nat
  | .gap _ => 1
  | .tie _ ps => szs ps + 1
noncomputable def szs : List F → Nat
  | [] => 0
  | x :: r => sz x + szs r
end
theorem sz_pos : ∀ f : F, 1 ≤ sz f
  | .gap _ => by simp [sz]
  | .tie _ _ => by simp [sz]
mutual
noncomputable def slim : F → Prop
  | .gap _ => True
  | .tie _ ps => ps.length ≤ 4 ∧ slims ps
noncomputable def slims : List F → Prop
  | [] => True
  | x :: r => slim x ∧ slims r
end
theorem slims_iff : ∀ {ps : List F}, slims ps ↔ ∀ f ∈ ps, slim f
  | [] => by simp [slims]
  | x :: r => by simp [slims, slims_iff (ps := r)]
mutual
theorem okF_slim {many : Int} : ∀ {f : F}, okF many f → slim f
  | .gap _, _ => trivial
  | .tie _ ps, h => ⟨h.2.1, okFs_slim h.2.2⟩
theorem okFs_slim {many : Int} : ∀ {ps : List F}, okFs many ps → slims ps
  | [], _ => trivial
  | _ :: _, h => ⟨okF_slim h.1, okFs_slim h.2⟩
end
mutual
theorem sz_le : ∀ {f : F}, slim f → 3 * sz f + 1 ≤ 4 ^ dep f
  | .gap _, _ => by simp [sz, dep]
  | .tie _ ps, h => by
    have := szs_le (d := deps ps) h.2 (Nat.le_refl _)
    have h2 := h.1
    have h3 : ps.length * (4 ^ deps ps) ≤ 4 * 4 ^ deps ps := Nat.mul_le_mul_right _ h2
    have h4 : 1 ≤ 4 ^ deps ps := Nat.pos_of_ne_zero (by simp)
    have h5 : ps.length * (4 ^ deps ps - 1) ≤ 4 * (4 ^ deps ps - 1) := Nat.mul_le_mul_right _ h2
    simp only [sz, dep, Nat.pow_succ]
    omega
theorem szs_le : ∀ {ps : List F} {d : Nat}, slims ps → deps ps ≤ d → 3 * szs ps ≤ ps.length * (4 ^ d - 1)
  | [], d, _, _ => by simp [szs]
  | x :: r, d, h, hd => by
    simp only [deps] at hd
    have h1 := sz_le h.1
    have h2 := szs_le (d := d) h.2 (by omega)
    have h3 : 4 ^ dep x ≤ 4 ^ d := Nat.pow_le_pow_right (by decide) (by omega)
    simp only [szs, List.length_cons, Nat.add_mul, Nat.one_mul]
    omega
end
theorem sz_small {f : F} (h : slim f) (hd : dep f ≤ 8) : sz f ≤ 30000 := by
  have h1 := sz_le h
  have h2 : 4 ^ dep f ≤ 4 ^ 8 := Nat.pow_le_pow_right (by decide) hd
  have : (4 : Nat) ^ 8 = 65536 := by decide
  omega

-- of_one_kind: one other
noncomputable def fn_of_one_kind : Fn := ⟨"of_one_kind", 2, 2,
    (.cons (.ite (.orT (.call "is_gap" (.cons (.var 0) .nil)) (.call "is_gap" (.cons (.var 1) .nil))) (.cons (.ret (.con (.bl false)))
    .nil) .nil)
    (.cons (.ret (.andT (.op .eq (.cons (.op .idx (.cons (.var 0) (.cons (.con (.int 1)) .nil))) (.cons (.op .idx (.cons (.var 1) (.cons (.con (.int 1)) .nil))) .nil))) (.op .eq (.cons (.op .len (.cons (.op .idx (.cons (.var 0) (.cons (.con (.int 2)) .nil))) .nil)) (.cons (.op .len (.cons (.op .idx (.cons (.var 1) (.cons (.con (.int 2)) .nil))) .nil)) .nil)))))
    .nil))⟩
noncomputable def kin : F → F → Bool
  | .tie w ps, .tie v qs => decide (w = v) && decide (ps.length = qs.length)
  | _, _ => false
theorem encs_len (ps : List F) : (encs ps).length = ps.length := by rw [encs_map, List.length_map]
theorem run_kind (h1 : look P "is_gap" = some fn_is_gap) (h2 : look P "of_one_kind" = some fn_of_one_kind) {n : Nat} (f g : F) (σ : Store) :
    run P W (n + 2) "of_one_kind" [.g (enc f), .g (enc g)] σ = .ok (.g (.bl (kin f g))) σ := by
  have e1 := run_is_gap (W := W) h1 (n := n) f σ
  have e2 := run_is_gap (W := W) h1 (n := n) g σ
  rw [run_call h2 (n + 1) _ _ rfl]
  generalize run P W (n + 1) = cl at e1 e2
  cases f with
  | gap a => simp [fn_of_one_kind, e1, kin]
  | tie w ps =>
    cases g with
    | gap b => simp [fn_of_one_kind, e1, e2, kin]
    | tie v qs =>
      have l : ∀ (xs : List F) (σ : Store), prim .len [.g (.tup (encs xs))] σ = .ok (.g (.int xs.length)) σ := fun xs σ => by rw [p_len (n := xs.length)]; simp [lenOf, encs_len]
      simp only [enc] at e1 e2
      by_cases hw : w = v
      · subst hw
        simp [fn_of_one_kind, e1, e2, enc, at?, ixOf, peq, kin, l]
        by_cases hl : ps.length = qs.length <;> simp [hl]
        omega
      · have hb : (w == v) = false := beq_eq_false_iff_ne.mpr hw
        simp [fn_of_one_kind, e1, e2, enc, at?, ixOf, peq, kin, hw, hb]

-- fits: one other filling
theorem set_same {σ : Store} {i : Nat} {c : Cell} (h : σ[i]? = some c) : σ.set i c = σ := by
  have := List.getElem?_eq_some_iff.mp h
  obtain ⟨h1, h2⟩ := this
  rw [← h2, List.set_getElem_self]
-- covers: one other filling
-- alike: one other
end MP


set_option linter.all false
namespace MP
variable {P : List Fn} {W : Nat}
-- _law_gaps: form found part number
theorem szs_len (ps : List F) : ps.length ≤ szs ps := by
  induction ps with
  | nil => simp
  | cons x r ih => have := sz_pos x; simp only [szs, List.length_cons]; omega
theorem szs_mem (ps : List F) : ∀ x ∈ ps, sz x ≤ szs ps := by
  intro x hx
  induction ps with
  | nil => simp at hx
  | cons y r ih =>
    rcases List.mem_cons.mp hx with z | z
    · subst z; simp [szs]
    · have := ih z; simp only [szs]; omega
theorem rangeL_cons {i j : Int} (h : i < j) : rangeL i j = .g (.int i) :: rangeL (i + 1) j := by
  unfold rangeL
  obtain ⟨k, hk⟩ : ∃ k : Nat, (j - i).toNat = k + 1 := ⟨(j - i).toNat - 1, by omega⟩
  have h2 : (j - (i + 1)).toNat = k := by omega
  rw [hk, h2, List.range_succ_eq_map, List.map_cons, List.map_map]
  have e : List.map (fun (k : Nat) => R.g (.int (i + (k : Int)))) (List.range k |>.map Nat.succ) = List.map (fun (k : Nat) => R.g (.int (i + 1 + (k : Int)))) (List.range k) := by
    rw [List.map_map]
    refine List.map_congr_left fun x _ => ?_
    simp; omega
  rw [List.map_map] at e
  rw [e]
  simp
theorem rangeL_nil {i j : Int} (h : j ≤ i) : rangeL i j = [] := by
  unfold rangeL
  rw [show (j - i).toNat = 0 by omega]; rfl

-- _law_covers: one other known
theorem at_encs {ps : List F} {i : Nat} {x : F} (h : ps[i]? = some x) : at? (encs ps) (i : Int) = some (enc x) := by
  apply at_nat
  rw [encs_map, List.getElem?_map, h]; rfl
theorem drop_cons {α : Type} {ps r : List α} {x : α} {i : Nat} (h : ps.drop i = x :: r) : ps[i]? = some x ∧ ps.drop (i + 1) = r ∧ i < ps.length := by
  have hi : i < ps.length := by
    by_cases hi : i < ps.length
    · exact hi
    · rw [List.drop_eq_nil_of_le (by omega)] at h; cases h
  rw [List.drop_eq_getElem_cons hi] at h
  cases h
  exact ⟨List.getElem?_eq_getElem hi, rfl, hi⟩
theorem drop_nil {α : Type} {ps : List α} {i : Nat} (h : ps.drop i = []) : ps.length ≤ i := by simpa using h
mutual
noncomputable def spots : F → List Int → List (List Int × F)
  | .gap n, p => [(p, .gap n)]
  | .tie w ps, p => (p, .tie w ps) :: spotsL ps p 0
noncomputable def spotsL : List F → List Int → Nat → List (List Int × F)
  | [], _, _ => []
  | x :: r, p, i => spots x (p ++ [(i : Int)]) ++ spotsL r p (i + 1)
end
mutual
theorem spots_len : ∀ (f : F) (p : List Int), (spots f p).length = sz f
  | .gap n, p => by simp [spots, sz]
  | .tie w ps, p => by simp [spots, sz, spotsL_len ps p 0]
theorem spotsL_len : ∀ (ps : List F) (p : List Int) (i : Nat), (spotsL ps p i).length = szs ps
  | [], _, _ => by simp [spotsL, szs]
  | x :: r, p, i => by simp [spotsL, szs, spots_len x, spotsL_len r p (i + 1)]
end
noncomputable def encP (p : List Int) : G := .tup (p.map .int)
noncomputable def encS (s : List Int × F) : G := .tup [encP s.1, enc s.2]
-- _law_spots: form path found k
noncomputable abbrev spotsB : Blk := (.cons (.expr (.call "_law_spots" (.cons (.op .idx (.cons (.op .idx (.cons (.var 0) (.cons (.con (.int 2)) .nil))) (.cons (.var 3) .nil))) (.cons (.op .add (.cons (.var 1) (.cons (.op .tup (.cons (.var 3) .nil)) .nil))) (.cons (.var 2) .nil)))))
    .nil)
noncomputable def fn__law_spots : Fn := ⟨"_law_spots", 3, 4,
    (.cons (.expr (.meth .append (.var 2) (.cons (.op .tup (.cons (.var 1) (.cons (.var 0) .nil))) .nil)))
    (.cons (.ite (.op .eq (.cons (.op .idx (.cons (.var 0) (.cons (.con (.int 0)) .nil))) (.cons (.con (.str [116, 105, 101])) .nil))) (.cons (.forS [3] (.range1 (.op .len (.cons (.op .idx (.cons (.var 0) (.cons (.con (.int 2)) .nil))) .nil))) spotsB)
    .nil) .nil)
    (.cons (.ret (.var 2))
    .nil)))⟩
theorem spots_loop {cl : CallH} {d : Nat} {w : List Nat} {ps : List F} {p : List Int} (hp : p.length < 50000) :
    ∀ (i : Nat) (rs : List F) (acc : List (List Int × F)) (τ : Store) (o : Option R), ps.drop i = rs → τ[d]? = some (.lst (acc.map encS)) → acc.length + szs rs ≤ big →
    (∀ x ∈ rs, ∀ (q : List Int) (acc : List (List Int × F)) (τ : Store), q.length ≤ p.length + 1 → τ[d]? = some (.lst (acc.map encS)) → acc.length + sz x ≤ big → cl "_law_spots" [.g (enc x), .g (encP q), .ref d] τ = .ok (.ref d) (τ.set d (.lst ((acc ++ spots x q).map encS)))) →
    ∃ o', forL [3] (evB cl W spotsB) none (rangeL (i : Int) (ps.length : Int)) [some (.g (enc (.tie w ps))), some (.g (encP p)), some (.ref d), o] τ = .ok (.next [some (.g (enc (.tie w ps))), some (.g (encP p)), some (.ref d), o']) (τ.set d (.lst ((acc ++ spotsL rs p i).map encS)))
  | i, [], acc, τ, o, hr, h, hl, hc => ⟨o, by rw [rangeL_nil (by have := drop_nil hr; omega), forL_nil _ _ _ rfl]; simp [spotsL, set_same h]⟩
  | i, x :: r, acc, τ, o, hr, h, hl, hc => by
    simp only [szs] at hl
    obtain ⟨a1, a2, a3⟩ := drop_cons hr
    have e := hc x List.mem_cons_self (p ++ [(i : Int)]) acc τ (by simp) h (by omega)
    have hs : (τ.set d (.lst ((acc ++ spots x (p ++ [(i : Int)])).map encS)))[d]? = some (.lst ((acc ++ spots x (p ++ [(i : Int)])).map encS)) := get_set h
    obtain ⟨o', ih⟩ := spots_loop (cl := cl) (w := w) hp (i + 1) r (acc ++ spots x (p ++ [(i : Int)])) _ (some (.g (.int i))) a2 hs (by simp [spots_len]; omega) fun x' hx => hc x' (List.mem_cons_of_mem _ hx)
    refine ⟨o', ?_⟩
    rw [List.set_set] at ih
    rw [rangeL_cons (by omega), forL_cons _ _ _ _ _ rfl]
    have hii : ((i + 1 : Nat) : Int) = (i : Int) + 1 := by omega
    rw [hii] at ih
    have x1 := at_encs a1
    have i2 : ∀ (a b c : G), at? [a, b, c] 2 = some c := fun _ _ _ => rfl
    have ha : prim .add [.g (encP p), .g (.tup [.int (i : Int)])] τ = .ok (.g (encP (p ++ [(i : Int)]))) τ := by
      unfold encP
      rw [p_addT _ _ (by simp [big]; omega)]; simp
    simp only [enc] at ih ⊢
    simp [bindTg, setSlot, i2, x1, p_tup, mkTup, allG, ha, e, spotsL]
    rw [← List.append_assoc, ← List.map_append]
    simpa using ih
theorem run_spots (h1 : look P "_law_spots" = some fn__law_spots) : ∀ (n : Nat) (f : F) (p : List Int) (acc : List (List Int × F)) (d : Nat) (σ : Store), dep f ≤ n → p.length + n < 40000 → acc.length + sz f ≤ big → σ[d]? = some (.lst (acc.map encS)) →
    run P W n "_law_spots" [.g (enc f), .g (encP p), .ref d] σ = .ok (.ref d) (σ.set d (.lst ((acc ++ spots f p).map encS)))
  | 0, f, _, _, _, _, h, _, _, _ => by have := dep_pos f; omega
  | n + 1, f, p, acc, d, σ, h, hpn, hl, hd => by
    have hdl : d < σ.length := lt_of_get hd
    have ih := run_spots h1 n
    rw [run_call h1 _ _ _ rfl]
    generalize run P W n = cl at ih
    have hap : (acc.map encS).length < big := by simp; have := sz_pos f; omega
    have ht : prim .tup [.g (encP p), .g (enc f)] σ = .ok (.g (encS (p, f))) σ := by rw [p_tup (by simp)]; rfl
    cases f with
    | gap j =>
      simp only [enc] at ht
      simp [fn__law_spots, enc, at?, ixOf, peq, ht, recv_append hd, p_append hd hap]
      rw [fin_old hdl, take_set]
      simp [spots]
    | tie w ps =>
      simp only [dep, sz] at h hl
      have hs : (σ.set d (.lst ((acc ++ [(p, F.tie w ps)]).map encS)))[d]? = some (.lst ((acc ++ [(p, F.tie w ps)]).map encS)) := get_set hd
      obtain ⟨o', lp⟩ := spots_loop (W := W) (cl := cl) (w := w) (ps := ps) (p := p) (by omega) 0 ps (acc ++ [(p, F.tie w ps)]) _ none rfl hs (by simp; omega) fun x hx q acc' τ hq hτ hl' => ih x q acc' d τ (by have := dep_le hx; omega) (by omega) hl' hτ
      rw [List.set_set] at lp
      simp only [enc] at lp ht
      have l : ∀ (xs : List F) (σ : Store), prim .len [.g (.tup (encs xs))] σ = .ok (.g (.int xs.length)) σ := fun xs σ => by rw [p_len (n := xs.length)]; simp [lenOf, encs_len]
      have hr : ∀ τ, wRange (.g (.int 0)) (.g (.int (ps.length : Int))) τ = .ok ⟨rangeL 0 ps.length, none⟩ τ := fun τ =>
        wRange_ok (by
          have := szs_len ps
          have hb : ps.length ≤ 100000 := by unfold big at hl; omega
          simp [small, big]; omega)
      have h0 : ((0 : Nat) : Int) = 0 := rfl
      have lp' := lp
      rw [h0] at lp'
      simp only [List.map_append, List.map_cons, List.map_nil] at lp'
      simp [fn__law_spots, enc, at?, ixOf, peq, ht, recv_append hd, p_append hd hap, l, hr, lp']
      rw [fin_old hdl, take_set]
      simp [spots]
end MP


set_option linter.all false
namespace MP
variable {P : List Fn} {W : Nat}
noncomputable def inP : F → List Int → Prop
  | _, [] => True
  | .tie _ ps, i :: p => ∃ (k : Nat) (x : F), i = (k : Int) ∧ ps[k]? = some x ∧ inP x p
  | .gap _, _ :: _ => False
noncomputable def openF (n : Int) : F → List Int → F
  | _, [] => .gap n
  | .tie w ps, i :: p => .tie w (ps.set i.toNat (openF n (ps.getD i.toNat (.gap 0)) p))
  | .gap k, _ :: _ => .gap k
mutual
theorem spots_in : ∀ (f : F) (p : List Int) (s : List Int × F), s ∈ spots f p → ∃ q, s.1 = p ++ q ∧ inP f q
  | .gap n, p, s, h => by simp only [spots, List.mem_singleton] at h; subst h; exact ⟨[], by simp, by simp [inP]⟩
  | .tie w ps, p, s, h => by
    simp only [spots, List.mem_cons] at h
    rcases h with h | h
    · subst h; exact ⟨[], by simp, by simp [inP]⟩
    · obtain ⟨k, x, q, e1, e2, e3⟩ := spotsL_in ps p 0 s h
      refine ⟨((0 + k : Nat) : Int) :: q, e2, k, x, by simp, e1, e3⟩
theorem spotsL_in : ∀ (ps : List F) (p : List Int) (i : Nat) (s : List Int × F), s ∈ spotsL ps p i → ∃ (k : Nat) (x : F) (q : List Int), ps[k]? = some x ∧ s.1 = p ++ ((i + k : Nat) : Int) :: q ∧ inP x q
  | [], _, _, s, h => by simp [spotsL] at h
  | y :: r, p, i, s, h => by
    simp only [spotsL, List.mem_append] at h
    rcases h with h | h
    · obtain ⟨q, e1, e2⟩ := spots_in y _ s h
      exact ⟨0, y, q, rfl, by simp [e1], e2⟩
    · obtain ⟨k, x, q, e1, e2, e3⟩ := spotsL_in r p (i + 1) s h
      exact ⟨k + 1, x, q, by simpa using e1, by rw [e2, show i + 1 + k = i + (k + 1) by omega], e3⟩
end
theorem inP_len : ∀ {f : F} {p : List Int}, inP f p → p.length + 1 ≤ dep f
  | f, [], _ => by have := dep_pos f; simpa using this
  | .tie w ps, i :: p, h => by
    obtain ⟨k, x, rfl, hx, hp⟩ := h
    have := inP_len hp
    have := dep_le (List.mem_of_getElem? hx)
    simp only [List.length_cons, dep]; omega
theorem deps_set {n : Nat} {y : F} (hy : dep y ≤ n) : ∀ {ps : List F} (k : Nat), deps ps ≤ n → deps (ps.set k y) ≤ n
  | [], _, h => by simpa using h
  | x :: r, 0, h => by simp only [deps, List.set_cons_zero] at h ⊢; omega
  | x :: r, k + 1, h => by
    simp only [deps, List.set_cons_succ] at h ⊢
    have := deps_set hy (ps := r) k (by omega)
    omega
theorem dep_open (n : Int) : ∀ {f : F} {p : List Int}, inP f p → dep (openF n f p) ≤ dep f
  | f, [], _ => by have := dep_pos f; simpa [openF, dep] using this
  | .tie w ps, i :: p, h => by
    obtain ⟨k, x, rfl, hx, hp⟩ := h
    have h1 := dep_open n hp
    have h2 := dep_le (List.mem_of_getElem? hx)
    have h3 : ps.getD k (.gap 0) = x := by simp [List.getD, hx]
    simp only [openF, dep, Int.toNat_natCast, h3]
    have := deps_set (y := openF n x p) (n := deps ps) (by omega) (ps := ps) k (Nat.le_refl _)
    omega
theorem slim_open (n : Int) : ∀ {f : F} {p : List Int}, inP f p → slim f → slim (openF n f p)
  | f, [], _, _ => by simp [openF, slim]
  | .tie w ps, i :: p, h, hs => by
    obtain ⟨k, x, rfl, hx, hp⟩ := h
    have h3 : ps.getD k (.gap 0) = x := by simp [List.getD, hx]
    have h4 := slim_open n hp (slims_iff.mp hs.2 x (List.mem_of_getElem? hx))
    simp only [openF, slim, Int.toNat_natCast, h3, List.length_set]
    refine ⟨hs.1, slims_iff.mpr fun f hf => ?_⟩
    rcases List.mem_or_eq_of_mem_set hf with z | z
    · exact slims_iff.mp hs.2 f z
    · rw [z]; exact h4
-- _law_opened: form path number parts
noncomputable def fn__law_opened : Fn := ⟨"_law_opened", 3, 4,
    (.cons (.ite (.op .eq (.cons (.var 1) (.cons (.op .tup .nil) .nil))) (.cons (.ret (.op .tup (.cons (.con (.str [103, 97, 112])) (.cons (.var 2) .nil))))
    .nil) .nil)
    (.cons (.set 3 (.op .listOf (.cons (.op .idx (.cons (.var 0) (.cons (.con (.int 2)) .nil))) .nil)))
    (.cons (.setIdx (.var 3) (.op .idx (.cons (.var 1) (.cons (.con (.int 0)) .nil))) (.call "_law_opened" (.cons (.op .idx (.cons (.var 3) (.cons (.op .idx (.cons (.var 1) (.cons (.con (.int 0)) .nil))) .nil))) (.cons (.op (.slice true false) (.cons (.var 1) (.cons (.con (.int 1)) .nil))) (.cons (.var 2) .nil)))))
    (.cons (.ret (.op .tup (.cons (.con (.str [116, 105, 101])) (.cons (.op .idx (.cons (.var 0) (.cons (.con (.int 1)) .nil))) (.cons (.op .tupleOf (.cons (.var 3) .nil)) .nil)))))
    .nil))))⟩
theorem shal_encP (p : List Int) : shal (encP p) = true := by
  have : ∀ l : List Int, gdeps (l.map G.int) = 0 := fun l => by
    induction l with
    | nil => rfl
    | cons x r ih => simp [gdeps, gdep, ih]
  simp [shal, encP, gdep, this]
theorem cut_tail {α : Type} (x : α) (r : List α) : cut (x :: r) (some 1) none = r := by
  have h1 : cutIx (x :: r).length 0 (some 1) = 1 := by simp [cutIx]; omega
  have h2 : cutIx (x :: r).length (x :: r).length none = (x :: r).length := rfl
  simp only [cut, h1, h2]
  simp
theorem run_opened (h1 : look P "_law_opened" = some fn__law_opened) (num : Int) : ∀ (n : Nat) (f : F) (p : List Int) (σ : Store), inP f p → p.length + 1 ≤ n →
    run P W n "_law_opened" [.g (enc f), .g (encP p), .g (.int num)] σ = .ok (.g (enc (openF num f p))) σ
  | 0, _, _, _, _, h => by omega
  | n + 1, f, [], σ, hi, h => by
    rw [run_call h1 _ _ _ rfl]
    have hq : peq (encP []) (.tup []) = true := rfl
    have ht : ∀ τ, prim .tup [] τ = .ok (.g (.tup [])) τ := fun τ => rfl
    simp [fn__law_opened, ht, p_eq _ (shal_encP []), hq, p_tup, mkTup, allG, enc, openF]
  | n + 1, .gap j, i :: p, σ, hi, h => by simp [inP] at hi
  | n + 1, .tie w ps, i :: p, σ, hi, h => by
    obtain ⟨k, x, rfl, hx, hp⟩ := hi
    have h3 : ps.getD k (.gap 0) = x := by simp [List.getD, hx]
    have ih := run_opened h1 num n x p (σ ++ [.lst (encs ps)]) hp (by simp at h; omega)
    rw [run_call h1 _ _ _ rfl]
    generalize run P W n = cl at ih
    have hq : peq (encP ((k : Int) :: p)) (.tup []) = false := rfl
    have ht : ∀ τ, prim .tup [] τ = .ok (.g (.tup [])) τ := fun τ => rfl
    have hg : (σ ++ [Cell.lst (encs ps)])[σ.length]? = some (.lst (encs ps)) := by simp
    have x1 := at_encs hx
    have hk : k < ps.length := (List.getElem?_eq_some_iff.mp hx).1
    have hix : ixOf (encs ps).length (k : Int) = some k := by
      simp [ixOf, encs_len, hk]
    have hset : (σ ++ [Cell.lst (encs ps)]).set σ.length (.lst ((encs ps).set k (enc (openF num x p)))) = σ ++ [.lst (encs (ps.set k (openF num x p)))] := by
      simp [encs_map, List.map_set]
    have hg2 : (σ ++ [Cell.lst (encs (ps.set k (openF num x p)))])[σ.length]? = some (.lst (encs (ps.set k (openF num x p)))) := by simp
    have i0 : at? ((((k : Int) :: p).map G.int)) 0 = some (.int k) := at_nat (j := 0) rfl
    have hc : cut (((k : Int) :: p).map G.int) (some 1) none = p.map G.int := cut_tail _ _
    have j1 : ∀ (a b c : G), at? [a, b, c] 1 = some b := fun _ _ _ => rfl
    have j2 : ∀ (a b c : G), at? [a, b, c] 2 = some c := fun _ _ _ => rfl
    have pe : ∀ τ, prim .eq [.g (encP ((k : Int) :: p)), .g (.tup [])] τ = .ok (.g (.bl false)) τ := fun τ => by rw [p_eq _ (shal_encP _), hq]
    simp only [encP, List.map_cons] at ih pe i0 hc
    simp [fn__law_opened, ht, encP, pe, enc, j1, j2, setSlot, i0, hc, p_idxL hg, x1, ih, kPut3_lst hg hix, hset, p_tupleL hg2, p_tup, mkTup, allG, openF, hx]
theorem run_spots_any (h1 : look P "_law_spots" = some fn__law_spots) (n : Nat) (f : F) (τ : Store) (h : dep f ≤ n) (hn : n ≤ 1000) (hb : sz f ≤ big) :
    run P W n "_law_spots" [.g (enc f), .g (.tup []), .ref τ.length] (τ ++ [.lst []]) = .ok (.ref τ.length) (τ ++ [.lst ((spots f []).map encS)]) := by
  have := run_spots (W := W) h1 n f [] [] τ.length (τ ++ [.lst []]) h (by simp; omega) (by simpa using hb) (by simp)
  simpa [encP] using this
inductive Loos (base : Int) : F → F → Prop where
  | refl (f : F) : Loos base f f
  | step {f g : F} {p : List Int} {n : Int} : Loos base f g → inP g p → base ≤ n → n < base + 4 → Loos base f (openF n g p)
theorem Loos.dep {base : Int} {f g : F} (h : Loos base f g) : MP.dep g ≤ MP.dep f := by
  induction h with
  | refl => exact Nat.le_refl _
  | step _ hp _ _ ih => exact Nat.le_trans (dep_open _ hp) ih
theorem Loos.slim {base : Int} {f g : F} (h : Loos base f g) (hs : MP.slim f) : MP.slim g := by
  induction h with
  | refl => exact hs
  | step _ hp _ _ ih => exact slim_open _ hp ih
-- _law_looser: form cell base k spots
noncomputable abbrev looseB : Blk := (.cons (.set 1 (.op .mod (.cons (.op .add (.cons (.op .mul (.cons (.var 1) (.cons (.con (.int 48271)) .nil))) (.cons (.con (.int 23)) .nil))) (.cons (.con (.int 2147483647)) .nil))))
    (.cons (.set 4 (.call "_law_spots" (.cons (.var 0) (.cons (.op .tup .nil) (.cons (.op .lst .nil) .nil)))))
    (.cons (.set 0 (.call "_law_opened" (.cons (.var 0) (.cons (.op .idx (.cons (.op .idx (.cons (.var 4) (.cons (.op .mod (.cons (.op .fdiv (.cons (.var 1) (.cons (.con (.int 5)) .nil))) (.cons (.op .len (.cons (.var 4) .nil)) .nil))) .nil))) (.cons (.con (.int 0)) .nil))) (.cons (.op .add (.cons (.var 2) (.cons (.var 3) .nil))) .nil)))))
    .nil)))
noncomputable def fn__law_looser : Fn := ⟨"_law_looser", 3, 5,
    (.cons (.forS [3] (.range1 (.op .mod (.cons (.var 1) (.cons (.con (.int 4)) .nil)))) looseB)
    (.cons (.ret (.var 0))
    .nil))⟩
theorem loose_loop {cl : CallH} {base : Int} {σ : Store} {f : F} {N : Nat} (hN : N ≤ 30)
    (hsp : ∀ (g : F) (τ : Store), dep g ≤ N → slim g → cl "_law_spots" [.g (enc g), .g (.tup []), .ref τ.length] (τ ++ [.lst []]) = .ok (.ref τ.length) (τ ++ [.lst ((spots g []).map encS)]))
    (hop : ∀ (g : F) (p : List Int) (num : Int) (τ : Store), dep g ≤ N → inP g p → cl "_law_opened" [.g (enc g), .g (encP p), .g (.int num)] τ = .ok (.g (enc (openF num g p))) τ) (hf : dep f ≤ N) (hs : slim f) (hz : ∀ g : F, dep g ≤ N → slim g → sz g ≤ 1000000) :
    ∀ (i : Nat) (k : Nat) (g : F) (c : Int) (o3 o4 : Option R) (J : Store), i + k ≤ 4 → Loos base f g → ∃ g' c' o3' o4' J', Loos base f g' ∧
      forL [3] (evB cl W looseB) none (rangeL (i : Int) ((i + k : Nat) : Int)) [some (.g (enc g)), some (.g (.int c)), some (.g (.int base)), o3, o4] (σ ++ J)
        = .ok (.next [some (.g (enc g')), some (.g (.int c')), some (.g (.int base)), o3', o4']) (σ ++ J')
  | i, 0, g, c, o3, o4, J, hi, hL => ⟨g, c, o3, o4, J, hL, by rw [rangeL_nil (by omega), forL_nil _ _ _ rfl]⟩
  | i, k + 1, g, c, o3, o4, J, hi, hL => by
    have hg : dep g ≤ N := Nat.le_trans hL.dep hf
    have hgs := hL.slim hs
    generalize hc1 : (c * 48271 + 23) % 2147483647 = c1
    have e1 := hsp g (σ ++ J) hg hgs
    have hn0 : 0 < (spots g []).length := by rw [spots_len]; exact sz_pos g
    obtain ⟨j, hj⟩ : ∃ j : Nat, c1 / 5 % ((spots g []).length : Int) = j := ⟨(c1 / 5 % ((spots g []).length : Int)).toNat, by have := Int.emod_nonneg (c1 / 5) (b := ((spots g []).length : Int)) (by omega); omega⟩
    have hjl : j < (spots g []).length := by have := Int.emod_lt_of_pos (c1 / 5) (b := ((spots g []).length : Int)) (by omega); omega
    obtain ⟨s, hsj⟩ : ∃ s, (spots g [])[j]? = some s := ⟨_, List.getElem?_eq_getElem hjl⟩
    obtain ⟨q, eq, hq⟩ := spots_in g [] s (List.mem_of_getElem? hsj)
    rw [List.nil_append] at eq
    have hatj : at? ((spots g []).map encS) (j : Int) = some (encS s) := at_nat (by rw [List.getElem?_map, hsj]; rfl)
    have e2 := hop g q (base + i) (σ ++ J ++ [.lst ((spots g []).map encS)]) hg hq
    obtain ⟨g', c', o3', o4', J', hL', ih⟩ := loose_loop (cl := cl) (base := base) (σ := σ) hN hsp hop hf hs hz (i + 1) k (openF (base + i) g q) c1 (some (.g (.int i))) (some (.ref (σ ++ J).length)) (J ++ [.lst ((spots g []).map encS)]) (by omega) (hL.step hq (by omega) (by omega))
    refine ⟨g', c', o3', o4', J', hL', ?_⟩
    rw [rangeL_cons (by omega), forL_cons _ _ _ _ _ rfl]
    have hii : ((i + 1 : Nat) : Int) = (i : Int) + 1 := by omega
    have hik : ((i + 1 + k : Nat) : Int) = ((i + (k + 1) : Nat) : Int) := by omega
    rw [hii, hik] at ih
    have m1 : ∀ τ, prim .mul [.g (.int c), .g (.int 48271)] τ = .ok (.g (.int (c * 48271))) τ := fun τ => p_mul (by omega)
    have m2 : ∀ τ, prim .mod [.g (.int (c * 48271 + 23)), .g (.int 2147483647)] τ = .ok (.g (.int c1)) τ := fun τ => by rw [p_mod (by omega), hc1]
    have m3 : ∀ τ, prim .fdiv [.g (.int c1), .g (.int 5)] τ = .ok (.g (.int (c1 / 5))) τ := fun τ => p_fdiv (by omega)
    have hgl : (σ ++ J ++ [Cell.lst ((spots g []).map encS)])[(σ ++ J).length]? = some (.lst ((spots g []).map encS)) := by simp
    have m4 : prim .mod [.g (.int (c1 / 5)), .g (.int ((spots g []).length : Int))] (σ ++ J ++ [.lst ((spots g []).map encS)]) = .ok (.g (.int j)) (σ ++ J ++ [.lst ((spots g []).map encS)]) := by rw [p_mod (by omega), hj]
    have m5 : prim .len [.ref (σ ++ J).length] (σ ++ J ++ [.lst ((spots g []).map encS)]) = .ok (.g (.int ((spots g []).length : Int))) (σ ++ J ++ [.lst ((spots g []).map encS)]) := by rw [p_len (n := (spots g []).length)]; simp [lenOf]
    have ht : ∀ τ, prim .tup [] τ = .ok (.g (.tup [])) τ := fun τ => rfl
    have hs0 : at? [encP s.1, enc s.2] 0 = some (encP q) := by rw [← eq]; rfl
    have hes : encS s = .tup [encP s.1, enc s.2] := rfl
    have hap : σ ++ (J ++ [Cell.lst ((spots g []).map encS)]) = σ ++ J ++ [Cell.lst ((spots g []).map encS)] := by simp
    rw [hap] at ih
    generalize hT : σ ++ J = T at *
    simp [bindTg, setSlot, m1, m2, ht, p_lst, mkLst_nil, e1, m3, m5, m4, p_idxL hgl, hatj, hes, hs0, e2]
    simpa using ih
theorem run_looser (h1 : look P "_law_spots" = some fn__law_spots) (h2 : look P "_law_opened" = some fn__law_opened) (h3 : look P "_law_looser" = some fn__law_looser) {n : Nat} (f : F) (c base : Int) (σ : Store) (hn : dep f + 1 ≤ n) (hn2 : n ≤ 1000) (hd : dep f ≤ 8) (hs : slim f) :
    ∃ g, Loos base f g ∧ run P W n "_law_looser" [.g (enc f), .g (.int c), .g (.int base)] σ = .ok (.g (enc g)) σ := by
  obtain ⟨k, rfl⟩ : ∃ k, n = k + 1 := ⟨n - 1, by omega⟩
  have hz : ∀ g : F, dep g ≤ dep f → slim g → sz g ≤ 30000 := fun g hg hs => sz_small hs (by omega)
  have hsp : ∀ (g : F) (τ : Store), dep g ≤ dep f → slim g → run P W k "_law_spots" [.g (enc g), .g (.tup []), .ref τ.length] (τ ++ [.lst []]) = .ok (.ref τ.length) (τ ++ [.lst ((spots g []).map encS)]) := fun g τ hg hs => by
    have hz' := hz g hg hs
    obtain ⟨j, hj⟩ : ∃ j, dep f = j := ⟨_, rfl⟩
    have := run_spots_any (W := W) h1 k g τ (by omega) (by omega) (by unfold big; omega)
    exact this
  have hop : ∀ (g : F) (p : List Int) (num : Int) (τ : Store), dep g ≤ dep f → inP g p → run P W k "_law_opened" [.g (enc g), .g (encP p), .g (.int num)] τ = .ok (.g (enc (openF num g p))) τ := fun g p num τ hg hp => run_opened h2 num k g p τ hp (by have := inP_len hp; omega)
  rw [run_call h3 _ _ _ rfl]
  generalize run P W k = cl at hsp hop
  obtain ⟨j, hj⟩ : ∃ j : Nat, c % 4 = j := ⟨(c % 4).toNat, by omega⟩
  have hj4 : j < 4 := by omega
  obtain ⟨g', c', o3', o4', J', hL', lp⟩ := loose_loop (W := W) (cl := cl) (base := base) (σ := σ) (f := f) (N := dep f) (by omega) hsp hop (Nat.le_refl _) hs (fun g hg hs => by have := hz g hg hs; omega) 0 j f c none none [] (by omega) (.refl f)
  refine ⟨g', hL', ?_⟩
  have h0 : ((0 : Nat) : Int) = 0 := rfl
  rw [h0, Nat.zero_add, List.append_nil] at lp
  have hr : wRange (.g (.int 0)) (.g (.int (j : Int))) σ = .ok ⟨rangeL 0 j, none⟩ σ := wRange_ok (by simp [small, big]; omega)
  have m : prim .mod [.g (.int c), .g (.int 4)] σ = .ok (.g (.int j)) σ := by rw [p_mod (by omega), hj]
  simp [fn__law_looser, m, hr, lp]
end MP


set_option linter.all false
namespace MP
variable {P : List Fn} {W : Nat}
noncomputable abbrev Pr := List (F × F)
noncomputable def encK (p : F × F) : G := .tup [enc p.1, enc p.2]
noncomputable def encT : Nat → Pr → List (G × G)
  | _, [] => []
  | i, p :: r => (encK p, .int (i : Int)) :: encT (i + 1) r
noncomputable def pidx : Pr → F × F → Option Nat
  | [], _ => none
  | p :: r, q => if encK p = encK q then some 0 else (pidx r q).map (· + 1)
theorem dget_encT : ∀ (m : Pr) (i : Nat) (q : F × F), dget (encT i m) (encK q) = (pidx m q).map fun j => G.int ((i + j : Nat) : Int)
  | [], i, q => by simp [encT, dget, pidx]
  | p :: r, i, q => by
    simp only [encT, dget, pidx]
    by_cases e : encK p = encK q
    · simp [e]
    · simp only [e, if_false, dget_encT r (i + 1) q, Option.map_map]
      congr 1
      funext j
      simp only [Function.comp]
      congr 2; omega
theorem encT_app : ∀ (m : Pr) (i : Nat) (q : F × F), encT i (m ++ [q]) = encT i m ++ [(encK q, .int ((i + m.length : Nat) : Int))]
  | [], i, q => by simp [encT]
  | p :: r, i, q => by
    simp only [List.cons_append, encT, encT_app r (i + 1) q, List.length_cons]
    rw [show i + 1 + r.length = i + (r.length + 1) by omega]
theorem encT_len : ∀ (m : Pr) (i : Nat), (encT i m).length = m.length
  | [], _ => rfl
  | p :: r, i => by simp [encT, encT_len r]
theorem encT_mem : ∀ {m : Pr} {i : Nat} {x : G × G}, x ∈ encT i m → ∃ p ∈ m, x.1 = encK p
  | [], i, x, h => by simp [encT] at h
  | p :: r, i, x, h => by
    simp only [encT, List.mem_cons] at h
    rcases h with rfl | h
    · exact ⟨p, List.mem_cons_self, rfl⟩
    · obtain ⟨q, h1, h2⟩ := encT_mem h
      exact ⟨q, List.mem_cons_of_mem _ h1, h2⟩
noncomputable def gapP (f g : F) (m : Pr) : F × Pr := match pidx m (f, g) with
  | some i => (.gap (i : Int), m)
  | none => (.gap (m.length : Int), m ++ [(f, g)])
mutual
noncomputable def cm : F → F → Pr → F × Pr
  | .tie w ps, .tie v qs, m => if w = v ∧ ps.length = qs.length then (.tie w (cms ps qs m).1, (cms ps qs m).2) else gapP (.tie w ps) (.tie v qs) m
  | .gap a, g, m => gapP (.gap a) g m
  | .tie w ps, .gap b, m => gapP (.tie w ps) (.gap b) m
noncomputable def cms : List F → List F → Pr → List F × Pr
  | x :: r, y :: t, m => ((cm x y m).1 :: (cms r t (cm x y m).2).1, (cms r t (cm x y m).2).2)
  | _, _, m => ([], m)
end
theorem cm_gap {f g : F} (h : kin f g = false) (m : Pr) : cm f g m = gapP f g m := by
  cases f with
  | gap a => simp [cm]
  | tie w ps =>
    cases g with
    | gap b => simp [cm]
    | tie v qs =>
      have : ¬ (w = v ∧ ps.length = qs.length) := by simpa [kin] using h
      simp [cm, this]
noncomputable def LoP (d : Nat) (m : Pr) : Prop := ∀ p ∈ m, dep p.1 ≤ d ∧ dep p.2 ≤ d
mutual
noncomputable def nr (d : Nat) : F → F → Prop
  | .tie w ps, .tie v qs => (w = v ∧ ps.length = qs.length ∧ nrs d ps qs) ∨ (¬ (w = v ∧ ps.length = qs.length) ∧ deps ps + 1 ≤ d ∧ deps qs + 1 ≤ d)
  | .gap _, g => 1 ≤ d ∧ dep g ≤ d
  | .tie _ ps, .gap _ => deps ps + 1 ≤ d
noncomputable def nrs (d : Nat) : List F → List F → Prop
  | x :: r, y :: t => nr d x y ∧ nrs d r t
  | _, _ => True
end
mutual
theorem nr_low {d : Nat} : ∀ (f g : F), dep f ≤ d → dep g ≤ d → nr d f g
  | .gap a, g, h1, h2 => by simp only [dep] at h1; exact ⟨h1, h2⟩
  | .tie w ps, .gap b, h1, h2 => by simpa [nr, dep] using h1
  | .tie w ps, .tie v qs, h1, h2 => by
    simp only [dep] at h1 h2
    by_cases h : w = v ∧ ps.length = qs.length
    · exact .inl ⟨h.1, h.2, nrs_low ps qs (by omega) (by omega)⟩
    · exact .inr ⟨h, h1, h2⟩
theorem nrs_low {d : Nat} : ∀ (ps qs : List F), deps ps ≤ d → deps qs ≤ d → nrs d ps qs
  | x :: r, y :: t, h1, h2 => by
    simp only [deps] at h1 h2
    exact ⟨nr_low x y (by omega) (by omega), nrs_low r t (by omega) (by omega)⟩
  | [], _, _, _ => by simp [nrs]
  | _ :: _, [], _, _ => by simp [nrs]
end
theorem nr_kin {d : Nat} {f g : F} (hk : kin f g = true) (h1 : dep f ≤ d + 1) (h2 : dep g ≤ d + 1) : nr d f g := by
  cases f with
  | gap a => simp [kin] at hk
  | tie w ps =>
    cases g with
    | gap b => simp [kin] at hk
    | tie v qs =>
      simp only [kin, Bool.and_eq_true, decide_eq_true_eq] at hk
      simp only [dep] at h1 h2
      exact .inl ⟨hk.1, hk.2, nrs_low ps qs (by omega) (by omega)⟩
mutual
theorem nr_fill {d : Nat} {m1 m2 : Fg} (hd : 1 ≤ d) (h1 : Low d m1) (h2 : Low d m2) : ∀ f : F, nr d (fill m1 f) (fill m2 f)
  | .gap n => by
    have g : ∀ {m : Fg}, Low d m → dep (fill m (.gap n)) ≤ d := fun {m} hm => by
      simp only [fill]
      cases e : dval m n with
      | none => simpa [dep] using hd
      | some x => exact hm.val e
    exact nr_low _ _ (g h1) (g h2)
  | .tie w ps => by
    show nr d (.tie w (fills m1 ps)) (.tie w (fills m2 ps))
    exact .inl ⟨rfl, by simp [fills_map], nrs_fill hd h1 h2 ps⟩
theorem nrs_fill {d : Nat} {m1 m2 : Fg} (hd : 1 ≤ d) (h1 : Low d m1) (h2 : Low d m2) : ∀ ps : List F, nrs d (fills m1 ps) (fills m2 ps)
  | [] => by simp [fills, nrs]
  | x :: r => ⟨nr_fill hd h1 h2 x, nrs_fill hd h1 h2 r⟩
end
theorem gapP_low {d : Nat} {f g : F} {m : Pr} (hm : LoP d m) (hf : dep f ≤ d) (hg : dep g ≤ d) : LoP d (gapP f g m).2 := by
  unfold gapP
  split
  · exact hm
  · intro p hp
    rcases List.mem_append.mp hp with z | z
    · exact hm p z
    · simp at z; subst z; exact ⟨hf, hg⟩
theorem gapP_len (f g : F) (m : Pr) : (gapP f g m).2.length ≤ m.length + 1 := by
  unfold gapP
  split <;> simp
mutual
theorem cm_low {d : Nat} : ∀ (f g : F) (m : Pr), nr d f g → LoP d m → LoP d (cm f g m).2
  | .gap a, g, m, h, hm => by simp only [cm]; exact gapP_low hm h.1 h.2
  | .tie w ps, .gap b, m, h, hm => by
    simp only [nr] at h
    simp only [cm]; exact gapP_low hm (by simpa [dep] using h) (by simp [dep]; omega)
  | .tie w ps, .tie v qs, m, h, hm => by
    simp only [cm]
    rcases h with ⟨h1, h2, h3⟩ | ⟨h1, h2, h3⟩
    · rw [if_pos ⟨h1, h2⟩]; exact cms_low ps qs m h3 hm
    · rw [if_neg h1]; exact gapP_low hm h2 h3
theorem cms_low {d : Nat} : ∀ (ps qs : List F) (m : Pr), nrs d ps qs → LoP d m → LoP d (cms ps qs m).2
  | x :: r, y :: t, m, h, hm => by
    simp only [cms]
    exact cms_low r t _ h.2 (cm_low x y m h.1 hm)
  | [], _, m, _, hm => by simpa [cms] using hm
  | _ :: _, [], m, _, hm => by simpa [cms] using hm
end
mutual
theorem cm_len : ∀ (f g : F) (m : Pr), (cm f g m).2.length ≤ m.length + sz f
  | .gap a, g, m => by simp only [cm, sz]; exact gapP_len _ _ _
  | .tie w ps, .gap b, m => by
    have := gapP_len (.tie w ps) (.gap b) m
    simp only [cm, sz]; omega
  | .tie w ps, .tie v qs, m => by
    simp only [cm, sz]
    split
    · have := cms_len ps qs m; simp only; omega
    · have := gapP_len (.tie w ps) (.tie v qs) m; omega
theorem cms_len : ∀ (ps qs : List F) (m : Pr), (cms ps qs m).2.length ≤ m.length + szs ps
  | x :: r, y :: t, m => by
    have h1 := cm_len x y m
    have h2 := cms_len r t (cm x y m).2
    simp only [cms, szs]; omega
  | [], _, m => by simp [cms]
  | _ :: _, [], m => by simp [cms]
end
mutual
theorem cm_dep : ∀ (f g : F) (m : Pr), dep (cm f g m).1 ≤ dep f
  | .gap a, g, m => by simp only [cm, gapP]; split <;> simp [dep]
  | .tie w ps, .gap b, m => by simp only [cm, gapP]; split <;> simp [dep]
  | .tie w ps, .tie v qs, m => by
    simp only [cm]
    split
    · have := cms_dep ps qs m; simp only [dep]; omega
    · unfold gapP; split <;> simp [dep]
theorem cms_dep : ∀ (ps qs : List F) (m : Pr), deps (cms ps qs m).1 ≤ deps ps
  | x :: r, y :: t, m => by
    have h1 := cm_dep x y m
    have h2 := cms_dep r t (cm x y m).2
    simp only [cms, deps]; omega
  | [], _, m => by simp [cms, deps]
  | _ :: _, [], m => by simp [cms, deps]
end
mutual
theorem keyG_enc : ∀ f : F, keyG (enc f) = true
  | .gap n => by simp [enc, keyG, keyGs]
  | .tie w ps => by simp [enc, keyG, keyGs, keyGs_encs ps]
theorem keyGs_encs : ∀ ps : List F, keyGs (encs ps) = true
  | [] => by simp [encs, keyGs]
  | x :: r => by simp [encs, keyGs, keyG_enc x, keyGs_encs r]
end
theorem tkey_encK (p : F × F) : tkey (encK p) = true := by simp [encK, tkey, keyGs, keyG_enc]
theorem gdep_encK {p : F × F} {d : Nat} (h1 : dep p.1 ≤ d) (h2 : dep p.2 ≤ d) : gdep (encK p) ≤ 2 * d + 1 := by
  have a := gdep_enc p.1
  have b := gdep_enc p.2
  simp only [encK, gdep, gdeps]; omega
theorem tells_low {m : Pr} {p : F × F} (hm : LoP 3 m) (h1 : dep p.1 ≤ 3) (h2 : dep p.2 ≤ 3) : tells (encT 0 m) (encK p) = true := by
  have := gdep_encK h1 h2
  simp only [tells, Bool.or_eq_true, Bool.and_eq_true, decide_eq_true_eq, List.all_eq_true]
  refine .inr ⟨by omega, fun x hx => ?_⟩
  obtain ⟨q, hq, e⟩ := encT_mem hx
  have := gdep_encK (hm q hq).1 (hm q hq).2
  rw [e]; omega
theorem tells_first {p : F × F} (h1 : dep p.1 ≤ 40) (h2 : dep p.2 ≤ 40) : tells (encT 0 []) (encK p) = true := by
  have := gdep_encK h1 h2
  simp only [tells, encT, List.isEmpty_nil, Bool.true_and, Bool.or_eq_true, decide_eq_true_eq]
  exact .inl (by omega)

noncomputable abbrev sharedE : Tm := (.call "shared" (.cons (.var 0) (.cons (.var 1) (.cons (.var 2) .nil))))
-- shared: one other pairs parts
noncomputable def fn_shared : Fn := ⟨"shared", 3, 4,
    (.cons (.ite (.call "of_one_kind" (.cons (.var 0) (.cons (.var 1) .nil))) (.cons (.set 3 (.comp 2 [2] (.zip (.op .idx (.cons (.var 0) (.cons (.con (.int 2)) .nil))) (.op .idx (.cons (.var 1) (.cons (.con (.int 2)) .nil)))) .nil sharedE))
    (.cons (.ret (.op .tup (.cons (.con (.str [116, 105, 101])) (.cons (.op .idx (.cons (.var 0) (.cons (.con (.int 1)) .nil))) (.cons (.op .tupleOf (.cons (.var 3) .nil)) .nil)))))
    .nil)) .nil)
    (.cons (.ret (.op .tup (.cons (.con (.str [103, 97, 112])) (.cons (.meth .setdefT (.var 2) (.cons (.op .tup (.cons (.var 0) (.cons (.var 1) .nil))) (.cons (.op .lenT (.cons (.var 2) .nil)) .nil))) .nil))))
    .nil))⟩
theorem recv_setdefT {σ : Store} {k : Nat} {xs : List (G × G)} (h : σ[k]? = some (.dtg xs)) : recvOk .setdefT (.ref k) σ = true := by simp [recvOk, h]
theorem p_setdefTY {σ : Store} {k : Nat} {xs : List (G × G)} {i d v : G} (h : σ[k]? = some (.dtg xs)) (hk : tkey i = true) (ht : tells xs i = true) (hl : xs.length < big) (hv : dget xs i = some v) : prim .setdefT [.ref k, .g i, .g d] σ = .ok (.g v) σ := by simp [prim, pSetdefT, h, hk, ht, hl, hv, okG]
theorem p_setdefTN {σ : Store} {k : Nat} {xs : List (G × G)} {i d : G} (h : σ[k]? = some (.dtg xs)) (hk : tkey i = true) (ht : tells xs i = true) (hl : xs.length < big) (hv : dget xs i = none) : prim .setdefT [.ref k, .g i, .g d] σ = .ok (.g d) (σ.set k (.dtg (xs ++ [(i, d)]))) := by simp [prim, pSetdefT, h, hk, ht, hl, hv]
theorem p_lenT {σ : Store} {k : Nat} {xs : List (G × G)} (h : σ[k]? = some (.dtg xs)) : prim .lenT [.ref k] σ = .ok (.g (.int xs.length)) σ := by simp [prim, pLenT, h, okG]
theorem shared_loop {cl : CallH} {d : Nat} {e0 e1 e3 : Option R} :
    ∀ (ps qs : List F) (m : Pr) (τ : Store), τ[d]? = some (.dtg (encT 0 m)) → m.length + szs ps < big → LoP 3 m → nrs 3 ps qs →
    (∀ x ∈ ps, ∀ (y : F) (m : Pr) (τ : Store), nr 3 x y → LoP 3 m → τ[d]? = some (.dtg (encT 0 m)) → m.length + sz x < big → cl "shared" [.g (enc x), .g (enc y), .ref d] τ = .ok (.g (enc (cm x y m).1)) (τ.set d (.dtg (encT 0 (cm x y m).2)))) →
    compL (compF cl 2 [2] .nil sharedE [e0, e1, some (.ref d), e3]) none (zipR (encs ps) (encs qs)) τ = .ok ((cms ps qs m).1.map fun x => R.g (enc x)) (τ.set d (.dtg (encT 0 (cms ps qs m).2)))
  | x :: r, y :: t, m, τ, h, hl, hm, hq, hc => by
    simp only [szs] at hl
    have e := hc x List.mem_cons_self y m τ hq.1 hm h (by omega)
    have hs : (τ.set d (.dtg (encT 0 (cm x y m).2)))[d]? = some (.dtg (encT 0 (cm x y m).2)) := get_set h
    have ln := cm_len x y m
    have ih := shared_loop (cl := cl) (e0 := e0) (e1 := e1) (e3 := e3) r t (cm x y m).2 _ hs (by omega) (cm_low x y m hq.1 hm) hq.2 fun x' hx => hc x' (List.mem_cons_of_mem _ hx)
    rw [List.set_set] at ih
    simp only [encs, zipR, compL, intact, if_true]
    simp [e, ih, cms]
  | [], qs, m, τ, h, hl, hm, hq, hc => by simp [encs, zipR, compL, intact, cms, set_same h]
  | x :: r, [], m, τ, h, hl, hm, hq, hc => by simp [encs, zipR, compL, intact, cms, set_same h]
theorem run_shared_gap (h1 : look P "is_gap" = some fn_is_gap) (h2 : look P "of_one_kind" = some fn_of_one_kind) (h3 : look P "shared" = some fn_shared) {n : Nat} {f g : F} {m : Pr} {d : Nat} {σ : Store} (hk : kin f g = false) (ht : tells (encT 0 m) (encK (f, g)) = true) (hl : m.length < big) (hd : σ[d]? = some (.dtg (encT 0 m))) :
    run P W (n + 3) "shared" [.g (enc f), .g (enc g), .ref d] σ = .ok (.g (enc (cm f g m).1)) (σ.set d (.dtg (encT 0 (cm f g m).2))) := by
  have e2 := run_kind (W := W) h1 h2 (n := n) f g σ
  rw [hk] at e2
  have hdl : d < σ.length := lt_of_get hd
  rw [run_call h3 _ _ _ rfl, cm_gap hk]
  generalize run P W (n + 2) = cl at e2
  have hlen : (encT 0 m).length < big := by rw [encT_len]; exact hl
  have hke : G.tup [enc f, enc g] = encK (f, g) := rfl
  have pl : prim .lenT [.ref d] σ = .ok (.g (.int m.length)) σ := by rw [p_lenT hd, encT_len]
  cases hv : pidx m (f, g) with
  | some i =>
    have hv' : dget (encT 0 m) (encK (f, g)) = some (.int (i : Int)) := by rw [dget_encT, hv]; simp
    simp [fn_shared, e2, recv_setdefT hd, p_tup, mkTup, allG, hke, pl, p_setdefTY hd (tkey_encK _) ht hlen hv', gapP, hv, enc, set_same hd]
  | none =>
    have hv' : dget (encT 0 m) (encK (f, g)) = none := by rw [dget_encT, hv]; simp
    simp [fn_shared, e2, recv_setdefT hd, p_tup, mkTup, allG, hke, pl, p_setdefTN hd (tkey_encK _) ht hlen hv', gapP, hv, enc, encT_app, take_set]
theorem run_shared (h1 : look P "is_gap" = some fn_is_gap) (h2 : look P "of_one_kind" = some fn_of_one_kind) (h3 : look P "shared" = some fn_shared) : ∀ (n : Nat) (f g : F) (m : Pr) (d : Nat) (σ : Store), dep f + 2 ≤ n → nr 3 f g → LoP 3 m → m.length + sz f < big → σ[d]? = some (.dtg (encT 0 m)) →
    run P W n "shared" [.g (enc f), .g (enc g), .ref d] σ = .ok (.g (enc (cm f g m).1)) (σ.set d (.dtg (encT 0 (cm f g m).2)))
  | 0, _, _, _, _, _, h, _, _, _, _ => by omega
  | n + 1, f, g, m, d, σ, h, hr, hm, hl, hd => by
    obtain ⟨k, rfl⟩ : ∃ k, n = k + 2 := ⟨n - 2, by have := dep_pos f; omega⟩
    have hz := sz_pos f
    cases hk : kin f g with
    | false =>
      have hf : dep f ≤ 3 ∧ dep g ≤ 3 := by
        cases f with
        | gap a => exact ⟨by simp [dep], hr.2⟩
        | tie w ps =>
          cases g with
          | gap b => simp only [nr] at hr; exact ⟨by simpa [dep] using hr, by simp [dep]⟩
          | tie v qs =>
            rcases hr with ⟨q1, q2, _⟩ | ⟨_, q2, q3⟩
            · simp [kin, q1, q2] at hk
            · exact ⟨by simpa [dep] using q2, by simpa [dep] using q3⟩
      exact run_shared_gap h1 h2 h3 hk (tells_low hm hf.1 hf.2) (by omega) hd
    | true =>
      have ih := run_shared h1 h2 h3 (k + 2)
      have e2 := run_kind (W := W) h1 h2 (n := k) f g σ
      rw [hk] at e2
      have hdl : d < σ.length := lt_of_get hd
      rw [run_call h3 _ _ _ rfl]
      generalize run P W (k + 2) = cl at ih e2
      cases f with
      | gap a => simp [kin] at hk
      | tie w ps =>
        cases g with
        | gap b => simp [kin] at hk
        | tie v qs =>
          simp only [kin, Bool.and_eq_true, decide_eq_true_eq] at hk
          obtain ⟨rfl, hk⟩ := hk
          have hq : nrs 3 ps qs := by
            rcases hr with ⟨_, _, q⟩ | ⟨q, _⟩
            · exact q
            · exact absurd ⟨rfl, hk⟩ q
          simp only [dep, sz] at h hl
          have lp := shared_loop (cl := cl) (d := d) (e0 := some (R.g (enc (.tie w ps)))) (e1 := some (R.g (enc (.tie w qs)))) (e3 := none) ps qs m σ hd (by omega) hm hq fun x hx y m' τ hy hm' hτ hlen => by
            exact ih x y m' d τ (by have := dep_le hx; omega) hy hm' hlen hτ
          have hp : (σ.set d (.dtg (encT 0 (cms ps qs m).2)) ++ [Cell.lst ((cms ps qs m).1.map enc)])[σ.length]? = some (.lst ((cms ps qs m).1.map enc)) := by
            rw [List.getElem?_append_right (by simp)]; simp
          simp only [enc] at e2 lp
          simp [fn_shared, e2, enc, at?, ixOf, lp, mkLst_map, setSlot, p_tupleL hp, p_tup, mkTup, allG, cm, hk, encs_map (cms ps qs m).1, take_set_app]
end MP


set_option linter.all false
namespace MP
variable {P : List Fn} {W : Nat}
noncomputable def lf : Nat → Pr → Fg
  | _, [] => []
  | i, p :: r => ((i : Int), p.1) :: lf (i + 1) r
noncomputable def rt : Nat → Pr → Fg
  | _, [] => []
  | i, p :: r => ((i : Int), p.2) :: rt (i + 1) r
theorem dset_fresh : ∀ {m : Fg} {n : Int} {f : F}, n ∉ keys m → dset m n f = m ++ [(n, f)]
  | [], n, f, h => rfl
  | (k, g) :: r, n, f, h => by
    simp only [keys, List.map_cons, List.mem_cons, not_or] at h
    simp only [dset, if_neg (Ne.symm h.1), List.cons_append]
    rw [dset_fresh h.2]
theorem lf_keys : ∀ (l : Pr) (i : Nat) (k : Int), k ∈ keys (lf i l) → (i : Int) ≤ k ∧ k < i + l.length
  | [], i, k, h => by simp [lf, keys] at h
  | p :: r, i, k, h => by
    simp only [lf, keys, List.map_cons, List.mem_cons] at h
    rcases h with rfl | h
    · simp; omega
    · have := lf_keys r (i + 1) k h
      simp only [List.length_cons]; omega
theorem rt_keys : ∀ (l : Pr) (i : Nat) (k : Int), k ∈ keys (rt i l) → (i : Int) ≤ k ∧ k < i + l.length
  | [], i, k, h => by simp [rt, keys] at h
  | p :: r, i, k, h => by
    simp only [rt, keys, List.map_cons, List.mem_cons] at h
    rcases h with rfl | h
    · simp; omega
    · have := rt_keys r (i + 1) k h
      simp only [List.length_cons]; omega
theorem lf_nd : ∀ (l : Pr) (i : Nat), (keys (lf i l)).Nodup
  | [], i => by simp [lf, keys]
  | p :: r, i => by
    simp only [lf, keys, List.map_cons, List.nodup_cons]
    exact ⟨fun h => by have := lf_keys r (i + 1) _ h; omega, lf_nd r (i + 1)⟩
theorem rt_nd : ∀ (l : Pr) (i : Nat), (keys (rt i l)).Nodup
  | [], i => by simp [rt, keys]
  | p :: r, i => by
    simp only [rt, keys, List.map_cons, List.nodup_cons]
    exact ⟨fun h => by have := rt_keys r (i + 1) _ h; omega, rt_nd r (i + 1)⟩
theorem lf_low {d : Nat} : ∀ {l : Pr} {i : Nat}, LoP d l → Low d (lf i l)
  | [], i, h => by intro p hp; simp [lf] at hp
  | q :: r, i, h => by
    intro p hp
    simp only [lf, List.mem_cons] at hp
    rcases hp with rfl | hp
    · exact (h q List.mem_cons_self).1
    · exact lf_low (fun x hx => h x (List.mem_cons_of_mem _ hx)) p hp
theorem rt_low {d : Nat} : ∀ {l : Pr} {i : Nat}, LoP d l → Low d (rt i l)
  | [], i, h => by intro p hp; simp [rt] at hp
  | q :: r, i, h => by
    intro p hp
    simp only [rt, List.mem_cons] at hp
    rcases hp with rfl | hp
    · exact (h q List.mem_cons_self).2
    · exact rt_low (fun x hx => h x (List.mem_cons_of_mem _ hx)) p hp
-- common: one other pairs least to_one to_other pair number
noncomputable abbrev commB : Blk := (.cons (.setIdx (.var 4) (.var 7) (.op .idx (.cons (.var 6) (.cons (.con (.int 0)) .nil))))
    (.cons (.setIdx (.var 5) (.var 7) (.op .idx (.cons (.var 6) (.cons (.con (.int 1)) .nil))))
    .nil))
noncomputable def fn_common : Fn := ⟨"common", 2, 8,
    (.cons (.set 2 (.op .dtg0 .nil))
    (.cons (.set 3 (.call "shared" (.cons (.var 0) (.cons (.var 1) (.cons (.var 2) .nil)))))
    (.cons (.set 4 (.op .dct0 .nil))
    (.cons (.set 5 (.op .dct0 .nil))
    (.cons (.forS [6, 7] (.itemsT (.var 2)) commB)
    (.cons (.ret (.op .tup (.cons (.var 3) (.cons (.var 4) (.cons (.var 5) .nil)))))
    .nil))))))⟩
theorem comm_loop {cl : CallH} {k : Nat} {T : List (G × G)} {τ : Store} {e0 e1 e2 e3 : Option R} (hk : τ[k]? = some (.rdt T)) :
    ∀ (l : Pr) (i : Nat) (a b : Fg) (x y : Option R), (∀ n ∈ keys a, n < (i : Int)) → (∀ n ∈ keys b, n < (i : Int)) → a.length + l.length < big → b.length + l.length < big →
      ∃ x' y', forL [6, 7] (evB cl W commB) (some (k, .rdt T)) ((encT i l).map fun p => R.g (.tup [p.1, p.2])) [e0, e1, e2, e3, some (.ref τ.length), some (.ref (τ.length + 1)), x, y] (τ ++ [.dct (encD a), .dct (encD b)])
        = .ok (.next [e0, e1, e2, e3, some (.ref τ.length), some (.ref (τ.length + 1)), x', y']) (τ ++ [.dct (encD (a ++ lf i l)), .dct (encD (b ++ rt i l))])
  | [], i, a, b, x, y, ha, hb, la, lb => ⟨x, y, by
      simp only [encT, List.map_nil]
      rw [forL_nil _ _ _ (by simp [intact, get_app _ hk])]; simp [lf, rt]⟩
  | p :: l, i, a, b, x, y, ha, hb, la, lb => by
    simp only [List.length_cons] at la lb
    have fa : (i : Int) ∉ keys a := fun h => by have := ha _ h; omega
    have fb : (i : Int) ∉ keys b := fun h => by have := hb _ h; omega
    have ka : ∀ {c : Fg} {f : F}, (∀ n ∈ keys c, n < (i : Int)) → ∀ n ∈ keys (c ++ [((i : Int), f)]), n < ((i + 1 : Nat) : Int) := fun {c f} hc n hn => by
      simp only [keys, List.map_append, List.map_cons, List.map_nil, List.mem_append, List.mem_singleton] at hn
      rcases hn with hn | hn
      · have := hc n hn; omega
      · omega
    obtain ⟨x', y', ih⟩ := comm_loop (cl := cl) (e0 := e0) (e1 := e1) (e2 := e2) (e3 := e3) hk l (i + 1) (a ++ [((i : Int), p.1)]) (b ++ [((i : Int), p.2)]) (some (.g (encK p))) (some (.g (.int i))) (ka ha) (ka hb) (by simp; omega) (by simp; omega)
    refine ⟨x', y', ?_⟩
    have p1 : (τ ++ [Cell.dct (encD a), .dct (encD b)])[τ.length]? = some (.dct (encD a)) := by simp
    have p2 : (τ ++ [Cell.dct (encD (a ++ [((i : Int), p.1)])), .dct (encD b)])[τ.length + 1]? = some (.dct (encD b)) := by simp
    have s1 : (τ ++ [Cell.dct (encD a), .dct (encD b)]).set τ.length (.dct (encD (a ++ [((i : Int), p.1)]))) = τ ++ [.dct (encD (a ++ [((i : Int), p.1)])), .dct (encD b)] := by simp
    have s2 : (τ ++ [Cell.dct (encD (a ++ [((i : Int), p.1)])), .dct (encD b)]).set (τ.length + 1) (.dct (encD (b ++ [((i : Int), p.2)]))) = τ ++ [.dct (encD (a ++ [((i : Int), p.1)])), .dct (encD (b ++ [((i : Int), p.2)]))] := by
      rw [List.set_append_right _ _ (by omega)]; simp
    have l1 : (encD a).length < big := by simp [encD]; omega
    have l2 : (encD b).length < big := by simp [encD]; omega
    have j0 : at? [enc p.1, enc p.2] 0 = some (enc p.1) := rfl
    have j1 : at? [enc p.1, enc p.2] 1 = some (enc p.2) := rfl
    simp only [encT, List.map_cons]
    rw [forL_cons _ _ _ _ _ (by simp [intact, get_app _ hk])]
    simp only [encK] at ih ⊢
    simp [bindTg, parts, setSlots, setSlot, j0, j1, kPut3_dct p1 (isKey_int _) l1, dput_encD, dset_fresh fa, s1, kPut3_dct p2 (isKey_int _) l2, dset_fresh fb, s2]
    simpa [lf, rt] using ih
theorem wItemsT_dtg {σ : Store} {k : Nat} {xs : List (G × G)} (h : σ[k]? = some (.dtg xs)) : wItemsT (.ref k) σ = .ok ⟨xs.map fun p => .g (.tup [p.1, p.2]), some (k, .rdt xs)⟩ (σ.set k (.rdt xs)) := by simp only [wItemsT, h]
@[simp] theorem evW_itemsT {cl : CallH} {ε : Env} {σ : Store} (a : Tm) : evW cl (.itemsT a) ε σ = kW wItemsT (ev cl false a ε σ) := by
  rw [evW]
  cases ev cl false a ε σ <;> simp [kW]
@[simp] theorem forW_rdt {ε : Env} {σ : Store} (tg : List Nat) (body : Env → Store → Res Out) (xs : List R) (k : Nat) (l : List (G × G)) : forW tg body ⟨xs, some (k, .rdt l)⟩ ε σ = forL tg body (some (k, .rdt l)) xs ε σ := rfl
@[simp] theorem p_dtg0 {σ : Store} : prim .dtg0 [] σ = .ok (.ref σ.length) (σ ++ [.dtg []]) := rfl
theorem fin_two {σ : Store} {n : Nat} {x : G} {A B : List (G × G)} (h1 : σ[n + 1]? = some (.dct A)) (h2 : σ[n + 2]? = some (.dct B)) :
    fin n (.ok (.ret (.tr [.g x, .ref (n + 1), .ref (n + 2)])) σ) = .ok (.tr [.g x, .ref n, .ref (n + 1)]) (σ.take n ++ [.dct A, .dct B]) := by
  have a1 : ¬ n + 1 < n := by omega
  have a2 : ¬ n + 2 < n := by omega
  have a3 : (n == n + 1) = false := by simp
  simp [fin, refsGe, refsGes, cellsAt, ren, rens, a1, a2, a3, h1, h2, flatCell, List.idxOf, List.findIdx, List.findIdx.go]
noncomputable def Com (f g : F) : Prop := dep f ≤ 16 ∧ dep g ≤ 16 ∧ sz f ≤ 30000 ∧ (kin f g = true → nr 3 f g)
theorem cm_top_len {f g : F} : (cm f g []).2.length ≤ sz f := by have := cm_len f g []; simpa using this
theorem run_common (h1 : look P "is_gap" = some fn_is_gap) (h2 : look P "of_one_kind" = some fn_of_one_kind) (h3 : look P "shared" = some fn_shared) (h4 : look P "common" = some fn_common) {n : Nat} {f g : F} (hn : dep f + 4 ≤ n) (hc : Com f g) (σ : Store) :
    run P W n "common" [.g (enc f), .g (enc g)] σ = .ok (.tr [.g (enc (cm f g []).1), .ref σ.length, .ref (σ.length + 1)]) (σ ++ [.dct (encD (lf 0 (cm f g []).2)), .dct (encD (rt 0 (cm f g []).2))]) := by
  obtain ⟨k, rfl⟩ : ∃ k, n = k + 1 := ⟨n - 1, by omega⟩
  obtain ⟨c1, c2, c3, c4⟩ := hc
  have hs : (σ ++ [Cell.dtg []])[σ.length]? = some (.dtg (encT 0 [])) := by simp [encT]
  have e : run P W k "shared" [.g (enc f), .g (enc g), .ref σ.length] (σ ++ [.dtg []]) = .ok (.g (enc (cm f g []).1)) ((σ ++ [Cell.dtg []]).set σ.length (.dtg (encT 0 (cm f g []).2))) := by
    cases hk : kin f g with
    | false =>
      obtain ⟨j, rfl⟩ : ∃ j, k = j + 3 := ⟨k - 3, by omega⟩
      exact run_shared_gap h1 h2 h3 hk (tells_first (by simp only; omega) (by simp only; omega)) (by simp [big]) hs
    | true => exact run_shared h1 h2 h3 k f g [] σ.length _ (by omega) (c4 hk) (fun _ h => by simp at h) (by simp [big]; omega) hs
  have hx : (σ ++ [Cell.dtg []]).set σ.length (.dtg (encT 0 (cm f g []).2)) = σ ++ [.dtg (encT 0 (cm f g []).2)] := by simp
  rw [hx] at e
  have hl : (cm f g []).2.length ≤ 30000 := Nat.le_trans cm_top_len c3
  rw [run_call h4 _ _ _ rfl]
  generalize run P W k = cl at e
  generalize hM : (cm f g []).2 = M at *
  have hw : (σ ++ [Cell.dtg (encT 0 M), .dct [], .dct []])[σ.length]? = some (.dtg (encT 0 M)) := by simp
  have hw2 : (σ ++ [Cell.dtg (encT 0 M), .dct [], .dct []]).set σ.length (.rdt (encT 0 M)) = σ ++ [.rdt (encT 0 M), .dct [], .dct []] := by simp
  obtain ⟨x', y', lp⟩ := comm_loop (W := W) (cl := cl) (k := σ.length) (T := encT 0 M) (τ := σ ++ [.rdt (encT 0 M)]) (e0 := some (.g (enc f))) (e1 := some (.g (enc g))) (e2 := some (.ref σ.length)) (e3 := some (.g (enc (cm f g []).1))) (by simp) M 0 [] [] none none (by simp [keys]) (by simp [keys]) (by simp [big]; omega) (by simp [big]; omega)
  simp only [List.append_assoc, List.cons_append, List.nil_append, List.length_append, List.length_cons, List.length_nil, Nat.zero_add, encD, List.map_nil] at lp
  have f1 := fin_two (σ := σ ++ [Cell.rdt (encT 0 M), .dct (encD (lf 0 M)), .dct (encD (rt 0 M))]) (n := σ.length) (x := enc (cm f g []).1) (A := encD (lf 0 M)) (B := encD (rt 0 M)) (by simp) (by simp)
  simp only [encD] at f1
  simp [fn_common, setSlot, e, wItemsT_dtg hw, hw2, lp, p_tup, mkTup, allG, f1, encD]
end MP


set_option linter.all false
namespace MP
variable {P : List Fn} {W : Nat}
mutual
theorem slim_fill {m : Fg} (h : ∀ p ∈ m, slim p.2) : ∀ {f : F}, slim f → slim (fill m f)
  | .gap n, _ => by
    simp only [fill]
    cases e : dval m n with
    | none => trivial
    | some g => exact h _ (dval_some_mem e)
  | .tie w ps, hf => by
    simp only [fill, slim]
    exact ⟨by rw [fills_map, List.length_map]; exact hf.1, slims_fill h hf.2⟩
theorem slims_fill {m : Fg} (h : ∀ p ∈ m, slim p.2) : ∀ {ps : List F}, slims ps → slims (fills m ps)
  | [], _ => trivial
  | _ :: _, hf => ⟨slim_fill h hf.1, slims_fill h hf.2⟩
end
theorem OkFg.slim {many : Int} {d : Nat} {ns : List Int} {m : Fg} (h : OkFg many d ns m) : ∀ p ∈ m, MP.slim p.2 := fun p hp => okF_slim (h.form p hp).2
-- _law_other: form cell second way other
-- _law_told: one other known due turn found
-- law: script form other
end MP


set_option linter.all false
namespace MP
variable {P : List Fn} {W : Nat}
theorem peq_encK (p q : F × F) : peq (encK p) (encK q) = decide (encK p = encK q) := by
  simp only [encK, peq, peqs, peq_enc, G.tup.injEq, List.cons.injEq, and_true, Bool.and_true, Bool.decide_and]
theorem any_pidx : ∀ (m : Pr) (q : F × F), ((m.map encK).any fun y => peq y (encK q)) = (pidx m q).isSome
  | [], q => by simp [pidx]
  | p :: r, q => by
    simp only [List.map_cons, List.any_cons, any_pidx r q, peq_encK, pidx]
    by_cases e : encK p = encK q <;> simp [e]
theorem find_pidx : ∀ (m : Pr) (q : F × F), (m.map encK).findIdx? (fun y => peq y (encK q)) = pidx m q
  | [], q => by simp [pidx]
  | p :: r, q => by
    simp only [List.map_cons, List.findIdx?_cons, find_pidx r q, peq_encK, pidx]
    by_cases e : encK p = encK q <;> simp [e]
theorem shal_encK {m : Pr} (h : LoP 40 m) : (m.map encK).all shal = true := by
  simp only [List.all_eq_true, List.mem_map]
  rintro x ⟨p, hp, rfl⟩
  have := gdep_encK (h p hp).1 (h p hp).2
  exact decide_eq_true (by omega)
theorem p_index {σ : Store} {k : Nat} {xs : List G} {x : G} {i : Nat} (h : σ[k]? = some (.lst xs)) (hs : xs.all shal = true) (hi : xs.findIdx? (fun y => peq y x) = some i) : prim .index [.ref k, .g x] σ = .ok (.g (.int i)) σ := by simp [prim, pIndex, h, hs, hi, okG]
theorem pidx_snoc : ∀ {m : Pr} {q : F × F}, pidx m q = none → pidx (m ++ [q]) q = some m.length
  | [], q, h => by simp [pidx]
  | p :: r, q, h => by
    simp only [pidx] at h
    split at h
    · cases h
    · rename_i e
      simp only [Option.map_eq_none_iff] at h
      simp [pidx, e, pidx_snoc h]
-- _law_common: one other pairs parts k
noncomputable abbrev lcmB : Blk := (.cons (.expr (.meth .append (.var 3) (.cons (.call "_law_common" (.cons (.op .idx (.cons (.op .idx (.cons (.var 0) (.cons (.con (.int 2)) .nil))) (.cons (.var 4) .nil))) (.cons (.op .idx (.cons (.op .idx (.cons (.var 1) (.cons (.con (.int 2)) .nil))) (.cons (.var 4) .nil))) (.cons (.var 2) .nil)))) .nil)))
    .nil)
noncomputable def fn__law_common : Fn := ⟨"_law_common", 3, 5,
    (.cons (.ite (.andT (.op .eq (.cons (.op .idx (.cons (.var 0) (.cons (.con (.int 0)) .nil))) (.cons (.con (.str [116, 105, 101])) .nil))) (.andT (.op .eq (.cons (.op .idx (.cons (.var 1) (.cons (.con (.int 0)) .nil))) (.cons (.con (.str [116, 105, 101])) .nil))) (.andT (.op .eq (.cons (.op .idx (.cons (.var 0) (.cons (.con (.int 1)) .nil))) (.cons (.op .idx (.cons (.var 1) (.cons (.con (.int 1)) .nil))) .nil))) (.op .eq (.cons (.op .len (.cons (.op .idx (.cons (.var 0) (.cons (.con (.int 2)) .nil))) .nil)) (.cons (.op .len (.cons (.op .idx (.cons (.var 1) (.cons (.con (.int 2)) .nil))) .nil)) .nil)))))) (.cons (.set 3 (.op .lst .nil))
    (.cons (.forS [4] (.range1 (.op .len (.cons (.op .idx (.cons (.var 0) (.cons (.con (.int 2)) .nil))) .nil))) lcmB)
    (.cons (.ret (.op .tup (.cons (.con (.str [116, 105, 101])) (.cons (.op .idx (.cons (.var 0) (.cons (.con (.int 1)) .nil))) (.cons (.op .tupleOf (.cons (.var 3) .nil)) .nil)))))
    .nil))) .nil)
    (.cons (.ite (.op .notin (.cons (.op .tup (.cons (.var 0) (.cons (.var 1) .nil))) (.cons (.var 2) .nil))) (.cons (.expr (.meth .append (.var 2) (.cons (.op .tup (.cons (.var 0) (.cons (.var 1) .nil))) .nil)))
    .nil) .nil)
    (.cons (.ret (.op .tup (.cons (.con (.str [103, 97, 112])) (.cons (.meth .index (.var 2) (.cons (.op .tup (.cons (.var 0) (.cons (.var 1) .nil))) .nil)) .nil))))
    .nil)))⟩
theorem lcm_loop {cl : CallH} {d : Nat} {w : List Nat} {ps qs : List F} {σ : Store} (hd : d < σ.length) (hpq : ps.length = qs.length) (hp4 : ps.length < 1000) :
    ∀ (i : Nat) (rs ts acc : List F) (m : Pr) (o : Option R), ps.drop i = rs → qs.drop i = ts → acc.length = i → m.length + szs rs < big → LoP 40 m → deps rs ≤ 40 → deps ts ≤ 40 →
    (∀ x ∈ rs, ∀ y ∈ ts, ∀ (m : Pr) (τ : Store), LoP 40 m → τ[d]? = some (.lst (m.map encK)) → m.length + sz x < big → cl "_law_common" [.g (enc x), .g (enc y), .ref d] τ = .ok (.g (enc (cm x y m).1)) (τ.set d (.lst ((cm x y m).2.map encK)))) →
    ∃ o', forL [4] (evB cl W lcmB) none (rangeL (i : Int) (ps.length : Int)) [some (.g (enc (.tie w ps))), some (.g (enc (.tie w qs))), some (.ref d), some (.ref σ.length), o] (σ.set d (.lst (m.map encK)) ++ [.lst (encs acc)])
      = .ok (.next [some (.g (enc (.tie w ps))), some (.g (enc (.tie w qs))), some (.ref d), some (.ref σ.length), o']) (σ.set d (.lst ((cms rs ts m).2.map encK)) ++ [.lst (encs (acc ++ (cms rs ts m).1))])
  | i, [], ts, acc, m, o, hr, ht, ha, hl, hm, h1, h2, hc => ⟨o, by rw [rangeL_nil (by have := drop_nil hr; omega), forL_nil _ _ _ rfl]; simp [cms]⟩
  | i, x :: r, [], acc, m, o, hr, ht, ha, hl, hm, h1, h2, hc => by
    obtain ⟨_, _, a3⟩ := drop_cons hr
    have := drop_nil ht
    omega
  | i, x :: r, y :: t, acc, m, o, hr, ht, ha, hl, hm, h1, h2, hc => by
    simp only [szs] at hl
    simp only [deps] at h1 h2
    obtain ⟨a1, a2, a3⟩ := drop_cons hr
    obtain ⟨b1, b2, b3⟩ := drop_cons ht
    have g0 : (σ.set d (.lst (m.map encK)) ++ [Cell.lst (encs acc)])[d]? = some (.lst (m.map encK)) := get_app _ (by simp [hd])
    have e := hc x List.mem_cons_self y List.mem_cons_self m _ hm g0 (by omega)
    have s0 : (σ.set d (.lst (m.map encK)) ++ [Cell.lst (encs acc)]).set d (.lst ((cm x y m).2.map encK)) = σ.set d (.lst ((cm x y m).2.map encK)) ++ [.lst (encs acc)] := by
      rw [List.set_append_left _ _ (by simpa using hd), List.set_set]
    rw [s0] at e
    have g1 : (σ.set d (.lst (m.map encK)) ++ [Cell.lst (encs acc)])[σ.length]? = some (.lst (encs acc)) := by rw [List.getElem?_append_right (by simp)]; simp
    have g2 : (σ.set d (.lst ((cm x y m).2.map encK)) ++ [Cell.lst (encs acc)])[σ.length]? = some (.lst (encs acc)) := by rw [List.getElem?_append_right (by simp)]; simp
    have s1 : (σ.set d (.lst ((cm x y m).2.map encK)) ++ [Cell.lst (encs acc)]).set σ.length (.lst (encs acc ++ [enc (cm x y m).1])) = σ.set d (.lst ((cm x y m).2.map encK)) ++ [.lst (encs (acc ++ [(cm x y m).1]))] := by
      rw [List.set_append_right _ _ (by simp)]; simp [encs_map]
    have ln := cm_len x y m
    obtain ⟨o', ih⟩ := lcm_loop (cl := cl) (w := w) hd hpq hp4 (i + 1) r t (acc ++ [(cm x y m).1]) (cm x y m).2 (some (.g (.int i))) a2 b2 (by simp [ha]) (by omega) (cm_low x y m (nr_low x y (by omega) (by omega)) hm) (by omega) (by omega) fun x' hx y' hy => hc x' (List.mem_cons_of_mem _ hx) y' (List.mem_cons_of_mem _ hy)
    refine ⟨o', ?_⟩
    rw [rangeL_cons (by omega), forL_cons _ _ _ _ _ rfl]
    have hii : ((i + 1 : Nat) : Int) = (i : Int) + 1 := by omega
    rw [hii] at ih
    have x1 := at_encs a1
    have y1 := at_encs b1
    have i2 : ∀ (a b c : G), at? [a, b, c] 2 = some c := fun _ _ _ => rfl
    have hal : (encs acc).length < big := by rw [encs_len, ha]; unfold big; omega
    simp only [enc] at ih ⊢
    simp [bindTg, setSlot, i2, x1, y1, recv_append g1, e, p_append g2 hal, s1, cms]
    simpa using ih
theorem run_lcommon (h1 : look P "_law_common" = some fn__law_common) : ∀ (n : Nat) (f g : F) (m : Pr) (d : Nat) (σ : Store), dep f ≤ n → dep f ≤ 40 → dep g ≤ 40 → sz f ≤ 30000 → (∀ w ps, f = .tie w ps → ps.length < 1000) → slim f → LoP 40 m → m.length + sz f < big → σ[d]? = some (.lst (m.map encK)) →
    run P W n "_law_common" [.g (enc f), .g (enc g), .ref d] σ = .ok (.g (enc (cm f g m).1)) (σ.set d (.lst ((cm f g m).2.map encK)))
  | 0, f, _, _, _, _, h, _, _, _, _, _, _, _, _ => by have := dep_pos f; omega
  | n + 1, f, g, m, d, σ, h, hf, hg, hz, hp, hs, hm, hl, hd => by
    have hdl : d < σ.length := lt_of_get hd
    have ih := run_lcommon h1 n
    rw [run_call h1 _ _ _ rfl]
    generalize run P W n = cl at ih
    have hsz := sz_pos f
    have hke : G.tup [enc f, enc g] = encK (f, g) := rfl
    have sh := shal_encK hm
    have j0 : ∀ (a b c : G), at? [a, b, c] 0 = some a := fun _ _ _ => rfl
    have j1 : ∀ (a b c : G), at? [a, b, c] 1 = some b := fun _ _ _ => rfl
    have j2 : ∀ (a b c : G), at? [a, b, c] 2 = some c := fun _ _ _ => rfl
    have k0 : ∀ (a b : G), at? [a, b] 0 = some a := fun _ _ => rfl
    -- the gap's turn
    have hgap : kin f g = false → ∀ (B : Blk), kB cl W B (evS cl W (.ite (.op .notin (.cons (.op .tup (.cons (.var 0) (.cons (.var 1) .nil))) (.cons (.var 2) .nil))) (.cons (.expr (.meth .append (.var 2) (.cons (.op .tup (.cons (.var 0) (.cons (.var 1) .nil))) .nil))) .nil) .nil) [some (.g (enc f)), some (.g (enc g)), some (.ref d), none, none] σ)
        = evB cl W B [some (.g (enc f)), some (.g (enc g)), some (.ref d), none, none] (σ.set d (.lst ((cm f g m).2.map encK))) := fun hk B => by
      rw [cm_gap hk]
      have pn : prim .notin [.g (encK (f, g)), .ref d] σ = .ok (.g (.bl (!(pidx m (f, g)).isSome))) σ := by rw [p_notin hd sh, any_pidx]
      have hlen : (m.map encK).length < big := by simp; omega
      cases hv : pidx m (f, g) with
      | some i =>
        rw [hv] at pn
        simp [p_tup, mkTup, allG, hke, pn, gapP, hv, set_same hd]
      | none =>
        rw [hv] at pn
        simp [p_tup, mkTup, allG, hke, pn, gapP, hv, recv_append hd, p_append hd hlen]
    have hret : kin f g = false → ev cl false (.meth .index (.var 2) (.cons (.op .tup (.cons (.var 0) (.cons (.var 1) .nil))) .nil)) [some (.g (enc f)), some (.g (enc g)), some (.ref d), none, none] (σ.set d (.lst ((cm f g m).2.map encK))) = .ok (.g (.int (match pidx m (f, g) with | some i => (i : Int) | none => (m.length : Int)))) (σ.set d (.lst ((cm f g m).2.map encK))) := fun hk => by
      have g1 : (σ.set d (.lst ((cm f g m).2.map encK)))[d]? = some (.lst ((cm f g m).2.map encK)) := get_set hd
      have sh2 : ((cm f g m).2.map encK).all shal = true := shal_encK (cm_low f g m (nr_low f g hf hg) hm)
      have fi : ((cm f g m).2.map encK).findIdx? (fun y => peq y (encK (f, g))) = some (match pidx m (f, g) with | some i => i | none => m.length) := by
        rw [find_pidx, cm_gap hk]
        unfold gapP
        cases hv : pidx m (f, g) with
        | some i => simpa using hv
        | none => simpa using pidx_snoc hv
      have pi := p_index g1 sh2 fi
      cases hv : pidx m (f, g) with
      | some i => rw [hv] at pi; simp [recv_index g1, p_tup, mkTup, allG, hke, pi]
      | none => rw [hv] at pi; simp [recv_index g1, p_tup, mkTup, allG, hke, pi]
    have hcm : kin f g = false → enc (cm f g m).1 = .tup [.str sGap, .int (match pidx m (f, g) with | some i => (i : Int) | none => (m.length : Int))] := fun hk => by
      rw [cm_gap hk]
      unfold gapP
      cases hv : pidx m (f, g) <;> simp [enc]
    cases hk : kin f g with
    | false =>
      have hgap := hgap hk
      have hret := hret hk
      have hcm := hcm hk
      have ht : ev cl true (.andT (.op .eq (.cons (.op .idx (.cons (.var 0) (.cons (.con (.int 0)) .nil))) (.cons (.con (.str [116, 105, 101])) .nil))) (.andT (.op .eq (.cons (.op .idx (.cons (.var 1) (.cons (.con (.int 0)) .nil))) (.cons (.con (.str [116, 105, 101])) .nil))) (.andT (.op .eq (.cons (.op .idx (.cons (.var 0) (.cons (.con (.int 1)) .nil))) (.cons (.op .idx (.cons (.var 1) (.cons (.con (.int 1)) .nil))) .nil))) (.op .eq (.cons (.op .len (.cons (.op .idx (.cons (.var 0) (.cons (.con (.int 2)) .nil))) .nil)) (.cons (.op .len (.cons (.op .idx (.cons (.var 1) (.cons (.con (.int 2)) .nil))) .nil)) .nil)))))) [some (.g (enc f)), some (.g (enc g)), some (.ref d), none, none] σ = .ok (.g (.bl false)) σ := by
        have l : ∀ (xs : List F) (σ : Store), prim .len [.g (.tup (encs xs))] σ = .ok (.g (.int xs.length)) σ := fun xs σ => by rw [p_len (n := xs.length)]; simp [lenOf, encs_len]
        cases f with
        | gap a => simp [enc, k0, peq]
        | tie w ps =>
          cases g with
          | gap b => simp [enc, k0, j0, peq]
          | tie v qs =>
            by_cases hw : w = v
            · subst hw
              have hne : ¬ ps.length = qs.length := by simpa [kin] using hk
              have hb : ((ps.length : Int) == (qs.length : Int)) = false := beq_eq_false_iff_ne.mpr (by omega)
              simp [enc, j0, j1, j2, peq, l, hb]
            · have hb : (w == v) = false := beq_eq_false_iff_ne.mpr hw
              simp [enc, j0, j1, peq, hb]
      have hb : ∀ (c : Tm) (A : Blk) (B : Blk) (ε : Env), ev cl true c ε σ = .ok (.g (.bl false)) σ → evB cl W (.cons (.ite c A .nil) B) ε σ = evB cl W B ε σ := fun c A B ε h => by
        simp [h]
      rw [hcm]
      show fin σ.length (evB cl W (.cons (.ite _ _ .nil) (.cons _ (.cons _ .nil))) [some (.g (enc f)), some (.g (enc g)), some (.ref d), none, none] σ) = _
      rw [hb _ _ _ _ ht, evB_cons, hgap, evB_cons]
      simp only [evS_ret, ev_op, evs_cons, ev_con, truR, Bool.false_eq_true, if_false, kArg_ok, hret, evs_nil, kCons_ok, kOp_ok]
      simp [p_tup, mkTup, allG, take_set]
    | true =>
      cases f with
      | gap a => simp [kin] at hk
      | tie w ps =>
        cases g with
        | gap b => simp [kin] at hk
        | tie v qs =>
          simp only [kin, Bool.and_eq_true, decide_eq_true_eq] at hk
          obtain ⟨rfl, hk⟩ := hk
          simp only [dep, sz] at h hf hg hl hz
          have l : ∀ (xs : List F) (σ : Store), prim .len [.g (.tup (encs xs))] σ = .ok (.g (.int xs.length)) σ := fun xs σ => by rw [p_len (n := xs.length)]; simp [lenOf, encs_len]
          have hp4 : ps.length < 1000 := hp w ps rfl
          obtain ⟨o', lp⟩ := lcm_loop (W := W) (cl := cl) (w := w) (σ := σ) hdl hk hp4 0 ps qs [] m none rfl rfl rfl (by omega) hm (by omega) (by omega) fun x hx y hy m' τ hm' hτ hlen => by
            have hsl := slims_iff.mp hs.2 x hx
            refine ih x y m' d τ (by have := dep_le hx; omega) (by have := dep_le hx; omega) (by have := dep_le hy; omega) ?_ (fun w' ps' e => ?_) hsl hm' hlen hτ
            · have : sz x ≤ szs ps := szs_mem ps x hx
              omega
            · subst e; have := hsl.1; omega
          have hsd : σ.set d (.lst (m.map encK)) = σ := set_same hd
          rw [hsd] at lp
          have hr : wRange (.g (.int 0)) (.g (.int (ps.length : Int))) (σ ++ [Cell.lst []]) = .ok ⟨rangeL 0 ps.length, none⟩ (σ ++ [Cell.lst []]) := wRange_ok (by simp [small, big]; omega)
          have hp2 : (σ.set d (.lst ((cms ps qs m).2.map encK)) ++ [Cell.lst (encs (cms ps qs m).1)])[σ.length]? = some (.lst (encs (cms ps qs m).1)) := by
            rw [List.getElem?_append_right (by simp)]; simp
          have h0 : ((0 : Nat) : Int) = 0 := rfl
          rw [h0] at lp
          simp only [enc, encs, List.nil_append] at lp
          rw [hk] at hr lp
          simp [fn__law_common, enc, j0, j1, j2, peq, l, hk, p_lst, mkLst_nil, setSlot, hr, lp, p_tupleL hp2, p_tup, mkTup, allG, cm, take_set_app]

-- _law_two: script form way one
noncomputable def fn__law_two : Fn := ⟨"_law_two", 1, 4,
    (.cons (.set 1 (.call "_law_form" (.cons (.op .lst (.cons (.op .mod (.cons (.call "_law_cell_at" (.cons (.var 0) (.cons (.con (.int 0)) .nil))) (.cons (.con (.int 2147483647)) .nil))) (.cons (.con (.int 10)) .nil))) (.cons (.con (.int 4)) (.cons (.con (.int 4)) .nil)))))
    (.cons (.set 2 (.op .mod (.cons (.call "_law_cell_at" (.cons (.var 0) (.cons (.con (.int 1)) .nil))) (.cons (.con (.int 3)) .nil))))
    (.cons (.ite (.op .eq (.cons (.var 2) (.cons (.con (.int 0)) .nil))) (.cons (.ret (.op .tup (.cons (.var 1) (.cons (.call "_law_drawn" (.cons (.call "_law_cell_at" (.cons (.var 0) (.cons (.con (.int 2)) .nil))) (.cons (.con (.int 4)) (.cons (.con (.int 4)) .nil)))) .nil))))
    .nil) .nil)
    (.cons (.ite (.op .eq (.cons (.var 2) (.cons (.con (.int 1)) .nil))) (.cons (.ret (.op .tup (.cons (.var 1) (.cons (.call "_law_looser" (.cons (.var 1) (.cons (.call "_law_cell_at" (.cons (.var 0) (.cons (.con (.int 2)) .nil))) (.cons (.con (.int 50)) .nil)))) .nil))))
    .nil) .nil)
    (.cons (.set 3 (.call "_law_filled" (.cons (.var 1) (.cons (.call "_law_filling" (.cons (.call "_law_cell_at" (.cons (.var 0) (.cons (.con (.int 2)) .nil))) (.cons (.op .lst (.cons (.con (.int 0)) (.cons (.con (.int 1)) (.cons (.con (.int 2)) (.cons (.con (.int 3)) .nil))))) (.cons (.con (.int 3)) (.cons (.con (.int 2)) .nil))))) .nil))))
    (.cons (.ret (.op .tup (.cons (.var 3) (.cons (.call "_law_filled" (.cons (.var 1) (.cons (.call "_law_filling" (.cons (.call "_law_cell_at" (.cons (.var 0) (.cons (.con (.int 3)) .nil))) (.cons (.op .lst (.cons (.con (.int 0)) (.cons (.con (.int 1)) (.cons (.con (.int 2)) (.cons (.con (.int 3)) .nil))))) (.cons (.con (.int 3)) (.cons (.con (.int 2)) .nil))))) .nil))) .nil))))
    .nil))))))⟩
-- law: script one other some due left right k turn found
noncomputable abbrev law7A : Blk := (.cons (.setIdx (.var 5) (.var 7) (.op .idx (.cons (.op .idx (.cons (.var 3) (.cons (.var 7) .nil))) (.cons (.con (.int 0)) .nil))))
    (.cons (.setIdx (.var 6) (.var 7) (.op .idx (.cons (.op .idx (.cons (.var 3) (.cons (.var 7) .nil))) (.cons (.con (.int 1)) .nil))))
    .nil))
noncomputable abbrev law7B : Blk := (.cons (.set 9 (.call "common" (.cons (.var 1) (.cons (.var 2) .nil))))
    (.cons (.ite (.orT (.notT (.op (.isInst .tuple) (.cons (.var 9) .nil))) (.orT (.op .ne (.cons (.op .len (.cons (.var 9) .nil)) (.cons (.con (.int 3)) .nil))) (.orT (.notT (.call "_law_is_form" (.cons (.op .idx (.cons (.var 9) (.cons (.con (.int 0)) .nil))) .nil))) (.op .ne (.cons (.op .idx (.cons (.var 9) (.cons (.con (.int 0)) .nil))) (.cons (.var 4) .nil)))))) (.cons (.ret (.con (.bl false)))
    .nil) .nil)
    (.cons (.ite (.orT (.notT (.call "_law_is_filling" (.cons (.op .idx (.cons (.var 9) (.cons (.con (.int 1)) .nil))) (.cons (.var 5) .nil)))) (.notT (.call "_law_is_filling" (.cons (.op .idx (.cons (.var 9) (.cons (.con (.int 2)) .nil))) (.cons (.var 6) .nil))))) (.cons (.ret (.con (.bl false)))
    .nil) .nil)
    (.cons (.expr (.meth .clear (.op .idx (.cons (.var 9) (.cons (.con (.int 1)) .nil))) .nil))
    (.cons (.expr (.meth .clear (.op .idx (.cons (.var 9) (.cons (.con (.int 2)) .nil))) .nil))
    .nil)))))
noncomputable def fn_law07 : Fn := ⟨"law", 1, 10,
    (.cons (.unpack [1, 2] (.call "_law_two" (.cons (.var 0) .nil)))
    (.cons (.set 3 (.op .lst .nil))
    (.cons (.set 4 (.call "_law_common" (.cons (.var 1) (.cons (.var 2) (.cons (.var 3) .nil)))))
    (.cons (.set 5 (.op .dct0 .nil))
    (.cons (.set 6 (.op .dct0 .nil))
    (.cons (.forS [7] (.range1 (.op .len (.cons (.var 3) .nil))) law7A)
    (.cons (.forS [8] (.range1 (.con (.int 2))) law7B)
    (.cons (.ret (.con (.bl true)))
    .nil))))))))⟩
noncomputable def P07 : List Fn := [fn_is_gap, fn_of_one_kind, fn_shared, fn_common, fn__law_cell_at, fn__law_whole, fn__law_form, fn__law_drawn, fn__law_filled, fn__law_filling, fn__law_is_form, fn__law_is_filling, fn__law_common, fn__law_spots, fn__law_opened, fn__law_looser, fn__law_two, fn_law07]
theorem com_low {f g : F} (hf : dep f ≤ 4) (hg : dep g ≤ 4) (sf : slim f) : Com f g := ⟨by omega, by omega, sz_small sf (by omega), fun hk => nr_kin hk (by omega) (by omega)⟩
theorem com_fill {f : F} {m1 m2 : Fg} (hf : dep f ≤ 4) (sf : slim f) (h1 : Low 2 m1) (h2 : Low 2 m2) (s1 : ∀ p ∈ m1, slim p.2) : Com (fill m1 f) (fill m2 f) := by
  have a := dep_fillL h1 f
  have b := dep_fillL h2 f
  exact ⟨by omega, by omega, sz_small (slim_fill s1 sf) (by omega), fun _ => nr_fill (by omega) (fun p hp => by have := h1 p hp; omega) (fun p hp => by have := h2 p hp; omega) f⟩
theorem run_two (ns : List Int) : ∃ f g, run P07 W 19 "_law_two" [.ref 0] [Cell.rdl (ns.map .int)] = .ok (.g (.tup [enc f, enc g])) [Cell.rdl (ns.map .int)] ∧ Com f g ∧ dep f ≤ 8 ∧ dep g ≤ 8 ∧ slim f := by
  have lo : look P07 "_law_form" = some fn__law_form := rfl
  have ld : look P07 "_law_drawn" = some fn__law_drawn := rfl
  have lc : look P07 "_law_cell_at" = some fn__law_cell_at := rfl
  have ll : look P07 "_law_filled" = some fn__law_filled := rfl
  have li : look P07 "_law_filling" = some fn__law_filling := rfl
  have l1 : look P07 "_law_spots" = some fn__law_spots := rfl
  have l2 : look P07 "_law_opened" = some fn__law_opened := rfl
  have l3 : look P07 "_law_looser" = some fn__law_looser := rfl
  have lT : look P07 "_law_two" = some fn__law_two := rfl
  obtain ⟨f, s', c', ef, df, kf⟩ : ∃ f s' c', run P07 W 18 "_law_form" [.ref 1, .g (.int 4), .g (.int 4)] [Cell.rdl (ns.map .int), spotC (cellAt ns 0 % 2147483647) 10] = .ok (.g (enc f)) [Cell.rdl (ns.map .int), spotC s' c'] ∧ dep f ≤ max 4 1 ∧ okF 4 f :=
    run_form (W := W) lo 18 4 4 1 [Cell.rdl (ns.map .int), spotC (cellAt ns 0 % 2147483647) 10] _ _ (by omega) rfl
  have df' : dep f ≤ 4 := by omega
  have sf := okF_slim kf
  have cA : ∀ (k : Nat) (σ : Store), σ[0]? = some (.rdl (ns.map .int)) → run P07 W 18 "_law_cell_at" [.ref 0, .g (.int k)] σ = .ok (.g (.int (cellAt ns k))) σ := fun k σ h => run_cell_at (W := W) lc (n := 17) (s := 0) (ns := ns) k σ h
  have c0 : ∀ (σ : Store), σ[0]? = some (.rdl (ns.map .int)) → run P07 W 18 "_law_cell_at" [.ref 0, .g (.int 0)] σ = .ok (.g (.int (cellAt ns 0))) σ := cA 0
  have c1 : ∀ (σ : Store), σ[0]? = some (.rdl (ns.map .int)) → run P07 W 18 "_law_cell_at" [.ref 0, .g (.int 1)] σ = .ok (.g (.int (cellAt ns 1))) σ := cA 1
  have c2 : ∀ (σ : Store), σ[0]? = some (.rdl (ns.map .int)) → run P07 W 18 "_law_cell_at" [.ref 0, .g (.int 2)] σ = .ok (.g (.int (cellAt ns 2))) σ := cA 2
  have c3 : ∀ (σ : Store), σ[0]? = some (.rdl (ns.map .int)) → run P07 W 18 "_law_cell_at" [.ref 0, .g (.int 3)] σ = .ok (.g (.int (cellAt ns 3))) σ := cA 3
  obtain ⟨g0, e0, d0, k0⟩ := run_drawn (W := W) lo ld (n := 18) (d := 4) (by omega) (cellAt ns 2) 4 [Cell.rdl (ns.map .int), spotC s' c']
  obtain ⟨g1, L1, e1⟩ := run_looser (W := W) l1 l2 l3 (n := 18) f (cellAt ns 2) 50 [Cell.rdl (ns.map .int), spotC s' c'] (by omega) (by omega) (by omega) sf
  obtain ⟨m1, em1, ok1⟩ := run_filling (W := W) lo ld li (n := 18) (d := 2) (by omega) (cellAt ns 2) 3 2 [0, 1, 2, 3] (by simp) [Cell.rdl (ns.map .int), spotC s' c', .lst [.int 0, .int 1, .int 2, .int 3]] rfl
  obtain ⟨m2, em2, ok2⟩ := run_filling (W := W) lo ld li (n := 18) (d := 2) (by omega) (cellAt ns 3) 3 4 [0, 1, 2, 3] (by simp) [Cell.rdl (ns.map .int), spotC s' c', .lst [.int 0, .int 1, .int 2, .int 3], .dct (encD m1), .lst [.int 0, .int 1, .int 2, .int 3]] rfl
  have e3 := run_lfilled (W := W) ll 18 f m1 3 [Cell.rdl (ns.map .int), spotC s' c', .lst [.int 0, .int 1, .int 2, .int 3], .dct (encD m1)] (by omega) rfl
  have e4 := run_lfilled (W := W) ll 18 f m2 5 [Cell.rdl (ns.map .int), spotC s' c', .lst [.int 0, .int 1, .int 2, .int 3], .dct (encD m1), .lst [.int 0, .int 1, .int 2, .int 3], .dct (encD m2)] (by omega) rfl
  have w1 : Low 2 m1 := ok1.low
  have w2 : Low 2 m2 := ok2.low
  rw [run_call lT 18 _ _ rfl]
  generalize run P07 W 18 = cl at *
  have hm : ∀ σ, prim .mod [.g (.int (cellAt ns 1)), .g (.int 3)] σ = .ok (.g (.int (cellAt ns 1 % 3))) σ := fun σ => p_mod (by omega)
  have hm0 : ∀ σ, prim .mod [.g (.int (cellAt ns 0)), .g (.int 2147483647)] σ = .ok (.g (.int (cellAt ns 0 % 2147483647))) σ := fun σ => p_mod (by omega)
  have n4 : ((4 : Nat) : Int) = 4 := rfl
  have n2 : ((2 : Nat) : Int) = 2 := rfl
  rw [n4] at e0
  rw [n2] at em1 em2
  simp only [spotC, List.length_cons, List.length_nil, Nat.zero_add, List.cons_append, List.nil_append] at ef e0 e1 em1 em2 e3 e4
  have a0 := c0 [Cell.rdl (ns.map .int)] rfl
  have a1 := c1 [Cell.rdl (ns.map .int), .lst [.int s', .int c']] rfl
  have a2 := c2 [Cell.rdl (ns.map .int), .lst [.int s', .int c']] rfl
  have a3 := c3 [Cell.rdl (ns.map .int), .lst [.int s', .int c'], .lst [.int 0, .int 1, .int 2, .int 3], .dct (encD m1)] rfl
  by_cases q0 : cellAt ns 1 % 3 = 0
  · refine ⟨f, g0, ?_, com_low df' (by omega) sf, by omega, by omega, sf⟩
    simp [fn__law_two, a0, a1, a2, hm0, p_lst, mkLst, allG, ef, setSlot, hm, q0, peq, e0, p_tup, mkTup]
  · have b0 : (cellAt ns 1 % 3 == 0) = false := beq_eq_false_iff_ne.mpr q0
    by_cases q1 : cellAt ns 1 % 3 = 1
    · refine ⟨f, g1, ?_, com_low df' (by have := L1.dep; omega) sf, by omega, by have := L1.dep; omega, sf⟩
      simp [fn__law_two, a0, a1, a2, hm0, p_lst, mkLst, allG, ef, setSlot, hm, q1, peq, e1, p_tup, mkTup]
    · have b1 : (cellAt ns 1 % 3 == 1) = false := beq_eq_false_iff_ne.mpr q1
      refine ⟨fill m1 f, fill m2 f, ?_, com_fill df' sf w1 w2 ok1.slim, by have := dep_fillL w1 f; omega, by have := dep_fillL w2 f; omega, slim_fill ok1.slim sf⟩
      simp [fn__law_two, a0, a1, a2, a3, hm0, p_lst, mkLst, allG, ef, setSlot, hm, b0, b1, peq, em1, em2, e3, e4, p_tup, mkTup]
theorem left_loop {cl : CallH} {s : Nat} {M : Pr} {τ : Store} {e0 e1 e2 e4 e8 e9 : Option R} (hs : τ[s]? = some (.lst (M.map encK))) (hM : M.length < big) :
    ∀ (l : Pr) (i : Nat) (a b : Fg) (x : Option R), M.drop i = l → (∀ n ∈ keys a, n < (i : Int)) → (∀ n ∈ keys b, n < (i : Int)) → a.length ≤ i → b.length ≤ i →
      ∃ x', forL [7] (evB cl W law7A) none (rangeL (i : Int) (M.length : Int)) [e0, e1, e2, some (.ref s), e4, some (.ref τ.length), some (.ref (τ.length + 1)), x, e8, e9] (τ ++ [.dct (encD a), .dct (encD b)])
        = .ok (.next [e0, e1, e2, some (.ref s), e4, some (.ref τ.length), some (.ref (τ.length + 1)), x', e8, e9]) (τ ++ [.dct (encD (a ++ lf i l)), .dct (encD (b ++ rt i l))])
  | [], i, a, b, x, hr, ha, hb, la, lb => ⟨x, by rw [rangeL_nil (by have := drop_nil hr; omega), forL_nil _ _ _ rfl]; simp [lf, rt]⟩
  | p :: l, i, a, b, x, hr, ha, hb, la, lb => by
    obtain ⟨q1, q2, q3⟩ := drop_cons hr
    have fa : (i : Int) ∉ keys a := fun h => by have := ha _ h; omega
    have fb : (i : Int) ∉ keys b := fun h => by have := hb _ h; omega
    have ka : ∀ {c : Fg} {f : F}, (∀ n ∈ keys c, n < (i : Int)) → ∀ n ∈ keys (c ++ [((i : Int), f)]), n < ((i + 1 : Nat) : Int) := fun {c f} hc n hn => by
      simp only [keys, List.map_append, List.map_cons, List.map_nil, List.mem_append, List.mem_singleton] at hn
      rcases hn with hn | hn
      · have := hc n hn; omega
      · omega
    obtain ⟨x', ih⟩ := left_loop (cl := cl) (e0 := e0) (e1 := e1) (e2 := e2) (e4 := e4) (e8 := e8) (e9 := e9) hs hM l (i + 1) (a ++ [((i : Int), p.1)]) (b ++ [((i : Int), p.2)]) (some (.g (.int i))) q2 (ka ha) (ka hb) (by simp; omega) (by simp; omega)
    refine ⟨x', ?_⟩
    have p0 : ∀ g : Store, (τ ++ g)[s]? = some (.lst (M.map encK)) := fun g => get_app g hs
    have p1 : (τ ++ [Cell.dct (encD a), .dct (encD b)])[τ.length]? = some (.dct (encD a)) := by simp
    have p2 : (τ ++ [Cell.dct (encD (a ++ [((i : Int), p.1)])), .dct (encD b)])[τ.length + 1]? = some (.dct (encD b)) := by simp
    have s1 : (τ ++ [Cell.dct (encD a), .dct (encD b)]).set τ.length (.dct (encD (a ++ [((i : Int), p.1)]))) = τ ++ [.dct (encD (a ++ [((i : Int), p.1)])), .dct (encD b)] := by simp
    have s2 : (τ ++ [Cell.dct (encD (a ++ [((i : Int), p.1)])), .dct (encD b)]).set (τ.length + 1) (.dct (encD (b ++ [((i : Int), p.2)]))) = τ ++ [.dct (encD (a ++ [((i : Int), p.1)])), .dct (encD (b ++ [((i : Int), p.2)]))] := by
      rw [List.set_append_right _ _ (by omega)]; simp
    have l1 : (encD a).length < big := by simp [encD]; omega
    have l2 : (encD b).length < big := by simp [encD]; omega
    have hat : at? (M.map encK) (i : Int) = some (encK p) := at_nat (by rw [List.getElem?_map, q1]; rfl)
    have j0 : at? [enc p.1, enc p.2] 0 = some (enc p.1) := rfl
    have j1 : at? [enc p.1, enc p.2] 1 = some (enc p.2) := rfl
    rw [rangeL_cons (by omega), forL_cons _ _ _ _ _ rfl]
    have hii : ((i + 1 : Nat) : Int) = (i : Int) + 1 := by omega
    rw [hii] at ih
    have i1 := p_idxL (p0 [Cell.dct (encD a), .dct (encD b)]) (i : Int)
    have i2 := p_idxL (p0 [Cell.dct (encD (a ++ [((i : Int), p.1)])), .dct (encD b)]) (i : Int)
    rw [hat] at i1 i2
    simp only [ofO, encK] at i1 i2
    simp [bindTg, setSlot, i1, j0, kPut3_dct p1 (isKey_int _) l1, dput_encD, dset_fresh fa, s1, i2, j1, kPut3_dct p2 (isKey_int _) l2, dset_fresh fb, s2]
    simpa [lf, rt] using ih
theorem law07 (ns : List Int) : ∃ σ', run P07 W 20 "law" [.ref 0] [.rdl (ns.map .int)] = .ok (.g (.bl true)) σ' := by
  have lL : look P07 "law" = some fn_law07 := rfl
  have h1 : look P07 "is_gap" = some fn_is_gap := rfl
  have h2 : look P07 "of_one_kind" = some fn_of_one_kind := rfl
  have h3 : look P07 "shared" = some fn_shared := rfl
  have h4 : look P07 "common" = some fn_common := rfl
  have h5 : look P07 "_law_common" = some fn__law_common := rfl
  have lw : look P07 "_law_whole" = some fn__law_whole := rfl
  have ls : look P07 "_law_is_form" = some fn__law_is_form := rfl
  have lt : look P07 "_law_is_filling" = some fn__law_is_filling := rfl
  obtain ⟨f, g, e0, hc, df, dg, sf⟩ := run_two (W := W) ns
  have hz := sz_small sf (by omega)
  have e1 := run_lcommon (W := W) h5 19 f g [] 1 [Cell.rdl (ns.map .int), .lst []] (by omega) (by omega) (by omega) hz (fun w ps e => by subst e; have := sf.1; omega) sf (fun _ h => by simp at h) (by simp [big]; omega) rfl
  have e2 := fun σ => run_common (W := W) h1 h2 h3 h4 (n := 19) (f := f) (g := g) (by omega) hc σ
  have lo : LoP 8 (cm f g []).2 := cm_low f g [] (nr_low f g df dg) (fun _ h => by simp at h)
  have hl : (cm f g []).2.length ≤ 30000 := Nat.le_trans cm_top_len hz
  have dC : dep (cm f g []).1 ≤ 8 := Nat.le_trans (cm_dep f g []) df
  have e3 := fun σ => run_is_form (W := W) lw ls 19 (cm f g []).1 σ (by omega)
  have e4 := fun (a b : Nat) (τ : Store) (ha : τ[a]? = some (.dct (encD (lf 0 (cm f g []).2)))) (hb : τ[b]? = some (.dct (encD (lf 0 (cm f g []).2)))) => run_is_filling (W := W) lw ls lt (n := 19) (d := 8) (by omega) (by omega) ha hb (lf_low lo) (lf_nd _ _) (dictEq_self (lf_nd _ _))
  have e5 := fun (a b : Nat) (τ : Store) (ha : τ[a]? = some (.dct (encD (rt 0 (cm f g []).2)))) (hb : τ[b]? = some (.dct (encD (rt 0 (cm f g []).2)))) => run_is_filling (W := W) lw ls lt (n := 19) (d := 8) (by omega) (by omega) ha hb (rt_low lo) (rt_nd _ _) (dictEq_self (rt_nd _ _))
  rw [run_call lL 19 _ _ rfl]
  generalize run P07 W 19 = cl at *
  have pne : ∀ σ, prim .ne [.g (enc (cm f g []).1), .g (enc (cm f g []).1)] σ = .ok (.g (.bl false)) σ := fun σ => by rw [p_ne _ (shal_enc (by omega)), peq_self]; rfl
  generalize hC : (cm f g []).1 = C at *
  generalize hM : (cm f g []).2 = M at *
  obtain ⟨x', lp⟩ := left_loop (W := W) (cl := cl) (s := 1) (M := M) (τ := [Cell.rdl (ns.map .int), .lst (M.map encK)]) (e0 := some (.ref 0)) (e1 := some (.g (enc f))) (e2 := some (.g (enc g))) (e4 := some (.g (enc C))) (e8 := none) (e9 := none) rfl (by unfold big; omega) M 0 [] [] none rfl (by simp [keys]) (by simp [keys]) (by simp) (by simp)
  have z0 : ((0 : Nat) : Int) = 0 := rfl
  rw [z0] at lp
  simp only [List.cons_append, List.nil_append, List.length_cons, List.length_nil, Nat.zero_add] at lp
  simp only [encD, List.map_nil] at lp
  have hset : ([Cell.rdl (ns.map .int), .lst []] : Store).set 1 (.lst (M.map encK)) = [Cell.rdl (ns.map .int), .lst (M.map encK)] := rfl
  rw [hset] at e1
  have plen : prim .len [.ref 1] [Cell.rdl (ns.map .int), .lst (M.map encK), .dct [], .dct []] = .ok (.g (.int (M.length : Int))) [Cell.rdl (ns.map .int), .lst (M.map encK), .dct [], .dct []] := by rw [p_len (n := M.length)]; simp [lenOf]
  have hr : wRange (.g (.int 0)) (.g (.int (M.length : Int))) [Cell.rdl (ns.map .int), .lst (M.map encK), .dct [], .dct []] = .ok ⟨rangeL 0 M.length, none⟩ [Cell.rdl (ns.map .int), .lst (M.map encK), .dct [], .dct []] := wRange_ok (by simp [small, big]; omega)
  generalize hA : lf 0 M = A at *
  generalize hB : rt 0 M = B at *
  generalize hA' : A.map (fun p => (G.int p.1, enc p.2)) = A' at *
  generalize hB' : B.map (fun p => (G.int p.1, enc p.2)) = B' at *
  have qA : encD A = A' := hA'
  have qB : encD B = B' := hB'
  rw [qA] at e4
  rw [qB] at e5
  simp only [qA, qB] at e2
  have hr2 : wRange (.g (.int 0)) (.g (.int 2)) [Cell.rdl (ns.map .int), .lst (M.map encK), .dct A', .dct B'] = .ok ⟨[.g (.int 0), .g (.int 1)], none⟩ [Cell.rdl (ns.map .int), .lst (M.map encK), .dct A', .dct B'] := wRange_ok (by simp [small, big])
  have t1 := e2 [Cell.rdl (ns.map .int), .lst (M.map encK), .dct A', .dct B']
  have t2 := e2 [Cell.rdl (ns.map .int), .lst (M.map encK), .dct A', .dct B', .dct [], .dct []]
  simp only [List.cons_append, List.nil_append, List.length_cons, List.length_nil, Nat.zero_add, Nat.reduceAdd] at t1 t2
  have u1 := e4 4 2 [Cell.rdl (ns.map .int), .lst (M.map encK), .dct A', .dct B', .dct A', .dct B'] rfl rfl
  have u2 := e5 5 3 [Cell.rdl (ns.map .int), .lst (M.map encK), .dct A', .dct B', .dct A', .dct B'] rfl rfl
  have u3 := e4 6 2 [Cell.rdl (ns.map .int), .lst (M.map encK), .dct A', .dct B', .dct [], .dct [], .dct A', .dct B'] rfl rfl
  have u4 := e5 7 3 [Cell.rdl (ns.map .int), .lst (M.map encK), .dct A', .dct B', .dct [], .dct [], .dct A', .dct B'] rfl rfl
  have r1 : recvOk .clear (.ref 4) [Cell.rdl (ns.map .int), .lst (M.map encK), .dct A', .dct B', .dct A', .dct B'] = true := rfl
  have r2 : recvOk .clear (.ref 5) [Cell.rdl (ns.map .int), .lst (M.map encK), .dct A', .dct B', .dct [], .dct B'] = true := rfl
  have r3 : recvOk .clear (.ref 6) [Cell.rdl (ns.map .int), .lst (M.map encK), .dct A', .dct B', .dct [], .dct [], .dct A', .dct B'] = true := rfl
  have r4 : recvOk .clear (.ref 7) [Cell.rdl (ns.map .int), .lst (M.map encK), .dct A', .dct B', .dct [], .dct [], .dct [], .dct B'] = true := rfl
  have v1 : prim .clear [.ref 4] [Cell.rdl (ns.map .int), .lst (M.map encK), .dct A', .dct B', .dct A', .dct B'] = .ok (.g .non) [Cell.rdl (ns.map .int), .lst (M.map encK), .dct A', .dct B', .dct [], .dct B'] := rfl
  have v2 : prim .clear [.ref 5] [Cell.rdl (ns.map .int), .lst (M.map encK), .dct A', .dct B', .dct [], .dct B'] = .ok (.g .non) [Cell.rdl (ns.map .int), .lst (M.map encK), .dct A', .dct B', .dct [], .dct []] := rfl
  have v3 : prim .clear [.ref 6] [Cell.rdl (ns.map .int), .lst (M.map encK), .dct A', .dct B', .dct [], .dct [], .dct A', .dct B'] = .ok (.g .non) [Cell.rdl (ns.map .int), .lst (M.map encK), .dct A', .dct B', .dct [], .dct [], .dct [], .dct B'] := rfl
  have v4 : prim .clear [.ref 7] [Cell.rdl (ns.map .int), .lst (M.map encK), .dct A', .dct B', .dct [], .dct [], .dct [], .dct B'] = .ok (.g .non) [Cell.rdl (ns.map .int), .lst (M.map encK), .dct A', .dct B', .dct [], .dct [], .dct [], .dct []] := rfl
  have i0 : ∀ (a b c : R), at? [a, b, c] 0 = some a := fun _ _ _ => rfl
  have i1 : ∀ (a b c : R), at? [a, b, c] 1 = some b := fun _ _ _ => rfl
  have i2 : ∀ (a b c : R), at? [a, b, c] 2 = some c := fun _ _ _ => rfl
  have pl : ∀ (a b c : R) σ, prim .len [.tr [a, b, c]] σ = .ok (.g (.int 3)) σ := fun _ _ _ _ => rfl
  have pt : ∀ (xs : List R) σ, prim (.isInst .tuple) [.tr xs] σ = .ok (.g (.bl true)) σ := fun _ _ => rfl
  have lp2 : ∃ ε', forL [8] (evB cl W law7B) none [R.g (G.int 0), R.g (G.int 1)] [some (.ref 0), some (.g (enc f)), some (.g (enc g)), some (.ref 1), some (.g (enc C)), some (.ref 2), some (.ref 3), x', none, none] [Cell.rdl (ns.map .int), .lst (M.map encK), .dct A', .dct B'] = .ok (.next ε') [Cell.rdl (ns.map .int), .lst (M.map encK), .dct A', .dct B', .dct [], .dct [], .dct [], .dct []] := by
    refine ⟨[some (.ref 0), some (.g (enc f)), some (.g (enc g)), some (.ref 1), some (.g (enc C)), some (.ref 2), some (.ref 3), x', some (.g (.int 1)), some (.tr [.g (enc C), .ref 6, .ref 7])], ?_⟩
    rw [forL_cons _ _ _ _ _ rfl]
    simp [bindTg, setSlot, t1, pt, pl, peq, i0, i1, i2, e3, pne, u1, u2, r1, v1, r2, v2]
    rw [forL_cons _ _ _ _ _ rfl]
    simp [bindTg, setSlot, t2, pt, pl, peq, i0, i1, i2, e3, pne, u3, u4, r3, v3, r4, v4]
    rw [forL_nil _ _ _ rfl]
  obtain ⟨ε', lp2⟩ := lp2
  refine ⟨[Cell.rdl (ns.map .int)], ?_⟩
  simp [fn_law07, setSlot, setSlots, e0, p_lst, mkLst_nil, e1, plen, hr, lp, hr2, lp2]
end MP


set_option Elab.async false
set_option linter.all false
set_option maxRecDepth 100000
namespace SN
open PySem PySem.Spec PyProof.Rows L2 MP

noncomputable def sOf (x : List Nat) : Str := ⟨x.toArray⟩
theorem sOf_inj {x y : List Nat} (h : sOf x = sOf y) : x = y := by
  unfold sOf at h
  have := congrArg (fun z => z.cps.toList) h
  simpa using this
theorem sOf_len (x : List Nat) : (sOf x).length = x.length := by
  unfold sOf Str.length
  simp

noncomputable def okS (x : List Nat) : Bool := decide (x.length ≤ 16777216) && x.all fun c => decide (c < 1114112)
theorem okS_len {x : List Nat} (h : okS x = true) : x.length ≤ 16777216 := by
  simp only [okS, Bool.and_eq_true, decide_eq_true_eq] at h
  exact h.1
theorem okS_all {x : List Nat} (h : okS x = true) : (x.all fun c => decide (c < 1114112)) = true := by
  simp only [okS, Bool.and_eq_true] at h
  exact h.2
theorem okS_of {x : List Nat} (h1 : x.length ≤ 16777216) (h2 : (x.all fun c => decide (c < 1114112)) = true) : okS x = true := by
  simp only [okS, Bool.and_eq_true, decide_eq_true_eq]
  exact ⟨h1, h2⟩
mutual
noncomputable def RG (H : Hp) : G → V → Prop
  | .non, v => v = .non
  | .bl b, v => v = .bl b
  | .int i, v => v = .int i
  | .str x, v => v = .str (sOf x) ∧ okS x = true
  | .tup xs, v => ∃ a vs, v = .ref a ∧ H a = some (.tup vs) ∧ RGs H xs vs
noncomputable def RGs (H : Hp) : List G → List V → Prop
  | [], vs => vs = []
  | x :: xs, vs => ∃ v r, vs = v :: r ∧ RG H x v ∧ RGs H xs r
end
noncomputable def TPk (H H' : Hp) : Prop := ∀ a vs, H a = some (.tup vs) → H' a = some (.tup vs)
mutual
theorem RG.mono {H H' : Hp} (t : TPk H H') : ∀ (x : G) {v : V}, RG H x v → RG H' x v
  | .non, _, h => h
  | .bl _, _, h => h
  | .int _, _, h => h
  | .str _, _, h => h
  | .tup xs, _, h => by
    obtain ⟨a, vs, e, ha, r⟩ := h
    exact ⟨a, vs, e, t a vs ha, RGs.mono t xs r⟩
theorem RGs.mono {H H' : Hp} (t : TPk H H') : ∀ (xs : List G) {vs : List V}, RGs H xs vs → RGs H' xs vs
  | [], _, h => h
  | x :: xs, _, h => by
    obtain ⟨v, r, e, h1, h2⟩ := h
    exact ⟨v, r, e, RG.mono t x h1, RGs.mono t xs h2⟩
end
theorem RGs.length {H : Hp} : ∀ {xs : List G} {vs : List V}, RGs H xs vs → vs.length = xs.length
  | [], _, h => by cases h; rfl
  | x :: xs, _, h => by
    obtain ⟨v, r, rfl, _, h2⟩ := h
    rw [List.length_cons, List.length_cons, RGs.length h2]
theorem RGs.get {H : Hp} : ∀ {xs : List G} {vs : List V} {i : Nat} {x : G}, RGs H xs vs → xs[i]? = some x → ∃ v, vs[i]? = some v ∧ RG H x v
  | [], _, _, _, _, e => by simp at e
  | y :: xs, _, 0, x, h, e => by
    obtain ⟨v, r, rfl, h1, h2⟩ := h
    simp at e; subst e
    exact ⟨v, rfl, h1⟩
  | y :: xs, _, i + 1, x, h, e => by
    obtain ⟨v, r, rfl, h1, h2⟩ := h
    obtain ⟨u, h3, h4⟩ := RGs.get (i := i) (x := x) h2 (by simpa using e)
    exact ⟨u, by simpa using h3, h4⟩
theorem RGs.append {H : Hp} : ∀ {xs ys : List G} {vs us : List V}, RGs H xs vs → RGs H ys us → RGs H (xs ++ ys) (vs ++ us)
  | [], _, _, _, h, k => by cases h; exact k
  | x :: xs, _, _, _, h, k => by
    obtain ⟨v, r, rfl, h1, h2⟩ := h
    exact ⟨v, r ++ _, rfl, h1, RGs.append h2 k⟩
theorem RGs.drop {H : Hp} : ∀ {xs : List G} {vs : List V} (n : Nat), RGs H xs vs → RGs H (xs.drop n) (vs.drop n)
  | _, _, 0, h => h
  | [], _, n + 1, h => by cases h; rfl
  | x :: xs, _, n + 1, h => by
    obtain ⟨v, r, rfl, h1, h2⟩ := h
    exact RGs.drop n h2
theorem RGs.take {H : Hp} : ∀ {xs : List G} {vs : List V} (n : Nat), RGs H xs vs → RGs H (xs.take n) (vs.take n)
  | _, _, 0, _ => by simp [RGs]
  | [], _, n + 1, h => by cases h; simp [RGs]
  | x :: xs, _, n + 1, h => by
    obtain ⟨v, r, rfl, h1, h2⟩ := h
    exact ⟨v, r.take n, rfl, h1, RGs.take n h2⟩
theorem RGs.set {H : Hp} {y : G} {u : V} (hy : RG H y u) : ∀ {xs : List G} {vs : List V} (n : Nat), RGs H xs vs → RGs H (xs.set n y) (vs.set n u)
  | [], _, _, h => by cases h; rfl
  | x :: xs, _, 0, h => by
    obtain ⟨v, r, rfl, h1, h2⟩ := h
    exact ⟨u, r, rfl, hy, h2⟩
  | x :: xs, _, n + 1, h => by
    obtain ⟨v, r, rfl, h1, h2⟩ := h
    exact ⟨v, r.set n u, rfl, h1, RGs.set hy n h2⟩

mutual
noncomputable def RR (H : Hp) (ρ : Nat → Addr) (n : Nat) : R → V → Prop
  | .g x, v => RG H x v
  | .ref i, v => i < n ∧ v = .ref (ρ i)
  | .tr xs, v => ∃ a vs, v = .ref a ∧ H a = some (.tup vs) ∧ RRs H ρ n xs vs
noncomputable def RRs (H : Hp) (ρ : Nat → Addr) (n : Nat) : List R → List V → Prop
  | [], vs => vs = []
  | x :: xs, vs => ∃ v r, vs = v :: r ∧ RR H ρ n x v ∧ RRs H ρ n xs r
end
mutual
theorem RR.mono {H H' : Hp} {ρ ρ' : Nat → Addr} {n n' : Nat} (t : TPk H H') (hn : n ≤ n') (ag : ∀ i, i < n → ρ' i = ρ i) : ∀ (x : R) {v : V}, RR H ρ n x v → RR H' ρ' n' x v
  | .g x, _, h => RG.mono t x h
  | .ref i, _, h => ⟨Nat.lt_of_lt_of_le h.1 hn, by rw [ag i h.1]; exact h.2⟩
  | .tr xs, _, h => by
    obtain ⟨a, vs, e, ha, r⟩ := h
    exact ⟨a, vs, e, t a vs ha, RRs.mono t hn ag xs r⟩
theorem RRs.mono {H H' : Hp} {ρ ρ' : Nat → Addr} {n n' : Nat} (t : TPk H H') (hn : n ≤ n') (ag : ∀ i, i < n → ρ' i = ρ i) : ∀ (xs : List R) {vs : List V}, RRs H ρ n xs vs → RRs H' ρ' n' xs vs
  | [], _, h => h
  | x :: xs, _, h => by
    obtain ⟨v, r, e, h1, h2⟩ := h
    exact ⟨v, r, e, RR.mono t hn ag x h1, RRs.mono t hn ag xs h2⟩
end
theorem RRs.length {H : Hp} {ρ : Nat → Addr} {n : Nat} : ∀ {xs : List R} {vs : List V}, RRs H ρ n xs vs → vs.length = xs.length
  | [], _, h => by cases h; rfl
  | x :: xs, _, h => by
    obtain ⟨v, r, rfl, _, h2⟩ := h
    rw [List.length_cons, List.length_cons, RRs.length h2]
theorem RRs.get {H : Hp} {ρ : Nat → Addr} {n : Nat} : ∀ {xs : List R} {vs : List V} {i : Nat} {x : R}, RRs H ρ n xs vs → xs[i]? = some x → ∃ v, vs[i]? = some v ∧ RR H ρ n x v
  | [], _, _, _, _, e => by simp at e
  | y :: xs, _, 0, x, h, e => by
    obtain ⟨v, r, rfl, h1, h2⟩ := h
    simp at e; subst e
    exact ⟨v, rfl, h1⟩
  | y :: xs, _, i + 1, x, h, e => by
    obtain ⟨v, r, rfl, h1, h2⟩ := h
    obtain ⟨u, h3, h4⟩ := RRs.get (i := i) (x := x) h2 (by simpa using e)
    exact ⟨u, by simpa using h3, h4⟩
theorem RRs.ofG {H : Hp} {ρ : Nat → Addr} {n : Nat} : ∀ {xs : List R} {gs : List G} {vs : List V}, allG xs = some gs → RRs H ρ n xs vs → RGs H gs vs
  | [], _, _, e, h => by simp [allG] at e; subst e; exact h
  | .g x :: r, gs, _, e, h => by
    obtain ⟨v, us, rfl, h1, h2⟩ := h
    simp only [allG, Option.map_eq_some_iff] at e
    obtain ⟨t, e1, rfl⟩ := e
    exact ⟨v, us, rfl, h1, RRs.ofG e1 h2⟩
  | .ref _ :: _, _, _, e, _ => by simp [allG] at e
  | .tr _ :: _, _, _, e, _ => by simp [allG] at e
theorem RRs.toG {H : Hp} {ρ : Nat → Addr} {n : Nat} : ∀ {gs : List G} {vs : List V}, RGs H gs vs → RRs H ρ n (gs.map .g) vs
  | [], _, h => h
  | x :: xs, _, h => by
    obtain ⟨v, r, e, h1, h2⟩ := h
    exact ⟨v, r, e, h1, RRs.toG h2⟩

noncomputable def keyOf : G → Option Key
  | .int i => some (.inl i)
  | .str x => some (.inr (sOf x))
  | _ => none
noncomputable def RKs (H : Hp) : List (G × G) → List (Key × V) → Prop
  | [], ws => ws = []
  | p :: kvs, ws => ∃ k v r, ws = (k, v) :: r ∧ keyOf p.1 = some k ∧ RG H p.2 v ∧ RKs H kvs r
theorem RKs.mono {H H' : Hp} (t : TPk H H') : ∀ (kvs : List (G × G)) {ws : List (Key × V)}, RKs H kvs ws → RKs H' kvs ws
  | [], _, h => h
  | p :: kvs, _, h => by
    obtain ⟨k, v, r, e, h1, h2, h3⟩ := h
    exact ⟨k, v, r, e, h1, RG.mono t _ h2, RKs.mono t kvs h3⟩
theorem RKs.length {H : Hp} : ∀ {kvs : List (G × G)} {ws : List (Key × V)}, RKs H kvs ws → ws.length = kvs.length
  | [], _, h => by cases h; rfl
  | p :: kvs, _, h => by
    obtain ⟨k, v, r, rfl, _, _, h3⟩ := h
    rw [List.length_cons, List.length_cons, RKs.length h3]

mutual
noncomputable def nkH (w : World) : G → Int
  | .int i => hashInt i
  | .str x => hashStr w (sOf x)
  | .tup xs => reduceHash (Builtin.Tuple.tupleHashOf (nkHs w xs))
  | _ => 0
noncomputable def nkHs (w : World) : List G → List Int
  | [] => []
  | x :: r => nkH w x :: nkHs w r
end
noncomputable def nent (w : World) (x : G × Addr × Value) : DictEntry := ⟨nkH w x.1, .ref x.2.1, x.2.2⟩
noncomputable def RawO (w : World) (o : Obj) (xs : List (G × Addr × Value)) : Prop := o.ExactDict ∧ ∃ es ep, o.data = .dict es ep ∧ es.toList = xs.map (nent w)
class Wd where
  w : World
variable [Wd]
noncomputable def dG (a : Addr) (o : Obj) : HO := .ext fun h => h.get? a = some o
noncomputable def RN (H : Hp) : List (G × G) → List (G × Addr × Value) → Prop
  | [], xs => xs = []
  | p :: kvs, xs => ∃ a v u r, xs = (p.1, a, u) :: r ∧ RG H p.1 (.ref a) ∧ RG H p.2 v ∧ RelV v u ∧ RN H kvs r
theorem RN.mono {H H' : Hp} (t : TPk H H') : ∀ (kvs : List (G × G)) {xs : List (G × Addr × Value)}, RN H kvs xs → RN H' kvs xs
  | [], _, h => h
  | p :: kvs, _, h => by
    obtain ⟨a, v, u, r, e, h1, h2, h3, h4⟩ := h
    exact ⟨a, v, u, r, e, RG.mono t _ h1, RG.mono t _ h2, h3, RN.mono t kvs h4⟩
noncomputable def DT (a : Addr) (kvs : List (G × G)) (o : Obj) (xs : List (G × Addr × Value)) : Prop := RawO Wd.w o xs ∧ (a == sysModules) = false ∧ (xs.map (·.1)).Nodup ∧ (kvs.all fun p => tkey p.1) = true ∧ kvs.length ≤ 100000
noncomputable def RC (H : Hp) (ρ : Nat → Addr) (i : Nat) : Cell → Prop
  | .lst xs => ∃ vs, H (ρ i) = some (.lst vs) ∧ RGs H xs vs
  | .rdl xs => ∃ vs, Rd H (ρ i) (.lst vs) ∧ RGs H xs vs
  | .dct kvs => ∃ ws, H (ρ i) = some (.dK ws) ∧ RKs H kvs ws ∧ (ws.map (·.1)).Nodup
  | .rls xs => ∃ vs, H (ρ i) = some (.lst vs) ∧ RRs H ρ i xs vs
  | .rdd kvs => ∃ ws o, H (ρ i) = some (.frz o (.dK ws)) ∧ RKs H kvs ws ∧ (ws.map (·.1)).Nodup
  | .dtg kvs => ∃ o xs, H (ρ i) = some (dG (ρ i) o) ∧ RN H kvs xs ∧ DT (ρ i) kvs o xs
  | .rdt kvs => ∃ o xs, H (ρ i) = some (.frz o (dG (ρ i) o)) ∧ RN H kvs xs ∧ DT (ρ i) kvs o xs
structure SR (H : Hp) (ρ : Nat → Addr) (σ : Store) : Prop where
  cell : ∀ i c, σ[i]? = some c → RC H ρ i c
  inj : ∀ i j, i < σ.length → j < σ.length → ρ i = ρ j → i = j
theorem RC.at {H : Hp} {ρ : Nat → Addr} {i : Nat} {c : Cell} (h : RC H ρ i c) : ∃ o, H (ρ i) = some o ∧ ∀ vs, o ≠ .tup vs := by
  cases c with
  | lst xs => obtain ⟨vs, e, _⟩ := h; exact ⟨_, e, fun _ z => by cases z⟩
  | rdl xs =>
    obtain ⟨vs, e, _⟩ := h
    rcases e with e | ⟨o, e⟩
    · exact ⟨_, e, fun _ z => by cases z⟩
    · exact ⟨_, e, fun _ z => by cases z⟩
  | dct kvs => obtain ⟨vs, e, _⟩ := h; exact ⟨_, e, fun _ z => by cases z⟩
  | rls xs => obtain ⟨vs, e, _⟩ := h; exact ⟨_, e, fun _ z => by cases z⟩
  | rdd xs => obtain ⟨vs, o, e, _⟩ := h; exact ⟨_, e, fun _ z => by cases z⟩
  | dtg xs => obtain ⟨o, xs, e, _⟩ := h; exact ⟨_, e, fun _ z => by cases z⟩
  | rdt xs => obtain ⟨o, xs, e, _⟩ := h; exact ⟨_, e, fun _ z => by cases z⟩
theorem SR.at {H : Hp} {ρ : Nat → Addr} {σ : Store} (S : SR H ρ σ) {i : Nat} (hi : i < σ.length) : ∃ o, H (ρ i) = some o ∧ ∀ vs, o ≠ .tup vs :=
  (S.cell i σ[i] (by simp [hi])).at
theorem SR.lt {σ : Store} {i : Nat} {c : Cell} (e : σ[i]? = some c) : i < σ.length := by
  have := List.getElem?_eq_some_iff.mp e
  exact this.1

structure Ext (ρ : Nat → Addr) (n : Nat) (H : Hp) (ρ' : Nat → Addr) (n' : Nat) (H' : Hp) : Prop where
  le : n ≤ n'
  ag : ∀ i, i < n → ρ' i = ρ i
  fr : ∀ i, n ≤ i → i < n' → H (ρ' i) = none
  kp : ∀ a o, H a = some o → (∀ i, i < n → ρ i ≠ a) → H' a = some o
  fz : ∀ a o u, H a = some (.frz o u) → H' a = some (.frz o u)
theorem Ext.refl (ρ : Nat → Addr) (n : Nat) (H : Hp) : Ext ρ n H ρ n H := ⟨Nat.le_refl _, fun _ _ => rfl, fun i h1 h2 => absurd h2 (Nat.not_lt.mpr h1), fun _ _ e _ => e, fun _ _ _ e => e⟩
theorem Ext.trans {ρ ρ1 ρ2 : Nat → Addr} {n n2 : Nat} {σ1 : Store} {H H1 H2 : Hp} (a : Ext ρ n H ρ1 σ1.length H1) (S : SR H1 ρ1 σ1) (b : Ext ρ1 σ1.length H1 ρ2 n2 H2) : Ext ρ n H ρ2 n2 H2 where
  le := Nat.le_trans a.le b.le
  ag := fun i h => by rw [b.ag i (Nat.lt_of_lt_of_le h a.le), a.ag i h]
  fr := fun i h1 h2 => by
    by_cases h : i < σ1.length
    · rw [b.ag i h]; exact a.fr i h1 h
    · have q := b.fr i (Nat.not_lt.mp h) h2
      cases e : H (ρ2 i) with
      | none => rfl
      | some o =>
        exfalso
        by_cases z : ∃ j, j < n ∧ ρ j = ρ2 i
        · obtain ⟨j, hj, ej⟩ := z
          obtain ⟨o', e', _⟩ := S.at (Nat.lt_of_lt_of_le hj a.le)
          rw [a.ag j hj, ej, q] at e'
          cases e'
        · have := a.kp (ρ2 i) o e fun j hj ej => z ⟨j, hj, ej⟩
          rw [q] at this
          cases this
  kp := fun x o e h => by
    refine b.kp x o (a.kp x o e h) fun i hi ei => ?_
    by_cases hn : i < n
    · exact h i hn (by rw [← a.ag i hn]; exact ei)
    · have q := a.fr i (Nat.not_lt.mp hn) hi
      rw [ei, e] at q
      cases q
  fz := fun x o u e => b.fz x o u (a.fz x o u e)
theorem Ext.tp {ρ ρ' : Nat → Addr} {n' : Nat} {σ : Store} {H H' : Hp} (e : Ext ρ σ.length H ρ' n' H') (S : SR H ρ σ) : TPk H H' := fun a vs h =>
  e.kp a _ h fun i hi ei => by
    obtain ⟨o, e', ne⟩ := S.at hi
    rw [ei, h] at e'
    cases e'
    exact ne vs rfl

structure RE (H : Hp) (ρ : Nat → Addr) (n : Nat) (ε : MP.Env) (st : L2.St) : Prop where
  len : ε.length = st.length
  val : ∀ (i : Nat) (r : R), ε[i]? = some (some r) → ∃ v, st[i]? = some (some v) ∧ RR H ρ n r v
theorem RE.mono {H H' : Hp} {ρ ρ' : Nat → Addr} {n' : Nat} {σ : Store} {ε : MP.Env} {st : L2.St} (h : RE H ρ σ.length ε st) (S : SR H ρ σ) (e : Ext ρ σ.length H ρ' n' H') : RE H' ρ' n' ε st :=
  ⟨h.len, fun i r q => by
    obtain ⟨v, h1, h2⟩ := h.val i r q
    exact ⟨v, h1, RR.mono (e.tp S) e.le e.ag r h2⟩⟩
theorem RE.set {H : Hp} {ρ : Nat → Addr} {n : Nat} {ε : MP.Env} {st : L2.St} {i : Nat} {r : R} {v : V} (h : RE H ρ n ε st) (q : RR H ρ n r v) : RE H ρ n (ε.set i (some r)) (st.set i (some v)) := by
  refine ⟨by rw [List.length_set, List.length_set, h.len], fun j s e => ?_⟩
  rw [List.getElem?_set] at e ⊢
  by_cases hij : i = j
  · subst hij
    rw [if_pos rfl] at e ⊢
    by_cases hl : i < ε.length
    · rw [if_pos hl] at e
      rw [if_pos (by rw [← h.len]; exact hl)]
      cases e
      exact ⟨v, rfl, q⟩
    · rw [if_neg hl] at e
      cases e
  · rw [if_neg hij] at e ⊢
    exact h.val j s e

noncomputable def Fin (ρ : Nat → Addr) (n : Nat) (H : Hp) (r : R) (σ' : Store) (Q : VK) : Prop :=
  ∀ ρ' v H', Ext ρ n H ρ' σ'.length H' → SR H' ρ' σ' → RR H' ρ' σ'.length r v → Q v H'
noncomputable def TEv (f : MP.Env → Store → Res R) : TE := fun st H Q => ∃ ρ ε σ r σ', RE H ρ σ.length ε st ∧ SR H ρ σ ∧ f ε σ = .ok r σ' ∧ Fin ρ σ.length H r σ' Q
noncomputable def TTv (f : MP.Env → Store → Res R) : TT := fun st H Q => ∃ ρ ε σ b σ', RE H ρ σ.length ε st ∧ SR H ρ σ ∧ f ε σ = .ok (.g (.bl b)) σ' ∧
  ∀ ρ' H', Ext ρ σ.length H ρ' σ'.length H' → SR H' ρ' σ' → Q b H'
noncomputable def TAv (f : MP.Env → Store → Res (List R)) : TA := fun st H Q => ∃ ρ ε σ rs σ', RE H ρ σ.length ε st ∧ SR H ρ σ ∧ f ε σ = .ok rs σ' ∧
  ∀ ρ' vs H', Ext ρ σ.length H ρ' σ'.length H' → SR H' ρ' σ' → RRs H' ρ' σ'.length rs vs → Q vs H'

theorem PE.imp {X : Cx} {e : Expr} {t t' : TE} (h : PE X e t) (w : ∀ σ H Q, t' σ H Q → t σ H Q) : PE X e t' := fun pins s σ H Q I q => h pins s σ H Q I (w σ H Q q)
theorem PT.imp {X : Cx} {e : Expr} {t t' : TT} (h : PT X e t) (w : ∀ σ H Q, t' σ H Q → t σ H Q) : PT X e t' := fun pins s σ H Q I q => h pins s σ H Q I (w σ H Q q)
theorem PA.imp {X : Cx} {e : List Expr} {t t' : TA} (h : PA X e t) (w : ∀ σ H Q, t' σ H Q → t σ H Q) : PA X e t' := fun p pins s σ H Q I q => h p pins s σ H Q I (w σ H Q q)
theorem PS.imp {X : Cx} {e : Stmt} {t t' : TS} (h : PS X e t) (w : ∀ D σ H, t' D σ H → t D σ H) : PS X e t' := fun pins s σ H D I q => h pins s σ H D I (w D σ H q)
theorem PSs.imp {X : Cx} {e : List Stmt} {t t' : TS} (h : PSs X e t) (w : ∀ D σ H, t' D σ H → t D σ H) : PSs X e t' := fun pins s σ H D I q => h pins s σ H D I (w D σ H q)

theorem bind_inv {α β : Type} {x : Res α} {f : α → Store → Res β} {b : β} {σ' : Store} (h : x.bind f = .ok b σ') : ∃ a σ1, x = .ok a σ1 ∧ f a σ1 = .ok b σ' := by
  cases x with
  | ok a σ => exact ⟨a, σ, rfl, h⟩
  | exc c σ => cases h
  | stuck => cases h
theorem ofO_inv {α : Type} {o : Option α} {f : α → Res R} {r : R} {σ : Store} (h : ofO o f = .ok r σ) : ∃ a, o = some a ∧ f a = .ok r σ := by
  cases o with
  | none => cases h
  | some a => exact ⟨a, rfl, h⟩

theorem SR.push {H : Hp} {ρ : Nat → Addr} {σ : Store} (S : SR H ρ σ) {p : Addr} (hp : H p = none) {o : HO} {c : Cell} (ht : ∀ vs, o ≠ .tup vs)
    (hc : ∀ H' ρ', TPk H H' → H' p = some o → ρ' σ.length = p → (∀ i, i < σ.length → ρ' i = ρ i) → RC H' ρ' σ.length c) :
    ∃ ρ', Ext ρ σ.length H ρ' (σ ++ [c]).length (upd H p o) ∧ SR (upd H p o) ρ' (σ ++ [c]) ∧ ρ' σ.length = p := by
  have tp : TPk H (upd H p o) := fun a vs e => by rw [upd_ne (ne_of_none e hp)]; exact e
  refine ⟨fun i => if i = σ.length then p else ρ i, ⟨by simp, fun i hi => by simp [Nat.ne_of_lt hi], fun i h1 h2 => ?_, fun a b e _ => by rw [upd_ne (ne_of_none e hp)]; exact e, fun a _ _ e => by rw [upd_ne (ne_of_none e hp)]; exact e⟩, ⟨fun i d e => ?_, fun i j hi hj e => ?_⟩, by simp⟩
  · have : i = σ.length := by simp at h2; omega
    simp [this, hp]
  · by_cases hi : i < σ.length
    · have e' : σ[i]? = some d := by rw [List.getElem?_append_left hi] at e; exact e
      have q := S.cell i d e'
      have ni : i ≠ σ.length := Nat.ne_of_lt hi
      obtain ⟨o', eo, _⟩ := S.at hi
      have hne : ρ i ≠ p := ne_of_none eo hp
      cases d with
      | lst xs => obtain ⟨vs, h1, h2⟩ := q; exact ⟨vs, by simp only [ni, if_false]; rw [upd_ne hne]; exact h1, RGs.mono tp xs h2⟩
      | rdl xs =>
        obtain ⟨vs, h1, h2⟩ := q
        refine ⟨vs, ?_, RGs.mono tp xs h2⟩
        simp only [ni, if_false]
        rcases h1 with h1 | ⟨ob, h1⟩
        · exact .inl (by rw [upd_ne hne]; exact h1)
        · exact .inr ⟨ob, by rw [upd_ne hne]; exact h1⟩
      | dct xs => obtain ⟨vs, h1, h2⟩ := q; exact ⟨vs, by simp only [ni, if_false]; rw [upd_ne hne]; exact h1, RKs.mono tp xs h2.1, h2.2⟩
      | rdd xs => obtain ⟨vs, ob, h1, h2⟩ := q; exact ⟨vs, ob, by simp only [ni, if_false]; rw [upd_ne hne]; exact h1, RKs.mono tp xs h2.1, h2.2⟩
      | dtg xs => obtain ⟨o, ys, h1, h2, h3⟩ := q; exact ⟨o, ys, by simp only [ni, if_false]; rw [upd_ne hne]; exact h1, RN.mono tp xs h2, by simp only [ni, if_false]; exact h3⟩
      | rdt xs => obtain ⟨o, ys, h1, h2, h3⟩ := q; exact ⟨o, ys, by simp only [ni, if_false]; rw [upd_ne hne]; exact h1, RN.mono tp xs h2, by simp only [ni, if_false]; exact h3⟩
      | rls xs =>
        obtain ⟨vs, h1, h2⟩ := q
        exact ⟨vs, by simp only [ni, if_false]; rw [upd_ne hne]; exact h1, RRs.mono tp (Nat.le_refl _) (fun j hj => by simp [Nat.ne_of_lt (Nat.lt_trans hj hi)]) xs h2⟩
    · have hil := SR.lt e
      have ei : i = σ.length := by simp at hil; omega
      subst ei
      rw [List.getElem?_append_right (Nat.le_refl _)] at e
      simp at e
      subst e
      exact hc _ _ tp upd_same (by simp) fun j hj => by simp [Nat.ne_of_lt hj]
  · simp at hi hj
    by_cases h1 : i = σ.length
    · by_cases h2 : j = σ.length
      · omega
      · obtain ⟨o', eo, _⟩ := S.at (show j < σ.length by omega)
        simp [h1, h2] at e
        rw [← e, hp] at eo
        cases eo
    · by_cases h2 : j = σ.length
      · obtain ⟨o', eo, _⟩ := S.at (show i < σ.length by omega)
        simp [h1, h2] at e
        rw [e, hp] at eo
        cases eo
      · simp [h1, h2] at e
        exact S.inj i j (by omega) (by omega) e

theorem nfz_l {H : Hp} {a : Addr} {vs : List V} (h : H a = some (.lst vs)) : ∀ ob u, H a ≠ some (.frz ob u) := fun _ _ z => by rw [h] at z; cases z
theorem nfz_d {H : Hp} {a : Addr} {vs : List (Key × V)} (h : H a = some (.dK vs)) : ∀ ob u, H a ≠ some (.frz ob u) := fun _ _ z => by rw [h] at z; cases z
theorem SR.write {H : Hp} {ρ : Nat → Addr} {σ : Store} (S : SR H ρ σ) {k : Nat} (hk : k < σ.length) {o : HO} {c : Cell} (hz : ∀ ob u, H (ρ k) ≠ some (.frz ob u))
    (hc : ∀ H', TPk H H' → H' (ρ k) = some o → RC H' ρ k c) :
    Ext ρ σ.length H ρ (σ.set k c).length (upd H (ρ k) o) ∧ SR (upd H (ρ k) o) ρ (σ.set k c) := by
  obtain ⟨ok, ek, nk⟩ := S.at hk
  have tp : TPk H (upd H (ρ k) o) := fun a vs e => by
    rw [upd_ne fun z => ?_]
    · exact e
    · rw [z, ek] at e; cases e; exact nk vs rfl
  refine ⟨⟨by simp, fun _ _ => rfl, fun i h1 h2 => by simp at h2; omega, fun a b e h => ?_, fun a ob u e => by rw [upd_ne fun z => hz ob u (by rw [← z]; exact e)]; exact e⟩, ⟨fun i d e => ?_, fun i j hi hj e => S.inj i j (by simpa using hi) (by simpa using hj) e⟩⟩
  · rw [upd_ne fun z => h k hk z.symm]; exact e
  · by_cases hik : k = i
    · subst hik
      rw [List.getElem?_set_self hk] at e
      cases e
      exact hc _ tp upd_same
    · rw [List.getElem?_set_ne hik] at e
      have hi := SR.lt e
      have hne : ρ i ≠ ρ k := fun z => hik (S.inj i k hi hk z).symm
      have q := S.cell i d e
      cases d with
      | lst xs => obtain ⟨vs, h1, h2⟩ := q; exact ⟨vs, by rw [upd_ne hne]; exact h1, RGs.mono tp xs h2⟩
      | rdl xs =>
        obtain ⟨vs, h1, h2⟩ := q
        refine ⟨vs, ?_, RGs.mono tp xs h2⟩
        rcases h1 with h1 | ⟨ob, h1⟩
        · exact .inl (by rw [upd_ne hne]; exact h1)
        · exact .inr ⟨ob, by rw [upd_ne hne]; exact h1⟩
      | dct xs => obtain ⟨vs, h1, h2⟩ := q; exact ⟨vs, by rw [upd_ne hne]; exact h1, RKs.mono tp xs h2.1, h2.2⟩
      | rdd xs => obtain ⟨vs, ob, h1, h2⟩ := q; exact ⟨vs, ob, by rw [upd_ne hne]; exact h1, RKs.mono tp xs h2.1, h2.2⟩
      | dtg xs => obtain ⟨o, ys, h1, h2, h3⟩ := q; exact ⟨o, ys, by rw [upd_ne hne]; exact h1, RN.mono tp xs h2, h3⟩
      | rdt xs => obtain ⟨o, ys, h1, h2, h3⟩ := q; exact ⟨o, ys, by rw [upd_ne hne]; exact h1, RN.mono tp xs h2, h3⟩
      | rls xs => obtain ⟨vs, h1, h2⟩ := q; exact ⟨vs, by rw [upd_ne hne]; exact h1, RRs.mono tp (Nat.le_refl _) (fun _ _ => rfl) xs h2⟩

theorem SR.tup {H : Hp} {ρ : Nat → Addr} {σ : Store} (S : SR H ρ σ) {p : Addr} (hp : H p = none) (o : HO) : Ext ρ σ.length H ρ σ.length (upd H p o) ∧ SR (upd H p o) ρ σ ∧ TPk H (upd H p o) := by
  have tp : TPk H (upd H p o) := fun a vs e => by rw [upd_ne (ne_of_none e hp)]; exact e
  refine ⟨⟨Nat.le_refl _, fun _ _ => rfl, fun i h1 h2 => absurd h2 (Nat.not_lt.mpr h1), fun a b e _ => by rw [upd_ne (ne_of_none e hp)]; exact e, fun a _ _ e => by rw [upd_ne (ne_of_none e hp)]; exact e⟩, ⟨fun i d e => ?_, S.inj⟩, tp⟩
  obtain ⟨o', eo, _⟩ := S.at (SR.lt e)
  have hne : ρ i ≠ p := ne_of_none eo hp
  have q := S.cell i d e
  cases d with
  | lst xs => obtain ⟨vs, h1, h2⟩ := q; exact ⟨vs, by rw [upd_ne hne]; exact h1, RGs.mono tp xs h2⟩
  | rdl xs =>
    obtain ⟨vs, h1, h2⟩ := q
    refine ⟨vs, ?_, RGs.mono tp xs h2⟩
    rcases h1 with h1 | ⟨ob, h1⟩
    · exact .inl (by rw [upd_ne hne]; exact h1)
    · exact .inr ⟨ob, by rw [upd_ne hne]; exact h1⟩
  | dct xs => obtain ⟨vs, h1, h2⟩ := q; exact ⟨vs, by rw [upd_ne hne]; exact h1, RKs.mono tp xs h2.1, h2.2⟩
  | rdd xs => obtain ⟨vs, ob, h1, h2⟩ := q; exact ⟨vs, ob, by rw [upd_ne hne]; exact h1, RKs.mono tp xs h2.1, h2.2⟩
  | dtg xs => obtain ⟨o, ys, h1, h2, h3⟩ := q; exact ⟨o, ys, by rw [upd_ne hne]; exact h1, RN.mono tp xs h2, h3⟩
  | rdt xs => obtain ⟨o, ys, h1, h2, h3⟩ := q; exact ⟨o, ys, by rw [upd_ne hne]; exact h1, RN.mono tp xs h2, h3⟩
  | rls xs => obtain ⟨vs, h1, h2⟩ := q; exact ⟨vs, by rw [upd_ne hne]; exact h1, RRs.mono tp (Nat.le_refl _) (fun _ _ => rfl) xs h2⟩
end SN


set_option Elab.async false
set_option linter.all false
set_option maxRecDepth 100000
namespace SN
open PySem PySem.Spec PyProof.Rows L2 MP
variable [Wd]

noncomputable def frees (cells : List (Str × Addr)) : List (Str × NameKind) → List (Str × Addr) → List (Str × Addr)
  | [], acc => acc
  | (n, k) :: r, acc => if (k == NameKind.free) = true then frees cells r ((n, (cells.lookup n).getD 0) :: acc) else frees cells r acc
theorem closure_go {env : PySem.Env} : ∀ (names : List (Str × NameKind)) (acc : List (Str × Addr)), (∀ y ∈ names, y.2 = .free → ∃ c, env.cells.lookup y.1 = some c) →
    (forIn names acc fun (x : Str × NameKind) (r : List (Str × Addr)) => (match x with
      | (name, kind) => if (kind == NameKind.free) = true then do let y ← cellOf env name; pure (ForInStep.yield ((name, y) :: r)) else pure (ForInStep.yield r) : Sem (ForInStep (List (Str × Addr))))) = (pure (frees env.cells names acc) : Sem _)
  | [], acc, _ => by simp [frees]
  | (n, k) :: r, acc, h => by
    rw [List.forIn_cons]
    cases hk : (k == NameKind.free) with
    | true =>
      have hk' : k = .free := by simpa using hk
      obtain ⟨c, e⟩ := h (n, k) List.mem_cons_self hk'
      have ec : cellOf env n = pure c := by unfold cellOf; rw [e]
      simp only [hk, if_true, ec, pure_bind, frees, e, Option.getD_some]
      exact closure_go r _ fun y hy => h y (List.mem_cons_of_mem _ hy)
    | false =>
      simp only [hk, Bool.false_eq_true, if_false, pure_bind, frees]
      exact closure_go r _ fun y hy => h y (List.mem_cons_of_mem _ hy)
theorem closure_is {scope : Scope} {env : PySem.Env} (h : ∀ y ∈ scope.names, y.2 = .free → ∃ c, env.cells.lookup y.1 = some c) : closureFor scope env = pure (frees env.cells scope.names []) := by
  unfold closureFor
  have q := closure_go (env := env) scope.names [] h
  first
    | (rw [q]; rfl)
    | (simp only [q]; rfl)
    | (erw [q]; rfl)
theorem frees_lookup {cells : List (Str × Addr)} : ∀ (names : List (Str × NameKind)) (acc : List (Str × Addr)), (∀ y ∈ names, y.2 = .free → ∃ c, cells.lookup y.1 = some c) → (∀ x c, acc.lookup x = some c → cells.lookup x = some c) →
    (∀ x c, (frees cells names acc).lookup x = some c → cells.lookup x = some c)
  | [], acc, _, h, x, c, e => h x c e
  | (n, k) :: r, acc, hf, h, x, c, e => by
    unfold frees at e
    split at e
    · rename_i hk
      have hk' : k = .free := by simpa using hk
      obtain ⟨d, ed⟩ := hf (n, k) List.mem_cons_self hk'
      refine frees_lookup r _ (fun y hy => hf y (List.mem_cons_of_mem _ hy)) (fun y c' e' => ?_) x c e
      rw [List.lookup_cons] at e'
      cases hy : y == n with
      | true =>
        rw [hy] at e'
        have : y = n := by simpa using hy
        subst this
        simp only [ed, Option.getD_some] at e'
        rw [ed]; exact e'
      | false => rw [hy] at e'; exact h y c' e'
    · exact frees_lookup r _ (fun y hy => hf y (List.mem_cons_of_mem _ hy)) h x c e
theorem frees_keep {cells : List (Str × Addr)} : ∀ (names : List (Str × NameKind)) (acc : List (Str × Addr)) (x : Str), (∃ c, acc.lookup x = some c) → ∃ c, (frees cells names acc).lookup x = some c
  | [], _, _, h => h
  | (n, k) :: r, acc, x, h => by
    unfold frees
    split
    · refine frees_keep r _ x ?_
      rw [List.lookup_cons]
      cases x == n with
      | true => exact ⟨_, rfl⟩
      | false => exact h
    · exact frees_keep r _ x h
theorem frees_has {cells : List (Str × Addr)} : ∀ (names : List (Str × NameKind)) (acc : List (Str × Addr)) (x : Str), (x, NameKind.free) ∈ names → ∃ c, (frees cells names acc).lookup x = some c
  | (n, k) :: r, acc, x, h => by
    unfold frees
    rcases List.mem_cons.mp h with e | h
    · have e1 : x = n := congrArg Prod.fst e
      have e2 : NameKind.free = k := congrArg Prod.snd e
      subst e1
      subst e2
      rw [if_pos (by simp)]
      refine frees_keep r _ x ?_
      rw [List.lookup_cons]
      simp
    · split
      · exact frees_has r _ x h
      · exact frees_has r _ x h

noncomputable def cxC (X : Cx) (N' : List Str) (scope : Scope) (cl : List (Str × Addr)) (C : Addr) (fp : List Addr) (s : Shared) (H : Hp) : Cx :=
  { X with N := N', s₀ := s, H₀ := H, env := compEnvC scope cl C X.env, outer := X.stack, ex := fp, fn := fun _ => false, pn := [], xe := fun _ _ => False }

noncomputable def PCs (X : Cx) (ifs : List Expr) (t : TT) : Prop :=
  ∀ (pins : List (Addr × Obj)) (s : Shared) (σ : L2.St) (H : Hp) (Q : Bool → Hp → Prop), Inv X pins σ H s → t σ H Q →
    wpAny (model X.prog X.w) X.A (forIn ifs true fun c r => if r = true then do let ok ← isTrue c X.env (eval c X.env); pure (ForInStep.yield ok) else pure (ForInStep.yield r)) (TP X pins σ Q) X.xe s
theorem conds_false {env : PySem.Env} : ∀ ifs : List Expr, (forIn ifs false fun c r => if r = true then do let ok ← isTrue c env (eval c env); pure (ForInStep.yield ok) else pure (ForInStep.yield r) : Sem Bool) = pure false
  | [] => by simp
  | c :: r => by
    rw [List.forIn_cons]
    simp only [Bool.false_eq_true, if_false, pure_bind]
    exact conds_false r
noncomputable def tTrue : TT := fun _ H Q => Q true H
theorem pcs_nil {X : Cx} : PCs X [] tTrue := fun pins s σ H Q I h => by
  simp only [List.forIn_nil]
  exact wpAny_pure ⟨H, I, h⟩
theorem pcs_cons {X : Cx} {c : Expr} {cs : List Expr} {t u : TT} (h1 : PT X c t) (h2 : PCs X cs u) : PCs X (c :: cs) (tAnd t u) := fun pins s σ H Q I h => by
  rw [List.forIn_cons]
  simp only [if_true, bind_assoc, pure_bind]
  refine wpAny_bind (thn (h1 pins s σ H _ I h) fun b s1 ⟨H1, I1, q1⟩ => ?_)
  cases b with
  | true => exact h2 pins s1 σ H1 Q I1 q1
  | false =>
    rw [conds_false cs]
    exact wpAny_pure ⟨H1, I1, q1⟩

noncomputable def blockW (B : V → Hp → L2.St → Prop) (J : It) (vals : List (Option V)) (tc : TT) (te : TE) (D : Addr) (H1 : Hp) (Q : VK) : Prop :=
  ∃ W : Nat → Nat → List V → Hp → Prop, (∃ m, W 0 m [] (upd H1 D (.lst []))) ∧ ∀ i m acc H, W i m acc H → H D = some (.lst acc) ∧
    ((J.stop i H ∧ Q (.ref D) H) ∨ (J.go i H ∧ ∀ x H', J.yld i H x H' → ∃ bs, B x H' bs ∧ tc (bs ++ vals) H' fun b H2 =>
      if b = true then te (bs ++ vals) H2 fun y H3 => H3 D = some (.lst acc) ∧ acc.length ≤ i ∧ ∃ m', m' < m ∧ W (i + 1) m' (acc ++ [y]) (upd H3 D (.lst (acc ++ [y])))
      else ∃ m', m' < m ∧ W (i + 1) m' acc H2))
noncomputable def BJ (K : PySem.W.Frag) (J : It) : Prop := ∀ (X : Cx) (pins : List (Addr × Obj)) (σ : L2.St) (H : Hp) (s : Shared) (i : Nat), X.K = K → Inv X pins σ H s → J.go i H → i < sizeLine
noncomputable def tLC (K : PySem.W.Frag) (B : V → Hp → L2.St → Prop) (wi : TI) (caps : List Nat) (tc : TT) (te : TE) : TE := fun σ H Q => wi σ H fun J H1 => BJ K J ∧ ∀ D, H1 D = none → blockW B J (caps.map fun j => (σ[j]?).getD none) tc te D H1 Q

theorem comp_turns {prog : Program} {w : World} {A : Around} {R : Result → Shared → Prop} {s : Shared} {elt target iter : Expr} {ifs : List Expr} {scope : Scope} {pos : Pos} {it acc : Value} {env : PySem.Env} (I : Nat → Shared → Prop)
    (step : ∀ n s, I n s → wpAny (model prog w) A (pyNext it) (fun r s₁ => match r with
      | none => R (.ok .next) s₁
      | some v => wpAny (model prog w) A (letOwnedTupleGo target it v) (fun _ s₂ => wpAny (model prog w) A (assign target env v) (fun _ s₃ =>
          wpAny (model prog w) A (forIn ifs true fun c r => if r = true then do let ok ← isTrue c env (eval c env); pure (ForInStep.yield ok) else pure (ForInStep.yield r)) (fun ok s₄ =>
            if ok = true then wpAny (model prog w) A (eval elt env) (fun x s₅ => wpAny (model prog w) A (call (.builtin "list.append") [acc, x]) (fun _ s₆ => ∃ m, m < n ∧ I m s₆) (notedBy (model prog w) A env fun e s' => R (.error e) s') s₅) (notedBy (model prog w) A env fun e s' => R (.error e) s') s₄
            else ∃ m, m < n ∧ I m s₄) (notedBy (model prog w) A env fun e s' => R (.error e) s') s₃) (notedBy (model prog w) A env fun e s' => R (.error e) s') s₂) (notedBy (model prog w) A env fun e s' => R (.error e) s') s₁) (notedBy (model prog w) A env fun e s' => R (.error e) s') s)
    (n : Nat) (h : I n s) : codeAny (model prog w) A (.compLoop (.ListComp elt [⟨target, iter, ifs, 0⟩] scope pos) 0 it acc env) R s := by
  refine codeAny_loop rfl I (fun n s hn => ?_) n h
  show wpAny _ A ((compTurn (.ListComp elt [⟨target, iter, ifs, 0⟩] scope pos) 0 it acc env).onRaise fun x => do noteFrame x env; theTreesLotGoes x) _ _ s
  refine wpAny_noted ?_
  rw [compTurn_list]
  refine wpAny_bind (wpAny_standAt (wpAny_bind (wpAny_mono (step n s hn) (fun r s₁ q => ?_) fun _ _ z => z)))
  cases r with
  | none => exact wpAny_pure q
  | some v =>
    refine wpAny_bind (wpAny_mono q (fun _ s₂ q2 => wpAny_bind (wpAny_mono q2 (fun _ s₃ q3 => wpAny_bind (wpAny_mono q3 (fun ok s₄ q4 => ?_) fun _ _ z => z)) fun _ _ z => z)) fun _ _ z => z)
    cases ok with
    | true => exact wpAny_bind (wpAny_bind (wpAny_mono q4 (fun x s₅ q5 => wpAny_bind (wpAny_mono q5 (fun _ s₆ q6 => wpAny_pure (wpAny_pure ⟨rfl, q6⟩)) fun _ _ z => z)) fun _ _ z => z))
    | false => exact wpAny_pure ⟨rfl, q4⟩

structure CompOk (X : Cx) (xs : List Str) (caps : List Nat) (names : List Str) (scope : Scope) : Prop where
  kind : scope.kind = .function
  cell : ∀ y ∈ scope.names, y.2 ≠ .cell
  loc : ∀ y ∈ scope.names, y.2 = .local → scope.names.lookup y.1 = some .local
  tgt : ∀ x ∈ xs, scope.names.lookup x = some .local
  fre : ∀ y ∈ scope.names, y.2 = .free → X.env.kindOf y.1 = some .cell ∨ X.env.kindOf y.1 = some .free
  nod : (xs ++ names).Nodup
  lenC : names.length = caps.length
  capN : ∀ (j : Nat) (y : Str), names[j]? = some y → ∃ i : Nat, caps[j]? = some i ∧ X.N[i]? = some y ∧ scope.names.lookup y = some .free
theorem lookup_map_kind {f : Str × NameKind → Str × NameKind} (hf : ∀ p, (f p).1 = p.1) : ∀ (l : List (Str × NameKind)) (x : Str), (l.map f).lookup x = ((l.find? fun p => x == p.1).map fun p => (f p).2)
  | [], _ => rfl
  | (n, k) :: r, x => by
    have ih := lookup_map_kind hf r x
    rw [List.map_cons]
    have e1 : f (n, k) = (n, (f (n, k)).2) := by
      have := hf (n, k)
      cases q : f (n, k) with
      | mk a b => rw [q] at this; cases this; rfl
    rw [e1, List.lookup_cons, List.find?_cons]
    cases hx : x == n with
    | true => rfl
    | false => exact ih
theorem lookup_find : ∀ (l : List (Str × NameKind)) (x : Str), l.lookup x = ((l.find? fun p => x == p.1).map (·.2))
  | [], _ => rfl
  | (n, k) :: r, x => by
    rw [List.lookup_cons, List.find?_cons]
    cases hx : x == n with
    | true => rfl
    | false => exact lookup_find r x
theorem relabel_lookup (scope : Scope) (env : PySem.Env) (x : Str) : (relabel scope env).names.lookup x = (scope.names.lookup x).map fun k => if (k == .free && env.scope.kind == .function && env.kindOf x == some .cell) = true then .cell else k := by
  unfold relabel
  show (scope.names.map _).lookup x = _
  rw [lookup_map_kind (f := fun p => if (p.2 == NameKind.free && env.scope.kind == .function && env.kindOf p.1 == some .cell) = true then (p.1, .cell) else (p.1, p.2)) (fun p => by split <;> rfl), lookup_find, Option.map_map]
  cases e : scope.names.find? (fun p => x == p.1) with
  | none => rfl
  | some p =>
    have hx : x = p.1 := by
      have := List.find?_some e
      simpa using this
    subst hx
    simp only [Option.map_some, Function.comp]
    split <;> rfl

section
variable {X : Cx} {pins : List (Addr × Obj)} {σ : L2.St} {elt iter tg : Expr} {xs : List Str} {pos : Pos} {B : V → Hp → L2.St → Prop} {g : TG} {ifs : List Expr} {scope : Scope} {caps : List Nat} {names : List Str} {tc : TT} {te : TE}

theorem comp_core (hc : X.calm = true) (ok : CompOk X xs caps names scope) {cl : List (Str × Addr)} (ecl : cl = frees X.env.cells scope.names [])
    (hC : ∀ C fp s H, PCs (cxC X (xs ++ names) scope cl C fp s H) ifs tc) (hE : ∀ C fp s H, PE (cxC X (xs ++ names) scope cl C fp s H) elt te)
    (hG : ∀ C fp s H, PG (cxC X (xs ++ names) scope cl C fp s H) tg g) (hBl : ∀ y H bs, B y H bs → bs.length = xs.length) (hBg : ∀ y H bs os vals, B y H bs → os.length = xs.length → g y (os ++ vals) H fun σ' H' => σ' = bs ++ vals ∧ H' = H)
    {J : It} {fp : List Addr} {it : Addr} {tn : Nat → Heap → Prop} {H2 : Hp} {s2 : Shared} {Q : VK} {E : Value → Shared → Prop} {RR : Value → Addr → Result → Shared → Prop}
    (I2 : Inv X pins σ H2 s2) (T : Turn X.prog X.w X.K tg J fp it tn) (t0 : tn 0 s2.heap) (f2 : ∀ b ∈ fp, FpOk X pins H2 b) (hB : BJ X.K J)
    (hq : ∀ D, H2 D = none → blockW B J (caps.map fun j => (σ[j]?).getD none) tc te D H2 Q)
    (hRR : ∀ D C H' s1 m oC, Inv X pins σ H' s1 → s1.heap.Ns C m → s1.heap.get? C = some oC → (∀ v, oC.data ≠ .cell v) → H' C = none → s2.heap.objs.size ≤ C → Q (.ref D) H' → RR (.ref D) C (.ok .next) s1) :
    wpAny (model X.prog X.w) X.A (newList []) (fun acc s₃ => wpAny (model X.prog X.w) X.A (newFunctionEnv scope X.env.globals cl [] X.env.qual none .none (some X.env)) (fun cenv s₄ =>
      codeAny (model X.prog X.w) X.A (.compStart (.ListComp elt [⟨tg, iter, ifs, 0⟩] scope pos) 0 (.ref it) acc { cenv with scope := relabel scope X.env }) (RR acc cenv.locals) s₄) E s₃) E s2 := by
  refine wpAny_newObj_type (wpAny_newFunctionEnv ok.cell (by intro y hy; simp at hy) (fun h₁ hns hsb => ?_) ok.kind)
  have fD : H2 s2.heap.objs.size = none := I2.fresh
  obtain ⟨W, ⟨m0, w0⟩, turn⟩ := hq _ fD
  let D := s2.heap.objs.size
  let s3 : Shared := { s2 with heap := s2.heap.push { cls := .type "list", dict := none, data := .seq ([] : List Value).toArray } }
  let H3 : Hp := upd H2 D (.lst [])
  have I3 : Inv X pins σ H3 s3 := I2.lnew (ys := []) (its := []) (t' := s2.toks) .nil (Nat.zero_le _)
  let C := s3.heap.objs.size
  have sz3 : C = D + 1 := Heap.size_push ..
  let s4 : Shared := { s3 with heap := h₁, toks := s3.toks + ([] : List (Str × Value)).length }
  have old : ∀ b o, s3.heap.get? b = some o → h₁.get? b = some o := fun b o e => hsb.extBut b o (Nat.ne_of_lt (Heap.lt_size e)) (Heap.get?_push_of_some _ e)
  have I4 : Inv X pins σ H3 s4 := I3.kept (h' := h₁) (t' := s3.toks + ([] : List (Str × Value)).length) old
  have u23 : Un (frs X.stack) fp H2 H3 s2.heap s3.heap := Un.laid (fun b u e => Heap.get?_push_of_some _ e) (Nat.le_refl _) fD
  -- the cells that the block sees
  have hfr : ∀ y ∈ scope.names, y.2 = .free → ∃ c, X.env.cells.lookup y.1 = some c := fun y hy e => I2.ok.has y.1 (ok.fre y hy e)
  have hcl : ∀ y c, cl.lookup y = some c → X.env.cells.lookup y = some c := fun y c e => by
    rw [ecl] at e
    exact frees_lookup scope.names [] hfr (fun _ _ z => by simp at z) y c e
  have hcf : ∀ y, (y, NameKind.free) ∈ scope.names → ∃ c, cl.lookup y = some c := fun y hy => by
    rw [ecl]; exact frees_has scope.names [] y hy
  let X' : Cx := cxC X (xs ++ names) scope cl C fp s3 H3
  have fpC : ∀ b ∈ fp, b ≠ C ∧ b ∉ frs X.stack ∧ (∀ y c, cl.lookup y = some c → c ≠ b) := fun b hb => by
    obtain ⟨f0, f1, f2', f3, f4, f5⟩ := f2 b hb
    obtain ⟨o, e, _⟩ := T.obj _ _ t0 b hb
    refine ⟨?_, fun z => ?_, fun y c e => f4 y c (hcl y c e)⟩
    · have := Heap.lt_size e
      rw [sz3]
      exact Nat.ne_of_lt (Nat.lt_succ_of_lt this)
    · rcases List.mem_cons.mp (I2.stkSub b z) with z | z
      · exact f1 z
      · exact f2' z
  have ok' : X'.Ok := {
    mod := I2.ok.mod
    kind := ok.kind
    glob := I2.ok.glob
    blt := I2.ok.blt
    above := Nat.le_refl _
    inj := fun y z c e1 e2 => I2.ok.inj y z c (hcl y c e1) (hcl z c e2)
    has := fun y hy => by
      have hy : (relabel scope X.env).names.lookup y = some .cell ∨ (relabel scope X.env).names.lookup y = some .free := hy
      rw [relabel_lookup] at hy
      have hm : scope.names.lookup y = some .free := by
        cases e : scope.names.lookup y with
        | none => rw [e] at hy; rcases hy with z | z <;> cases z
        | some k =>
          rw [e] at hy
          cases k with
          | free => rfl
          | cell => exact absurd rfl (ok.cell _ (PySem.mem_of_lookup e))
          | «local» => rcases hy with z | z <;> simp at z
          | globalExplicit => rcases hy with z | z <;> simp at z
          | globalImplicit => rcases hy with z | z <;> simp at z
      exact hcf y (PySem.mem_of_lookup hm)
    cab := fun _ _ z => absurd (show (false : Bool) = true from z) Bool.false_ne_true
    hd := I2.ok.hd
    frames := I2.ok.frames
    stk := .inl rfl
    exf := fun b hb => ⟨(fpC b hb).1, (fpC b hb).2.2⟩
    bs := fun b o e => ⟨(I3.bs b o e).1, (I3.bs b o e).2⟩
    bsz := Nat.le_trans I3.ok.bsz I3.sz
    noex := fun b o e z => by
      obtain ⟨_, _, _, f3, _⟩ := f2 b z
      rcases f3 with q | q
      · exact I2.ok.noex b o e q
      · exact absurd (Heap.lt_size (I2.ok.bs b o e).1) (Nat.not_lt.mpr q)
    exfs := fun b hb => (fpC b hb).2.1
    funs := I3.stack
    frf := I3.stkFree }
  let vals : List (Option V) := caps.map fun j => (σ[j]?).getD none
  have I5 : Inv X' [] (List.replicate xs.length none ++ vals) H3 s4 := {
    ok := ok'
    os := rfl
    bare := I4.bare
    base := Un.kept old
    loc := by
      refine ⟨_, hns, fun i y v e1 e2 e3 => ?_⟩
      by_cases hi : i < xs.length
      · rw [List.getElem?_append_left (by simpa using hi), List.getElem?_replicate] at e2
        rw [if_pos hi] at e2
        cases e2
      · obtain ⟨j, rfl⟩ : ∃ j, i = xs.length + j := ⟨i - xs.length, by omega⟩
        have e1 : (xs ++ names)[xs.length + j]? = some y := e1
        rw [List.getElem?_append_right (by omega), Nat.add_sub_cancel_left] at e1
        rw [List.getElem?_append_right (by simp), List.length_replicate, Nat.add_sub_cancel_left] at e2
        obtain ⟨k, ek, eN, ef⟩ := ok.capN j y e1
        have e2 : σ[k]? = some (some v) := by
          simp only [vals, List.getElem?_map, ek, Option.map_some] at e2
          cases q : σ[k]? with
          | none => rw [q] at e2; simp at e2
          | some o => rw [q] at e2; simp at e2; rw [e2]
        obtain ⟨m, hn, hl⟩ := I4.loc
        have hk := ok.fre _ (PySem.mem_of_lookup ef) rfl
        have hvis : Vis X.env.scope y := .inr hk
        obtain ⟨u, r, l⟩ := hl k y v eN e2 hvis
        refine ⟨u, r, .inr ?_⟩
        obtain ⟨c, ec, hc4⟩ : ∃ c, X.env.cells.lookup y = some c ∧ s4.heap.IsCell c (some u) := by
          rcases l with ⟨z, _⟩ | ⟨_, c, ec, hc⟩
          · rcases hk with q | q <;> (rw [show X.env.kindOf y = _ from z] at q; cases q)
          · exact ⟨c, ec, hc⟩
        obtain ⟨c', ec'⟩ := hcf y (PySem.mem_of_lookup ef)
        have := hcl y c' ec'
        rw [ec] at this
        cases this
        refine ⟨?_, c, ec', hc4⟩
        show (relabel scope X.env).names.lookup y = _ ∨ (relabel scope X.env).names.lookup y = _
        rw [relabel_lookup, ef]
        simp only [Option.map_some]
        split
        · exact .inl rfl
        · exact .inr rfl
    cell := fun y c e => I4.cell y c (hcl y c e)
    free := I3.fresh
    freeC := fun y c e => I4.freeC y c (hcl y c e)
    pin := fun p hp => absurd (show p ∈ ([] : List (Addr × Obj)) from hp) (by simp)
    hok := I4.hok
    len := by show (List.replicate xs.length none ++ vals).length = (xs ++ names).length; simp [vals, ok.lenC] }
  have fpok : ∀ {H' : Hp}, (∀ b ∈ fp, H' b = none) → ∀ b ∈ fp, FpOk X' [] H' b := fun hn b hb => ⟨hn b hb, (fpC b hb).1, (fpC b hb).2.1, .inl hb, (fpC b hb).2.2, fun p hp => absurd (show p ∈ ([] : List (Addr × Obj)) from hp) (by simp)⟩
  have leave : ∀ {σ' : L2.St} {H' : Hp} {s1 : Shared}, Inv X' [] σ' H' s1 → Inv X pins σ H' s1 := fun I' => I2.call' (ch := fp) I'.os (u23.trans I'.base) I'.hok I'.bare fun b hb => by
    obtain ⟨f0, f1, f2', f3, f4, f5⟩ := f2 b hb
    exact ⟨f3, f1, f4, f5⟩
  have fp3 : ∀ b ∈ fp, H3 b = none := fun b hb => by
    obtain ⟨o, e, _⟩ := T.obj _ _ t0 b hb
    show upd H2 D _ b = none
    rw [upd_ne (Nat.ne_of_lt (Heap.lt_size e))]
    exact (f2 b hb).1
  have tn4 : tn 0 s4.heap := T.keep _ _ _ t0 fun b hb o e => old b o (Heap.get?_push_of_some _ e)
  have loop : codeAny (model X.prog X.w) X.A (.compLoop (.ListComp elt [⟨tg, iter, ifs, 0⟩] scope pos) 0 (.ref it) (.ref D) X'.env) (RR (.ref D) C) s4 := by
    refine comp_turns (fun n s => ∃ i acc os H', os.length = xs.length ∧ Inv X' [] (os ++ vals) H' s ∧ tn i s.heap ∧ (∀ b ∈ fp, H' b = none) ∧ W i n acc H') ?_ m0 ⟨0, [], List.replicate xs.length none, H3, by simp, I5, tn4, fp3, w0⟩
    rintro n s ⟨i, acc, os, H6, ho6, I6, t6, fr6, w6⟩
    obtain ⟨hD6, st⟩ := turn i n acc H6 w6
    rcases st with ⟨stop, q⟩ | ⟨go, step⟩
    · refine thn (T.done X' rfl rfl rfl hc i [] s (os ++ vals) H6 _ I6 (fpok fr6) t6 stop) fun r s1 ⟨hr, I7⟩ => ?_
      subst hr
      obtain ⟨m, hn, _⟩ := id I7.loc
      obtain ⟨oC, es, ep, ho, hdat, _⟩ := id hn
      exact hRR D C H6 s1 m oC (leave I7) hn ho (fun v z => by rw [hdat] at z; cases z) I7.free (by show D ≤ C; omega) q
    · refine thn (T.item X' rfl rfl rfl hc i [] s (os ++ vals) H6 _ I6 (fpok fr6) t6 go) fun r s1 ⟨u, hr, h1⟩ => ?_
      subst hr
      refine thn h1 fun _ s2' ⟨y, H7, I7, r7, y7, t7, fr7⟩ => ?_
      have I7p := I7.pinned (fpok fr7) (T.obj _ _ t7)
      obtain ⟨bs, hbs, stp⟩ := step y H7 y7
      refine wpAny_mono (hG C fp s3 H3 _ s2' (os ++ vals) H7 y u (fun σ' H' => σ' = bs ++ vals ∧ H' = H7) I7p r7 (hBg y H7 bs os vals hbs ho6)) (fun _ s8 ⟨σ8, H8, I8, e8, e8'⟩ => ?_) fun _ _ z => z.elim
      subst e8 e8'
      have hbl := hBl y H8 bs hbs
      -- what stays of the iterator's records
      have back : ∀ {H' : Hp} {s' : Shared}, Inv X' ([] ++ pinsAt fp s2'.heap) (bs ++ vals) H' s' → Inv X' [] (bs ++ vals) H' s' ∧ tn (i + 1) s'.heap ∧ ∀ b ∈ fp, H' b = none := fun {H' s'} I' => by
        refine ⟨I'.unpinned, T.keep _ _ _ t7 fun b hb o e => (I'.pin (b, o) (List.mem_append_right _ (List.mem_append_right _ (mem_pinsAt hb e)))).1, fun b hb => ?_⟩
        obtain ⟨o, e, d⟩ := T.obj _ _ t7 b hb
        exact (I'.pin (b, o) (List.mem_append_right _ (List.mem_append_right _ (mem_pinsAt hb e)))).2.1
      refine wpAny_mono (hC C fp s3 H3 _ s8 (bs ++ vals) H8 _ I8 stp) (fun okb s9 ⟨H9, I9, q9⟩ => ?_) fun _ _ z => z.elim
      cases okb with
      | false =>
        rw [if_neg Bool.false_ne_true] at q9 ⊢
        obtain ⟨m', hm, w'⟩ := q9
        obtain ⟨b1, b2, b3⟩ := back I9
        exact ⟨m', hm, i + 1, acc, bs, H9, hbl, b1, b2, b3, w'⟩
      | true =>
        rw [if_pos rfl] at q9 ⊢
        refine wpAny_mono (hE C fp s3 H3 _ s9 (bs ++ vals) H9 _ I9 q9) (fun v s10 ⟨z, H10, I10, rz, hD10, hlen, m', hm, w'⟩ => ?_) fun _ _ z => z.elim
        refine wpAny_mono (mt_append (X := X') _ s10 (bs ++ vals) H10 (.ref D) [z] (.ref D) [v] (fun _ H' => H' = upd H10 D (.lst (acc ++ [z]))) I10 rfl (.cons rz .nil) ⟨D, acc, z, rfl, rfl, hD10, Nat.lt_of_le_of_lt hlen (hB X' _ _ _ _ i rfl I6 go), rfl⟩) (fun _ s11 ⟨_, H11, I11, _, e11⟩ => ?_) fun _ _ z => z.elim
        subst e11
        obtain ⟨b1, b2, b3⟩ := back I11
        exact ⟨m', hm, i + 1, acc ++ [z], bs, _, hbl, b1, b2, b3, w'⟩
  exact codeAny_compStart_list loop (T.self X.A 0 s4 _ _ tn4 loop)

theorem pe_comp {wi : TI} (hc : X.calm = true) (ok : CompOk X xs caps names scope)
    (hI : PI X tg iter wi)
    (hG : ∀ C fp s H, PG (cxC X (xs ++ names) scope (frees X.env.cells scope.names []) C fp s H) tg g) (hBl : ∀ y H bs, B y H bs → bs.length = xs.length) (hBg : ∀ y H bs os vals, B y H bs → os.length = xs.length → g y (os ++ vals) H fun σ' H' => σ' = bs ++ vals ∧ H' = H)
    (hC : ∀ C fp s H, PCs (cxC X (xs ++ names) scope (frees X.env.cells scope.names []) C fp s H) ifs tc) (hE : ∀ C fp s H, PE (cxC X (xs ++ names) scope (frees X.env.cells scope.names []) C fp s H) elt te)
    (hs : ∀ x, foldedSetIterable iter X.env x = pure x) : PE X (.ListComp elt [⟨tg, iter, ifs, 0⟩] scope pos) (tLC X.K B wi caps tc te) := by
  intro pins s σ H Q I h
  rw [eval_ListComp]
  have hfr : ∀ y ∈ scope.names, y.2 = .free → ∃ c, X.env.cells.lookup y.1 = some c := fun y hy e => I.ok.has y.1 (ok.fre y hy e)
  refine wpAny_comprehension_free (use := none) rfl hs (closure_is hfr) ok.kind ok.loc (thn (hI pins s σ H _ I h) fun v s1 h1 => thn h1 fun itv s2 h2 => ?_)
  obtain ⟨it, fp, tn, J, H2, e, I2, T, t0, f2, hB, q⟩ := h2
  subst e
  refine comp_core (RR := fun acc C => compPost (model X.prog X.w) X.A X.xe none (EP X pins σ Q) acc C) hc ok rfl hC hE hG hBl hBg I2 T t0 f2 hB q fun D C H' s1 m oC I' hn hC' hcell hfree hle q' => ?_
  refine ⟨m, hn, fun h' hsb => ⟨.ref D, H', ?_, rfl, q'⟩⟩
  have hL : C ≠ X.env.locals := Nat.ne_of_gt (Nat.lt_of_lt_of_le I2.lt hle)
  exact I'.turned (t' := s1.toks) (fun b o hb e => hsb.extBut b o hb e) hfree hL (.inr (Nat.le_trans I2.sz hle)) (fun y c e z => by
    obtain ⟨v, qq⟩ := I2.cell y c e
    exact absurd (Nat.lt_of_lt_of_le qq.lt (by rw [z]; exact hle)) (Nat.lt_irrefl _)) fun p hp z => absurd (Nat.lt_of_lt_of_le (Heap.lt_size (I2.pin p hp).1) (by rw [z]; exact hle)) (Nat.lt_irrefl _)

theorem ps_comp {wi : TI} {y : Str} {py spos : Pos} {i : Nat} (hc : X.calm = true) (ok : CompOk X xs caps names scope)
    (hI : PI X tg iter wi)
    (hG : ∀ C fp s H, PG (cxC X (xs ++ names) scope (frees X.env.cells scope.names []) C fp s H) tg g) (hBl : ∀ y H bs, B y H bs → bs.length = xs.length) (hBg : ∀ y H bs os vals, B y H bs → os.length = xs.length → g y (os ++ vals) H fun σ' H' => σ' = bs ++ vals ∧ H' = H)
    (hC : ∀ C fp s H, PCs (cxC X (xs ++ names) scope (frees X.env.cells scope.names []) C fp s H) ifs tc) (hE : ∀ C fp s H, PE (cxC X (xs ++ names) scope (frees X.env.cells scope.names []) C fp s H) elt te)
    (hs : ∀ x, foldedSetIterable iter X.env x = pure x) (hsw : swapsWith (.ListComp elt [⟨tg, iter, ifs, 0⟩] scope pos) (some (.Name y py)) spos.line X.env = pure true)
    (hN : X.N.Nodup) (hi : X.N[i]? = some y) (hy : Loc X.env.scope y) (hf : X.fn y = true ∨ X.env.scope.names.lookup y = some .local) :
    PS X (.Assign [.Name y py] (.ListComp elt [⟨tg, iter, ifs, 0⟩] scope pos) spos) (fun D σ H => tLC X.K B wi caps tc te σ H fun v H' => D.nx (σ.set i (some v)) H') := by
  intro pins s σ H D I h
  rw [exec_Assign_Name_used _ _ _ _ hsw]
  refine wpAny_bind (wpAny_standAt (wpAny_bind ?_))
  show wpAny _ X.A (do let _ ← comprehension (.ListComp elt [⟨tg, iter, ifs, 0⟩] scope pos) scope X.env _ (newList []) false (eval iter X.env) (some (assign (.Name y py) X.env))) _ _ s
  have hfr : ∀ y ∈ scope.names, y.2 = .free → ∃ c, X.env.cells.lookup y.1 = some c := fun y hy e => I.ok.has y.1 (ok.fre y hy e)
  refine wpAny_bind (thn (wpAny_comprehension_free (use := some (assign (.Name y py) X.env)) (Q := fun _ s' => SP X pins D .next s') rfl hs (closure_is hfr) ok.kind ok.loc
    (thn (hI pins s σ H _ I h) fun v s1 h1 => thn h1 fun itv s2 h2 => ?_)) fun _ s' hq => wpAny_pure (wpAny_pure hq))
  obtain ⟨it, fp, tn, J, H2, e, I2, T, t0, f2, hB, q⟩ := h2
  subst e
  refine comp_core (RR := fun acc C => compPost (model X.prog X.w) X.A X.xe (some (assign (.Name y py) X.env)) (fun _ s' => SP X pins D .next s') acc C) hc ok rfl hC hE hG hBl hBg I2 T t0 f2 hB q fun Da C H' s1 m oC I' hn hC' hcell hfree hle q' => ?_
  have hL : C ≠ X.env.locals := Nat.ne_of_gt (Nat.lt_of_lt_of_le I2.lt hle)
  have I1 : Inv X (pins ++ [(C, oC)]) σ H' s1 := I'.pins_of fun p hp => by
    rcases List.mem_append.mp hp with z | z
    · exact I'.pin p (List.mem_append_right _ z)
    · simp at z
      subst z
      exact ⟨hC', hfree, hL, I2.nofs hle, hcell⟩
  show wpAny _ X.A (assign (.Name y py) X.env (.ref Da)) _ _ s1
  refine thn (pg_name hN hi hy hf _ s1 σ H' (.ref Da) (.ref Da) (fun σ' H'' => σ' = σ.set i (some (.ref Da)) ∧ H'' = H') I1 rfl ⟨rfl, rfl⟩) fun _ s2' ⟨σ2, H2', I2', e1, e2⟩ => ?_
  subst e1 e2
  obtain ⟨p1, p2, p3, p4, p5⟩ := I2'.pin (C, oC) (List.mem_append_right _ (List.mem_append_right _ (by simp)))
  have hn2 : s2'.heap.Ns C m := hn.at' fun o e => by rw [hC'] at e; cases e; exact p1
  refine ⟨m, hn2, fun h' hsb => ⟨_, _, ?_, q'⟩⟩
  have I3 : Inv X pins (σ.set i (some (.ref Da))) H2' s2' := I2'.unpinned
  exact I3.turned (t' := s2'.toks) (fun b o hb e => hsb.extBut b o hb e) p2 hL (.inr (Nat.le_trans I2.sz hle)) (fun y c e z => by
    obtain ⟨v, qq⟩ := I2.cell y c e
    exact absurd (Nat.lt_of_lt_of_le qq.lt (by rw [z]; exact hle)) (Nat.lt_irrefl _)) fun p hp z => absurd (Nat.lt_of_lt_of_le (Heap.lt_size (I2.pin p hp).1) (by rw [z]; exact hle)) (Nat.lt_irrefl _)
end
end SN


set_option Elab.async false
set_option linter.all false
set_option maxRecDepth 100000
namespace SN
open PySem PySem.Spec PyProof.Rows L2 MP
variable [Wd]

mutual
noncomputable def dOf : G → PyData
  | .non => .none
  | .bl b => .bool b
  | .int i => .int i
  | .str x => .str (sOf x)
  | .tup xs => .tuple (dOfs xs)
noncomputable def dOfs : List G → List PyData
  | [] => []
  | x :: r => dOf x :: dOfs r
end
mutual
theorem dOf_depth : ∀ x : G, (dOf x).depth = gdep x
  | .non => by simp [dOf, PyData.depth, gdep]
  | .bl _ => by simp [dOf, PyData.depth, gdep]
  | .int _ => by simp [dOf, PyData.depth, gdep]
  | .str _ => by simp [dOf, PyData.depth, gdep]
  | .tup xs => by simp [dOf, PyData.depth, gdep, dOfs_depth xs]
theorem dOfs_depth : ∀ xs : List G, PyData.depthAll (dOfs xs) = gdeps xs
  | [] => by simp [dOfs, PyData.depthAll, gdeps]
  | x :: r => by simp [dOfs, PyData.depthAll, gdeps, dOf_depth x, dOfs_depth r]
end
theorem sOf_beq (x y : List Nat) : (sOf x == sOf y) = (x == y) := by
  by_cases h : x = y
  · subst h; simp
  · have : sOf x ≠ sOf y := fun e => h (sOf_inj e)
    rw [beq_eq_false_iff_ne.mpr this, beq_eq_false_iff_ne.mpr h]
mutual
theorem dOf_eqv : ∀ x y : G, PyData.eqv (dOf x) (dOf y) = peq x y
  | .non, y => by cases y <;> simp [dOf, PyData.eqv, peq]
  | .bl a, y => by cases y <;> simp [dOf, PyData.eqv, peq, MP.b2i]
  | .int a, y => by cases y <;> simp [dOf, PyData.eqv, peq, MP.b2i]
  | .str a, y => by cases y <;> simp [dOf, PyData.eqv, peq, sOf_beq]
  | .tup xs, y => by
    cases y with
    | tup ys => simp [dOf, PyData.eqv, peq, dOfs_eqv xs ys]
    | _ => simp [dOf, PyData.eqv, peq]
theorem dOfs_eqv : ∀ xs ys : List G, PyData.eqvAll (dOfs xs) (dOfs ys) = peqs xs ys
  | [], ys => by cases ys <;> simp [dOfs, PyData.eqvAll, peqs]
  | x :: r, ys => by
    cases ys with
    | nil => simp [dOfs, PyData.eqvAll, peqs]
    | cons y t => simp [dOfs, PyData.eqvAll, peqs, dOf_eqv x y, dOfs_eqv r t]
end
section
variable {X : Cx} {pins : List (Addr × Obj)} {σ : L2.St} {H : Hp} {s : Shared}
mutual
theorem RG.reads (I : Inv X pins σ H s) : ∀ (x : G) {v : V} {u : Value}, RG H x v → RelV v u → (∃ as, Reads s.heap u (dOf x) as) ∧ (dOf x).canLay0 = true
  | .non, _, _, h, r => by cases h; cases r; exact ⟨⟨_, .none⟩, rfl⟩
  | .bl b, _, _, h, r => by cases h; cases r; exact ⟨⟨_, .bool _⟩, rfl⟩
  | .int i, _, _, h, r => by cases h; obtain ⟨t, rfl⟩ := r; exact ⟨⟨_, .int _ _⟩, rfl⟩
  | .str x, _, _, h, r => by
    obtain ⟨rfl, hx⟩ := h
    obtain ⟨t, rfl⟩ := r
    refine ⟨⟨_, .str _ _⟩, ?_⟩
    show PyData.strOk (sOf x) = true
    unfold PyData.strOk sOf
    simpa using okS_all hx
  | .tup xs, _, _, h, r => by
    obtain ⟨a, vs, rfl, ha, hs⟩ := h
    cases r
    obtain ⟨_, its, rv, o, ho, hc, n, hd⟩ := I.hok a _ ha
    obtain ⟨⟨as, ra⟩, hk⟩ := RGs.reads I xs hs rv
    exact ⟨⟨_, .tuple ho hc hd (by simpa using ra)⟩, hk⟩
theorem RGs.reads (I : Inv X pins σ H s) : ∀ (xs : List G) {vs : List V} {us : List Value}, RGs H xs vs → Vals vs us → (∃ as, ReadsAll s.heap us (dOfs xs) as) ∧ PyData.canLayAll0 (dOfs xs) = true
  | [], _, _, h, r => by cases h; cases r; exact ⟨⟨_, .nil⟩, rfl⟩
  | x :: xs, _, _, h, r => by
    obtain ⟨v, vs, rfl, h1, h2⟩ := h
    cases r with
    | cons r1 r2 =>
      obtain ⟨⟨as, ra⟩, k1⟩ := RG.reads I x h1 r1
      obtain ⟨⟨bs, rb⟩, k2⟩ := RGs.reads I xs h2 r2
      exact ⟨⟨_, .cons ra rb⟩, by simp [dOfs, PyData.canLayAll0, k1, k2]⟩
end
theorem shal_le {x : G} (h : shal x = true) : gdep x ≤ 150 := of_decide_eq_true h
theorem RG.eqAt (I : Inv X pins σ H s) {A : Around} (hu : A.units + 160 < cLine) {x y : G} {v w : V} {u z : Value} (hx : RG H x v) (hy : RG H y w) (hs : shal x = true) (rv : RelV v u) (rw' : RelV w z) : SeqAt.EqAt A s u z (peq x y) := by
  obtain ⟨⟨as, ra⟩, ka⟩ := RG.reads I x hx rv
  obtain ⟨⟨bs, rb⟩, kb⟩ := RG.reads I y hy rw'
  have := SeqAt.eqAt_reads (dOf x) (dOf y) A s u z as bs ra rb ka kb (by rw [dOf_depth]; have := shal_le hs; have h2 := Nat.min_le_left (gdep x) (dOf y).depth; omega)
  rwa [dOf_eqv] at this

noncomputable def rEqG (neg : Bool) : R2 := fun x y H Q => ∃ gx gy, RG H gx x ∧ RG H gy y ∧ shal gx = true ∧ Q (.bl (if neg then !peq gx gy else peq gx gy)) H
theorem op_eqG (hu : X.A.units + 160 < cLine) : OpR X (compareOp .Eq) (rEqG false) := by
  intro pins s σ H x y v u Q I rx ry h
  obtain ⟨gx, gy, hx, hy, hs, q⟩ := h
  obtain ⟨⟨as, ra⟩, ka⟩ := RG.reads I gx hx rx
  obtain ⟨⟨bs, rb⟩, kb⟩ := RG.reads I gy hy ry
  refine SeqAt.compareEq_reads ra rb ka kb (by rw [dOf_depth]; have := shal_le hs; have h2 := Nat.min_le_left (gdep gx) (dOf gy).depth; omega) ?_
  rw [dOf_eqv]
  exact ⟨.bl _, H, I, rfl, q⟩
theorem op_neG (hu : X.A.units + 160 < cLine) : OpR X (compareOp .NotEq) (rEqG true) := by
  intro pins s σ H x y v u Q I rx ry h
  obtain ⟨gx, gy, hx, hy, hs, q⟩ := h
  obtain ⟨⟨as, ra⟩, ka⟩ := RG.reads I gx hx rx
  obtain ⟨⟨bs, rb⟩, kb⟩ := RG.reads I gy hy ry
  refine SeqAt.compareNe_reads ra rb ka kb (by rw [dOf_depth]; have := shal_le hs; have h2 := Nat.min_le_left (gdep gx) (dOf gy).depth; omega) ?_
  rw [dOf_eqv]
  exact ⟨.bl _, H, I, rfl, q⟩

noncomputable def rEqL (neg : Bool) : R2 := fun x y H Q => ∃ a b xs ys vs ws, x = .ref a ∧ y = .ref b ∧ Rd H a (.lst vs) ∧ Rd H b (.lst ws) ∧ RGs H xs vs ∧ RGs H ys ws ∧ xs.all shal = true ∧ Q (.bl (if neg then !peqs xs ys else peqs xs ys)) H
theorem gdeps_le {xs : List G} (h : xs.all shal = true) : gdeps xs ≤ 150 := by
  induction xs with
  | nil => simp [gdeps]
  | cons x r ih =>
    simp only [List.all_cons, Bool.and_eq_true] at h
    have h1 := shal_le h.1
    have h2 := ih h.2
    simp only [gdeps]; omega
theorem RL.reads (I : Inv X pins σ H s) {a : Addr} {xs : List G} {vs : List V} (ha : Rd H a (.lst vs)) (hs : RGs H xs vs) : (∃ as, Reads s.heap (.ref a) (.list (dOfs xs)) as) ∧ (PyData.list (dOfs xs)).canLay0 = true := by
  obtain ⟨_, its, n, rv, e⟩ := ha.ok I.hok
  obtain ⟨⟨as, ra⟩, hk⟩ := RGs.reads I xs hs rv
  exact ⟨⟨_, .list e rfl rfl (by simpa using ra)⟩, by simpa [PyData.canLay0] using hk⟩
theorem op_eqL (hu : X.A.units + 160 < cLine) : OpR X (compareOp .Eq) (rEqL false) := by
  intro pins s σ H x y v u Q I rx ry h
  obtain ⟨a, b, xs, ys, vs, ws, rfl, rfl, ha, hb, hx, hy, hs, q⟩ := h
  cases rx
  cases ry
  obtain ⟨⟨as, ra⟩, ka⟩ := RL.reads I ha hx
  obtain ⟨⟨bs, rb⟩, kb⟩ := RL.reads I hb hy
  refine SeqAt.compareEq_reads ra rb ka kb (by
    have h1 := gdeps_le hs
    have h2 := Nat.min_le_left (PyData.list (dOfs xs)).depth (PyData.list (dOfs ys)).depth
    have h3 : (PyData.list (dOfs xs)).depth = gdeps xs + 1 := by simp [PyData.depth, dOfs_depth]
    omega) ?_
  rw [show PyData.eqv (.list (dOfs xs)) (.list (dOfs ys)) = peqs xs ys by simp [PyData.eqv, dOfs_eqv]]
  exact ⟨.bl _, H, I, rfl, q⟩
theorem op_neL (hu : X.A.units + 160 < cLine) : OpR X (compareOp .NotEq) (rEqL true) := by
  intro pins s σ H x y v u Q I rx ry h
  obtain ⟨a, b, xs, ys, vs, ws, rfl, rfl, ha, hb, hx, hy, hs, q⟩ := h
  cases rx
  cases ry
  obtain ⟨⟨as, ra⟩, ka⟩ := RL.reads I ha hx
  obtain ⟨⟨bs, rb⟩, kb⟩ := RL.reads I hb hy
  refine SeqAt.compareNe_reads ra rb ka kb (by
    have h1 := gdeps_le hs
    have h2 := Nat.min_le_left (PyData.list (dOfs xs)).depth (PyData.list (dOfs ys)).depth
    have h3 : (PyData.list (dOfs xs)).depth = gdeps xs + 1 := by simp [PyData.depth, dOfs_depth]
    omega) ?_
  rw [show PyData.eqv (.list (dOfs xs)) (.list (dOfs ys)) = peqs xs ys by simp [PyData.eqv, dOfs_eqv]]
  exact ⟨.bl _, H, I, rfl, q⟩

theorem keyOf_inj {k j : G} {a : Key} (h1 : keyOf k = some a) (h2 : keyOf j = some a) : k = j := by
  cases k <;> cases j <;> simp [keyOf] at h1 h2
  · subst h1; cases h2; rfl
  · subst h1; cases h2
  · subst h1; cases h2
  · subst h1
    have : sOf _ = sOf _ := Sum.inr.inj h2
    rw [sOf_inj this]
theorem isKey_keyOf {k : G} (h : isKey k = true) : ∃ a, keyOf k = some a := by
  cases k <;> simp [isKey] at h <;> exact ⟨_, rfl⟩
theorem keyOf_rep {k : G} {a : Key} {v : V} (h : keyOf k = some a) (hv : RG H k v) : v = kV a := by
  cases k <;> simp [keyOf] at h
  · subst h; exact hv
  · subst h; exact hv.1
theorem RKs.val {kvs : List (G × G)} {ws : List (Key × V)} (h : RKs H kvs ws) {k : G} {a : Key} (hk : keyOf k = some a) :
    (dget kvs k = none → valV ws a = none) ∧ ∀ x, dget kvs k = some x → ∃ v, valV ws a = some v ∧ RG H x v := by
  induction kvs generalizing ws with
  | nil => cases h; exact ⟨fun _ => rfl, fun x e => by simp [dget] at e⟩
  | cons p r ih =>
    obtain ⟨j, x⟩ := p
    obtain ⟨b, v, t, rfl, h1, h2, h3⟩ := h
    have ih := ih h3
    by_cases e : j = k
    · subst e
      have : b = a := by
        have h1 : keyOf j = some b := h1
        rw [hk] at h1; cases h1; rfl
      subst this
      refine ⟨fun z => by simp [dget] at z, fun y z => ?_⟩
      simp [dget] at z
      subst z
      exact ⟨v, valV_pos rfl, h2⟩
    · have ne : ¬ b = a := fun z => by
        subst z
        exact e (keyOf_inj h1 hk)
      simp only [dget, e, if_false]
      rw [valV_neg (p := (b, v)) ne]
      exact ih
theorem RKs.put {kvs : List (G × G)} {ws : List (Key × V)} (h : RKs H kvs ws) {k x : G} {a : Key} {v : V} (hk : keyOf k = some a) (hx : RG H x v) (nd : (ws.map (·.1)).Nodup) : RKs H (dput kvs k x) (putK ws a v) := by
  induction kvs generalizing ws with
  | nil => cases h; exact ⟨a, v, [], rfl, hk, hx, rfl⟩
  | cons p r ih =>
    obtain ⟨j, y⟩ := p
    obtain ⟨b, u, t, rfl, h1, h2, h3⟩ := h
    have nd' : b ∉ t.map (·.1) ∧ (t.map (·.1)).Nodup := by simpa using nd
    by_cases e : j = k
    · subst e
      have e2 : b = a := by
        have h1 : keyOf j = some b := h1
        rw [hk] at h1; cases h1; rfl
      subst e2
      have hn : t.map (fun kv => if kv.1 = b then (kv.1, v) else kv) = t := by
        have : ∀ kv ∈ t, (fun kv : Key × V => if kv.1 = b then (kv.1, v) else kv) kv = kv := fun kv hkv => if_neg fun z => nd'.1 (List.mem_map.mpr ⟨kv, hkv, z⟩)
        exact PySem.map_eq_self this
      have : putK ((b, u) :: t) b v = (b, v) :: t := by
        unfold putK
        rw [if_pos (by simp)]
        simp [hn]
      rw [this]
      simp only [dput, if_true]
      exact ⟨b, v, t, rfl, h1, hx, h3⟩
    · have ne : ¬ b = a := fun z => by
        subst z
        exact e (keyOf_inj h1 hk)
      have : putK ((b, u) :: t) a v = (b, u) :: putK t a v := by
        unfold putK
        simp only [List.any_cons, ne, decide_false, Bool.false_or]
        split
        · simp [ne]
        · rfl
      rw [this]
      simp only [dput, e, if_false]
      exact ⟨b, u, putK t a v, rfl, h1, h2, ih h3 nd'.2⟩
noncomputable def rEqD (neg : Bool) : R2 := fun x y H Q => ∃ a b xs ys vs ws, x = .ref a ∧ y = .ref b ∧ Rd H a (.dK vs) ∧ Rd H b (.dK ws) ∧ RKs H xs vs ∧ RKs H ys ws ∧ (xs.all fun p => shal p.2) = true ∧ Q (.bl (if neg then !dictEq xs ys else dictEq xs ys)) H
theorem keq_hits (I : Inv X pins σ H s) {A : Around} (hu : A.units + 160 < cLine) {ys : List (G × G)} {ws : List (Key × V)} {zs : List (Key × Value)} (hy : RKs H ys ws) (kz : KV ws zs) :
    ∀ {xs : List (G × G)} {vs : List (Key × V)} {us : List (Key × Value)}, RKs H xs vs → KV vs us → (xs.all fun p => shal p.2) = true → PySem.W.KeqHits A s zs us (xs.all fun p => match dget ys p.1 with | some v => peq p.2 v | none => false)
  | [], _, _, h, k, _ => by cases h; cases k; exact .nil
  | p :: r, _, _, h, k, hs => by
    obtain ⟨j, x⟩ := p
    obtain ⟨b, v, t, rfl, h1, h2, h3⟩ := h
    simp only [List.all_cons, Bool.and_eq_true] at hs
    cases k with
    | @cons _ q _ us' kq kr =>
      obtain ⟨b', u⟩ := q
      obtain ⟨e1, e2⟩ := kq
      simp only at e1 e2
      subst e1
      have ih := keq_hits I hu hy kz h3 kr hs.2
      have hv := hy.val (k := j) h1
      cases e : dget ys j with
      | none =>
        have hn : valueAt zs b = none := RelO.none_of (by rw [← hv.1 e]; exact kz.val b)
        simp only [List.all_cons, e, Bool.false_and]
        exact .miss hn
      | some y =>
        obtain ⟨w', hw, hyw⟩ := hv.2 y e
        obtain ⟨z, ez, rz⟩ := RelO.some_of (by rw [← hw]; exact kz.val b)
        simp only [List.all_cons, e]
        exact .hit ez (RG.eqAt I hu h2 hyw hs.1 e2 rz) ih
theorem kv_len {vs : List (Key × V)} {us : List (Key × Value)} (k : KV vs us) : us.length = vs.length := (Paired.length k).symm
theorem op_eqD (hu : X.A.units + 170 < cLine) : OpR X (compareOp .Eq) (rEqD false) := by
  intro pins s σ H x y v u Q I rx ry h
  obtain ⟨a, b, xs, ys, vs, ws, rfl, rfl, ha, hb, hx, hy, hs, q⟩ := h
  cases rx
  cases ry
  obtain ⟨_, sa, us, ku, da⟩ := dk_rd I.hok ha
  obtain ⟨_, sb, zs, kz, db⟩ := dk_rd I.hok hb
  refine PySem.W.keq_eq sa sb da db (by omega) (fun _ => keq_hits I (by show X.A.units + 1 + 160 < cLine; omega) hy kz hx ku hs) ?_
  rw [kv_len ku, kv_len kz, hx.length, hy.length]
  exact ⟨.bl _, H, I, rfl, q⟩
theorem op_neD (hu : X.A.units + 170 < cLine) : OpR X (compareOp .NotEq) (rEqD true) := by
  intro pins s σ H x y v u Q I rx ry h
  obtain ⟨a, b, xs, ys, vs, ws, rfl, rfl, ha, hb, hx, hy, hs, q⟩ := h
  cases rx
  cases ry
  obtain ⟨_, sa, us, ku, da⟩ := dk_rd I.hok ha
  obtain ⟨_, sb, zs, kz, db⟩ := dk_rd I.hok hb
  refine PySem.W.keq_ne sa sb da db (by omega) (fun _ => keq_hits I (by show X.A.units + 1 + 160 < cLine; omega) hy kz hx ku hs) ?_
  rw [kv_len ku, kv_len kz, hx.length, hy.length]
  exact ⟨.bl _, H, I, rfl, q⟩

mutual
theorem peq_refl : ∀ x : G, peq x x = true
  | .non => rfl
  | .bl _ => by simp [peq]
  | .int _ => by simp [peq]
  | .str _ => by simp [peq]
  | .tup xs => by simp [peq, peqs_refl xs]
theorem peqs_refl : ∀ xs : List G, peqs xs xs = true
  | [] => rfl
  | x :: r => by simp [peqs, peq_refl x, peqs_refl r]
end
mutual
theorem RG.inj {H : Hp} : ∀ {x y : G} {v : V}, RG H x v → RG H y v → x = y
  | .non, y, _, h, k => by cases h; cases y <;> simp [RG] at k <;> rfl
  | .bl _, y, _, h, k => by cases h; cases y <;> simp [RG] at k; rw [k]
  | .int _, y, _, h, k => by cases h; cases y <;> simp [RG] at k; rw [k]
  | .str x, y, _, h, k => by
    obtain ⟨rfl, _⟩ := h
    cases y with
    | str z => rw [sOf_inj (V.str.inj k.1)]
    | tup z => obtain ⟨_, _, e, _⟩ := k; cases e
    | non => cases k
    | bl _ => cases k
    | int _ => cases k
  | .tup xs, y, _, h, k => by
    obtain ⟨a, vs, rfl, ha, hs⟩ := h
    cases y with
    | tup z =>
      obtain ⟨b, ws, e, hb, hz⟩ := k
      cases e
      rw [ha] at hb
      cases hb
      rw [RGs.inj hs hz]
    | str z => obtain ⟨e, _⟩ := k; cases e
    | non => cases k
    | bl _ => cases k
    | int _ => cases k
theorem RGs.inj {H : Hp} : ∀ {xs ys : List G} {vs : List V}, RGs H xs vs → RGs H ys vs → xs = ys
  | [], ys, _, h, k => by
    cases h
    cases ys with
    | nil => rfl
    | cons y t => obtain ⟨_, _, e, _⟩ := k; cases e
  | x :: r, ys, _, h, k => by
    obtain ⟨v, vs, rfl, h1, h2⟩ := h
    cases ys with
    | nil => cases k
    | cons y t =>
      obtain ⟨_, _, e, k1, k2⟩ := k
      cases e
      rw [RG.inj h1 k1, RGs.inj h2 k2]
end
theorem RKs.inj {H : Hp} : ∀ {xs ys : List (G × G)} {vs : List (Key × V)}, RKs H xs vs → RKs H ys vs → xs = ys
  | [], ys, _, h, k => by
    cases h
    cases ys with
    | nil => rfl
    | cons y t => obtain ⟨_, _, _, e, _⟩ := k; cases e
  | (a, x) :: r, ys, _, h, k => by
    obtain ⟨b, v, vs, rfl, h1, h2, h3⟩ := h
    cases ys with
    | nil => cases k
    | cons y t =>
      obtain ⟨c, y⟩ := y
      obtain ⟨_, _, _, e, k1, k2, k3⟩ := k
      cases e
      have e1 : a = c := keyOf_inj h1 k1
      have e2 : x = y := RG.inj h2 k2
      rw [e1, e2, RKs.inj h3 k3]
theorem RKs.keys {H : Hp} {xs : List (G × G)} {vs : List (Key × V)} (h : RKs H xs vs) (nd : (vs.map (·.1)).Nodup) : (xs.map (·.1)).Nodup := by
  induction xs generalizing vs with
  | nil => simp
  | cons p r ih =>
    obtain ⟨a, x⟩ := p
    obtain ⟨b, v, t, rfl, h1, h2, h3⟩ := h
    simp only [List.map_cons, List.nodup_cons] at nd ⊢
    refine ⟨fun hm => nd.1 ?_, ih h3 nd.2⟩
    clear ih nd
    induction r generalizing t with
    | nil => simp at hm
    | cons q r ih =>
      obtain ⟨c, y⟩ := q
      obtain ⟨d, w, t', rfl, k1, k2, k3⟩ := h3
      simp only [List.map_cons, List.mem_cons] at hm ⊢
      rcases hm with rfl | hm
      · left
        have h1 : keyOf a = some b := h1
        have k1 : keyOf a = some d := k1
        rw [h1] at k1
        exact Option.some.inj k1
      · right
        exact ih t' k3 hm
theorem dictEq_refl {xs : List (G × G)} (nd : (xs.map (·.1)).Nodup) : dictEq xs xs = true := by
  simp only [dictEq, beq_self_eq_true, Bool.true_and, List.all_eq_true]
  intro p hp
  have : dget xs p.1 = some p.2 := by
    induction xs with
    | nil => simp at hp
    | cons q r ih =>
      obtain ⟨k, v⟩ := q
      simp only [List.map_cons, List.nodup_cons] at nd
      rcases List.mem_cons.mp hp with rfl | hp
      · simp [dget]
      · have : k ≠ p.1 := fun z => nd.1 (List.mem_map.mpr ⟨p, hp, z.symm⟩)
        simp only [dget, this, if_false]
        exact ih nd.2 hp
  rw [this]
  exact peq_refl _
theorem dk_nodupR {P : Program} {w : World} {h : Heap} {a : Addr} {ws : List (Key × V)} (ok : HOk P w H h) (e : Rd H a (.dK ws)) : (ws.map (·.1)).Nodup := by
  obtain ⟨_, _, vs, rel, o, es, ep, _, _, _, _, hp, hn⟩ := dk_rd ok e
  have go : ∀ {ws : List (Key × V)} {vs : List (Key × Value)}, KV ws vs → ws.map (·.1) = vs.map (·.1) := fun {ws vs} rel => by
    unfold KV at rel
    induction rel with
    | nil => rfl
    | cons h1 _ ih => simp only [List.map_cons, h1.1, ih]
  rw [go rel]
  exact hn
end
end SN


set_option Elab.async false
set_option linter.all false
set_option maxRecDepth 100000
namespace SN
open PySem PySem.Spec PyProof.Rows L2 MP
variable [Wd]
section
variable {X : Cx} {pins : List (Addr × Obj)} {σ : L2.St} {H : Hp} {s : Shared}
theorem keyIs_inj {v : Value} {a b : Key} (ha : keyIs a v = true) (hb : keyIs b v = true) : a = b := by
  rcases keyIs_shape ha with ⟨i, t, rfl, rfl⟩ | ⟨x, t, rfl, rfl⟩
  · rcases keyIs_shape hb with ⟨j, u, rfl, e⟩ | ⟨y, u, rfl, e⟩
    · injection e with e1 _; rw [e1]
    · exact nomatch e
  · rcases keyIs_shape hb with ⟨j, u, rfl, e⟩ | ⟨y, u, rfl, e⟩
    · exact nomatch e
    · injection e with e1 _; rw [e1]
theorem pairs_any {P P' : Program} {w w' : World} : ∀ {es : List DictEntry} {kvs : List (Key × Value)}, Pairs (mixKind P w) es kvs → Pairs (mixKind P' w') es kvs
  | _, _, .nil => .nil
  | _, _, .cons h1 h2 h3 => .cons h1 h2 (pairs_any h3)
theorem pairs_key {P : Program} {w : World} : ∀ {es : List DictEntry} {kvs : List (Key × Value)}, Pairs (mixKind P w) es kvs → (∀ kv ∈ kvs, ∃ i, kv.1 = .inl i) → ∀ e ∈ es, ∃ i, keyIs (.inl i) e.key = true
  | _, _, .nil, _, e, h => by cases h
  | _, _, .cons h1 h2 h3, hi, e, h => by
    rcases List.mem_cons.mp h with rfl | h
    · obtain ⟨i, ei⟩ := hi _ List.mem_cons_self
      exact ⟨i, by rw [← ei]; exact h1⟩
    · exact pairs_key h3 (fun kv hk => hi kv (List.mem_cons_of_mem _ hk)) e h
theorem dictOf_any {P P' : Program} {w w' : World} {h : Heap} {a : Addr} {kvs : List (Key × Value)} (d : h.DictOf (mixKind P w) a kvs) (hi : ∀ kv ∈ kvs, ∃ i, kv.1 = .inl i) : h.DictOf (mixKind P' w') a kvs := by
  obtain ⟨o, es, ep, ho, hc, hd, hk, hp, hn⟩ := d
  refine ⟨o, es, ep, ho, hc, hd, fun e he => ?_, pairs_any hp, hn⟩
  obtain ⟨k, h1, h2⟩ := hk e he
  obtain ⟨i, h3⟩ := pairs_key hp hi e (by simpa using he)
  have : k = .inl i := keyIs_inj h1 h3
  subst this
  exact ⟨.inl i, h3, h2⟩
theorem ints_of {xs : List (G × G)} {ws : List (Key × V)} (h : RKs H xs ws) (hi : intKeys xs = true) : ∀ kv ∈ ws, ∃ i, kv.1 = Sum.inl i := by
  induction xs generalizing ws with
  | nil => cases h; intro kv hk; cases hk
  | cons p r ih =>
    obtain ⟨j, x⟩ := p
    obtain ⟨b, v, t, rfl, h1, h2, h3⟩ := h
    simp only [intKeys, List.all_cons, Bool.and_eq_true] at hi
    intro kv hk
    rcases List.mem_cons.mp hk with rfl | hk
    · cases j with
      | int i => cases h1; exact ⟨i, rfl⟩
      | _ => cases hi.1
    · exact ih h3 hi.2 kv hk
theorem kv_ints {ws : List (Key × V)} {us : List (Key × Value)} (k : KV ws us) (hi : ∀ kv ∈ ws, ∃ i, kv.1 = Sum.inl i) : ∀ kv ∈ us, ∃ i, kv.1 = Sum.inl i := by
  intro kv hk
  have : kv.1 ∈ us.map (·.1) := List.mem_map.mpr ⟨kv, hk, rfl⟩
  rw [← k.keys] at this
  obtain ⟨q, hq, e⟩ := List.mem_map.mp this
  obtain ⟨i, ei⟩ := hi q hq
  exact ⟨i, by rw [← e, ei]⟩
noncomputable def DEq (H : Hp) (v w : V) (b : Bool) : Prop := ∃ p q xs ys us zs, v = .ref p ∧ w = .ref q ∧ Rd H p (.dK us) ∧ Rd H q (.dK zs) ∧ RKs H xs us ∧ RKs H ys zs ∧ (xs.all fun p => shal p.2) = true ∧ intKeys xs = true ∧ intKeys ys = true ∧ b = dictEq xs ys
theorem Rd.eq {a : Addr} {u v : HO} (h1 : Rd H a u) (h2 : Rd H a v) (nu : ∀ o x, u ≠ .frz o x) (nv : ∀ o x, v ≠ .frz o x) : u = v := by
  rcases h1 with h1 | ⟨o, h1⟩ <;> rcases h2 with h2 | ⟨o', h2⟩ <;> rw [h1] at h2 <;> cases h2
  · rfl
  · exact absurd rfl (nu _ _)
  · exact absurd rfl (nv _ _)
  · rfl
theorem DEq.at (I : Inv X pins σ H s) {A : Around} (hu : A.units + 162 < cLine) {v w : V} {u z : Value} {b : Bool} (h : DEq H v w b) (rv : RelV v u) (rw' : RelV w z) : SeqAt.EqAt A s u z b := by
  obtain ⟨p, q, xs, ys, us, zs, rfl, rfl, h1, h2, h3, h4, h5, h6, h7, rfl⟩ := h
  cases rv
  cases rw'
  by_cases hpq : p = q
  · subst hpq
    have e := Rd.eq h1 h2 (fun _ _ z => by cases z) (fun _ _ z => by cases z)
    cases e
    have := RKs.inj h3 h4
    subst this
    rw [dictEq_refl (RKs.keys h3 (dk_nodupR I.hok h1))]
    exact SeqAt.EqAt.same _
  · refine SeqAt.EqAt.of_refs hpq fun prog w E Q hq => ?_
    obtain ⟨_, sa, ua, ka, da⟩ := dk_rd I.hok h1
    obtain ⟨_, sb, ub, kb, db⟩ := dk_rd I.hok h2
    have d1 := dictOf_any (P' := prog) (w' := w) da (kv_ints ka (ints_of h3 h6))
    have d2 := dictOf_any (P' := prog) (w' := w) db (kv_ints kb (ints_of h4 h7))
    refine PySem.W.keq_eq sa sb d1 d2 (by omega) (fun _ => keq_hits I (by show A.units + 1 + 160 < cLine; omega) h4 kb h3 ka h5) ?_
    rw [kv_len ka, kv_len kb, h3.length, h4.length]
    exact hq
inductive DEqs (H : Hp) : List V → List V → List Bool → Prop where
  | nil : DEqs H [] [] []
  | cons {v w : V} {vs ws : List V} {b : Bool} {bs : List Bool} : DEq H v w b → DEqs H vs ws bs → DEqs H (v :: vs) (w :: ws) (b :: bs)
theorem DEqs.at (I : Inv X pins σ H s) {A : Around} (hu : A.units + 162 < cLine) : ∀ {vs ws : List V} {bs : List Bool} {us zs : List Value}, DEqs H vs ws bs → Vals vs us → Vals ws zs →
    us.length = bs.length ∧ zs.length = bs.length ∧ ∀ j (h1 : j < us.length) (h2 : j < zs.length), SeqAt.EqAt A s us[j] zs[j] (bs.getD j true)
  | _, _, _, _, _, .nil, .nil, .nil => ⟨rfl, rfl, fun j h1 => absurd h1 (Nat.not_lt_zero _)⟩
  | _, _, _, _, _, .cons d t, .cons r1 t1, .cons r2 t2 => by
    obtain ⟨l1, l2, q⟩ := DEqs.at I hu t t1 t2
    refine ⟨by simp [l1], by simp [l2], fun j h1 h2 => ?_⟩
    cases j with
    | zero => exact d.at I hu r1 r2
    | succ j => exact q j (by simpa using h1) (by simpa using h2)
end
end SN


set_option Elab.async false
set_option linter.all false
set_option maxRecDepth 100000
namespace SN
open PySem PySem.Spec PyProof.Rows L2 MP
variable [Wd]

theorem at_atI {α : Type} (xs : List α) (i : Int) : at? xs i = atI xs i := rfl
theorem big_le : big ≤ sizeLine := by rw [sizeLine_eq]; decide
theorem thousand_le {n : Nat} (h : n ≤ 1000) : n ≤ sizeLine := Nat.le_trans h (by rw [sizeLine_eq]; decide)

theorem RGs.atI {H : Hp} {xs : List G} {vs : List V} {i : Int} {x : G} (h : RGs H xs vs) (e : L2.atI xs i = some x) : ∃ v, L2.atI vs i = some v ∧ RG H x v := by
  unfold L2.atI at e ⊢
  rw [h.length]
  cases q : ixN xs.length i with
  | none => rw [q] at e; cases e
  | some j =>
    rw [q] at e
    exact h.get e
theorem RRs.atI {H : Hp} {ρ : Nat → Addr} {n : Nat} {xs : List R} {vs : List V} {i : Int} {x : R} (h : RRs H ρ n xs vs) (e : L2.atI xs i = some x) : ∃ v, L2.atI vs i = some v ∧ RR H ρ n x v := by
  unfold L2.atI at e ⊢
  rw [h.length]
  cases q : ixN xs.length i with
  | none => rw [q] at e; cases e
  | some j =>
    rw [q] at e
    exact h.get e

theorem Fin.same {ρ : Nat → Addr} {σ : Store} {H : Hp} {r : R} {Q : VK} {v : V} (f : Fin ρ σ.length H r σ Q) (S : SR H ρ σ) (h : RR H ρ σ.length r v) : Q v H := f ρ v H (Ext.refl _ _ _) S h
theorem Fin.new {ρ : Nat → Addr} {σ : Store} {H : Hp} {Q : VK} {c : Cell} {o : HO} {p : Addr} (f : Fin ρ σ.length H (.ref σ.length) (σ ++ [c]) Q) (S : SR H ρ σ) (hp : H p = none) (ht : ∀ vs, o ≠ .tup vs)
    (hc : ∀ H' ρ', TPk H H' → H' p = some o → ρ' σ.length = p → (∀ i, i < σ.length → ρ' i = ρ i) → RC H' ρ' σ.length c) : Q (.ref p) (upd H p o) := by
  obtain ⟨ρ', e1, e2, e3⟩ := S.push hp ht hc
  exact f ρ' (.ref p) _ e1 e2 ⟨by simp, by rw [e3]⟩

section
variable {X : Cx}

noncomputable def Ok2 (p : Prim) (rr : R2) : Prop := ∀ (ρ : Nat → Addr) (σ : Store) (H : Hp) (x y : R) (vx vy : V) (r : R) (σ' : Store) (Q : VK), SR H ρ σ → RR H ρ σ.length x vx → RR H ρ σ.length y vy → prim p [x, y] σ = .ok r σ' → Fin ρ σ.length H r σ' Q → rr vx vy H Q
noncomputable def OkN (p : Prim) (rr : List V → Hp → VK → Prop) : Prop := ∀ (ρ : Nat → Addr) (σ : Store) (H : Hp) (xs : List R) (vs : List V) (r : R) (σ' : Store) (Q : VK), SR H ρ σ → RRs H ρ σ.length xs vs → prim p xs σ = .ok r σ' → Fin ρ σ.length H r σ' Q → rr vs H Q

theorem two_int {p : Prim} {f : List R → Store → Res R} (hp : prim p = f) {rr : R2} (h : ∀ (ρ : Nat → Addr) (σ : Store) (H : Hp) (i j : Int) (r : R) (σ' : Store) (Q : VK), SR H ρ σ → f [.g (.int i), .g (.int j)] σ = .ok r σ' → Fin ρ σ.length H r σ' Q → rr (.int i) (.int j) H Q)
    (hs : ∀ x y σ, (∀ i j, x = R.g (.int i) → y = R.g (.int j) → False) → f [x, y] σ = .stuck) : Ok2 p rr := by
  intro ρ σ H x y vx vy r σ' Q S hx hy e q
  rw [hp] at e
  by_cases hi : ∃ i j, x = R.g (.int i) ∧ y = R.g (.int j)
  · obtain ⟨i, j, rfl, rfl⟩ := hi
    cases (show vx = .int i from hx)
    cases (show vy = .int j from hy)
    exact h ρ σ H i j r σ' Q S e q
  · rw [hs x y σ fun i j a b => hi ⟨i, j, a, b⟩] at e
    cases e
theorem ok_sub : Ok2 .sub (rI0 fun i j => .int (i - j)) := two_int (f := pSub) rfl (fun ρ σ H i j r σ' Q S e q => by cases e; exact ⟨i, j, rfl, rfl, q.same S rfl⟩) (fun x y σ h => by
  unfold pSub; split
  · rename_i e; simp at e; exact (h _ _ e.1 e.2).elim
  · rfl)
theorem ok_lt : Ok2 .lt (rI0 fun i j => .bl (decide (i < j))) := two_int (f := pLt) rfl (fun ρ σ H i j r σ' Q S e q => by cases e; exact ⟨i, j, rfl, rfl, q.same S rfl⟩) (fun x y σ h => by
  unfold pLt; split
  · rename_i e; simp at e; exact (h _ _ e.1 e.2).elim
  · rfl)
theorem ok_le : Ok2 .le (rI0 fun i j => .bl (decide (i ≤ j))) := two_int (f := pLe) rfl (fun ρ σ H i j r σ' Q S e q => by cases e; exact ⟨i, j, rfl, rfl, q.same S rfl⟩) (fun x y σ h => by
  unfold pLe; split
  · rename_i e; simp at e; exact (h _ _ e.1 e.2).elim
  · rfl)
theorem ok_gt : Ok2 .gt (rI0 fun i j => .bl (decide (j < i))) := two_int (f := pGt) rfl (fun ρ σ H i j r σ' Q S e q => by cases e; exact ⟨i, j, rfl, rfl, q.same S rfl⟩) (fun x y σ h => by
  unfold pGt; split
  · rename_i e; simp at e; exact (h _ _ e.1 e.2).elim
  · rfl)
theorem ok_ge : Ok2 .ge (rI0 fun i j => .bl (decide (j ≤ i))) := two_int (f := pGe) rfl (fun ρ σ H i j r σ' Q S e q => by cases e; exact ⟨i, j, rfl, rfl, q.same S rfl⟩) (fun x y σ h => by
  unfold pGe; split
  · rename_i e; simp at e; exact (h _ _ e.1 e.2).elim
  · rfl)
theorem ok_mul : Ok2 .mul (rI CMul fun i j => .int (i * j)) := two_int (f := pMul) rfl (fun ρ σ H i j r σ' Q S e q => by
    unfold pMul at e
    simp only at e
    split at e
    · rename_i c; cases e; exact ⟨i, j, rfl, rfl, c, q.same S rfl⟩
    · cases e) (fun x y σ h => by
  unfold pMul; split
  · rename_i e; simp at e; exact (h _ _ e.1 e.2).elim
  · rfl)
theorem ok_fdiv : Ok2 .fdiv (rI CDiv fun i j => .int (i / j)) := two_int (f := pFdiv) rfl (fun ρ σ H i j r σ' Q S e q => by
    unfold pFdiv at e
    simp only at e
    split at e
    · rename_i c; cases e; exact ⟨i, j, rfl, rfl, c, q.same S rfl⟩
    · cases e) (fun x y σ h => by
  unfold pFdiv; split
  · rename_i e; simp at e; exact (h _ _ e.1 e.2).elim
  · rfl)
theorem ok_mod : Ok2 .mod (rI (fun _ j => 0 < j) fun i j => .int (i % j)) := two_int (f := pMod) rfl (fun ρ σ H i j r σ' Q S e q => by
    unfold pMod at e
    simp only at e
    split at e
    · rename_i c; cases e; exact ⟨i, j, rfl, rfl, c, q.same S rfl⟩
    · cases e) (fun x y σ h => by
  unfold pMod; split
  · rename_i e; simp at e; exact (h _ _ e.1 e.2).elim
  · rfl)

noncomputable def rAddS : R2 := fun x y H Q => ∃ i j, x = .str i ∧ y = .str j ∧ i.length + j.length ≤ sizeLine ∧ Q (.str (i ++ j)) H
noncomputable def rCatT0 (K : PySem.W.Frag) : R2 := fun x y H Q => ∃ a b ys, x = .ref a ∧ y = .ref b ∧ SqT K H a [] ∧ SqT K H b ys ∧ Q (.ref b) H
theorem op_catT0 : OpR X (binaryOp .Add) (rCatT0 X.K) := by
  intro pins s σ H x y v u Q I rx ry h
  obtain ⟨a, b, ys, rfl, rfl, ha, hb, q⟩ := h
  cases rx
  cases ry
  obtain ⟨its, r1, p1, _⟩ := I.tuple ha
  obtain ⟨its2, r2, p2, _⟩ := I.tuple hb
  cases r1
  obtain ⟨⟨c1, d1, da1, sl1⟩, ho1, hc1, n1, hd1⟩ := id p1
  obtain ⟨⟨c2, d2, da2, sl2⟩, ho2, hc2, n2, hd2⟩ := id p2
  simp only at hc1 hd1 hc2 hd2
  subst hc1 hd1 hc2 hd2
  exact concat_meets ⟨_, ho1, rfl⟩ ⟨_, ho2, rfl⟩ noFill_tuple_add seq_tuple_add PySem.F.slot_tuple_add PySem.F.entry_tuple_add (PySem.F.args_tuple_add_2 _ _)
    (tuple_addW0 a b _ _ n1 n2 d1 d2 sl1 sl2 (by rfl)) ⟨ho1, ho2, ⟨.ref b, H, I, rfl, q⟩⟩
noncomputable def rAddAll (K : PySem.W.Frag) : R2 := fun x y H Q => (rI0 fun i j => .int (i + j)) x y H Q ∨ rAddS x y H Q ∨ rCatT K x y H Q ∨ rCat x y H Q ∨ rCatT0 K x y H Q
theorem op_addAll : OpR X (binaryOp .Add) (rAddAll X.K) := op_add.or (op_add_str.or (op_catT.or (op_cat.or op_catT0)))
theorem sOf_app (xs ys : List Nat) : sOf xs ++ sOf ys = sOf (xs ++ ys) := by
  unfold sOf
  show (⟨_ ++ _⟩ : Str) = _
  simp
theorem ok_add {K : PySem.W.Frag} : Ok2 .add (rAddAll K) := by
  intro ρ σ H x y vx vy r σ' Q S hx hy e q
  change pAdd [x, y] σ = _ at e
  cases x with
  | tr _ => simp [pAdd] at e
  | ref i =>
    cases y with
    | tr _ => simp [pAdd] at e
    | g _ => simp [pAdd] at e
    | ref j =>
      simp only [pAdd] at e
      split at e
      · rename_i xs ys e1 e2
        split at e
        · rename_i hl
          cases e
          obtain ⟨hi, rfl⟩ := hx
          obtain ⟨hj, rfl⟩ := hy
          obtain ⟨vs, h1, h2⟩ := S.cell i _ e1
          obtain ⟨ws, h3, h4⟩ := S.cell j _ e2
          refine .inr (.inr (.inr (.inl ⟨_, _, vs, ws, rfl, rfl, h1, h3, by rw [h2.length, h4.length]; exact Nat.le_trans hl big_le, fun p hp => ?_⟩)))
          exact q.new S hp (fun _ z => by cases z) fun H' ρ' tp e ep _ => ⟨_, by rw [ep]; exact e, (RGs.mono tp _ h2).append (RGs.mono tp _ h4)⟩
        · cases e
      · cases e
  | g gx =>
    cases y with
    | tr _ => cases gx <;> simp [pAdd] at e
    | ref _ => cases gx <;> simp [pAdd] at e
    | g gy =>
      cases gx with
      | non => simp [pAdd] at e
      | bl _ => simp [pAdd] at e
      | int i =>
        cases gy with
        | int j =>
          cases e
          cases (show vx = .int _ from hx)
          cases (show vy = .int _ from hy)
          exact .inl ⟨_, _, rfl, rfl, q.same S rfl⟩
        | _ => simp [pAdd] at e
      | str xs =>
        cases gy with
        | str ys =>
          simp only [pAdd] at e
          split at e
          · rename_i hl
            cases e
            obtain ⟨rfl, h1⟩ := hx
            obtain ⟨rfl, h2⟩ := hy
            refine .inr (.inl ⟨_, _, rfl, rfl, by rw [sOf_len, sOf_len]; exact Nat.le_trans hl big_le, ?_⟩)
            rw [sOf_app]
            exact q.same S ⟨rfl, okS_of (by rw [List.length_append]; exact Nat.le_trans hl (by decide)) (by rw [List.all_append, okS_all h1, okS_all h2]; rfl)⟩
          · cases e
        | _ => simp [pAdd] at e
      | tup xs =>
        cases gy with
        | tup ys =>
          simp only [pAdd] at e
          split at e
          · rename_i hl
            cases e
            obtain ⟨a, vs, rfl, ha, h1⟩ := hx
            obtain ⟨b, ws, rfl, hb, h2⟩ := hy
            have l1 := h1.length
            have l2 := h2.length
            by_cases he : vs = []
            · subst he
              have : xs = [] := List.length_eq_zero_iff.mp (by simpa using l1.symm)
              subst this
              exact .inr (.inr (.inr (.inr ⟨a, b, ws, rfl, rfl, .of ha, .of hb, q.same S ⟨b, ws, rfl, hb, h2⟩⟩)))
            refine .inr (.inr (.inl ⟨a, b, vs, ws, rfl, rfl, .of ha, .of hb, he, by rw [l1, l2]; exact Nat.le_trans hl big_le, fun z => ?_, fun z p hp => ?_⟩))
            · subst z
              have : ys = [] := List.length_eq_zero_iff.mp (by simpa using l2.symm)
              subst this
              rw [List.append_nil] at q
              exact q.same S ⟨a, vs, rfl, ha, h1⟩
            · obtain ⟨e1, e2, tp⟩ := S.tup hp (.tup (vs ++ ws))
              exact q ρ (.ref p) _ e1 e2 ⟨p, vs ++ ws, rfl, upd_same, (RGs.mono tp _ h1).append (RGs.mono tp _ h2)⟩
          · cases e
        | _ => simp [pAdd] at e

noncomputable def rEqAll (neg : Bool) : R2 := fun x y H Q => rEqG neg x y H Q ∨ rEqL neg x y H Q ∨ rEqD neg x y H Q
theorem op_eqAll (hu : X.A.units + 170 < cLine) : OpR X (compareOp .Eq) (rEqAll false) := (op_eqG (by omega)).or ((op_eqL (by omega)).or (op_eqD hu))
theorem op_neAll (hu : X.A.units + 170 < cLine) : OpR X (compareOp .NotEq) (rEqAll true) := (op_neG (by omega)).or ((op_neL (by omega)).or (op_neD hu))

theorem SR.lst {H : Hp} {ρ : Nat → Addr} {σ : Store} (S : SR H ρ σ) {k : Nat} {xs : List G} (e : σ[k]? = some (.lst xs)) : ∃ vs, H (ρ k) = some (.lst vs) ∧ RGs H xs vs := S.cell k _ e
theorem SR.rdl {H : Hp} {ρ : Nat → Addr} {σ : Store} (S : SR H ρ σ) {k : Nat} {xs : List G} (e : σ[k]? = some (.rdl xs)) : ∃ vs, Rd H (ρ k) (.lst vs) ∧ RGs H xs vs := S.cell k _ e
theorem SR.rls {H : Hp} {ρ : Nat → Addr} {σ : Store} (S : SR H ρ σ) {k : Nat} {xs : List R} (e : σ[k]? = some (.rls xs)) : ∃ vs, H (ρ k) = some (.lst vs) ∧ RRs H ρ k xs vs := S.cell k _ e
theorem SR.dct {H : Hp} {ρ : Nat → Addr} {σ : Store} (S : SR H ρ σ) {k : Nat} {xs : List (G × G)} (e : σ[k]? = some (.dct xs)) : ∃ ws, H (ρ k) = some (.dK ws) ∧ RKs H xs ws := let ⟨ws, h1, h2, _⟩ := S.cell k _ e; ⟨ws, h1, h2⟩
theorem SR.dctN {H : Hp} {ρ : Nat → Addr} {σ : Store} (S : SR H ρ σ) {k : Nat} {xs : List (G × G)} (e : σ[k]? = some (.dct xs)) : ∃ ws, H (ρ k) = some (.dK ws) ∧ RKs H xs ws ∧ (ws.map (·.1)).Nodup := S.cell k _ e
theorem SR.rdd {H : Hp} {ρ : Nat → Addr} {σ : Store} (S : SR H ρ σ) {k : Nat} {xs : List (G × G)} (e : σ[k]? = some (.rdd xs)) : ∃ ws o, H (ρ k) = some (.frz o (.dK ws)) ∧ RKs H xs ws := let ⟨ws, o, h1, h2, _⟩ := S.cell k _ e; ⟨ws, o, h1, h2⟩
theorem SR.rddN {H : Hp} {ρ : Nat → Addr} {σ : Store} (S : SR H ρ σ) {k : Nat} {xs : List (G × G)} (e : σ[k]? = some (.rdd xs)) : ∃ ws o, H (ρ k) = some (.frz o (.dK ws)) ∧ RKs H xs ws ∧ (ws.map (·.1)).Nodup := S.cell k _ e
theorem SR.dR {H : Hp} {ρ : Nat → Addr} {σ : Store} (S : SR H ρ σ) {k : Nat} {xs : List (G × G)} (e : σ[k]? = some (.dct xs) ∨ σ[k]? = some (.rdd xs)) : ∃ ws, Rd H (ρ k) (.dK ws) ∧ RKs H xs ws := by
  rcases e with e | e
  · obtain ⟨ws, h1, h2⟩ := S.dct e
    exact ⟨ws, .inl h1, h2⟩
  · obtain ⟨ws, o, h1, h2⟩ := S.rdd e
    exact ⟨ws, .inr ⟨o, h1⟩, h2⟩
theorem SR.lR {H : Hp} {ρ : Nat → Addr} {σ : Store} (S : SR H ρ σ) {k : Nat} {xs : List G} (e : σ[k]? = some (.lst xs) ∨ σ[k]? = some (.rdl xs)) : ∃ vs, Rd H (ρ k) (.lst vs) ∧ RGs H xs vs := by
  rcases e with e | e
  · obtain ⟨ws, h1, h2⟩ := S.lst e
    exact ⟨ws, .inl h1, h2⟩
  · exact S.rdl e
theorem cellEq_inv {c d : Cell} {b : Bool} (h : cellEq c d = some b) :
    (∃ xs ys, (c = .lst xs ∨ c = .rdl xs) ∧ (d = .lst ys ∨ d = .rdl ys) ∧ xs.all shal = true ∧ b = peqs xs ys) ∨
    (∃ xs ys, (c = .dct xs ∨ c = .rdd xs) ∧ (d = .dct ys ∨ d = .rdd ys) ∧ (xs.all fun p => shal p.2) = true ∧ b = dictEq xs ys) := by
  cases c <;> cases d <;> simp only [cellEq] at h <;> first
    | (cases h; done)
    | (split at h
       · rename_i c1
         cases h
         first
           | exact .inl ⟨_, _, by simp, by simp, c1, rfl⟩
           | exact .inr ⟨_, _, by simp, by simp, c1, rfl⟩
       · cases h)
theorem reqv_ok {ρ : Nat → Addr} {σ : Store} {H : Hp} {x y : R} {vx vy : V} {b : Bool} {neg : Bool} {Q : VK} (S : SR H ρ σ) (hx : RR H ρ σ.length x vx) (hy : RR H ρ σ.length y vy) (e : reqv σ x y = some b)
    (q : Q (.bl (if neg then !b else b)) H) : rEqAll neg vx vy H Q := by
  cases x with
  | tr _ => simp [reqv] at e
  | g gx =>
    cases y with
    | tr _ => simp [reqv] at e
    | ref _ => simp [reqv] at e
    | g gy =>
      simp only [reqv] at e
      split at e
      · rename_i c
        cases e
        exact .inl ⟨gx, gy, hx, hy, c, q⟩
      · cases e
  | ref i =>
    cases y with
    | tr _ => simp [reqv] at e
    | g _ => simp [reqv] at e
    | ref j =>
      obtain ⟨hi, rfl⟩ := hx
      obtain ⟨hj, rfl⟩ := hy
      simp only [reqv] at e
      split at e
      · rename_i c d e1 e2
        split at e
        · rename_i b' ec
          cases e
          rcases cellEq_inv ec with ⟨xs, ys, hc, hd, hs, rfl⟩ | ⟨xs, ys, hc, hd, hs, rfl⟩
          · obtain ⟨vs, h1, h2⟩ := S.lR (k := i) (xs := xs) (by rcases hc with z | z <;> subst z <;> first | exact .inl e1 | exact .inr e1)
            obtain ⟨ws, h3, h4⟩ := S.lR (k := j) (xs := ys) (by rcases hd with z | z <;> subst z <;> first | exact .inl e2 | exact .inr e2)
            exact .inr (.inl ⟨_, _, xs, ys, vs, ws, rfl, rfl, h1, h3, h2, h4, hs, q⟩)
          · obtain ⟨vs, h1, h2⟩ := S.dR (k := i) (xs := xs) (by rcases hc with z | z <;> subst z <;> first | exact .inl e1 | exact .inr e1)
            obtain ⟨ws, h3, h4⟩ := S.dR (k := j) (xs := ys) (by rcases hd with z | z <;> subst z <;> first | exact .inl e2 | exact .inr e2)
            exact .inr (.inr ⟨_, _, xs, ys, vs, ws, rfl, rfl, h1, h3, h2, h4, hs, q⟩)
        · cases e
      · cases e
end
end SN


set_option Elab.async false
set_option linter.all false
set_option maxRecDepth 100000
namespace SN
open PySem PySem.Spec PyProof.Rows L2 MP
variable [Wd]

noncomputable abbrev E1 (cl : CallH) (t : MP.Tm) : TE := TEv (ev cl false t)
noncomputable abbrev T1 (cl : CallH) (t : MP.Tm) : TT := TTv (ev cl true t)
noncomputable abbrev A1 (cl : CallH) (as : Tms) : TA := TAv (evs cl as)

theorem truR_f_inv {r r' : R} {σ σ' : Store} (h : truR false r σ = .ok r' σ') : r = r' ∧ σ = σ' := by cases h; exact ⟨rfl, rfl⟩
theorem op_inv {cl : CallH} {p : Prim} {as : Tms} {ε : MP.Env} {σ σ' : Store} {r : R} (h : ev cl false (.op p as) ε σ = .ok r σ') : ∃ xs σ1, evs cl as ε σ = .ok xs σ1 ∧ prim p xs σ1 = .ok r σ' := by
  rw [ev] at h
  obtain ⟨xs, σ1, e1, h⟩ := bind_inv h
  obtain ⟨r', σ2, e2, h⟩ := bind_inv h
  obtain ⟨rfl, rfl⟩ := truR_f_inv h
  exact ⟨xs, σ1, e1, e2⟩
theorem call_inv {cl : CallH} {f : String} {as : Tms} {ε : MP.Env} {σ σ' : Store} {r : R} (h : ev cl false (.call f as) ε σ = .ok r σ') : ∃ xs σ1, evs cl as ε σ = .ok xs σ1 ∧ cl f xs σ1 = .ok r σ' := by
  rw [ev] at h
  obtain ⟨xs, σ1, e1, h⟩ := bind_inv h
  obtain ⟨r', σ2, e2, h⟩ := bind_inv h
  obtain ⟨rfl, rfl⟩ := truR_f_inv h
  exact ⟨xs, σ1, e1, e2⟩
theorem meth_inv {cl : CallH} {p : Prim} {a : MP.Tm} {as : Tms} {ε : MP.Env} {σ σ' : Store} {r : R} (h : ev cl false (.meth p a as) ε σ = .ok r σ') :
    ∃ x σ1 xs σ2, ev cl false a ε σ = .ok x σ1 ∧ recvOk p x σ1 = true ∧ evs cl as ε σ1 = .ok xs σ2 ∧ prim p (x :: xs) σ2 = .ok r σ' := by
  rw [ev] at h
  obtain ⟨x, σ1, e1, h⟩ := bind_inv h
  split at h
  · rename_i hr
    obtain ⟨xs, σ2, e2, h⟩ := bind_inv h
    obtain ⟨r', σ3, e3, h⟩ := bind_inv h
    obtain ⟨rfl, rfl⟩ := truR_f_inv h
    exact ⟨x, σ1, xs, σ2, e1, hr, e2, e3⟩
  · cases h
theorem evs_cons_inv {cl : CallH} {a : MP.Tm} {as : Tms} {ε : MP.Env} {σ σ' : Store} {xs : List R} (h : evs cl (.cons a as) ε σ = .ok xs σ') : ∃ x ys σ1, ev cl false a ε σ = .ok x σ1 ∧ evs cl as ε σ1 = .ok ys σ' ∧ xs = x :: ys := by
  rw [evs] at h
  obtain ⟨x, σ1, e1, h⟩ := bind_inv h
  obtain ⟨ys, σ2, e2, h⟩ := bind_inv h
  cases h
  exact ⟨x, ys, σ1, e1, e2, rfl⟩
theorem evs_nil_inv {cl : CallH} {ε : MP.Env} {σ σ' : Store} {xs : List R} (h : evs cl .nil ε σ = .ok xs σ') : xs = [] ∧ σ' = σ := by
  rw [evs] at h; cases h; exact ⟨rfl, rfl⟩

theorem Fin.after {ρ ρ2 : Nat → Addr} {n : Nat} {σ2 : Store} {H H2 : Hp} {r : R} {σ' : Store} {Q : VK} (q : Fin ρ n H r σ' Q) (ex : Ext ρ n H ρ2 σ2.length H2) (S : SR H2 ρ2 σ2) : Fin ρ2 σ2.length H2 r σ' Q :=
  fun ρ' v H' e S' rr => q ρ' v H' (ex.trans S e) S' rr

section
variable {cl : CallH}
theorem lift2 {a b : MP.Tm} {p : Prim} {rr : R2} (h : Ok2 p rr) (st : L2.St) (H : Hp) (Q : VK) (t : E1 cl (.op p (.cons a (.cons b .nil))) st H Q) : tOp rr (E1 cl a) (E1 cl b) st H Q := by
  obtain ⟨ρ, ε, σ, r, σ', hE, hS, e, q⟩ := t
  obtain ⟨xs, σ1, e1, e2⟩ := op_inv e
  obtain ⟨x, ys, σ2, e3, e4, rfl⟩ := evs_cons_inv e1
  obtain ⟨y, zs, σ3, e5, e6, rfl⟩ := evs_cons_inv e4
  obtain ⟨rfl, rfl⟩ := evs_nil_inv e6
  refine ⟨ρ, ε, σ, x, σ2, hE, hS, e3, fun ρ1 v1 H1 ex1 S1 r1 => ?_⟩
  refine ⟨ρ1, ε, σ2, y, σ1, hE.mono hS ex1, S1, e5, fun ρ2 v2 H2 ex2 S2 r2 => ?_⟩
  exact h ρ2 σ1 H2 x y v1 v2 r σ' Q S2 (RR.mono (ex2.tp S1) ex2.le ex2.ag x r1) r2 e2 (q.after (ex1.trans S1 ex2) S2)
theorem liftN {as : Tms} {p : Prim} {rr : List V → Hp → VK → Prop} (h : OkN p rr) (st : L2.St) (H : Hp) (Q : VK) (t : E1 cl (.op p as) st H Q) : tCB rr (A1 cl as) st H Q := by
  obtain ⟨ρ, ε, σ, r, σ', hE, hS, e, q⟩ := t
  obtain ⟨xs, σ1, e1, e2⟩ := op_inv e
  exact ⟨ρ, ε, σ, xs, σ1, hE, hS, e1, fun ρ1 vs H1 ex1 S1 r1 => h ρ1 σ1 H1 xs vs r σ' Q S1 r1 e2 (q.after ex1 S1)⟩
noncomputable def OkM (K : PySem.W.Frag) (T : String) (p : Prim) (rr : V → List V → Hp → VK → Prop) : Prop :=
  (∀ (ρ : Nat → Addr) (σ : Store) (H : Hp) (x : R) (v : V), SR H ρ σ → RR H ρ σ.length x v → recvOk p x σ = true → tyV K T v H) ∧
  ∀ (ρ : Nat → Addr) (σ : Store) (H : Hp) (x : R) (xs : List R) (v : V) (vs : List V) (r : R) (σ' : Store) (Q : VK), SR H ρ σ → RR H ρ σ.length x v → RRs H ρ σ.length xs vs → prim p (x :: xs) σ = .ok r σ' → Fin ρ σ.length H r σ' Q → rr v vs H Q
theorem liftM {K : PySem.W.Frag} {T : String} {a : MP.Tm} {as : Tms} {p : Prim} {rr : V → List V → Hp → VK → Prop} (h : OkM K T p rr) (st : L2.St) (H : Hp) (Q : VK) (t : E1 cl (.meth p a as) st H Q) : tBM K T rr (E1 cl a) (A1 cl as) st H Q := by
  obtain ⟨ρ, ε, σ, r, σ', hE, hS, e, q⟩ := t
  obtain ⟨x, σ1, xs, σ2, e1, hr, e2, e3⟩ := meth_inv e
  refine ⟨ρ, ε, σ, x, σ1, hE, hS, e1, fun ρ1 v1 H1 ex1 S1 r1 => ⟨h.1 ρ1 σ1 H1 x v1 S1 r1 hr, ?_⟩⟩
  refine ⟨ρ1, ε, σ1, xs, σ2, hE.mono hS ex1, S1, e2, fun ρ2 vs H2 ex2 S2 r2 => ?_⟩
  exact h.2 ρ2 σ2 H2 x xs v1 vs r σ' Q S2 (RR.mono (ex2.tp S1) ex2.le ex2.ag x r1) r2 e3 (q.after (ex1.trans S1 ex2) S2)
theorem liftM0 {K : PySem.W.Frag} {T : String} {a : MP.Tm} {p : Prim} {rr : V → List V → Hp → VK → Prop} (h : OkM K T p rr) (st : L2.St) (H : Hp) (Q : VK) (t : E1 cl (.meth p a .nil) st H Q) : tBM0 K T rr (E1 cl a) st H Q := by
  obtain ⟨ρ, ε, σ, r, σ', hE, hS, e, q⟩ := t
  obtain ⟨x, σ1, xs, σ2, e1, hr, e2, e3⟩ := meth_inv e
  obtain ⟨rfl, rfl⟩ := evs_nil_inv e2
  exact ⟨ρ, ε, σ, x, σ2, hE, hS, e1, fun ρ1 v1 H1 ex1 S1 r1 => ⟨h.1 ρ1 σ2 H1 x v1 S1 r1 hr, h.2 ρ1 σ2 H1 x [] v1 [] r σ' Q S1 r1 rfl e3 (q.after ex1 S1)⟩⟩
end

noncomputable def notStar : Expr → Bool
  | .Starred .. => false
  | _ => true
theorem starEach_cons {e : Expr} {es : List Expr} {env : PySem.Env} (h : notStar e = true) : starEach (e :: es) env = (false, eval e env) :: starEach es env := by
  cases e <;> first | rfl | (simp [notStar] at h)
theorem backTo_plain {pos : Pos} {env : PySem.Env} : ∀ {es : List Expr}, (es.all notStar) = true → (backTo pos (starEach es env)).any (·.1) = false
  | [], _ => rfl
  | e :: es, h => by
    simp only [List.all_cons, Bool.and_eq_true] at h
    rw [starEach_cons h.1]
    show (false || (backTo pos (starEach es env)).any (·.1)) = false
    rw [backTo_plain h.2]; rfl
inductive PEl (X : Cx) (cl : CallH) : List Expr → Tms → Prop where
  | nil : PEl X cl [] .nil
  | cons {e : Expr} {es : List Expr} {a : MP.Tm} {as : Tms} : notStar e = true → PE X e (E1 cl a) → PEl X cl es as → PEl X cl (e :: es) (.cons a as)
theorem PEl.stars {X : Cx} {cl : CallH} {es : List Expr} {as : Tms} (h : PEl X cl es as) : es.all notStar = true := by
  induction h with
  | nil => rfl
  | cons h1 _ _ ih => simp [h1, ih]
theorem PEl.pa {X : Cx} {cl : CallH} {es : List Expr} {as : Tms} (h : PEl X cl es as) : PA X es (A1 cl as) := by
  induction h with
  | nil =>
    refine PA.imp pa_nil fun st H Q ⟨ρ, ε, σ, rs, σ', hE, hS, e, q⟩ => ?_
    obtain ⟨rfl, rfl⟩ := evs_nil_inv e
    exact q ρ [] H (Ext.refl _ _ _) hS rfl
  | @cons e es a as h1 h2 h3 ih =>
    refine PA.imp (pa_cons h2 ih (starEach_cons h1)) fun st H Q ⟨ρ, ε, σ, rs, σ', hE, hS, e, q⟩ => ?_
    obtain ⟨x, ys, σ1, e1, e2, rfl⟩ := evs_cons_inv e
    refine ⟨ρ, ε, σ, x, σ1, hE, hS, e1, fun ρ1 v1 H1 ex1 S1 r1 => ?_⟩
    refine ⟨ρ1, ε, σ1, ys, σ', hE.mono hS ex1, S1, e2, fun ρ2 vs H2 ex2 S2 r2 => ?_⟩
    exact q ρ2 (v1 :: vs) H2 (ex1.trans S1 ex2) S2 ⟨v1, vs, rfl, RR.mono (ex2.tp S1) ex2.le ex2.ag x r1, r2⟩
end SN


set_option Elab.async false
set_option linter.all false
set_option maxRecDepth 100000
namespace SN
open PySem PySem.Spec PyProof.Rows L2 MP
variable [Wd]
section
variable {X : Cx}

theorem ok_eq : Ok2 .eq (fun x y H Q => rEqAll false x y H Q) := by
  intro ρ σ H x y vx vy r σ' Q S hx hy e q
  change pEq [x, y] σ = _ at e
  simp only [pEq] at e
  cases c : reqv σ x y with
  | none => rw [c] at e; cases e
  | some b =>
    rw [c] at e
    cases e
    exact reqv_ok (neg := false) S hx hy c (q.same S rfl)
theorem ok_ne : Ok2 .ne (fun x y H Q => rEqAll true x y H Q) := by
  intro ρ σ H x y vx vy r σ' Q S hx hy e q
  change pNe [x, y] σ = _ at e
  simp only [pNe] at e
  cases c : reqv σ x y with
  | none => rw [c] at e; cases e
  | some b =>
    rw [c] at e
    cases e
    exact reqv_ok (neg := true) S hx hy c (q.same S rfl)

noncomputable def rInD (neg : Bool) : R2 := fun y x H Q => ∃ a o, x = .ref a ∧ DGet H a y o ∧ Q (.bl (if neg then !o.isSome else o.isSome)) H
theorem op_inD (hu : X.A.units + 1 < cLine) : OpR X (compareOp .In) (rInD false) := by
  intro pins s σ H y x v u Q I ry rx h
  obtain ⟨a, o, rfl, g, q⟩ := h
  cases rx
  exact d_in hu I g ry fun s' I' => ⟨.bl _, H, I', rfl, q⟩
theorem op_notinD (hu : X.A.units + 1 < cLine) : OpR X (compareOp .NotIn) (rInD true) := by
  intro pins s σ H y x v u Q I ry rx h
  obtain ⟨a, o, rfl, g, q⟩ := h
  cases rx
  exact d_notIn hu I g ry fun s' I' => ⟨.bl _, H, I', rfl, q⟩
theorem dget_of {H : Hp} {a : Addr} {kvs : List (G × G)} {ws : List (Key × V)} {x : G} {vx : V} (h1 : Rd H a (.dK ws)) (h2 : RKs H kvs ws) (hk : isKey x = true) (hx : RG H x vx) :
    ∃ o, DGet H a vx o ∧ ((dget kvs x = none ∧ o = none) ∨ ∃ y v, dget kvs x = some y ∧ o = some v ∧ RG H y v) := by
  obtain ⟨k, ek⟩ := isKey_keyOf hk
  have ev := keyOf_rep ek hx
  have hv := h2.val ek
  refine ⟨valV ws k, .inl ⟨ws, k, h1, ev, rfl⟩, ?_⟩
  cases e : dget kvs x with
  | none => exact .inl ⟨rfl, hv.1 e⟩
  | some y =>
    obtain ⟨v, e1, e2⟩ := hv.2 y e
    exact .inr ⟨y, v, rfl, e1, e2⟩
open Classical in
noncomputable def eqW (H : Hp) (gx : G) (u : Value) : Bool := if h : ∃ g v, RelV v u ∧ RG H g v then peq (Classical.choose h) gx else false
theorem eqW_is {H : Hp} {gx g : G} {v : V} {u : Value} (r : RelV v u) (h : RG H g v) : eqW H gx u = peq g gx := by
  have ex : ∃ g v, RelV v u ∧ RG H g v := ⟨g, v, r, h⟩
  unfold eqW
  rw [dif_pos ex]
  obtain ⟨v', r', h'⟩ := Classical.choose_spec ex
  have : v' = v := r'.inj r
  subst this
  rw [RG.inj h' h]
theorem eqW_any {H : Hp} {gx : G} : ∀ {xs : List G} {vs : List V} {us : List Value}, RGs H xs vs → Vals vs us → us.any (eqW H gx) = xs.any fun y => peq y gx
  | [], _, _, h, r => by cases h; cases r; rfl
  | x :: xs, _, _, h, r => by
    obtain ⟨v, vs, rfl, h1, h2⟩ := h
    cases r with
    | cons r1 r2 => rw [List.any_cons, List.any_cons, eqW_is r1 h1, eqW_any h2 r2]
theorem eqW_at {pins : List (Addr × Obj)} {σ : L2.St} {H : Hp} {s : Shared} (I : Inv X pins σ H s) {A : Around} (hu : A.units + 160 < cLine) {gx : G} {vx : V} {ux : Value} (hx : RG H gx vx) (rx : RelV vx ux) :
    ∀ {xs : List G} {vs : List V} {us : List Value}, RGs H xs vs → Vals vs us → xs.all shal = true → ∀ u ∈ us, SeqAt.EqAt A s u ux (eqW H gx u)
  | [], _, _, h, r, _, u, hm => by cases h; cases r; simp at hm
  | x :: xs, _, _, h, r, hs, u, hm => by
    obtain ⟨v, vs, rfl, h1, h2⟩ := h
    simp only [List.all_cons, Bool.and_eq_true] at hs
    cases r with
    | cons r1 r2 =>
      rcases List.mem_cons.mp hm with rfl | hm
      · rw [eqW_is r1 h1]
        exact RG.eqAt I hu h1 hx hs.1 r1 rx
      · exact eqW_at I hu hx rx h2 r2 hs.2 u hm
noncomputable def rInG (neg : Bool) : R2 := fun x y H Q => ∃ gx p xs vs, RG H gx x ∧ y = .ref p ∧ (Rd H p (.lst vs) ∨ H p = some (.tup vs)) ∧ RGs H xs vs ∧ xs.all shal = true ∧ Q (.bl (if neg then !(xs.any fun y => peq y gx) else xs.any fun y => peq y gx)) H
theorem op_inG (hu : X.A.units + 170 < cLine) : OpR X (compareOp .In) (rInG false) := by
  intro pins s σ H x y v u Q I rx ry h
  obtain ⟨gx, p, xs, vs, hx, rfl, hp, hs, hl, q⟩ := h
  cases ry
  have hu' : X.A.in1.units + 160 < cLine := by show X.A.units + 1 + 160 < cLine; omega
  rcases hp with hp | hp
  · obtain ⟨_, its, n, rv, e⟩ := hp.ok I.hok
    refine SeqAt.in_listAt (eqW H gx) (items := its.toArray) ⟨_, e, rfl, n, rfl⟩ (fun w hw => eqW_at I hu' hx rx hs rv hl w (by simpa using hw)) ⟨.bl _, H, I, rfl, ?_⟩
    rw [show its.toArray.any (eqW H gx) = its.any (eqW H gx) by simp, eqW_any hs rv]
    exact q
  · obtain ⟨_, its, rv, pl⟩ := I.hok p _ hp
    refine SeqAt.in_tupleAt (eqW H gx) (items := its.toArray) pl (fun w hw => eqW_at I hu' hx rx hs rv hl w (by simpa using hw)) ⟨.bl _, H, I, rfl, ?_⟩
    rw [show its.toArray.any (eqW H gx) = its.any (eqW H gx) by simp, eqW_any hs rv]
    exact q
theorem op_notinG (hu : X.A.units + 170 < cLine) : OpR X (compareOp .NotIn) (rInG true) := by
  intro pins s σ H x y v u Q I rx ry h
  obtain ⟨gx, p, xs, vs, hx, rfl, hp, hs, hl, q⟩ := h
  cases ry
  have hu' : X.A.in1.units + 160 < cLine := by show X.A.units + 1 + 160 < cLine; omega
  rcases hp with hp | hp
  · obtain ⟨_, its, n, rv, e⟩ := hp.ok I.hok
    refine SeqAt.notIn_listAt (eqW H gx) (items := its.toArray) ⟨_, e, rfl, n, rfl⟩ (fun w hw => eqW_at I hu' hx rx hs rv hl w (by simpa using hw)) ⟨.bl _, H, I, rfl, ?_⟩
    rw [show its.toArray.any (eqW H gx) = its.any (eqW H gx) by simp, eqW_any hs rv]
    exact q
  · obtain ⟨_, its, rv, pl⟩ := I.hok p _ hp
    refine SeqAt.notIn_tupleAt (eqW H gx) (items := its.toArray) pl (fun w hw => eqW_at I hu' hx rx hs rv hl w (by simpa using hw)) ⟨.bl _, H, I, rfl, ?_⟩
    rw [show its.toArray.any (eqW H gx) = its.any (eqW H gx) by simp, eqW_any hs rv]
    exact q
noncomputable def rInAll (neg : Bool) : R2 := fun x y H Q => rInG neg x y H Q ∨ rInD neg x y H Q
theorem op_inAll (hu : X.A.units + 170 < cLine) : OpR X (compareOp .In) (rInAll false) := (op_inG hu).or (op_inD (by omega))
theorem op_notinAll (hu : X.A.units + 170 < cLine) : OpR X (compareOp .NotIn) (rInAll true) := (op_notinG hu).or (op_notinD (by omega))
theorem hasIn_ok {ρ : Nat → Addr} {σ : Store} {H : Hp} {x y : R} {vx vy : V} {b neg : Bool} {Q : VK} (S : SR H ρ σ) (hx : RR H ρ σ.length x vx) (hy : RR H ρ σ.length y vy) (e : hasIn σ x y = some b)
    (q : Q (.bl (if neg then !b else b)) H) : rInAll neg vx vy H Q := by
  cases x with
  | ref _ => cases y with
    | g gy => cases gy <;> simp [hasIn] at e
    | _ => simp [hasIn] at e
  | tr _ => cases y with
    | g gy => cases gy <;> simp [hasIn] at e
    | _ => simp [hasIn] at e
  | g gx =>
    cases y with
    | tr _ => simp [hasIn] at e
    | g gy =>
      cases gy with
      | tup ys =>
        simp only [hasIn] at e
        split at e
        · rename_i c
          cases e
          obtain ⟨a, vs, rfl, ha, h1⟩ := hy
          exact .inl ⟨gx, a, ys, vs, hx, rfl, .inr ha, h1, c, q⟩
        · cases e
      | _ => simp [hasIn] at e
    | ref i =>
      obtain ⟨hi, rfl⟩ := hy
      simp only [hasIn] at e
      split at e
      · rename_i ys e1
        split at e
        · rename_i c
          cases e
          obtain ⟨vs, h1, h2⟩ := S.lst e1
          exact .inl ⟨gx, _, ys, vs, hx, rfl, .inl (.inl h1), h2, c, q⟩
        · cases e
      · rename_i kvs e1
        split at e
        · rename_i c
          cases e
          obtain ⟨ws, h1, h2⟩ := S.dR (.inl e1)
          obtain ⟨o, g, z⟩ := dget_of h1 h2 c hx
          refine .inr ⟨_, o, rfl, g, ?_⟩
          have : o.isSome = (dget kvs gx).isSome := by
            rcases z with ⟨z, rfl⟩ | ⟨y, v, z, rfl, _⟩ <;> rw [z] <;> rfl
          rw [this]
          exact q
        · cases e
      · rename_i kvs e1
        split at e
        · rename_i c
          cases e
          obtain ⟨ws, h1, h2⟩ := S.dR (.inr e1)
          obtain ⟨o, g, z⟩ := dget_of h1 h2 c hx
          refine .inr ⟨_, o, rfl, g, ?_⟩
          have : o.isSome = (dget kvs gx).isSome := by
            rcases z with ⟨z, rfl⟩ | ⟨y, v, z, rfl, _⟩ <;> rw [z] <;> rfl
          rw [this]
          exact q
        · cases e
      · cases e
theorem ok_in : Ok2 .inn (rInAll false) := by
  intro ρ σ H x y vx vy r σ' Q S hx hy e q
  change pIn [x, y] σ = _ at e
  simp only [pIn] at e
  cases c : hasIn σ x y with
  | none => rw [c] at e; cases e
  | some b => rw [c] at e; cases e; exact hasIn_ok (neg := false) S hx hy c (q.same S rfl)
theorem ok_notin : Ok2 .notin (rInAll true) := by
  intro ρ σ H x y vx vy r σ' Q S hx hy e q
  change pNotIn [x, y] σ = _ at e
  simp only [pNotIn] at e
  cases c : hasIn σ x y with
  | none => rw [c] at e; cases e
  | some b => rw [c] at e; cases e; exact hasIn_ok (neg := true) S hx hy c (q.same S rfl)
noncomputable def rIxD : R2 := fun x y H Q => ∃ a v, x = .ref a ∧ DGet H a y (some v) ∧ Q v H
theorem ix_dict (hu : X.A.units + 1 < cLine) : IxR X rIxD := by
  intro value slice pins s σ H x y v u Q I rx ry h hs
  obtain ⟨a, z, rfl, g, q⟩ := h
  cases rx
  exact tail_any (dict_typeIs I g) PySem.F.slot_dict_getitem.lookup (d_getItem hu I g ry fun w' s' I' rw' => ⟨z, H, I', rw', q⟩) hs
noncomputable def rIxAll (K : PySem.W.Frag) : R2 := fun x y H Q => rIx K x y H Q ∨ rIxD x y H Q
theorem ix_all (hu : X.A.units + 1 < cLine) : IxR X (rIxAll X.K) := ix_seq.or (ix_dict hu)
theorem sOf_cps (x : List Nat) : (sOf x).cps.toList = x := by unfold sOf; simp
theorem ok_idx {K : PySem.W.Frag} : Ok2 .idx (rIxAll K) := by
  intro ρ σ H x y vx vy r σ' Q S hx hy e q
  change pIdx [x, y] σ = _ at e
  cases y with
  | ref _ => cases x with
    | g gx => cases gx <;> simp [pIdx] at e
    | _ => simp [pIdx] at e
  | tr _ => cases x with
    | g gx => cases gx <;> simp [pIdx] at e
    | _ => simp [pIdx] at e
  | g gy =>
    cases x with
    | g gx =>
      cases gx with
      | tup xs =>
        cases gy with
        | int i =>
          simp only [pIdx] at e
          obtain ⟨z, e1, e2⟩ := ofO_inv e
          cases e2
          obtain ⟨a, vs, rfl, ha, h1⟩ := hx
          cases (show vy = .int i from hy)
          obtain ⟨v, e3, e4⟩ := h1.atI e1
          exact .inl (.inr (.inl ⟨a, vs, i, v, rfl, rfl, .of ha, e3, q.same S e4⟩))
        | _ => simp [pIdx] at e
      | str xs =>
        cases gy with
        | int i =>
          simp only [pIdx] at e
          obtain ⟨c, e1, e2⟩ := ofO_inv e
          cases e2
          obtain ⟨rfl, h1⟩ := hx
          cases (show vy = .int i from hy)
          have hm : c < 1114112 := by
            have := okS_all h1
            rw [List.all_eq_true] at this
            have hc : c ∈ xs := by
              rw [at_atI] at e1
              obtain ⟨j, _, hj, _⟩ := atI_get e1
              exact List.mem_of_getElem? hj
            simpa using this c hc
          refine .inl (.inr (.inr ⟨_, i, c, rfl, rfl, by rw [sOf_len, sizeLine_eq]; exact okS_len h1, by rw [sOf_cps]; exact e1, ?_⟩))
          exact q.same S (v := .str ⟨#[c]⟩) ⟨rfl, okS_of (by simp) (by simpa using hm)⟩
        | _ => simp [pIdx] at e
      | _ => simp [pIdx] at e
    | tr xs =>
      cases gy with
      | int i =>
        simp only [pIdx] at e
        obtain ⟨z, e1, e2⟩ := ofO_inv e
        cases e2
        obtain ⟨a, vs, rfl, ha, h1⟩ := hx
        cases (show vy = .int i from hy)
        obtain ⟨v, e3, e4⟩ := h1.atI e1
        exact .inl (.inr (.inl ⟨a, vs, i, v, rfl, rfl, .of ha, e3, q.same S e4⟩))
      | _ => simp [pIdx] at e
    | ref k =>
      obtain ⟨hk, rfl⟩ := hx
      simp only [pIdx] at e
      split at e
      · rename_i xs i e1
        obtain ⟨z, e2, e3⟩ := ofO_inv e
        cases e3
        cases (show vy = .int i from hy)
        obtain ⟨vs, h1, h2⟩ := S.lst e1
        obtain ⟨v, e4, e5⟩ := h2.atI e2
        exact .inl (.inl ⟨_, vs, i, v, rfl, rfl, .of h1, e4, q.same S e5⟩)
      · rename_i xs i e1
        obtain ⟨z, e2, e3⟩ := ofO_inv e
        cases e3
        cases (show vy = .int i from hy)
        obtain ⟨vs, h1, h2⟩ := S.rdl e1
        obtain ⟨v, e4, e5⟩ := h2.atI e2
        exact .inl (.inl ⟨_, vs, i, v, rfl, rfl, .inl h1, e4, q.same S e5⟩)
      · rename_i xs i e1
        obtain ⟨z, e2, e3⟩ := ofO_inv e
        cases e3
        cases (show vy = .int i from hy)
        obtain ⟨vs, h1, h2⟩ := S.rls e1
        obtain ⟨v, e4, e5⟩ := h2.atI e2
        exact .inl (.inl ⟨_, vs, i, v, rfl, rfl, .of h1, e4, q.same S (RR.mono (fun _ _ h => h) (Nat.le_of_lt hk) (fun _ _ => rfl) _ e5)⟩)
      · rename_i kvs i e1
        split at e
        · rename_i c
          obtain ⟨z, e2, e3⟩ := ofO_inv e
          cases e3
          obtain ⟨ws, h1, h2⟩ := S.dR (.inl e1)
          obtain ⟨o, g, z'⟩ := dget_of h1 h2 c hy
          rcases z' with ⟨z', _⟩ | ⟨y, v, e4, rfl, e5⟩
          · rw [e2] at z'; cases z'
          · rw [e2] at e4; cases e4
            exact .inr ⟨_, v, rfl, g, q.same S e5⟩
        · cases e
      · rename_i kvs i e1
        split at e
        · rename_i c
          obtain ⟨z, e2, e3⟩ := ofO_inv e
          cases e3
          obtain ⟨ws, h1, h2⟩ := S.dR (.inr e1)
          obtain ⟨o, g, z'⟩ := dget_of h1 h2 c hy
          rcases z' with ⟨z', _⟩ | ⟨y, v, e4, rfl, e5⟩
          · rw [e2] at z'; cases z'
          · rw [e2] at e4; cases e4
            exact .inr ⟨_, v, rfl, g, q.same S e5⟩
        · cases e
      · cases e

theorem call_lenAll : CallR X (.builtin "len") (fun xs H Q => (∃ x n, xs = [x] ∧ LenV X.K x H n ∧ Q (.int n) H) ∨ ∃ a kvs, xs = [V.ref a] ∧ Rd H a (.dK kvs) ∧ Q (.int kvs.length) H) := by
  refine call_len.or ?_
  intro pins s σ H xs us Q I r h
  obtain ⟨a, kvs, rfl, ha, q⟩ := h
  obtain ⟨u, rfl, ru⟩ := vals1 r
  cases ru
  exact d_len I ha fun t s' I' => ⟨.int kvs.length, H, I', ⟨t, rfl⟩, q⟩
end
end SN


set_option Elab.async false
set_option linter.all false
set_option maxRecDepth 100000
namespace SN
open PySem PySem.Spec PyProof.Rows L2 MP
variable [Wd]
section
variable {X : Cx}
noncomputable abbrev rLen (K : PySem.W.Frag) : List V → Hp → VK → Prop := fun xs H Q => (∃ x n, xs = [x] ∧ LenV K x H n ∧ Q (.int n) H) ∨ ∃ a kvs, xs = [V.ref a] ∧ Rd H a (.dK kvs) ∧ Q (.int kvs.length) H
theorem rrs1 {H : Hp} {ρ : Nat → Addr} {n : Nat} {x : R} {vs : List V} (h : RRs H ρ n [x] vs) : ∃ v, vs = [v] ∧ RR H ρ n x v := by
  obtain ⟨v, r, rfl, h1, h2⟩ := h
  cases h2
  exact ⟨v, rfl, h1⟩
theorem rrs2 {H : Hp} {ρ : Nat → Addr} {n : Nat} {x y : R} {vs : List V} (h : RRs H ρ n [x, y] vs) : ∃ v w, vs = [v, w] ∧ RR H ρ n x v ∧ RR H ρ n y w := by
  obtain ⟨v, r, rfl, h1, h2⟩ := h
  obtain ⟨w, rfl, h3⟩ := rrs1 h2
  exact ⟨v, w, rfl, h1, h3⟩
theorem ok_len {K : PySem.W.Frag} : OkN .len (rLen K) := by
  intro ρ σ H xs vs r σ' Q S hx e q
  change pLen xs σ = _ at e
  match xs, hx, e with
  | [], _, e => simp [pLen] at e
  | _ :: _ :: _, _, e => simp [pLen] at e
  | [x], hx, e =>
    obtain ⟨v, rfl, hv⟩ := rrs1 hx
    simp only [pLen] at e
    obtain ⟨n, e1, e2⟩ := ofO_inv e
    cases e2
    have q' : Q (.int n) H := q.same S rfl
    cases x with
    | g gx =>
      cases gx with
      | tup ys =>
        cases e1
        obtain ⟨a, ws, rfl, ha, h1⟩ := hv
        exact .inl ⟨_, _, rfl, .inr ⟨ws, .of ha, rfl⟩, by rw [h1.length]; exact q'⟩
      | str ys =>
        cases e1
        obtain ⟨rfl, h1⟩ := hv
        exact .inl ⟨_, _, rfl, ⟨by rw [sOf_len, sizeLine_eq]; exact okS_len h1, rfl⟩, by rw [sOf_len]; exact q'⟩
      | _ => simp [lenOf] at e1
    | tr ys =>
      cases e1
      obtain ⟨a, ws, rfl, ha, h1⟩ := hv
      exact .inl ⟨_, _, rfl, .inr ⟨ws, .of ha, rfl⟩, by rw [h1.length]; exact q'⟩
    | ref k =>
      obtain ⟨hk, rfl⟩ := hv
      simp only [lenOf] at e1
      split at e1
      · rename_i ys e3
        cases e1
        obtain ⟨ws, h1, h2⟩ := S.lst e3
        exact .inl ⟨_, _, rfl, .inl ⟨ws, .of h1, rfl⟩, by rw [h2.length]; exact q'⟩
      · rename_i ys e3
        cases e1
        obtain ⟨ws, h1, h2⟩ := S.rdl e3
        exact .inl ⟨_, _, rfl, .inl ⟨ws, .inl h1, rfl⟩, by rw [h2.length]; exact q'⟩
      · rename_i ys e3
        cases e1
        obtain ⟨ws, h1, h2⟩ := S.rls e3
        exact .inl ⟨_, _, rfl, .inl ⟨ws, .of h1, rfl⟩, by rw [h2.length]; exact q'⟩
      · rename_i ys e3
        cases e1
        obtain ⟨ws, h1, h2⟩ := S.dR (.inl e3)
        exact .inr ⟨_, ws, rfl, h1, by rw [h2.length]; exact q'⟩
      · rename_i ys e3
        cases e1
        obtain ⟨ws, h1, h2⟩ := S.dR (.inr e3)
        exact .inr ⟨_, ws, rfl, h1, by rw [h2.length]; exact q'⟩
      · cases e1
      · cases e1
      · cases e1

theorem RR_mkTup {H : Hp} {ρ : Nat → Addr} {n : Nat} {xs : List R} {vs : List V} {a : Addr} (ha : H a = some (.tup vs)) (h : RRs H ρ n xs vs) : RR H ρ n (mkTup xs) (.ref a) := by
  unfold mkTup
  cases e : allG xs with
  | some gs => exact ⟨a, vs, rfl, ha, RRs.ofG e h⟩
  | none => exact ⟨a, vs, rfl, ha, h⟩
theorem ok_tup : OkN .tup (fun xs H Q => xs.length ≤ sizeLine ∧ ∀ p, H p = none → Q (.ref p) (upd H p (.tup xs))) := by
  intro ρ σ H xs vs r σ' Q S hx e q
  change pTup xs σ = _ at e
  unfold pTup at e
  split at e
  · rename_i hl
    cases e
    refine ⟨by rw [hx.length]; exact thousand_le hl, fun p hp => ?_⟩
    obtain ⟨e1, e2, tp⟩ := S.tup hp (.tup vs)
    exact q ρ (.ref p) _ e1 e2 (RR_mkTup upd_same (RRs.mono tp (Nat.le_refl _) (fun _ _ => rfl) _ hx))
  · cases e
theorem ok_lst : OkN .lst (fun xs H Q => xs.length ≤ sizeLine ∧ ∀ p, H p = none → Q (.ref p) (upd H p (.lst xs))) := by
  intro ρ σ H xs vs r σ' Q S hx e q
  change pLst xs σ = _ at e
  unfold pLst at e
  split at e
  · rename_i hl
    cases e
    refine ⟨by rw [hx.length]; exact thousand_le hl, fun p hp => ?_⟩
    refine q.new S hp (fun _ z => by cases z) fun H' ρ' tp e ep ag => ?_
    unfold mkLst
    cases c : allG xs with
    | some gs => exact ⟨vs, by rw [ep]; exact e, RGs.mono tp _ (RRs.ofG c hx)⟩
    | none => exact ⟨vs, by rw [ep]; exact e, RRs.mono tp (Nat.le_refl _) ag _ hx⟩
  · cases e

noncomputable abbrev rTupleOf (K : PySem.W.Frag) : List V → Hp → VK → Prop := fun xs H Q => ∃ p ys, xs = [.ref p] ∧ ((SqL K H p ys ∧ ∀ l, H l = none → Q (.ref l) (upd H l (.tup ys))) ∨ (SqT K H p ys ∧ Q (.ref p) H))
theorem ok_tupleOf {K : PySem.W.Frag} : OkN .tupleOf (rTupleOf K) := by
  intro ρ σ H xs vs r σ' Q S hx e q
  change pTupleOf xs σ = _ at e
  match xs, hx, e with
  | [], _, e => simp [pTupleOf] at e
  | _ :: _ :: _, _, e => simp [pTupleOf] at e
  | [x], hx, e =>
    obtain ⟨v, rfl, hv⟩ := rrs1 hx
    cases x with
    | tr _ => simp [pTupleOf] at e
    | g gx =>
      cases gx with
      | tup ys =>
        cases e
        obtain ⟨a, ws, rfl, ha, h1⟩ := hv
        exact ⟨a, ws, rfl, .inr ⟨.of ha, q.same S ⟨a, ws, rfl, ha, h1⟩⟩⟩
      | _ => simp [pTupleOf] at e
    | ref k =>
      obtain ⟨hk, rfl⟩ := hv
      simp only [pTupleOf] at e
      have go : ∀ ys ws, Rd H (ρ k) (.lst ws) → RGs H ys ws → Fin ρ σ.length H (.g (.tup ys)) σ Q → rTupleOf K [.ref (ρ k)] H Q := fun ys ws h1 h2 q => by
        refine ⟨_, ws, rfl, .inl ⟨.inl h1, fun p hp => ?_⟩⟩
        obtain ⟨e1, e2, tp⟩ := S.tup hp (.tup ws)
        exact q ρ (.ref p) _ e1 e2 ⟨p, ws, rfl, upd_same, RGs.mono tp _ h2⟩
      split at e
      · rename_i ys e3
        cases e
        obtain ⟨ws, h1, h2⟩ := S.lR (.inl e3)
        exact go ys ws h1 h2 q
      · rename_i ys e3
        cases e
        obtain ⟨ws, h1, h2⟩ := S.lR (.inr e3)
        exact go ys ws h1 h2 q
      · cases e
noncomputable abbrev rListS (K : PySem.W.Frag) : List V → Hp → VK → Prop := fun xs H Q => ∃ p ys, xs = [.ref p] ∧ (SqL K H p ys ∨ SqT K H p ys) ∧ ∀ l, H l = none → Q (.ref l) (upd H l (.lst ys))
noncomputable def rListD : List V → Hp → VK → Prop := fun xs H Q => ∃ p kvs, xs = [.ref p] ∧ H p = some (.dK kvs) ∧ (∀ kv ∈ kvs, ∃ i, kv.1 = Sum.inl i) ∧ ∀ l, H l = none → Q (.ref l) (upd H l (.lst (kvs.map fun kv => kV kv.1)))
noncomputable abbrev rListOf (K : PySem.W.Frag) : List V → Hp → VK → Prop := fun xs H Q => rListS K xs H Q ∨ rListD xs H Q
theorem keys_RGs {H : Hp} : ∀ {kvs : List (G × G)} {ws : List (Key × V)}, intKeys kvs = true → RKs H kvs ws → (∀ kv ∈ ws, ∃ i, kv.1 = Sum.inl i) ∧ RGs H (kvs.map fun p => p.1) (ws.map fun kv => kV kv.1)
  | [], _, _, h => by cases h; exact ⟨fun _ z => by simp at z, rfl⟩
  | (k, v) :: r, _, hi, h => by
    obtain ⟨a, w, t, rfl, h1, h2, h3⟩ := h
    simp only [intKeys, List.all_cons, Bool.and_eq_true] at hi
    obtain ⟨g1, g2⟩ := keys_RGs (by simpa [intKeys] using hi.2) h3
    cases k with
    | int i =>
      cases h1
      refine ⟨fun kv hkv => ?_, ⟨_, _, rfl, rfl, g2⟩⟩
      rcases List.mem_cons.mp hkv with z | z
      · subst z; exact ⟨i, rfl⟩
      · exact g1 kv z
    | _ => simp at hi
theorem ok_listOf {K : PySem.W.Frag} : OkN .listOf (rListOf K) := by
  intro ρ σ H xs vs r σ' Q S hx e q
  change pListOf xs σ = _ at e
  have go : ∀ ys ws, RGs H ys ws → Fin ρ σ.length H (.ref σ.length) (σ ++ [.lst ys]) Q → ∀ l, H l = none → Q (.ref l) (upd H l (.lst ws)) := fun ys ws h q p hp =>
    q.new S hp (fun _ z => by cases z) fun H' ρ' tp e ep ag => ⟨ws, by rw [ep]; exact e, RGs.mono tp _ h⟩
  match xs, hx, e with
  | [], _, e => simp [pListOf] at e
  | _ :: _ :: _, _, e => simp [pListOf] at e
  | [x], hx, e =>
    obtain ⟨v, rfl, hv⟩ := rrs1 hx
    cases x with
    | tr _ => simp [pListOf] at e
    | g gx =>
      cases gx with
      | tup ys =>
        cases e
        obtain ⟨a, ws, rfl, ha, h1⟩ := hv
        exact .inl ⟨a, ws, rfl, .inr (.of ha), go ys ws h1 q⟩
      | _ => simp [pListOf] at e
    | ref k =>
      obtain ⟨hk, rfl⟩ := hv
      simp only [pListOf] at e
      split at e
      · rename_i ys e3
        cases e
        obtain ⟨ws, h1, h2⟩ := S.lR (.inl e3)
        exact .inl ⟨_, ws, rfl, .inl (.inl h1), go ys ws h2 q⟩
      · rename_i ys e3
        cases e
        obtain ⟨ws, h1, h2⟩ := S.lR (.inr e3)
        exact .inl ⟨_, ws, rfl, .inl (.inl h1), go ys ws h2 q⟩
      · rename_i kvs e3
        split at e
        · rename_i hi
          cases e
          obtain ⟨ws, h1, h2⟩ := S.dct e3
          obtain ⟨g1, g2⟩ := keys_RGs hi h2
          exact .inr ⟨_, ws, rfl, h1, g1, go _ _ g2 q⟩
        · cases e
      · cases e
theorem ok_dct0 : OkN .dct0 (fun xs H Q => xs = [] ∧ ∀ p, H p = none → Q (.ref p) (upd H p (.dK []))) := by
  intro ρ σ H xs vs r σ' Q S hx e q
  change pDct0 xs σ = _ at e
  match xs, hx, e with
  | _ :: _, _, e => simp [pDct0] at e
  | [], hx, e =>
    cases hx
    cases e
    exact ⟨rfl, fun p hp => q.new S hp (fun _ z => by cases z) fun H' ρ' tp e ep ag => ⟨[], by rw [ep]; exact e, rfl, List.nodup_nil⟩⟩

noncomputable def tyN : Ty → String
  | .int => "int" | .bool => "bool" | .str => "str" | .tuple => "tuple" | .list => "list" | .dict => "dict"

noncomputable def rIsInst (K : PySem.W.Frag) : List V → Hp → VK → Prop := fun xs H Q => ∃ x T t b, xs = [x, .ty T] ∧ TyOf K H x t ∧ PySem.W.kitOne K t (.type T) = some b ∧ Q (.bl b) H
theorem call_isinst : CallR X (.builtin "isinstance") (rIsInst X.K) := by
  intro pins s σ H xs us Q I r h
  obtain ⟨x, T, t, b, rfl, ty, e, q⟩ := h
  obtain ⟨u, w, rfl, ru, rw'⟩ := vals2 r
  cases rw'
  exact isinst_ok I ru ty e fun tk => ⟨.bl b, H, I.tok tk, rfl, q⟩
theorem kit_ty {K : PySem.W.Frag} (T : Ty) :
    PySem.W.kitOne K (.type "NoneType") (.type (tyN T)) = some (([] : List Ty).contains T) ∧ PySem.W.kitOne K (.type "bool") (.type (tyN T)) = some ([Ty.bool, .int].contains T) ∧ PySem.W.kitOne K (.type "int") (.type (tyN T)) = some ([Ty.int].contains T) ∧
    PySem.W.kitOne K (.type "str") (.type (tyN T)) = some ([Ty.str].contains T) ∧ PySem.W.kitOne K (.type "tuple") (.type (tyN T)) = some ([Ty.tuple].contains T) ∧ PySem.W.kitOne K (.type "list") (.type (tyN T)) = some ([Ty.list].contains T) ∧
    PySem.W.kitOne K (.type "dict") (.type (tyN T)) = some ([Ty.dict].contains T) := by
  cases T <;> exact ⟨rfl, rfl, rfl, rfl, rfl, rfl, rfl⟩
theorem ok_isInst {K : PySem.W.Frag} (T : Ty) {ρ : Nat → Addr} {σ : Store} {H : Hp} {x : R} {v : V} {r : R} {σ' : Store} {Q : VK} (S : SR H ρ σ) (hv : RR H ρ σ.length x v) (e : prim (.isInst T) [x] σ = .ok r σ') (q : Fin ρ σ.length H r σ' Q) :
    rIsInst K [v, .ty (tyN T)] H Q := by
  change pIsInst T [x] σ = _ at e
  simp only [pIsInst] at e
  obtain ⟨ts, e1, e2⟩ := ofO_inv e
  cases e2
  have q' : Q (.bl (ts.contains T)) H := q.same S rfl
  obtain ⟨k1, k2, k3, k4, k5, k6, k7⟩ := kit_ty (K := K) T
  cases x with
  | g gx =>
    cases gx with
    | non => cases e1; cases hv; exact ⟨_, _, _, _, rfl, .non, k1, q'⟩
    | bl b => cases e1; cases hv; exact ⟨_, _, _, _, rfl, .bl b, k2, q'⟩
    | int i => cases e1; cases hv; exact ⟨_, _, _, _, rfl, .int i, k3, q'⟩
    | str x => cases e1; obtain ⟨rfl, _⟩ := hv; exact ⟨_, _, _, _, rfl, .str _, k4, q'⟩
    | tup xs => cases e1; obtain ⟨a, vs, rfl, ha, _⟩ := hv; exact ⟨_, _, _, _, rfl, .tup ha, k5, q'⟩
  | tr xs => cases e1; obtain ⟨a, vs, rfl, ha, _⟩ := hv; exact ⟨_, _, _, _, rfl, .tup ha, k5, q'⟩
  | ref k =>
    obtain ⟨hk, rfl⟩ := hv
    simp only [tyOf] at e1
    split at e1
    · rename_i ys e3
      cases e1
      obtain ⟨ws, h1, _⟩ := S.lst e3
      exact ⟨_, _, _, _, rfl, .lst h1, k6, q'⟩
    · rename_i ys e3
      cases e1
      obtain ⟨ws, h1, _⟩ := S.rdl e3
      rcases h1 with h1 | ⟨o, h1⟩
      · exact ⟨_, _, _, _, rfl, .lst h1, k6, q'⟩
      · exact ⟨_, _, _, _, rfl, .frz h1, k6, q'⟩
    · rename_i ys e3
      cases e1
      obtain ⟨ws, h1, _⟩ := S.rls e3
      exact ⟨_, _, _, _, rfl, .lst h1, k6, q'⟩
    · rename_i ys e3
      cases e1
      obtain ⟨ws, h1, _⟩ := S.dct e3
      exact ⟨_, _, _, _, rfl, .dK h1, k7, q'⟩
    · cases e1
    · cases e1
    · cases e1
    · cases e1

theorem recv_ty {K : PySem.W.Frag} {p : Prim} {ρ : Nat → Addr} {σ : Store} {H : Hp} {x : R} {v : V} (S : SR H ρ σ) (hv : RR H ρ σ.length x v) (np : p ≠ .setdefT) (h : recvOk p x σ = true) :
    ((p = .append ∨ p = .extend ∨ p = .index) ∧ ∃ k xs, x = .ref k ∧ σ[k]? = some (.lst xs)) ∨ ((p = .clear) ∧ ∃ k xs, x = .ref k ∧ σ[k]? = some (.dct xs)) ∨ ((p = .get1 ∨ p = .get2 ∨ p = .setdef) ∧ ∃ k xs, x = .ref k ∧ σ[k]? = some (.dct xs)) := by
  cases x with
  | g _ => simp [recvOk] at h
  | tr _ => simp [recvOk] at h
  | ref k =>
    simp only [recvOk] at h
    split at h
    · rename_i xs e; exact .inl ⟨.inl rfl, k, xs, rfl, e⟩
    · rename_i xs e; exact .inl ⟨.inr (.inl rfl), k, xs, rfl, e⟩
    · rename_i xs e; exact .inl ⟨.inr (.inr rfl), k, xs, rfl, e⟩
    · rename_i xs e; exact .inr (.inl ⟨rfl, k, xs, rfl, e⟩)
    · rename_i xs e; exact .inr (.inr ⟨.inl rfl, k, xs, rfl, e⟩)
    · rename_i xs e; exact .inr (.inr ⟨.inr (.inl rfl), k, xs, rfl, e⟩)
    · rename_i xs e; exact .inr (.inr ⟨.inr (.inr rfl), k, xs, rfl, e⟩)
    · exact absurd rfl np
    · cases h
theorem okm_append {K : PySem.W.Frag} : OkM K "list" .append rAppend := by
  refine ⟨fun ρ σ H x v S hv h => ?_, fun ρ σ H x xs v vs r σ' Q S hx hxs e q => ?_⟩
  · rcases recv_ty (K := K) S hv (fun z => by cases z) h with ⟨_, k, ys, rfl, e⟩ | ⟨z, _⟩ | ⟨z, _⟩
    · obtain ⟨ws, h1, h2⟩ := S.lst e
      obtain ⟨hk, rfl⟩ := hv
      exact .inl ⟨rfl, ws, .of h1⟩
    · cases z
    · rcases z with z | z | z <;> cases z
  · change pAppend (x :: xs) σ = _ at e
    match x, xs, hx, hxs, e with
    | .g _, _, _, _, e => simp [pAppend] at e
    | .tr _, _, _, _, e => simp [pAppend] at e
    | .ref _, [], _, _, e => simp [pAppend] at e
    | .ref _, _ :: _ :: _, _, _, e => simp [pAppend] at e
    | .ref _, [.ref _], _, _, e => simp [pAppend] at e
    | .ref _, [.tr _], _, _, e => simp [pAppend] at e
    | .ref k, [.g y], hx, hxs, e =>
      obtain ⟨hk, rfl⟩ := hx
      obtain ⟨w, rfl, hw⟩ := rrs1 hxs
      simp only [pAppend] at e
      split at e
      · rename_i ys e3
        split at e
        · rename_i hl
          cases e
          obtain ⟨ws, h1, h2⟩ := S.lst e3
          refine ⟨_, ws, w, rfl, rfl, h1, by rw [h2.length]; exact Nat.lt_of_lt_of_le hl big_le, ?_⟩
          obtain ⟨e1, e2⟩ := S.write hk (o := .lst (ws ++ [w])) (c := .lst (ys ++ [y])) (nfz_l h1) fun H' tp e => ⟨_, e, (RGs.mono tp _ h2).append ⟨w, [], rfl, RG.mono tp _ hw, rfl⟩⟩
          exact q ρ .non _ e1 e2 rfl
        · cases e
      · cases e

noncomputable def rClearD : V → List V → Hp → VK → Prop := fun x vs H Q => ∃ a kvs, x = .ref a ∧ vs = [] ∧ H a = some (.dK kvs) ∧ Q .non (upd H a (.dK []))
theorem mt_clearD : MtR X "dict.clear" rClearD := by
  intro pins s σ H x xs v us Q I rx rs h
  obtain ⟨a, kvs, rfl, rfl, ha, q⟩ := h
  cases rx
  cases rs
  exact d_clear I ha fun s' I' => ⟨.non, _, I', rfl, q⟩

theorem okm_clear {K : PySem.W.Frag} : OkM K "dict" .clear rClearD := by
  refine ⟨fun ρ σ H x v S hv h => ?_, fun ρ σ H x xs v vs r σ' Q S hx hxs e q => ?_⟩
  · rcases recv_ty (K := K) S hv (fun z => by cases z) h with ⟨z, _⟩ | ⟨_, k, ys, rfl, e⟩ | ⟨z, _⟩
    · rcases z with z | z | z <;> cases z
    · obtain ⟨ws, h1, h2⟩ := S.dct e
      obtain ⟨hk, rfl⟩ := hv
      exact .inr (.inr (.inl ⟨rfl, .inl ⟨ws, h1⟩⟩))
    · rcases z with z | z | z <;> cases z
  · change pClear (x :: xs) σ = _ at e
    match x, xs, hx, hxs, e with
    | .g _, _, _, _, e => simp [pClear] at e
    | .tr _, _, _, _, e => simp [pClear] at e
    | .ref _, _ :: _, _, _, e => simp [pClear] at e
    | .ref k, [], hx, hxs, e =>
      obtain ⟨hk, rfl⟩ := hx
      cases hxs
      simp only [pClear] at e
      split at e
      · rename_i kvs e3
        cases e
        obtain ⟨ws, h1, h2⟩ := S.dct e3
        refine ⟨_, ws, rfl, rfl, h1, ?_⟩
        obtain ⟨e1, e2⟩ := S.write hk (o := .dK []) (c := .dct []) (nfz_d h1) fun H' tp e => ⟨[], e, rfl, List.nodup_nil⟩
        exact q ρ .non _ e1 e2 rfl
      · cases e

theorem tru_TruV {K : PySem.W.Frag} {ρ : Nat → Addr} {σ : Store} {H : Hp} {r : R} {v : V} {b : Bool} (S : SR H ρ σ) (hv : RR H ρ σ.length r v) (e : tru σ r = some b) : TruV K v H b := by
  have emp : ∀ {α β : Type} {xs : List α} {ys : List β}, ys.length = xs.length → (!xs.isEmpty) = !ys.isEmpty := fun {α β xs ys} h => by
    cases xs <;> cases ys <;> simp at h ⊢
  cases r with
  | g gx =>
    cases gx with
    | non => cases e; cases hv; rfl
    | bl b => cases e; cases hv; rfl
    | int i => cases e; cases hv; rfl
    | str x =>
      cases e
      obtain ⟨rfl, h1⟩ := hv
      refine ⟨by rw [sOf_len, sizeLine_eq]; exact okS_len h1, ?_⟩
      rw [sOf_len]
      cases x <;> simp
      omega
    | tup xs =>
      cases e
      obtain ⟨a, vs, rfl, ha, h1⟩ := hv
      exact .inr (.inl ⟨vs, .of ha, emp h1.length⟩)
  | tr xs =>
    cases e
    obtain ⟨a, vs, rfl, ha, h1⟩ := hv
    exact .inr (.inl ⟨vs, .of ha, emp h1.length⟩)
  | ref k =>
    obtain ⟨hk, rfl⟩ := hv
    simp only [tru] at e
    split at e
    · rename_i xs e3
      cases e
      obtain ⟨ws, h1, h2⟩ := S.lst e3
      exact .inl ⟨ws, .of h1, emp h2.length⟩
    · rename_i xs e3
      cases e
      obtain ⟨ws, h1, h2⟩ := S.rdl e3
      exact .inl ⟨ws, .inl h1, emp h2.length⟩
    · rename_i xs e3
      cases e
      obtain ⟨ws, h1, h2⟩ := S.rls e3
      exact .inl ⟨ws, .of h1, emp h2.length⟩
    · rename_i xs e3
      cases e
      obtain ⟨ws, h1, h2⟩ := S.dct e3
      exact .inr (.inr ⟨ws, h1, emp h2.length⟩)
    · cases e
    · cases e
    · cases e
    · cases e
end
end SN


set_option Elab.async false
set_option linter.all false
set_option maxRecDepth 100000
namespace SN
open PySem PySem.Spec PyProof.Rows L2 MP
variable [Wd]
section
variable {X : Cx}
theorem isNon_of {H : Hp} {ρ : Nat → Addr} {n : Nat} {x : R} {v : V} (h : RR H ρ n x v) : decide (v = .non) = isNon x := by
  cases x with
  | ref k => obtain ⟨_, rfl⟩ := h; rfl
  | tr xs => obtain ⟨a, vs, rfl, _⟩ := h; rfl
  | g gx =>
    cases gx with
    | non => cases (show v = .non from h); rfl
    | bl b => cases (show v = .bl b from h); rfl
    | int i => cases (show v = .int i from h); rfl
    | str x => obtain ⟨rfl, _⟩ := (show v = .str (sOf x) ∧ _ from h); rfl
    | tup xs => obtain ⟨a, vs, rfl, _⟩ := h; rfl
theorem ok_isN : Ok2 .isN (fun x y H Q => y = .non ∧ Q (.bl (decide (x = .non))) H) := by
  intro ρ σ H x y vx vy r σ' Q S hx hy e q
  change pIsN [x, y] σ = _ at e
  unfold pIsN at e
  split at e
  · rename_i x' heq
    cases heq
    cases e
    cases (show vy = .non from hy)
    exact ⟨rfl, by rw [isNon_of hx]; exact q.same S rfl⟩
  · cases e
theorem ok_notN : Ok2 .notN (fun x y H Q => y = .non ∧ Q (.bl (!decide (x = .non))) H) := by
  intro ρ σ H x y vx vy r σ' Q S hx hy e q
  change pNotN [x, y] σ = _ at e
  unfold pNotN at e
  split at e
  · rename_i x' heq
    cases heq
    cases e
    cases (show vy = .non from hy)
    exact ⟨rfl, by rw [isNon_of hx]; exact q.same S rfl⟩
  · cases e

theorem rel_key {k : Key} {u : Value} (h : keyIs k u = true) : RelV (kV k) u := by
  rcases keyIs_shape h with ⟨i, t, rfl, rfl⟩ | ⟨x, t, rfl, rfl⟩
  · exact ⟨t, rfl⟩
  · exact ⟨t, rfl⟩
theorem kv_get : ∀ {ws : List (Key × V)} {vs : List (Key × Value)}, KV ws vs → ∀ {i : Nat} {p : Key × V}, ws[i]? = some p → ∃ u, vs[i]? = some (p.1, u) ∧ RelV p.2 u
  | _, _, .nil, i, p, h => by simp at h
  | (k, v) :: _, (k', u) :: _, .cons h t, 0, p, e => by
    simp at e
    subst e
    obtain ⟨h1, h2⟩ := h
    cases (show k = k' from h1)
    exact ⟨u, rfl, h2⟩
  | _ :: _, _ :: _, .cons h t, i + 1, p, e => by
    simp only [List.getElem?_cons_succ] at e ⊢
    exact kv_get t e
theorem vals_of_get : ∀ {xs : List V} {us : List Value}, us.length = xs.length → (∀ (j : Nat) (x : V) (u : Value), xs[j]? = some x → us[j]? = some u → RelV x u) → Vals xs us
  | [], [], _, _ => .nil
  | [], _ :: _, h, _ => by simp at h
  | _ :: _, [], h, _ => by simp at h
  | x :: r, u :: t, h, g => .cons (g 0 x u rfl rfl) (vals_of_get (by simpa using h) fun j x u h1 h2 => g (j + 1) x u (by simpa using h1) (by simpa using h2))
theorem call_listAll (hc : X.calm = true) : CallR X (.type "list") (rListOf X.K) := by
  intro pins s σ H xs us Q I r h
  rcases h with h | h
  · exact call_list_of pins s σ H xs us Q I r h
  obtain ⟨a, kvs, rfl, ha, hi, q⟩ := h
  obtain ⟨u, rfl, ru⟩ := vals1 r
  cases ru
  obtain ⟨z, hs, vs, rv, o, es, ep, ho, rd⟩ := I.hok a _ ha
  have dd : s.heap.DictAt (mixKind X.prog X.w) a vs ep := ⟨o, es, ho, rd⟩
  have hlen := rv.length
  refine PySem.W.kdl_call (PySem.W.kdl_dict (knd := mixKind X.prog X.w) (kvs := vs) (ep := ep) hs) (I.ok.hd hc) dd (by rw [← hlen]; exact z) fun h' tk acc c kk hN hI => ?_
  obtain ⟨hIl, hIv⟩ := hI
  have hv : Vals (kvs.map fun kv => kV kv.1) acc.toList := by
    refine vals_of_get (by simp; omega) fun j x u e1 e2 => ?_
    obtain ⟨k, y, e3, e4⟩ := hIv j u (by simpa using e2)
    rw [List.getElem?_map] at e1
    cases c : kvs[j]? with
    | none => rw [c] at e1; cases e1
    | some p =>
      rw [c] at e1
      cases e1
      obtain ⟨u', e5, _⟩ := kv_get rv c
      rw [e3] at e5
      cases e5
      exact rel_key e4
  refine ⟨.ref s.heap.objs.size, _, I.laid (t' := tk) kk (Nat.le_refl _) (show ObjOk X.prog X.w _ h' _ (.lst (kvs.map fun kv => kV kv.1)) from ⟨by rw [List.length_map]; exact z, acc.toList, c, hv, by simpa using hN⟩), rfl, q _ (I.hok.fresh (Nat.le_refl _))⟩

theorem putK_nodup {ws : List (Key × V)} {k : Key} {v : V} (h : (ws.map (·.1)).Nodup) : ((putK ws k v).map (·.1)).Nodup := by
  cases e : valV ws k with
  | none =>
    rw [putK_new v e, List.map_append, List.map_cons, List.map_nil]
    rw [List.nodup_append]
    refine ⟨h, by simp, ?_⟩
    intro a ha b hb
    simp at hb
    subst hb
    intro z
    subst z
    obtain ⟨p, hp, rfl⟩ := List.mem_map.mp ha
    have := valV_any p.1 ws
    rw [e] at this
    have hh : (ws.any fun kv => decide (kv.1 = p.1)) = true := List.any_eq_true.mpr ⟨p, hp, by simp⟩
    rw [hh] at this
    cases this
  | some x =>
    have hh : (ws.any fun kv => decide (kv.1 = k)) = true := by rw [valV_any, e]; rfl
    unfold putK
    rw [if_pos hh, List.map_map]
    have : ((fun x : Key × V => x.1) ∘ fun kv : Key × V => if kv.1 = k then (kv.1, v) else kv) = fun x => x.1 := by
      funext kv
      simp only [Function.comp]
      split <;> rfl
    rw [this]
    exact h
noncomputable def rSetdef : V → List V → Hp → VK → Prop := fun x vs H Q => ∃ a k d kvs, x = .ref a ∧ vs = [kV k, d] ∧ H a = some (.dK kvs) ∧ kvs.length < sizeLine ∧
  (∀ v, valV kvs k = some v → Q v H) ∧ (valV kvs k = none → Q d (upd H a (.dK (putK kvs k d))))
theorem mt_setdef : MtR X "dict.setdefault" rSetdef := by
  intro pins s σ H x xs v us Q I rx rs h
  obtain ⟨a, k, d, kvs, rfl, rfl, ha, hl, q1, q2⟩ := h
  cases rx
  obtain ⟨u, w, rfl, ru, rw'⟩ := vals2 rs
  obtain ⟨z, hd, vs, rel, dd⟩ := dk_of I.hok ha
  have hT : s.TypeIs (.ref a) "dict" := dd.typeIs
  have hlen := rel.length
  have hp : (putK kvs k d).length ≤ sizeLine := by have := length_putK kvs k d; omega
  refine call_meetsIn PySem.F.slot_dict_setdefault hT PySem.F.entry_dict_setdefault (PySem.F.args_dict_setdefault_3 _ _ _) (kt_meets_setdefault (mixKind X.prog X.w) a (kV_is ru) hd w) ⟨vs, dd, by rw [← hlen]; exact z, fun v' hv => ?_, fun hn h' dd' sb => ?_⟩
  · have := rel.val k
    rw [hv] at this
    cases c : valV kvs k with
    | none => rw [c] at this; cases this
    | some v0 =>
      rw [c] at this
      exact ⟨v0, H, I.tok _, this, q1 v0 c⟩
  · have := rel.val k
    rw [hn] at this
    cases c : valV kvs k with
    | some v0 => rw [c] at this; cases this
    | none =>
      have he : ∃ q, h'.get? a = some q := let ⟨q, _, _, hq, _⟩ := dd'; ⟨q, hq⟩
      exact ⟨d, _, d_write I (by rw [ha]; exact True.intro) sb he (dk_new hp hd (rel.put k rw') dd'), rw', q2 c⟩
theorem okm_setdef {K : PySem.W.Frag} : OkM K "dict" .setdef rSetdef := by
  refine ⟨fun ρ σ H x v S hv h => ?_, fun ρ σ H x xs v vs r σ' Q S hx hxs e q => ?_⟩
  · rcases recv_ty (K := K) S hv (fun z => by cases z) h with ⟨z, _⟩ | ⟨z, _⟩ | ⟨_, k, ys, rfl, e⟩
    · rcases z with z | z | z <;> cases z
    · cases z
    · obtain ⟨ws, h1, h2⟩ := S.dct e
      obtain ⟨hk, rfl⟩ := hv
      exact .inr (.inr (.inl ⟨rfl, .inl ⟨ws, h1⟩⟩))
  · change pSetdef (x :: xs) σ = _ at e
    match x, xs, hx, hxs, e with
    | .g _, _, _, _, e => simp [pSetdef] at e
    | .tr _, _, _, _, e => simp [pSetdef] at e
    | .ref _, [], _, _, e => simp [pSetdef] at e
    | .ref _, [_], _, _, e => simp [pSetdef] at e
    | .ref _, _ :: _ :: _ :: _, _, _, e => simp [pSetdef] at e
    | .ref _, [.ref _, _], _, _, e => simp [pSetdef] at e
    | .ref _, [.tr _, _], _, _, e => simp [pSetdef] at e
    | .ref _, [.g _, .ref _], _, _, e => simp [pSetdef] at e
    | .ref _, [.g _, .tr _], _, _, e => simp [pSetdef] at e
    | .ref k, [.g i, .g d], hx, hxs, e =>
      obtain ⟨hk, rfl⟩ := hx
      obtain ⟨vi, vd, rfl, hi, hd⟩ := rrs2 hxs
      simp only [pSetdef] at e
      split at e
      · rename_i kvs e3
        split at e
        · rename_i c
          simp only [Bool.and_eq_true, decide_eq_true_eq] at c
          obtain ⟨c1, c2⟩ := c
          obtain ⟨ws, h1, h2, nd⟩ := S.dctN e3
          obtain ⟨key, hkey⟩ := isKey_keyOf c1
          have hvi : vi = kV key := keyOf_rep hkey hi
          subst hvi
          have hlw : ws.length < sizeLine := by rw [h2.length]; exact Nat.lt_of_lt_of_le c2 big_le
          have hval := h2.val hkey
          refine ⟨_, key, vd, ws, rfl, rfl, h1, hlw, fun v' hv => ?_, fun hn => ?_⟩
          · cases c : dget kvs i with
            | none => rw [hval.1 c] at hv; cases hv
            | some y =>
              obtain ⟨w', z2, hy⟩ := hval.2 y c
              rw [z2] at hv
              cases hv
              rw [c] at e
              cases e
              exact q.same S hy
          · cases c : dget kvs i with
            | some y =>
              obtain ⟨w', z2, hy⟩ := hval.2 y c
              rw [z2] at hn; cases hn
            | none =>
              rw [c] at e
              cases e
              obtain ⟨e1, e2⟩ := S.write hk (o := .dK (putK ws key vd)) (c := .dct (dput kvs i d)) (nfz_d h1) fun H' tp e => ⟨_, e, (RKs.mono tp _ h2).put hkey (RG.mono tp _ hd) nd, putK_nodup nd⟩
              exact q ρ vd _ e1 e2 (RG.mono (Ext.tp e1 S) _ hd)
        · cases e
      · cases e
theorem cutIx_sIx (n d : Nat) (o : Option Int) : cutIx n d o = HT.sIx n d o := by
  cases o with
  | none => rfl
  | some v =>
    simp only [cutIx, HT.sIx]
    split <;> omega
noncomputable def rSlA (K : PySem.W.Frag) : V → Option Int → Option Int → Hp → VK → Prop := fun x lo hi H Q => rSlT K x lo hi H Q ∨ rSlL K x lo hi H Q
theorem sl_all : SlR X (rSlA X.K) := sl_tup.or sl_list
theorem cut_RGs {H : Hp} {xs : List G} {vs : List V} (h : RGs H xs vs) (lo hi : Option Int) : RGs H (MP.cut xs lo hi) (cutV vs lo hi) := by
  unfold MP.cut cutV
  rw [h.length, cutIx_sIx, cutIx_sIx]
  exact (h.drop _).take _
theorem ok_slice {K : PySem.W.Frag} {ρ : Nat → Addr} {σ : Store} {H : Hp} {x y : R} {vx vy : V} {r : R} {σ' : Store} {Q : VK} (S : SR H ρ σ) (hx : RR H ρ σ.length x vx) (hy : RR H ρ σ.length y vy) (e : prim (.slice true false) [x, y] σ = .ok r σ') (q : Fin ρ σ.length H r σ' Q) :
    ∃ i, vy = .int i ∧ rSlA K vx (some i) none H Q := by
  change pSlice true false [x, y] σ = _ at e
  obtain ⟨i, rfl⟩ : ∃ i, y = .g (.int i) := by
    have no : bounds true false [y] = none → ∃ i, y = .g (.int i) := fun z => by
      cases x with
      | tr _ => simp [pSlice] at e
      | g gx =>
        cases gx with
        | tup xs => simp [pSlice, z, ofO] at e
        | _ => simp [pSlice] at e
      | ref k =>
        simp only [pSlice, z] at e
        split at e <;> simp [ofO] at e
    cases y with
    | ref _ => exact no rfl
    | tr _ => exact no rfl
    | g gy =>
      cases gy with
      | int i => exact ⟨i, rfl⟩
      | _ => exact no rfl
  cases (show vy = .int i from hy)
  have hb : bounds true false [R.g (G.int i)] = some (some i, none) := rfl
  cases x with
  | tr _ => simp [pSlice] at e
  | g gx =>
    cases gx with
    | tup xs =>
      simp only [pSlice, hb, ofO] at e
      obtain ⟨a, vs, rfl, ha, h1⟩ := hx
      split at e
      · cases e
      · rename_i hn
        cases e
        refine ⟨i, rfl, .inl ⟨a, vs, rfl, .of ha, ?_, fun p hp => ?_⟩⟩
        · rw [h1.length, ← cutIx_sIx, ← cutIx_sIx]; exact hn
        · obtain ⟨e1, e2, tp⟩ := S.tup hp (.tup (cutV vs (some i) none))
          exact q ρ (.ref p) _ e1 e2 ⟨p, _, rfl, upd_same, RGs.mono tp _ (cut_RGs h1 _ _)⟩
    | _ => simp [pSlice] at e
  | ref k =>
    obtain ⟨hk, rfl⟩ := hx
    simp only [pSlice] at e
    split at e
    · rename_i xs e3
      simp only [hb, ofO] at e
      cases e
      obtain ⟨ws, h1, h2⟩ := S.lst e3
      refine ⟨i, rfl, .inr ⟨_, ws, rfl, .of h1, fun p hp => ?_⟩⟩
      exact q.new S hp (fun _ z => by cases z) fun H' ρ' tp e ep ag => ⟨_, by rw [ep]; exact e, RGs.mono tp _ (cut_RGs h2 _ _)⟩
    · cases e
end
end SN


set_option Elab.async false
set_option linter.all false
set_option maxRecDepth 100000
namespace SN
open PySem PySem.Spec PyProof.Rows L2 MP
variable [Wd]

mutual
noncomputable def NK (h : Heap) : G → Value → Prop
  | .int i, v => ∃ t, v = .int i t
  | .str x, v => (∃ t, v = .str (sOf x) t) ∧ okS x = true
  | .tup xs, v => ∃ a its, v = .ref a ∧ IsTup h a its.toArray ∧ NKs h xs its
  | _, _ => False
noncomputable def NKs (h : Heap) : List G → List Value → Prop
  | [], vs => vs = []
  | x :: xs, vs => ∃ v r, vs = v :: r ∧ NK h x v ∧ NKs h xs r
end
mutual
noncomputable def nkD : G → Nat
  | .tup xs => nkDs xs + 1
  | _ => 1
noncomputable def nkDs : List G → Nat
  | [] => 0
  | x :: r => nkD x + nkDs r
end
section
variable {prog : Program} {w : World} {E : Value → Shared → Prop}
mutual
theorem nk_hash : ∀ (x : G) (v : Value) (A : Around) (s : Shared) (Q : Int → Shared → Prop), NK s.heap x v → A.units + gdep x < cLine → Q (nkH w x) { s with toks := s.toks + nkD x } → wpAny (model prog w) A (pyHash v) Q E s
  | .int i, _, A, s, Q, k, _, q => by obtain ⟨t, rfl⟩ := k; exact wpAny_pyHash_int q
  | .str x, _, A, s, Q, k, _, q => by obtain ⟨⟨t, rfl⟩, _⟩ := k; exact wpAny_pyHash_str q
  | .non, _, A, s, Q, k, _, q => by simp [NK] at k
  | .bl _, _, A, s, Q, k, _, q => by simp [NK] at k
  | .tup xs, _, A, s, Q, k, hu, q => by
    obtain ⟨a, its, rfl, ⟨o, ho, hc, n, hd⟩, hs⟩ := k
    simp only [gdep] at hu
    have hT : s.TypeIs (.ref a) "tuple" := ⟨o, ho, hc⟩
    refine PySem.W.pyHash_slot hT F.slot_tuple_hash F.entry_tuple_hash (F.args_tuple_hash_1 _) (beq_builtin_none _) (Or.inr (by omega)) ?_
    show wpAny _ _ (Builtin.Tuple.tupleItemsOf (.ref a) >>= _) _ E s
    refine wpAny_bind (wpAny_tupleItemsOf ho hd (wpAny_bind ?_))
    rw [← Array.forIn_toList]
    refine nk_hashes xs its A.in1 s #[] _ hs (by simp only [Around.in1_units]; omega) fun b hb => ?_
    show wpAny _ _ (retInt (Builtin.Tuple.tupleHashOf b.toList)) _ E _
    rw [hb]
    refine wpAny_bind (wpAny_mkInt (wpAny_pure ⟨_, _, rfl, ?_⟩))
    simpa [nkH, nkD, Nat.add_assoc] using q
theorem nk_hashes : ∀ (xs : List G) (vs : List Value) (A : Around) (s : Shared) (b : Array Int) (Q : Array Int → Shared → Prop), NKs s.heap xs vs → A.units + gdeps xs < cLine →
    (∀ b' : Array Int, b'.toList = b.toList ++ nkHs w xs → Q b' { s with toks := s.toks + nkDs xs }) →
    wpAny (model prog w) A (forIn vs b fun x r => do let h ← pyHash x; pure PUnit.unit; pure (ForInStep.yield (r.push h))) Q E s
  | [], _, A, s, b, Q, k, _, q => by cases k; exact wpAny_pure (q b (by simp [nkHs]))
  | x :: xs, _, A, s, b, Q, k, hu, q => by
    obtain ⟨v, r, rfl, k1, k2⟩ := k
    simp only [gdeps] at hu
    rw [List.forIn_cons]
    refine wpAny_bind (wpAny_bind (nk_hash x v A s _ k1 (by omega) (wpAny_bind (wpAny_pure (wpAny_pure ?_)))))
    refine nk_hashes xs r A { s with toks := s.toks + nkD x } _ Q k2 (by omega) fun b' hb => ?_
    have := q b' (by simp [hb, nkHs])
    simpa [nkDs, Nat.add_assoc] using this
end
end
mutual
theorem NK.inj {h : Heap} : ∀ {x y : G} {v : Value}, NK h x v → NK h y v → x = y
  | .int _, y, _, a, b => by
    obtain ⟨t, rfl⟩ := a
    cases y with
    | int j => obtain ⟨u, e⟩ := b; cases e; rfl
    | str _ => obtain ⟨⟨u, e⟩, _⟩ := b; cases e
    | tup _ => obtain ⟨_, _, e, _⟩ := b; cases e
    | non => simp [NK] at b
    | bl _ => simp [NK] at b
  | .str x, y, _, a, b => by
    obtain ⟨⟨t, rfl⟩, _⟩ := a
    cases y with
    | int j => obtain ⟨u, e⟩ := b; cases e
    | str z => obtain ⟨⟨u, e⟩, _⟩ := b; injection e with e1 _; rw [sOf_inj e1]
    | tup _ => obtain ⟨_, _, e, _⟩ := b; cases e
    | non => simp [NK] at b
    | bl _ => simp [NK] at b
  | .tup xs, y, _, a, b => by
    obtain ⟨p, its, rfl, ⟨o, ho, _, n, hd⟩, hs⟩ := a
    cases y with
    | int j => obtain ⟨u, e⟩ := b; cases e
    | str z => obtain ⟨⟨u, e⟩, _⟩ := b; cases e
    | tup ys =>
      obtain ⟨p', its', e, ⟨o', ho', _, n', hd'⟩, hs'⟩ := b
      cases e
      rw [ho] at ho'
      cases ho'
      rw [hd] at hd'
      injection hd' with e1 _
      have e2 : its = its' := by simpa using congrArg Array.toList e1
      subst e2
      rw [NKs.inj hs hs']
    | non => simp [NK] at b
    | bl _ => simp [NK] at b
  | .non, _, _, a, _ => by simp [NK] at a
  | .bl _, _, _, a, _ => by simp [NK] at a
theorem NKs.inj {h : Heap} : ∀ {xs ys : List G} {vs : List Value}, NKs h xs vs → NKs h ys vs → xs = ys
  | [], ys, _, a, b => by
    cases a
    cases ys with
    | nil => rfl
    | cons _ _ => obtain ⟨_, _, e, _⟩ := b; cases e
  | x :: xs, ys, _, a, b => by
    obtain ⟨v, r, rfl, a1, a2⟩ := a
    cases ys with
    | nil => cases b
    | cons y ys =>
      obtain ⟨v', r', e, b1, b2⟩ := b
      cases e
      rw [NK.inj a1 b1, NKs.inj a2 b2]
end
mutual
theorem NK.stay {h h' : Heap} (k : ∀ a its, IsTup h a its → IsTup h' a its) : ∀ {x : G} {v : Value}, NK h x v → NK h' x v
  | .int _, _, a => a
  | .str _, _, a => a
  | .tup xs, _, a => by
    obtain ⟨p, its, e, t, hs⟩ := a
    exact ⟨p, its, e, k _ _ t, NKs.stay k hs⟩
  | .non, _, a => by simp [NK] at a
  | .bl _, _, a => by simp [NK] at a
theorem NKs.stay {h h' : Heap} (k : ∀ a its, IsTup h a its → IsTup h' a its) : ∀ {xs : List G} {vs : List Value}, NKs h xs vs → NKs h' xs vs
  | [], _, a => a
  | x :: xs, _, a => by
    obtain ⟨v, r, e, a1, a2⟩ := a
    exact ⟨v, r, e, NK.stay k a1, NKs.stay k a2⟩
end
mutual
theorem NK.reads {h : Heap} : ∀ {x : G} {v : Value}, NK h x v → (∃ as, Reads h v (dOf x) as) ∧ (dOf x).canLay0 = true
  | .int i, _, a => by obtain ⟨t, rfl⟩ := a; exact ⟨⟨_, .int _ _⟩, rfl⟩
  | .str x, _, a => by
    obtain ⟨⟨t, rfl⟩, hx⟩ := a
    refine ⟨⟨_, .str _ _⟩, ?_⟩
    show PyData.strOk (sOf x) = true
    unfold PyData.strOk sOf
    simpa using okS_all hx
  | .tup xs, _, a => by
    obtain ⟨p, its, rfl, ⟨o, ho, hc, n, hd⟩, hs⟩ := a
    obtain ⟨⟨as, ra⟩, hk⟩ := NKs.reads hs
    exact ⟨⟨_, .tuple ho hc hd (by simpa using ra)⟩, hk⟩
  | .non, _, a => by simp [NK] at a
  | .bl _, _, a => by simp [NK] at a
theorem NKs.reads {h : Heap} : ∀ {xs : List G} {vs : List Value}, NKs h xs vs → (∃ as, ReadsAll h vs (dOfs xs) as) ∧ PyData.canLayAll0 (dOfs xs) = true
  | [], _, a => by cases a; exact ⟨⟨_, .nil⟩, rfl⟩
  | x :: xs, _, a => by
    obtain ⟨v, r, rfl, a1, a2⟩ := a
    obtain ⟨⟨as, ra⟩, k1⟩ := NK.reads a1
    obtain ⟨⟨bs, rb⟩, k2⟩ := NKs.reads a2
    exact ⟨⟨_, .cons ra rb⟩, by simp [dOfs, PyData.canLayAll0, k1, k2]⟩
end
mutual
theorem NK.peq {h h' : Heap} : ∀ {x y : G} {v u : Value}, NK h x v → NK h' y u → MP.peq x y = decide (x = y)
  | .int i, y, _, _, a, b => by
    cases y with
    | int j => by_cases e : i = j <;> simp [MP.peq, e]
    | str _ => simp [MP.peq]
    | tup _ => simp [MP.peq]
    | non => simp [NK] at b
    | bl _ => simp [NK] at b
  | .str x, y, _, _, a, b => by
    cases y with
    | int j => simp [MP.peq]
    | str z => by_cases e : x = z <;> simp [MP.peq, e]
    | tup _ => simp [MP.peq]
    | non => simp [NK] at b
    | bl _ => simp [NK] at b
  | .tup xs, y, _, _, a, b => by
    cases y with
    | int j => simp [MP.peq]
    | str _ => simp [MP.peq]
    | tup ys =>
      obtain ⟨_, _, _, _, hs⟩ := a
      obtain ⟨_, _, _, _, hs'⟩ := b
      simp only [MP.peq, NKs.peqs hs hs', G.tup.injEq]
    | non => simp [NK] at b
    | bl _ => simp [NK] at b
  | .non, _, _, _, a, _ => by simp [NK] at a
  | .bl _, _, _, _, a, _ => by simp [NK] at a
theorem NKs.peqs {h h' : Heap} : ∀ {xs ys : List G} {vs us : List Value}, NKs h xs vs → NKs h' ys us → MP.peqs xs ys = decide (xs = ys)
  | [], ys, _, _, a, b => by cases ys <;> simp [MP.peqs]
  | x :: xs, ys, _, _, a, b => by
    cases ys with
    | nil => simp [MP.peqs]
    | cons y ys =>
      obtain ⟨_, _, _, a1, a2⟩ := a
      obtain ⟨_, _, _, b1, b2⟩ := b
      simp only [MP.peqs, NK.peq a1 b1, NKs.peqs a2 b2, List.cons.injEq, Bool.decide_and]
end
section
variable {prog : Program} {w : World} {E : Value → Shared → Prop}
theorem nk_quiet : ∀ (m : Nat) (x : G) (v : Value) (A : Around) (s : Shared) (Q : Bool → Shared → Prop), NK s.heap x v → gdep x ≤ m → Q true s → wpAny (model prog w) A (eqIsQuiet m v) Q E s
  | m, .int i, _, A, s, Q, k, _, q => by obtain ⟨t, rfl⟩ := k; rw [eqIsQuiet_byValue m rfl]; exact wpAny_pure q
  | m, .str i, _, A, s, Q, k, _, q => by obtain ⟨⟨t, rfl⟩, _⟩ := k; rw [eqIsQuiet_byValue m rfl]; exact wpAny_pure q
  | m, .non, _, A, s, Q, k, _, q => by simp [NK] at k
  | m, .bl _, _, A, s, Q, k, _, q => by simp [NK] at k
  | 0, .tup xs, _, A, s, Q, k, hm, q => by simp [gdep] at hm
  | m + 1, .tup xs, _, A, s, Q, k, hm, q => by
    obtain ⟨a, its, rfl, ⟨o, ho, hc, n, hd⟩, hs⟩ := k
    have hT : s.TypeIs (.ref a) "tuple" := ⟨o, ho, hc⟩
    unfold eqIsQuiet
    refine wpAny_bind (wpAny_specialOf hT F.slot_tuple_eq.lookup ?_)
    show wpAny _ _ (isInstance (.ref a) (.type "tuple") >>= _) Q E s
    refine wpAny_bind (wpAny_isInstance hT isSubtype_tuple_tuple ?_)
    simp only [Bool.not_true, Bool.false_eq_true, if_false]
    refine wpAny_bind (wpAny_seqItems ho hd (wpAny_bind ?_))
    show wpAny _ _ (forIn its.toArray _ _) _ E s
    rw [← Array.forIn_toList]
    refine wpAny_forIn_list _ (fun rest r s' => r.1 = none ∧ s' = s ∧ ∃ ys, NKs s.heap ys rest ∧ gdeps ys ≤ m) _ ?_ ?_ _ _ ⟨rfl, rfl, xs, hs, by simp only [gdep] at hm; omega⟩
    · rintro v rest r s' ⟨hr, rfl, ys, h1, h2⟩
      cases ys with
      | nil => cases h1
      | cons y ys =>
        obtain ⟨v', r', e, k1, k2⟩ := h1
        cases e
        simp only [gdeps] at h2
        refine wpAny_bind (nk_quiet m y v A s' _ k1 (by omega) ?_)
        simp only [Bool.not_true, Bool.false_eq_true, if_false]
        exact wpAny_pure ⟨rfl, rfl, ys, k2, by omega⟩
    · rintro ⟨r1, r2⟩ s' ⟨hr, rfl, _⟩
      simp only at hr
      subst hr
      exact wpAny_pure q
end

noncomputable def nestKind (prog : Program) (w : World) : HeapKind prog w G where
  is := fun h x a => NK h x (.ref a) ∧ gdep x ≤ 8
  hash := nkH w
  draws := nkD
  room := fun A => A.units + 160 < cLine
  inj := fun a b => NK.inj a.1 b.1
  keeps := fun {h h' k a d o es ep} x ho hd hs => ⟨NK.stay (fun b its t => by
    obtain ⟨q, hq, hc, n, hdq⟩ := t
    have ne : b ≠ d := fun z => by rw [z, ho] at hq; cases hq; rw [hd] at hdq; cases hdq
    exact ⟨q, (hs.2 b ne).trans hq, hc, n, hdq⟩) x.1, x.2⟩
  pyHash := fun {A E s k a Q} hu x q => nk_hash k _ A s Q x.1 (by have := x.2; omega) q
  eqBool := fun {A E s x y a b Q} hu hx hy q => by
    obtain ⟨⟨as, ra⟩, ka⟩ := NK.reads hx.1
    obtain ⟨⟨bs, rb⟩, kb⟩ := NK.reads hy.1
    have h2 := Nat.min_le_left (gdep x) (dOf y).depth
    have := SeqAt.eqAt_reads (dOf x) (dOf y) A s (.ref a) (.ref b) as bs ra rb ka kb (by rw [dOf_depth]; have := hx.2; omega)
    rw [dOf_eqv, NK.peq hx.1 hy.1] at this
    exact this prog w E Q q
  quiet := fun {A E s k a Q} x q => nk_quiet 8 k _ A s Q x.1 x.2 q

section
variable {prog : Program} {w : World} {A : Around} {E : Value → Shared → Prop} {s : Shared}
theorem find_first {d a : Addr} {o : Obj} {es : Array DictEntry} {ep : Nat} {i : Int} {Q : Option Nat → Shared → Prop} (ho : s.heap.get? d = some o) (hd : o.data = .dict es ep) (he : es = #[]) (q : Q none s) :
    wpAny (model prog w) A (dictFind d (.ref a) i) Q E s := by
  subst he
  unfold dictFind
  try with_reducible refine wpAny_holding ?_
  refine wpAny_bind (wpAny_dictEntries ho hd ?_)
  dsimp only
  rw [if_neg (show ¬ ((Value.ref a :: (placesWithHash (#[] : Array DictEntry).size (fun j => (#[] : Array DictEntry)[j]?.map (·.hash)) i).filterMap (fun j => (#[] : Array DictEntry)[j]?.map (·.key))).all carriedByValue) = true by simp [carriedByValue])]
  rw [if_neg (show ¬ ((#[] : Array DictEntry).any fun e => e.key == Value.ref a && e.hash != i) = true by simp)]
  rw [if_neg (show ¬ (((placesWithHash (#[] : Array DictEntry).size (fun j => (#[] : Array DictEntry)[j]?.map (·.hash)) i).filterMap (fun j => (#[] : Array DictEntry)[j]?.map (·.key))) == [Value.ref a]) = true by
    show ¬ (([] : List Value) == [Value.ref a]) = true
    exact Bool.false_ne_true)]
  refine wpAny_bind ?_
  show wpAny _ _ (tableMayTell (.ref a) []) _ E s
  unfold tableMayTell
  refine wpAny_pure ?_
  rw [if_neg (by simp)]
  refine wpAny_bind ?_
  show wpAny _ _ (forIn ([] : List Nat) _ _) _ E s
  exact wpAny_pure (wpAny_pure q)
theorem nk_setdef {d a : Addr} {o : Obj} {xs : List (G × Addr × Value)} {k : G} {dflt : Value} {Q : Value → Shared → Prop} (hu : A.units + 160 < cLine) (hkey : NK s.heap k (.ref a)) (hg : gdep k ≤ 100)
    (ho : s.heap.get? d = some o) (hr : RawO w o xs) (his : ∀ x ∈ xs, NK s.heap x.1 (.ref x.2.1)) (hn : (xs.map (·.1)).Nodup) (hsh : xs = [] ∨ (gdep k ≤ 8 ∧ ∀ x ∈ xs, gdep x.1 ≤ 8)) (hz : xs.length ≤ sizeLine)
    (h1 : ∀ p, atKey xs k = some p → Q p.2 { s with toks := s.toks + nkD k })
    (h2 : atKey xs k = none → ∀ h' o', h'.get? d = some o' → RawO w o' (xs ++ [(k, a, dflt)]) → Heap.SameBut d s.heap h' → Q dflt { s with heap := h', toks := s.toks + nkD k }) :
    wpAny (model prog w) A (dictSetDefault d (.ref a) dflt) Q E s := by
  obtain ⟨hc, es, ep, hd, he⟩ := hr
  have hes : es.size = xs.length := by rw [← Array.length_toList, he, List.length_map]
  have fresh : atKey xs k = none → wpAny (model prog w) A (do rule "dict.setdefault.absent"; updateDictKeys d (·.push ⟨nkH w k, .ref a, dflt⟩) (keyPart (.ref a)); return dflt) Q E { s with toks := s.toks + nkD k } := fun hx =>
    wpAny_bind (wpAny_rule (wpAny_bind (wpAny_updateDictKeys (hz := by omega) (s := { s with toks := s.toks + nkD k }) ho hd (wpAny_pure
      (h2 hx _ _ (Heap.get?_update_self _ ho (Obj.isFreed_of_dict (Obj.data_mapDictKeys hd _))) ⟨hc.mapDictKeys _, _, ep + 1, Obj.data_mapDictKeys hd _, by simp [he, nent]⟩ (Heap.SameBut.update ..))))))
  unfold dictSetDefault
  try with_reducible refine wpAny_holding ?_
  refine wpAny_bind (nk_hash k _ A s _ hkey (by omega) ?_)
  rcases hsh with rfl | ⟨g1, g2⟩
  · have e0 : es = #[] := by
      have : es.size = 0 := by simpa using hes
      exact Array.eq_empty_of_size_eq_zero this
    exact wpAny_bind (find_first (s := { s with toks := s.toks + nkD k }) ho hd e0 (fresh rfl))
  · refine wpAny_bind (wpAny_dictFind_heap (knd := nestKind prog w) (s := { s with toks := s.toks + nkD k }) (xs := xs) (k := k) hu ⟨hkey, g1⟩ ho hd he (fun x hx => ⟨his x hx, g2 x hx⟩) hn ?_ ?_)
    · intro hno
      exact fresh (atKey_none_of_get hno)
    · intro j p hj
      refine wpAny_bind (wpAny_dictEntries (s := { s with toks := s.toks + nkD k }) ho hd ?_)
      have : es[j]? = some (nent w (k, p)) := by rw [← Array.getElem?_toList, he, List.getElem?_map, hj]; rfl
      rw [this]
      exact wpAny_bind (wpAny_rule (wpAny_pure (h1 p (atKey_of_get hn hj))))
end

mutual
theorem NK.of {P : Program} {w : World} {H : Hp} {h : Heap} (hok : HOk P w H h) : ∀ {x : G} {v : V} {u : Value}, RG H x v → RelV v u → keyG x = true → NK h x u
  | .int i, _, _, r, e, _ => by cases r; exact e
  | .str x, _, _, r, e, _ => by obtain ⟨rfl, hx⟩ := r; exact ⟨e, hx⟩
  | .tup xs, _, _, r, e, k => by
    obtain ⟨a, vs, rfl, ha, hs⟩ := r
    cases e
    obtain ⟨_, its, rv, t⟩ := hok a _ ha
    exact ⟨a, its, rfl, t, NKs.of hok hs rv k⟩
  | .non, _, _, _, _, k => by simp [keyG] at k
  | .bl _, _, _, _, _, k => by simp [keyG] at k
theorem NKs.of {P : Program} {w : World} {H : Hp} {h : Heap} (hok : HOk P w H h) : ∀ {xs : List G} {vs : List V} {us : List Value}, RGs H xs vs → Vals vs us → keyGs xs = true → NKs h xs us
  | [], _, _, r, e, _ => by cases r; cases e; rfl
  | x :: xs, _, _, r, e, k => by
    obtain ⟨v, vs, rfl, r1, r2⟩ := r
    simp only [keyGs, Bool.and_eq_true] at k
    cases e with
    | cons e1 e2 => exact ⟨_, _, rfl, NK.of hok r1 e1 k.1, NKs.of hok r2 e2 k.2⟩
end
theorem tkey_keyG {x : G} (h : tkey x = true) : keyG x = true := by
  cases x with
  | tup xs => exact h
  | _ => simp [tkey] at h
section
variable {X : Cx} {pins : List (Addr × Obj)} {σ : L2.St} {H : Hp} {s : Shared} {a : Addr} {ws : List (Key × V)} {ob : Obj}
theorem retag {u v : HO} (I : Inv X pins σ H s) (e : H a = some u) (nt : ∀ xs, u ≠ .tup xs) (no : ∀ y, u ≠ .own y) (nb : ∀ ps, u ≠ .tbl ps) (nz : ∀ o x, X.H₀ a ≠ some (.frz o x)) (ok : ∀ H', (∀ b xs, H b = some (.tup xs) → H' b = some (.tup xs)) → (∀ b y, H b = some (.own y) → H' b = some (.own y)) → ObjOk X.prog X.w H' s.heap a v) : Inv X pins σ (upd H a v) s := by
  have ne : ∀ b, H b = none → b ≠ a := fun b n z => by rw [z, e] at n; cases n
  have tp : ∀ b xs, H b = some (.tup xs) → upd H a v b = some (.tup xs) := fun b xs q => by
    rw [upd_ne fun z => by rw [z, e] at q; cases q; exact nt xs rfl]; exact q
  have ow : ∀ b y, H b = some (.own y) → upd H a v b = some (.own y) := fun b y q => by
    rw [upd_ne fun z => by rw [z, e] at q; cases q; exact no y rfl]; exact q
  refine ⟨I.ok, I.os, I.bare, ⟨I.base.keep, I.base.slot, fun b o h n hx => ?_, I.base.there, fun b xs h => tp b xs (I.base.tups b xs h), fun b o x h => ?_, fun b ps h => ?_⟩, I.loc, I.cell, ?_, fun x c h => ?_, fun p hp => ?_, fun b x h => ?_, I.len⟩
  · have := I.base.free b o h n hx
    rw [upd_ne (ne b this)]; exact this
  · rw [upd_ne fun z => nz o x (by rw [← z]; exact h)]
    exact I.base.frzs b o x h
  · obtain ⟨m, q⟩ := I.base.tbls b ps h
    exact ⟨m, by rw [upd_ne fun z => by rw [z, e] at q; cases q; exact nb _ rfl]; exact q⟩
  · rw [upd_ne (ne _ I.free)]; exact I.free
  · have := I.freeC x c h
    rw [upd_ne (ne c this)]; exact this
  · obtain ⟨h1, h2, h3⟩ := I.pin p hp
    exact ⟨h1, by rw [upd_ne (ne _ h2)]; exact h2, h3⟩
  · by_cases hb : b = a
    · subst hb
      rw [upd_same] at h
      cases h
      exact ok _ tp ow
    · rw [upd_ne hb] at h
      exact (I.hok b x h).stay (fun _ _ _ q => q) (fun c q => ow c _ q) tp
theorem noF (I : Inv X pins σ H s) (e : H a = some (.dK ws)) : ∀ o x, X.H₀ a ≠ some (.frz o x) := fun o x h => by
  have := I.base.frzs a o x h
  rw [e] at this
  cases this
theorem dg_at {o : Obj} (I : Inv X pins σ H s) (e : H a = some (dG a o)) : s.heap.get? a = some o := (I.hok a _ e).1
theorem dg_ok {P : Program} {w : World} {H : Hp} {h : Heap} {o : Obj} (e : h.get? a = some o) : ObjOk P w H h a (dG a o) := ⟨e, ⟨o, e⟩, fun h1 h2 e1 k => k o e1⟩
theorem RN.his {P : Program} {w : World} {h : Heap} (hok : HOk P w H h) : ∀ {kvs : List (G × G)} {xs : List (G × Addr × Value)}, RN H kvs xs → (kvs.all fun p => tkey p.1) = true → ∀ x ∈ xs, NK h x.1 (.ref x.2.1)
  | [], _, r, _ => by cases r; intro x hx; cases hx
  | p :: kvs, _, r, k => by
    obtain ⟨b, v, u, t, rfl, h1, h2, h3, h4⟩ := r
    simp only [List.all_cons, Bool.and_eq_true] at k
    intro x hx
    rcases List.mem_cons.mp hx with rfl | hx
    · exact NK.of hok h1 rfl (tkey_keyG k.1)
    · exact RN.his hok h4 k.2 x hx
theorem RN.keys : ∀ {kvs : List (G × G)} {xs : List (G × Addr × Value)}, RN H kvs xs → xs.map (·.1) = kvs.map (·.1)
  | [], _, r => by cases r; rfl
  | p :: kvs, _, r => by
    obtain ⟨b, v, u, t, rfl, _, _, _, h4⟩ := r
    simp [RN.keys h4]
theorem RN.len {kvs : List (G × G)} {xs : List (G × Addr × Value)} (r : RN H kvs xs) : xs.length = kvs.length := by
  have := congrArg List.length r.keys
  simpa using this
theorem RN.app {b : Addr} {v : V} {u : Value} {i d : G} (h1 : RG H i (.ref b)) (h2 : RG H d v) (h3 : RelV v u) : ∀ {kvs : List (G × G)} {xs : List (G × Addr × Value)}, RN H kvs xs → RN H (kvs ++ [(i, d)]) (xs ++ [(i, b, u)])
  | [], _, r => by cases r; exact ⟨b, v, u, [], rfl, h1, h2, h3, rfl⟩
  | p :: kvs, _, r => by
    obtain ⟨b', v', u', t, rfl, k1, k2, k3, k4⟩ := r
    exact ⟨b', v', u', t ++ _, rfl, k1, k2, k3, RN.app h1 h2 h3 k4⟩
theorem RN.yes {k w : G} : ∀ {kvs : List (G × G)} {xs : List (G × Addr × Value)}, RN H kvs xs → dget kvs k = some w → ∃ b v u, atKey xs k = some (b, u) ∧ RG H w v ∧ RelV v u
  | [], _, r, e => by simp [dget] at e
  | p :: kvs, _, r, e => by
    obtain ⟨b, v, u, t, rfl, h1, h2, h3, h4⟩ := r
    obtain ⟨j, g⟩ := p
    simp only [dget] at e
    split at e
    · rename_i z
      cases e
      exact ⟨b, v, u, by simp [atKey, z], h2, h3⟩
    · rename_i z
      obtain ⟨b', v', u', k1, k2, k3⟩ := RN.yes h4 e
      refine ⟨b', v', u', ?_, k2, k3⟩
      simpa [atKey, List.find?_cons, z] using k1
theorem RN.no {k : G} : ∀ {kvs : List (G × G)} {xs : List (G × Addr × Value)}, RN H kvs xs → dget kvs k = none → atKey xs k = none
  | [], _, r, e => by cases r; rfl
  | p :: kvs, _, r, e => by
    obtain ⟨b, v, u, t, rfl, h1, h2, h3, h4⟩ := r
    obtain ⟨j, g⟩ := p
    simp only [dget] at e
    split at e
    · cases e
    · rename_i z
      have := RN.no h4 e
      simpa [atKey, List.find?_cons, z] using this
theorem dget_none_mem {k : G} : ∀ {kvs : List (G × G)}, dget kvs k = none → k ∉ kvs.map (·.1)
  | [], _ => by simp
  | (j, g) :: kvs, e => by
    simp only [dget] at e
    split at e
    · cases e
    · rename_i z
      have := dget_none_mem e
      simp only [List.map_cons, List.mem_cons, not_or]
      exact ⟨fun q => z q.symm, this⟩

theorem pe_dtg0 {pos : Pos} : PE X (.Dict [] [] pos) (fun st H Q => ∀ p o, H p = none → RawO Wd.w o [] → (p == sysModules) = false → Q (.ref p) (upd H p (dG p o))) := by
  intro pins s σ H Q I h
  refine thn (pe_dnewK pins s σ H (fun v H' => ∃ p, v = .ref p ∧ H p = none ∧ H' = upd H p (.dK [])) I fun p hp => ⟨p, rfl, hp, rfl⟩) fun v s1 ⟨x, H1, I1, r1, p, e, hp, e1⟩ => ?_
  subst e e1
  cases r1
  obtain ⟨_, hs, vs, rv, o, es, ep, ho, hc, hd, _, hpr, _⟩ := I1.hok p _ upd_same
  cases rv
  have he : es.toList = [] := by
    have := hpr.length
    simpa using this
  have I2 := retag (v := dG p o) I1 upd_same (fun _ z => by cases z) (fun _ z => by cases z) (fun _ z => by cases z) (noF I1 upd_same) fun H' _ _ => dg_ok ho
  rw [upd_upd] at I2
  exact ⟨.ref p, _, I2, rfl, h p o hp ⟨hc, es, ep, hd, by rw [he]; rfl⟩ hs⟩

theorem meetsT_setdef {prog : Program} {w : World} (d b : Addr) (dflt : Value) (hd : (d == sysModules) = false) :
    MeetsIn prog w (Builtin.«dict.setdefault» ⟨[.ref d, .ref b, dflt], []⟩) (fun A R s => A.in1.units + 160 < cLine ∧ ∃ k o xs, NK s.heap k (.ref b) ∧ gdep k ≤ 100 ∧ s.heap.get? d = some o ∧ RawO w o xs ∧ (∀ x ∈ xs, NK s.heap x.1 (.ref x.2.1)) ∧
      (xs.map (·.1)).Nodup ∧ (xs = [] ∨ (gdep k ≤ 8 ∧ ∀ x ∈ xs, gdep x.1 ≤ 8)) ∧ xs.length ≤ sizeLine ∧ (∀ p, atKey xs k = some p → R (.ok (.ret p.2)) { s with toks := s.toks + nkD k }) ∧
      (atKey xs k = none → ∀ h' o', h'.get? d = some o' → RawO w o' (xs ++ [(k, b, dflt)]) → Heap.SameBut d s.heap h' → R (.ok (.ret dflt)) { s with heap := h', toks := s.toks + nkD k })) :=
  .of_wp fun A R s ⟨hu, k, o, xs, h1, h2, h3, h4, h5, h6, h7, h8, q1, q2⟩ => by
    have hT : s.TypeIs (.ref d) "dict" := ⟨o, h3, h4.1.1⟩
    unfold Builtin.«dict.setdefault» Builtin.Dict.keyAndDefault
    refine wpAny_bind (wpAny_bind (wpAny_notOrdered_dict hT ?_))
    show wpAny _ _ (pure (d, Value.ref b, some dflt)) _ _ s
    refine wpAny_pure ?_
    show wpAny _ _ (if (d == sysModules) = true then _ else (dictSetDefault d (.ref b) dflt >>= _)) _ _ s
    rw [hd, if_neg Bool.false_ne_true]
    exact wpAny_bind (nk_setdef hu h1 h2 h3 h4 h5 h6 h7 h8 (fun p hp => wpAny_pure ⟨_, rfl, q1 p hp⟩) fun hx h' o' k1 k2 k3 => wpAny_pure ⟨_, rfl, q2 hx h' o' k1 k2 k3⟩)
noncomputable def rSetdefT : V → List V → Hp → VK → Prop := fun x vs H Q => ∃ a o xs kvs i d vi vd, x = .ref a ∧ vs = [vi, vd] ∧ H a = some (dG a o) ∧ RN H kvs xs ∧ DT a kvs o xs ∧ RG H i vi ∧ RG H d vd ∧ tkey i = true ∧ tells kvs i = true ∧ kvs.length < 100000 ∧
  (∀ w v, dget kvs i = some w → RG H w v → Q v H) ∧ (dget kvs i = none → ∀ o' xs', RN H (kvs ++ [(i, d)]) xs' → DT a (kvs ++ [(i, d)]) o' xs' → Q vd (upd H a (dG a o')))
theorem mt_setdefT (hw : X.w = Wd.w) (hu : X.A.units + 170 < cLine) : MtR X "dict.setdefault" rSetdefT := by
  intro pins s σ H x xs v us Q I rx rs h
  obtain ⟨a, o, ys, kvs, i, d, vi, vd, rfl, rfl, ha, hr, ⟨t1, t2, t3, t4, t5⟩, hi, hd, ki, kt, kl, q1, q2⟩ := h
  cases rx
  obtain ⟨u, z, rfl, ru, rz⟩ := vals2 rs
  have ho := dg_at I ha
  have hk : NK s.heap i u := NK.of I.hok hi ru (tkey_keyG ki)
  obtain ⟨b, rfl⟩ : ∃ b, u = .ref b := by
    cases i with
    | tup _ => obtain ⟨b, _, e, _⟩ := hk; exact ⟨b, e⟩
    | _ => simp [tkey] at ki
  have hvi : vi = .ref b := by
    cases i with
    | tup _ => obtain ⟨b', _, e, _⟩ := hi; subst e; cases ru; rfl
    | _ => simp [tkey] at ki
  subst hvi
  have hlen := hr.len
  have hT : s.TypeIs (.ref a) "dict" := ⟨o, ho, t1.1.1⟩
  rw [← hw] at t1
  simp only [tells, Bool.or_eq_true, Bool.and_eq_true, decide_eq_true_eq] at kt
  refine call_meetsIn PySem.F.slot_dict_setdefault hT PySem.F.entry_dict_setdefault (PySem.F.args_dict_setdefault_3 _ _ _) (meetsT_setdef a b z t2) ⟨by simp only [Around.in1_units]; omega, i, o, ys, hk, ?_, ho, t1, hr.his I.hok t4, t3, ?_, ?_, fun p hp => ?_, fun hx h' o' e1 e2 e3 => ?_⟩
  · rcases kt with ⟨_, k⟩ | ⟨k, _⟩ <;> omega
  · rcases kt with ⟨k, _⟩ | ⟨k1, k2⟩
    · left
      have : kvs = [] := by simpa using k
      subst this
      exact hr
    · right
      refine ⟨k1, fun x hx => ?_⟩
      have hm : x.1 ∈ kvs.map (·.1) := by rw [← hr.keys]; exact List.mem_map.mpr ⟨x, hx, rfl⟩
      obtain ⟨p, hp, e⟩ := List.mem_map.mp hm
      have := List.all_eq_true.mp k2 p hp
      rw [← e]
      exact of_decide_eq_true this
  · rw [hlen, sizeLine_eq]; omega
  · cases c : dget kvs i with
    | none => rw [hr.no c] at hp; cases hp
    | some w =>
      obtain ⟨b', v', u', k1, k2, k3⟩ := hr.yes c
      rw [k1] at hp
      cases hp
      exact ⟨v', H, I.tok _, k3, q1 w v' c k2⟩
  · cases c : dget kvs i with
    | some w =>
      obtain ⟨b', v', u', k1, _⟩ := hr.yes c
      rw [k1] at hx
      cases hx
    | none =>
      have I' : Inv X pins σ (upd H a (dG a o')) { s with heap := h', toks := s.toks + nkD i } := d_write I (by rw [ha]; exact True.intro) e3 ⟨o', e1⟩ (dg_ok e1)
      refine ⟨vd, _, I', rz, q2 c o' _ (RN.app hi hd rz hr) ⟨by rw [← hw]; exact e2, t2, ?_, ?_, by simp; omega⟩⟩
      · rw [List.map_append, List.nodup_append]
        refine ⟨t3, by simp, fun x hm y hy => ?_⟩
        simp only [List.map_cons, List.map_nil, List.mem_singleton] at hy
        subst hy
        rw [hr.keys] at hm
        exact fun e => dget_none_mem c (e ▸ hm)
      · rw [List.all_append, t4]
        simpa using ki

theorem meetsT_len {prog : Program} {w : World} (d : Addr) (hd : (d == sysModules) = false) :
    MeetsIn prog w (Builtin.«dict.__len__» ⟨[.ref d], []⟩) (fun _ R s => ∃ o xs, s.heap.get? d = some o ∧ RawO w o xs ∧ R (.ok (.ret (.int xs.length s.toks))) { s with toks := s.toks + 1 }) :=
  .of_wp fun A R s ⟨o, xs, ho, ⟨hc, es, ep, hdt, he⟩, q⟩ => by
    show wpAny _ _ (dictSize d >>= _) _ _ s
    unfold dictSize
    refine wpAny_bind (wpAny_bind (wpAny_dictEntries ho hdt (wpAny_pure ?_)))
    show wpAny _ _ (Builtin.Dict.pendingCount d >>= _) _ _ s
    refine wpAny_bind (wpAny_pendingCount_other hd (wpAny_ret_mkInt ?_))
    have : es.size = xs.length := by rw [← Array.length_toList, he, List.length_map]
    rw [Nat.add_zero, this]
    exact q
theorem call_lenT (hw : X.w = Wd.w) : CallR X (.builtin "len") (fun xs H Q => ∃ a o ys kvs, xs = [.ref a] ∧ H a = some (dG a o) ∧ RN H kvs ys ∧ DT a kvs o ys ∧ Q (.int kvs.length) H) := by
  intro pins s σ H xs us Q I r h
  obtain ⟨a, o, ys, kvs, rfl, ha, hr, ⟨t1, t2, t3, t4, t5⟩, q⟩ := h
  obtain ⟨u, rfl, ru⟩ := vals1 r
  cases ru
  have ho := dg_at I ha
  have hlen := hr.len
  have hT : s.TypeIs (.ref a) "dict" := ⟨o, ho, t1.1.1⟩
  rw [← hw] at t1
  refine Calls.call_function_entry kind_len plain_len entry_len (args_len1 _) ?_
  unfold Builtin.«len»
  refine wpAny_bind (m := oneArg "len" _) (wpAny_pure (wpAny_bind (m := callSpecial? (.ref a) (Str.ofString "__len__")) (wpAny_callSpecial?_slot (name := Str.ofString "__len__") hT F.slot_dict_len
    (call_meetsIn F.slot_dict_len hT F.entry_dict_len (F.args_dict_len_1 _) (meetsT_len a t2) ⟨o, ys, ho, t1, ?_⟩))))
  show wpAny _ _ _ _ _ { s with toks := s.toks + 1 }
  refine wpAny_bind (wpAny_holding (wpAny_pure (wpAny_bind (wpAny_letGo ?_))))
  show wpAny _ _ (if ((ys.length : Nat) : Int) < 0 then _ else _) _ _ _
  rw [if_neg (by omega)]
  show wpAny _ _ (if ((ys.length : Nat) : Int) ≥ 2 ^ 63 then _ else _) _ _ _
  rw [if_neg (by omega)]
  refine wpAny_bind (wpAny_mkInt (wpAny_pure ⟨_, rfl, ?_⟩))
  exact ⟨.int kvs.length, H, I.tok _, ⟨_, by rw [hlen]⟩, q⟩

theorem vals_get : ∀ {vs : List V} {us : List Value} {j : Nat} {u : Value}, Vals vs us → us[j]? = some u → ∃ v, vs[j]? = some v ∧ RelV v u
  | _, _, j, u, .nil, e => by simp at e
  | _, _, 0, u, .cons r1 r2, e => by simp at e; subst e; exact ⟨_, rfl, r1⟩
  | _, _, j + 1, u, .cons r1 r2, e => by
    obtain ⟨v, k1, k2⟩ := vals_get (j := j) (u := u) r2 (by simpa using e)
    exact ⟨v, by simpa using k1, k2⟩
noncomputable def rIndex : V → List V → Hp → VK → Prop := fun x vs H Q => ∃ a gx vx xs ws i, x = .ref a ∧ vs = [vx] ∧ H a = some (.lst ws) ∧ RGs H xs ws ∧ RG H gx vx ∧ xs.all shal = true ∧ xs.findIdx? (fun y => peq y gx) = some i ∧ Q (.int i) H
theorem mt_index (hu : X.A.units + 170 < cLine) : MtR X "list.index" rIndex := by
  intro pins s σ H x xs v us Q I rx rs h
  obtain ⟨a, gx, vx, xs, ws, i, rfl, rfl, ha, hs, hx, hl, hi, q⟩ := h
  cases rx
  obtain ⟨u, rfl, ru⟩ := vals1 rs
  obtain ⟨hz, its, n, rv, e⟩ := I.hok a _ ha
  have hlen : its.length = xs.length := by rw [← rv.length, hs.length]
  rw [List.findIdx?_eq_some_iff_getElem] at hi
  obtain ⟨hi, h1, h2⟩ := hi
  have hg : ∀ (j : Nat) (hj : j < its.toArray.size), eqW H gx its.toArray[j] = peq (xs[j]'(by simp at hj; omega)) gx := fun j hj => by
    have hj' : j < its.length := by simpa using hj
    obtain ⟨w, k1, k2⟩ := vals_get (j := j) (u := its.toArray[j]) rv (by simp [hj'])
    obtain ⟨w', k3, k4⟩ := hs.get (i := j) (x := xs[j]'(by omega)) (by simp)
    rw [k1] at k3
    cases k3
    exact eqW_is k2 k4
  refine call_meets PySem.F.slot_list_index ⟨_, e, rfl⟩ PySem.F.entry_list_index (PySem.F.args_list_index_2 _ _) (SeqAt.list_indexAt a its.toArray n none #[] u (eqW H gx) i (by simp; omega) (by rw [sizeLine_eq] at hz; have := hs.length; omega) ?_ fun m hm hmi => ?_)
    ⟨e, fun y hy => eqW_at I (by simp only [Around.in1_units]; omega) hx ru hs rv hl y (by simpa using hy), ⟨.int i, H, I.tok _, ⟨_, rfl⟩, q⟩⟩
  · rw [hg]; exact h1
  · rw [hg]
    have := h2 m hmi
    simpa using this
theorem okm_index {K : PySem.W.Frag} : OkM K "list" .index rIndex := by
  refine ⟨fun ρ σ H x v S hv h => ?_, fun ρ σ H x xs v vs r σ' Q S hx hxs e q => ?_⟩
  · rcases recv_ty (K := K) S hv (fun z => by cases z) h with ⟨_, k, ys, rfl, e⟩ | ⟨z, _⟩ | ⟨z, _⟩
    · obtain ⟨ws, h1, h2⟩ := S.lst e
      obtain ⟨hk, rfl⟩ := hv
      exact .inl ⟨rfl, ws, .of h1⟩
    · cases z
    · rcases z with z | z | z <;> cases z
  · change pIndex (x :: xs) σ = _ at e
    match x, xs, hx, hxs, e with
    | .g _, _, _, _, e => simp [pIndex] at e
    | .tr _, _, _, _, e => simp [pIndex] at e
    | .ref _, [], _, _, e => simp [pIndex] at e
    | .ref _, _ :: _ :: _, _, _, e => simp [pIndex] at e
    | .ref _, [.ref _], _, _, e => simp [pIndex] at e
    | .ref _, [.tr _], _, _, e => simp [pIndex] at e
    | .ref k, [.g y], hx, hxs, e =>
      obtain ⟨hk, rfl⟩ := hx
      obtain ⟨vy, rfl, hy⟩ := rrs1 hxs
      simp only [pIndex] at e
      split at e
      · rename_i ys e3
        split at e
        · rename_i c
          split at e
          · rename_i i ei
            cases e
            obtain ⟨ws, h1, h2⟩ := S.lst e3
            exact ⟨_, y, vy, ys, ws, i, rfl, rfl, h1, h2, hy, c, ei, q.same S rfl⟩
          · cases e
        · cases e
      · cases e
end
end SN


set_option Elab.async false
set_option linter.all false
set_option maxRecDepth 100000
namespace SN
open PySem PySem.Spec PyProof.Rows L2 MP

noncomputable def gl (sc : Scope) (x : Str) : Bool := sc.names.lookup x == some .globalImplicit
noncomputable def isS (x : Str) (n : String) : Bool := decide (x = Str.ofString n)
noncomputable def visB (sc : Scope) (x : Str) : Bool := match sc.names.lookup x with
  | some .local => true
  | some .cell => true
  | some .free => true
  | _ => false
noncomputable def notSet : Expr → Bool
  | .Set .. => false
  | _ => true
noncomputable def notSlice : Expr → Bool
  | .Slice .. => false
  | _ => true
noncomputable def opArgs (sc : Scope) (p : Prim) (e : Expr) : Option (List Expr) := match e with
  | .BinOp a op b _ => (match p, op with
    | .add, .Add => some [a, b]
    | .sub, .Sub => some [a, b]
    | .mul, .Mult => some [a, b]
    | .fdiv, .FloorDiv => some [a, b]
    | .mod, .Mod => some [a, b]
    | _, _ => none)
  | .Compare a [op] [b] _ => if notSet b then (match p, op with
    | .eq, .Eq => some [a, b]
    | .ne, .NotEq => some [a, b]
    | .lt, .Lt => some [a, b]
    | .le, .LtE => some [a, b]
    | .gt, .Gt => some [a, b]
    | .ge, .GtE => some [a, b]
    | .inn, .In => some [a, b]
    | .notin, .NotIn => some [a, b]
    | .isN, .Is => some [a, b]
    | .notN, .IsNot => some [a, b]
    | _, _ => none) else none
  | .Subscript a b _ => (match p with
    | .idx => if notSlice b then some [a, b] else none
    | .slice true false => (match b with
      | .Slice (some l) none none _ => some [a, l]
      | _ => none)
    | _ => none)
  | .Tuple es _ _ => (match p with
    | .tup => some es
    | _ => none)
  | .List es _ => (match p with
    | .lst => some es
    | _ => none)
  | .Dict [] [] _ => (match p with
    | .dct0 => some []
    | .dtg0 => some []
    | _ => none)
  | .Call (.Name x _) args [] _ => if gl sc x then (match p, args with
    | .len, [a] => if isS x "len" then some [a] else none
    | .lenT, [a] => if isS x "len" then some [a] else none
    | .tupleOf, [a] => if isS x "tuple" then some [a] else none
    | .listOf, [a] => if isS x "list" then some [a] else none
    | .isInst T, [a, .Name t _] => if isS x "isinstance" && isS t (tyN T) && gl sc t then some [a] else none
    | _, _ => none) else none
  | _ => none
noncomputable def recvE : Expr → Bool
  | .Name _ _ => true
  | .Subscript _ _ _ => true
  | _ => false
noncomputable def methArgs (p : Prim) (e : Expr) : Option (Expr × List Expr) := match e with
  | .Call (.Attribute o m ap) args [] cp => if recvE o && ap.endLine == cp.line then (match p, args with
    | .append, [a] => if isS m "append" then some (o, [a]) else none
    | .clear, [] => if isS m "clear" then some (o, []) else none
    | .setdef, [a, b] => if isS m "setdefault" then some (o, [a, b]) else none
    | .setdefT, [a, b] => if isS m "setdefault" then some (o, [a, b]) else none
    | .index, [a] => if isS m "index" then some (o, [a]) else none
    | _, _ => none) else none
  | _ => none

noncomputable def relabS (sc scope : Scope) : Scope := { scope with names := scope.names.map fun (n, k) => if (k == .free && sc.kind == .function && sc.names.lookup n == some .cell) then (n, .cell) else (n, k) }
noncomputable def capNames (N : List Str) (caps : List Nat) : List Str := caps.map fun i => (N[i]?).getD ⟨#[]⟩
noncomputable def tgNames : Expr → Option (List Str)
  | .Name x _ => some [x]
  | .Tuple [.Name x _, .Name y _] _ _ => some [x, y]
  | _ => none
noncomputable def isTup : Expr → Bool
  | .Tuple .. => true
  | _ => false
noncomputable def compB (N : List Str) (sc : Scope) (xs : List Str) (caps : List Nat) (scope : Scope) : Bool :=
  decide (scope.kind = .function) && scope.names.all (fun y => decide (y.2 ≠ .cell)) && scope.names.all (fun y => decide (y.2 = .local → scope.names.lookup y.1 = some .local)) && xs.all (fun x => decide (scope.names.lookup x = some .local)) &&
  scope.names.all (fun y => decide (y.2 = .free → (sc.names.lookup y.1 = some .cell ∨ sc.names.lookup y.1 = some .free))) && decide ((xs ++ capNames N caps).Nodup) &&
  caps.all (fun i => match N[i]? with
    | some y => decide (scope.names.lookup y = some .free)
    | none => false)

mutual
noncomputable def chkE (N : List Str) (sc : Scope) : MP.Tm → Expr → Bool
  | .var i, e => (match e with
    | .Name x _ => decide (N[i]? = some x) && visB sc x && decide (x ≠ "__debug__") && decide (x ≠ "__classdict__")
    | _ => false)
  | .con g, e => (match g, e with
    | .int i, .Constant (.int j) _ _ => decide (i = j)
    | .int i, .UnaryOp .USub (.Constant (.int j) _ _) _ => decide (i = -j)
    | .bl b, .Constant (.bool c) _ _ => b == c
    | .non, .Constant .none _ _ => true
    | .str x, .Constant (.str y) _ _ => decide (sOf x = y) && okS x
    | _, _ => false)
  | .glb _ _, _ => false
  | .op p as, e => (match opArgs sc p e with
    | some es => chkAs N sc as es
    | none => false)
  | .meth p a as, e => (match methArgs p e with
    | some (o, es) => chkE N sc a o && chkAs N sc as es
    | none => false)
  | .call f as, e => (match e with
    | .Call (.Name x _) (a :: args) [] _ => isS x f && gl sc x && decide (x ≠ "__debug__") && chkAs N sc as (a :: args)
    | _ => false)
  | .andT a b, e => (match e with
    | .BoolOp .And (x :: y :: []) _ => chkE N sc a x && chkE N sc b y
    | .BoolOp .And (x :: y :: z :: r) p => chkE N sc a x && chkE N sc b (.BoolOp .And (y :: z :: r) p)
    | _ => false)
  | .orT a b, e => (match e with
    | .BoolOp .Or (x :: y :: []) _ => chkE N sc a x && chkE N sc b y
    | .BoolOp .Or (x :: y :: z :: r) p => chkE N sc a x && chkE N sc b (.BoolOp .Or (y :: z :: r) p)
    | _ => false)
  | .notT a, e => (match e with
    | .UnaryOp .Not x _ => chkE N sc a x
    | _ => false)
  | .ifT c a b, e => (match e with
    | .IfExp t x y _ => chkE N sc c t && chkE N sc a x && chkE N sc b y
    | _ => false)
  | .chain _ _ _ _ _, _ => false
  | .comp k caps s conds elt, e => (match e with
    | .ListComp el [⟨tg, iter, ifs, asy⟩] scope _ => (match tgNames tg with
      | some xs => decide (asy = 0) && decide (xs.length = k) && compB N sc xs caps scope && notSet iter && chkW N sc (isTup tg) s iter && chkAs (xs ++ capNames N caps) (relabS sc scope) conds ifs && chkE (xs ++ capNames N caps) (relabS sc scope) elt el
      | none => false)
    | _ => false)
noncomputable def chkAs (N : List Str) (sc : Scope) : Tms → List Expr → Bool
  | .nil, es => es.isEmpty
  | .cons a as, es => (match es with
    | e :: r => notStar e && chkE N sc a e && chkAs N sc as r
    | [] => false)
noncomputable def chkW (N : List Str) (sc : Scope) (tup : Bool) : Src → Expr → Bool
  | .over t, e => chkE N sc t e
  | .range1 t, e => (match e with
    | .Call (.Name x _) [a] [] _ => isS x "range" && gl sc x && notStar a && chkE N sc t a
    | _ => false)
  | .range2 _ _, _ => false
  | .items _, _ => false
  | .itemsT _, _ => false
  | .enum _ _, _ => false
  | .zip a b, e => tup && (match e with
    | .Call (.Name x _) [u, v] [] _ => isS x "zip" && gl sc x && notStar u && notStar v && chkE N sc a u && chkE N sc b v
    | _ => false)
  | .keys _, _ => false
  | .chars _, _ => false
end
end SN


set_option Elab.async false
set_option linter.all false
set_option maxRecDepth 100000
namespace SN
open PySem PySem.Spec PyProof.Rows L2 MP
variable [Wd]

noncomputable def SpOf (P : List Fn) (W n : Nat) (f : String) : Sp := fun vs H Q _ => ∃ ρ σ rs r σ', RRs H ρ σ.length rs vs ∧ SR H ρ σ ∧ run P W n f rs σ = .ok r σ' ∧ Fin ρ σ.length H r σ' Q
structure Amb (X : Cx) (P : List Fn) (W n : Nat) : Prop where
  un : X.A.units + 200 < cLine
  room : Room n X.A
  calm : X.calm = true
  xe : X.xe = fun _ _ => False
  nd : X.N.Nodup
  wd : X.w = Wd.w
  blt : ∀ b ∈ ["len", "tuple", "list", "dict", "isinstance", "range", "int", "bool", "str", "sum", "max", "min", "all", "enumerate", "zip", "sorted", "any", "abs", "ord", "reversed"], X.mg (Str.ofString b) = none
  fns : ∀ f d, look P f = some d → ∃ a fd ps, X.mg (Str.ofString f) = some (.ref a) ∧ PySem.W.keepIn X.K (.ref a) = true ∧ Binds X.K fd ps [] ∧ FnOk X.prog X.w X.K X.mg X.base CX0 n a fd ps (SpOf P W n f)
theorem Amb.comp {X : Cx} {P : List Fn} {W n : Nat} (am : Amb X P W n) {N' : List Str} (nd : N'.Nodup) (scope : Scope) (cl : List (Str × Addr)) (C : Addr) (fp : List Addr) (s : Shared) (H : Hp) : Amb (cxC X N' scope cl C fp s H) P W n :=
  ⟨am.un, am.room, am.calm, rfl, nd, am.wd, am.blt, am.fns⟩

theorem pe_false {X : Cx} {e : Expr} {t : TE} (h : ∀ st H Q, ¬ t st H Q) : PE X e t := fun pins s σ H Q I q => absurd q (h σ H Q)
noncomputable def plainTest : Expr → Bool
  | .UnaryOp .Not _ _ => false
  | .BoolOp .. => false
  | .IfExp .. => false
  | .Compare .. => false
  | _ => true
theorem plain_test {e : Expr} {env : PySem.Env} (h : plainTest e = true) : ∀ whole, isTrue e env whole = (do let v ← whole; standAt e.pos; holding [v] (truthy v)) := by
  intro whole
  cases e <;> first
    | rfl
    | (simp [plainTest] at h; done)
    | (rename_i op _ _; cases op <;> first | rfl | (simp [plainTest] at h; done))
noncomputable def isLeaf : MP.Tm → Bool
  | .andT _ _ => false
  | .orT _ _ => false
  | .notT _ => false
  | .ifT _ _ _ => false
  | .chain _ _ _ _ _ => false
  | _ => true
theorem bind_assoc' {α β γ : Type} (x : Res α) (f : α → Store → Res β) (g : β → Store → Res γ) : (x.bind f).bind g = x.bind fun a σ => (f a σ).bind g := by cases x <;> rfl
theorem leaf_true {cl : CallH} {t : MP.Tm} {ε : MP.Env} {σ : Store} (h : isLeaf t = true) : ev cl true t ε σ = (ev cl false t ε σ).bind (truR true) := by
  cases t <;> first | (simp [isLeaf] at h; done) | skip
  · rw [ev, ev]
    split <;> rfl
  · rw [ev, ev]; rfl
  · rw [ev, ev]; rfl
  · rw [ev, ev, bind_assoc']; congr 1; funext xs σ1; rw [bind_assoc']; rfl
  · rw [ev, ev, bind_assoc']; congr 1; funext x σ1
    split
    · rw [bind_assoc']; congr 1; funext xs σ2; rw [bind_assoc']; rfl
    · rfl
  · rw [ev, ev, bind_assoc']; congr 1; funext xs σ1; rw [bind_assoc']; rfl
  · rw [ev, ev, bind_assoc']; congr 1; funext w σ1; rw [bind_assoc']; rfl
theorem leafT {K : PySem.W.Frag} {cl : CallH} {t : MP.Tm} (hl : isLeaf t = true) (st : L2.St) (H : Hp) (Q : Bool → Hp → Prop) (h : T1 cl t st H Q) : E1 cl t st H fun v H' => ∃ k, TruV K v H' k ∧ Q k H' := by
  obtain ⟨ρ, ε, σ, b, σ', hE, hS, e, q⟩ := h
  rw [leaf_true hl] at e
  obtain ⟨r, σ1, e1, e2⟩ := bind_inv e
  simp only [truR, if_true] at e2
  obtain ⟨b', e3, e4⟩ := ofO_inv e2
  cases e4
  exact ⟨ρ, ε, σ, r, _, hE, hS, e1, fun ρ' v H' ex S' rr => ⟨b, tru_TruV S' rr e3, q ρ' H' ex S'⟩⟩
theorem leafB {cl : CallH} {p : Prim} {as : Tms} (hp : ∀ xs σ r σ', prim p xs σ = .ok r σ' → ∃ b, r = .g (.bl b)) (st : L2.St) (H : Hp) (Q : Bool → Hp → Prop) (h : T1 cl (.op p as) st H Q) : E1 cl (.op p as) st H fun v H' => ∃ k, v = .bl k ∧ Q k H' := by
  obtain ⟨ρ, ε, σ, b, σ', hE, hS, e, q⟩ := h
  rw [leaf_true rfl] at e
  obtain ⟨r, σ1, e1, e2⟩ := bind_inv e
  obtain ⟨xs, σ2, e5, e6⟩ := op_inv e1
  obtain ⟨b', rfl⟩ := hp _ _ _ _ e6
  cases e2
  exact ⟨ρ, ε, σ, _, _, hE, hS, e1, fun ρ' v H' ex S' rr => ⟨b, rr, q ρ' H' ex S'⟩⟩
theorem pt_leaf {X : Cx} {cl : CallH} {t : MP.Tm} {e : Expr} (hl : isLeaf t = true) (he : plainTest e = true) (h : PE X e (E1 cl t)) : PT X e (T1 cl t) :=
  PT.imp (pt_truth h (plain_test he)) fun st H Q q => leafT hl st H Q q

noncomputable def isCmp : Prim → Bool
  | .eq => true | .ne => true | .lt => true | .le => true | .gt => true | .ge => true | .inn => true | .notin => true | .isN => true | .notN => true
  | _ => false
theorem cmp_bl {p : Prim} (h : isCmp p = true) (xs : List R) (σ : Store) (r : R) (σ' : Store) (e : prim p xs σ = .ok r σ') : ∃ b, r = .g (.bl b) := by
  cases p <;> first | (simp [isCmp] at h; done) | skip
  · change pEq xs σ = _ at e; unfold pEq at e; split at e; (split at e <;> cases e; exact ⟨_, rfl⟩); cases e
  · change pNe xs σ = _ at e; unfold pNe at e; split at e; (split at e <;> cases e; exact ⟨_, rfl⟩); cases e
  · change pLt xs σ = _ at e; unfold pLt at e; split at e <;> cases e; exact ⟨_, rfl⟩
  · change pLe xs σ = _ at e; unfold pLe at e; split at e <;> cases e; exact ⟨_, rfl⟩
  · change pGt xs σ = _ at e; unfold pGt at e; split at e <;> cases e; exact ⟨_, rfl⟩
  · change pGe xs σ = _ at e; unfold pGe at e; split at e <;> cases e; exact ⟨_, rfl⟩
  · change pIsN xs σ = _ at e; unfold pIsN at e; split at e <;> cases e; exact ⟨_, rfl⟩
  · change pNotN xs σ = _ at e; unfold pNotN at e; split at e <;> cases e; exact ⟨_, rfl⟩
  · change pIn xs σ = _ at e; unfold pIn at e; split at e; (split at e <;> cases e; exact ⟨_, rfl⟩); cases e
  · change pNotIn xs σ = _ at e; unfold pNotIn at e; split at e; (split at e <;> cases e; exact ⟨_, rfl⟩); cases e
theorem nomarkS {op : CmpOp} {b : Expr} (h : notSet b = true) : behindInMarks op b = false := by
  cases b <;> first | rfl | (simp [notSet] at h; done)
theorem plainIx {b : Expr} (h : notSlice b = true) : PlainIx b := fun o i => by
  cases b <;> first | rfl | (simp [notSlice] at h; done)
theorem isS_eq {x : Str} {n : String} (h : isS x n = true) : x = Str.ofString n := of_decide_eq_true h
theorem gl_eq {X : Cx} {x : Str} (h : gl X.env.scope x = true) : Gl X x := by
  unfold gl at h
  exact eq_of_beq h
theorem two_of {X : Cx} {cl : CallH} {a b : Expr} {as : Tms} (h : PEl X cl [a, b] as) : ∃ ta tb, as = .cons ta (.cons tb .nil) ∧ PE X a (E1 cl ta) ∧ PE X b (E1 cl tb) := by
  cases h with
  | cons _ h1 h2 => cases h2 with
    | cons _ h3 h4 => cases h4; exact ⟨_, _, rfl, h1, h3⟩

section
variable {X : Cx} {P : List Fn} {W n : Nat} {cl : CallH}
noncomputable abbrev Both (X : Cx) (cl : CallH) (t : MP.Tm) (e : Expr) : Prop := PE X e (E1 cl t) ∧ PT X e (T1 cl t)
theorem both_bin {a b : Expr} {op : Operator} {pos : Pos} {p : Prim} {rr : R2} {as : Tms} (ho : OpR X (binaryOp op) rr) (h2 : Ok2 p rr) (h : PEl X cl [a, b] as) : Both X cl (.op p as) (.BinOp a op b pos) := by
  obtain ⟨ta, tb, rfl, ha, hb⟩ := two_of h
  have q : PE X (.BinOp a op b pos) (E1 cl (.op p (.cons ta (.cons tb .nil)))) := PE.imp (pe_op ho ha hb) fun st H Q t => lift2 h2 st H Q t
  exact ⟨q, pt_leaf rfl rfl q⟩
theorem both_cmp {a b : Expr} {op : CmpOp} {pos : Pos} {p : Prim} {rr : R2} {as : Tms} (ho : OpR X (compareOp op) rr) (h2 : Ok2 p rr) (hc : isCmp p = true) (hs : notSet b = true) (h : PEl X cl [a, b] as) : Both X cl (.op p as) (.Compare a [op] [b] pos) := by
  obtain ⟨ta, tb, rfl, ha, hb⟩ := two_of h
  exact ⟨PE.imp (pe_cmpR ho ha hb (nomarkS hs)) fun st H Q t => lift2 h2 st H Q t,
    PT.imp (pt_cmpR ho ha hb (nomarkS hs)) fun st H Q t => lift2 h2 st H _ (leafB (cmp_bl hc) st H Q t)⟩
theorem one_of {a : Expr} {as : Tms} (h : PEl X cl [a] as) : ∃ ta, as = .cons ta .nil ∧ PE X a (E1 cl ta) ∧ notStar a = true := by
  cases h with
  | cons h0 h1 h2 => cases h2; exact ⟨_, rfl, h1, h0⟩
theorem both_callB {a : Expr} {x : Str} {p : Prim} {pp pos : Pos} {rr : List V → Hp → VK → Prop} {as : Tms} {id : String} (hc : CallR X (.builtin id) rr) (h2 : OkN p rr) (hg : Gl X x) (hm : X.mg x = none) (hv : bootBuiltins x = some (.builtin id)) (hn : x ≠ "__name__") (hd : (x == ("__debug__" : Str)) = false)
    (h : PEl X cl [a] as) : Both X cl (.op p as) (.Call (.Name x pp) [a] [] pos) := by
  obtain ⟨ta, e, ha, hs⟩ := one_of h
  have q : PE X (.Call (.Name x pp) [a] [] pos) (E1 cl (.op p as)) := PE.imp (pe_callB hc hg hm hv h.pa hn hd (starEach_cons hs) (backTo_plain (es := []) rfl)) fun st H Q t => liftN h2 st H Q t
  exact ⟨q, pt_leaf rfl rfl q⟩
theorem both_callT {a : Expr} {x : Str} {p : Prim} {pp pos : Pos} {rr : List V → Hp → VK → Prop} {as : Tms} {T : String} (hc : CallR X (.type T) rr) (h2 : OkN p rr) (hg : Gl X x) (hm : X.mg x = none) (hv : bootBuiltins x = some (.type T)) (hn : x ≠ "__name__") (hd : (x == ("__debug__" : Str)) = false)
    (h : PEl X cl [a] as) : Both X cl (.op p as) (.Call (.Name x pp) [a] [] pos) := by
  obtain ⟨ta, e, ha, hs⟩ := one_of h
  have q : PE X (.Call (.Name x pp) [a] [] pos) (E1 cl (.op p as)) := PE.imp (pe_callTy hc hg hm hv h.pa hn hd (starEach_cons hs) (backTo_plain (es := []) rfl)) fun st H Q t => liftN h2 st H Q t
  exact ⟨q, pt_leaf rfl rfl q⟩

theorem not_debug {n : String} (h : (Str.ofString n == ("__debug__" : Str)) = false := by decide +kernel) : (Str.ofString n == ("__debug__" : Str)) = false := h
theorem bb_tuple : bootBuiltins (Str.ofString "tuple") = some (.type "tuple") := by decide +kernel
theorem bb_list : bootBuiltins (Str.ofString "list") = some (.type "list") := by decide +kernel
theorem bb_isinstance : bootBuiltins (Str.ofString "isinstance") = some (.builtin "isinstance") := by decide +kernel
theorem bb_ty (T : Ty) : bootBuiltins (Str.ofString (tyN T)) = some (.type (tyN T)) := by cases T <;> decide +kernel
theorem both_of {t : MP.Tm} {e : Expr} (hl : isLeaf t = true) (he : plainTest e = true) (q : PE X e (E1 cl t)) : Both X cl t e := ⟨q, pt_leaf hl he q⟩
theorem both_ix (hu : X.A.units + 1 < cLine) {a b : Expr} {pos : Pos} {as : Tms} (hs : notSlice b = true) (h : PEl X cl [a, b] as) : Both X cl (.op .idx as) (.Subscript a b pos) := by
  obtain ⟨ta, tb, rfl, ha, hb⟩ := two_of h
  exact both_of rfl rfl (PE.imp (pe_ix (ix_all hu) ha hb (plainIx hs)) fun st H Q t => lift2 ok_idx st H Q t)
theorem both_tup {es : List Expr} {k : Nat} {pos : Pos} {as : Tms} (h : PEl X cl es as) : Both X cl (.op .tup as) (.Tuple es k pos) := both_of rfl rfl (PE.imp (pe_tup h.pa) fun st H Q t => liftN ok_tup st H Q t)
theorem both_lst {es : List Expr} {pos : Pos} {as : Tms} (h : PEl X cl es as) : Both X cl (.op .lst as) (.List es pos) := both_of rfl rfl (PE.imp (pe_lst h.pa) fun st H Q t => liftN ok_lst st H Q t)
theorem both_dct0 {pos : Pos} : Both X cl (.op .dct0 .nil) (.Dict [] [] pos) := both_of rfl rfl (PE.imp pe_dnewK fun st H Q t => by
  obtain ⟨ρ, ε, σ, r, σ', hE, hS, e, q⟩ := t
  obtain ⟨xs, σ1, e1, e2⟩ := op_inv e
  obtain ⟨rfl, rfl⟩ := evs_nil_inv e1
  exact (ok_dct0 ρ σ1 H [] [] r σ' Q hS rfl e2 q).2)
theorem ok_dtg0 : OkN .dtg0 (fun xs H Q => xs = [] ∧ ∀ p o, H p = none → RawO Wd.w o [] → (p == sysModules) = false → Q (.ref p) (upd H p (dG p o))) := by
  intro ρ σ H xs vs r σ' Q S hx e q
  change pDtg0 xs σ = _ at e
  match xs, hx, e with
  | _ :: _, _, e => simp [pDtg0] at e
  | [], hx, e =>
    cases hx
    cases e
    exact ⟨rfl, fun p o hp hr hs => q.new S hp (fun _ z => by cases z) fun H' ρ' tp e ep ag => ⟨o, [], by rw [ep]; exact e, rfl, hr, by rw [ep]; exact hs, List.nodup_nil, rfl, by simp⟩⟩
theorem both_dtg0 {pos : Pos} : Both X cl (.op .dtg0 .nil) (.Dict [] [] pos) := both_of rfl rfl (PE.imp pe_dtg0 fun st H Q t => by
  obtain ⟨ρ, ε, σ, r, σ', hE, hS, e, q⟩ := t
  obtain ⟨xs, σ1, e1, e2⟩ := op_inv e
  obtain ⟨rfl, rfl⟩ := evs_nil_inv e1
  exact (ok_dtg0 ρ σ1 H [] [] r σ' Q hS rfl e2 q).2)
theorem SR.dtg {H : Hp} {ρ : Nat → Addr} {σ : Store} (S : SR H ρ σ) {k : Nat} {xs : List (G × G)} (e : σ[k]? = some (.dtg xs)) : ∃ o ys, H (ρ k) = some (dG (ρ k) o) ∧ RN H xs ys ∧ DT (ρ k) xs o ys := S.cell k _ e
theorem ok_lenT : OkN .lenT (fun xs H Q => ∃ a o ys kvs, xs = [.ref a] ∧ H a = some (dG a o) ∧ RN H kvs ys ∧ DT a kvs o ys ∧ Q (.int kvs.length) H) := by
  intro ρ σ H xs vs r σ' Q S hx e q
  change pLenT xs σ = _ at e
  match xs, hx, e with
  | [], _, e => simp [pLenT] at e
  | _ :: _ :: _, _, e => simp [pLenT] at e
  | [.g _], _, e => simp [pLenT] at e
  | [.tr _], _, e => simp [pLenT] at e
  | [.ref k], hx, e =>
    obtain ⟨v, rfl, hv⟩ := rrs1 hx
    obtain ⟨hk, rfl⟩ := hv
    simp only [pLenT] at e
    split at e
    · rename_i kvs e3
      cases e
      obtain ⟨o, ys, h1, h2, h3⟩ := S.dtg e3
      exact ⟨_, o, ys, kvs, rfl, h1, h2, h3, q.same S rfl⟩
    · cases e
theorem both_inst (am : Amb X P W n) {T : Ty} {a : Expr} {pp tp pos : Pos} {as : Tms} (hg : Gl X (Str.ofString "isinstance")) (hgt : Gl X (Str.ofString (tyN T))) (h : PEl X cl [a] as) :
    Both X cl (.op (.isInst T) as) (.Call (.Name (Str.ofString "isinstance") pp) [a, .Name (Str.ofString (tyN T)) tp] [] pos) := by
  obtain ⟨ta, rfl, ha, hs⟩ := one_of h
  have hmt : X.mg (Str.ofString (tyN T)) = none := am.blt (tyN T) (by cases T <;> simp [tyN])
  have hpt : PE X (.Name (Str.ofString (tyN T)) tp) (tC (.ty (tyN T))) := pe_bltn hgt hmt (bb_ty T) rfl (by cases T <;> decide +kernel) (by cases T <;> decide +kernel)
  refine both_of rfl rfl (PE.imp (pe_callB call_isinst hg (am.blt _ (by simp)) bb_isinstance (pa_cons ha (pa_cons hpt pa_nil) (starEach_cons hs)) (by decide +kernel) not_debug (starEach_cons hs) rfl) fun st H Q t => ?_)
  obtain ⟨ρ, ε, σ, r, σ', hE, hS, e, q⟩ := t
  obtain ⟨xs, σ1, e1, e2⟩ := op_inv e
  obtain ⟨x, ys, σ2, e3, e4, rfl⟩ := evs_cons_inv e1
  obtain ⟨rfl, rfl⟩ := evs_nil_inv e4
  exact ⟨ρ, ε, σ, x, _, hE, hS, e3, fun ρ1 v1 H1 ex1 S1 r1 => ok_isInst T S1 r1 e2 (q.after ex1 S1)⟩
theorem both_slice {a l : Expr} {pos p2 : Pos} {as : Tms} (h : PEl X cl [a, l] as) : Both X cl (.op (.slice true false) as) (.Subscript a (.Slice (some l) none none p2) pos) := by
  obtain ⟨ta, tb, rfl, ha, hb⟩ := two_of h
  refine both_of rfl rfl (PE.imp (pe_slice sl_all ha (po_some hb) po_none) fun st H Q t => ?_)
  obtain ⟨ρ, ε, σ, r, σ', hE, hS, e, q⟩ := t
  obtain ⟨xs, σ1, e1, e2⟩ := op_inv e
  obtain ⟨x, ys, σ2, e3, e4, rfl⟩ := evs_cons_inv e1
  obtain ⟨y, zs, σ3, e5, e6, rfl⟩ := evs_cons_inv e4
  obtain ⟨rfl, rfl⟩ := evs_nil_inv e6
  refine ⟨ρ, ε, σ, x, σ2, hE, hS, e3, fun ρ1 v1 H1 ex1 S1 r1 => ?_⟩
  refine ⟨ρ1, ε, σ2, y, _, hE.mono hS ex1, S1, e5, fun ρ2 v2 H2 ex2 S2 r2 => ?_⟩
  exact ok_slice S2 (RR.mono (ex2.tp S1) ex2.le ex2.ag _ r1) r2 e2 (q.after (ex1.trans S1 ex2) S2)
theorem op_sound (am : Amb X P W n) {p : Prim} {as : Tms} {e : Expr} {es : List Expr} (ho : opArgs X.env.scope p e = some es) (h : PEl X cl es as) : Both X cl (.op p as) e := by
  have hu : X.A.units + 170 < cLine := by have := am.un; omega
  unfold opArgs at ho
  split at ho
  · -- a op b
    split at ho <;> first | (cases ho; done) | skip
    · cases ho; exact both_bin op_addAll ok_add h
    · cases ho; exact both_bin op_sub ok_sub h
    · cases ho; exact both_bin op_mul ok_mul h
    · cases ho; exact both_bin op_fdiv ok_fdiv h
    · cases ho; exact both_bin op_mod ok_mod h
  · split at ho
    · rename_i hs
      split at ho <;> first | (cases ho; done) | skip
      · cases ho; exact both_cmp (op_eqAll hu) ok_eq rfl hs h
      · cases ho; exact both_cmp (op_neAll hu) ok_ne rfl hs h
      · cases ho; exact both_cmp op_lt ok_lt rfl hs h
      · cases ho; exact both_cmp op_le ok_le rfl hs h
      · cases ho; exact both_cmp op_gt ok_gt rfl hs h
      · cases ho; exact both_cmp op_ge ok_ge rfl hs h
      · cases ho; exact both_cmp (op_inAll hu) ok_in rfl hs h
      · cases ho; exact both_cmp (op_notinAll hu) ok_notin rfl hs h
      · cases ho; exact both_cmp op_isN ok_isN rfl hs h
      · cases ho; exact both_cmp op_notN ok_notN rfl hs h
    · cases ho
  · split at ho
    · split at ho
      · rename_i hs
        cases ho
        exact both_ix (by omega) hs h
      · cases ho
    · split at ho
      · cases ho
        exact both_slice h
      · cases ho
    · cases ho
  · split at ho
    · cases ho; exact both_tup h
    · cases ho
  · split at ho
    · cases ho; exact both_lst h
    · cases ho
  · split at ho
    · cases ho; cases h; exact both_dct0
    · cases ho; cases h; exact both_dtg0
    · cases ho
  · split at ho
    · rename_i hg
      have hg' := gl_eq (X := X) hg
      split at ho <;> first | (cases ho; done) | skip
      · split at ho
        · rename_i hx
          have ex := isS_eq hx
          subst ex
          cases ho
          exact both_callB call_lenAll ok_len hg' (am.blt _ (by simp)) PySem.boot_len (by decide +kernel) not_debug h
        · cases ho
      · split at ho
        · rename_i hx
          have ex := isS_eq hx
          subst ex
          cases ho
          exact both_callB (call_lenT am.wd) ok_lenT hg' (am.blt _ (by simp)) PySem.boot_len (by decide +kernel) not_debug h
        · cases ho
      · split at ho
        · rename_i hx
          have ex := isS_eq hx
          subst ex
          cases ho
          exact both_callT call_tuple_of ok_tupleOf hg' (am.blt _ (by simp)) bb_tuple (by decide +kernel) not_debug h
        · cases ho
      · split at ho
        · rename_i hx
          have ex := isS_eq hx
          subst ex
          cases ho
          exact both_callT (call_listAll am.calm) ok_listOf hg' (am.blt _ (by simp)) bb_list (by decide +kernel) not_debug h
        · cases ho
      · split at ho
        · rename_i T a t tp hx
          simp only [Bool.and_eq_true] at hx
          obtain ⟨⟨hx, ht⟩, hgt⟩ := hx
          have ex := isS_eq hx
          have et := isS_eq ht
          subst ex et
          cases ho
          exact both_inst am hg' (gl_eq (X := X) hgt) h
        · cases ho
    · cases ho
  · cases ho
end
end SN


set_option Elab.async false
set_option linter.all false
set_option maxRecDepth 100000
namespace SN
open PySem PySem.Spec PyProof.Rows L2 MP
variable [Wd]
section
variable {X : Cx} {P : List Fn} {W n : Nat} {cl : CallH}

theorem recv_base {o : Expr} {m : Str} {env : PySem.Env} (h : recvE o = true) : attributeBase o m env (eval o env) = eval o env := by
  cases o <;> first | rfl | (simp [recvE] at h; done)
theorem few_ok {es : List Expr} {cpos : Pos} {env : PySem.Env} (h : es.all notStar = true) (hl : es.length < 30) : ((backTo cpos (starEach es env)).all (fun x => !x.1) && (backToKw cpos (keywordEach [] env)).all (fun x => x.1.isSome)
      && decide (es.length + ([] : List Keyword).length + (if ([] : List Keyword).isEmpty then 0 else 1) < 30)) = true := by
  have h1 : (backTo cpos (starEach es env)).all (fun x => !x.1) = true := by
    have := backTo_plain (pos := cpos) (env := env) h
    rw [List.any_eq_false] at this
    rw [List.all_eq_true]
    intro x hx
    have := this x hx
    simpa using this
  rw [h1]
  simpa [backToKw, keywordEach] using hl
theorem both_meth {T : String} {name : Str} {id : String} {o a : Expr} {es : List Expr} {ap cp : Pos} {p : Prim} {rr : V → List V → Hp → VK → Prop} {ta : MP.Tm} {as : Tms}
    (pa : PlainAttrs T) (slot : Slot T name id) (hty : typeOf (.builtin id) = pure (.type "method_descriptor")) (hm : MtR X id rr) (ok : OkM X.K T p rr) (hr : recvE o = true) (hl : (ap.endLine == cp.line) = true) (hlen : (a :: es).length < 30)
    (ho : PE X o (E1 cl ta)) (h : PEl X cl (a :: es) as) : Both X cl (.meth p ta as) (.Call (.Attribute o name ap) (a :: es) [] cp) := by
  have hs := h.stars
  have hs' : notStar a = true ∧ es.all notStar = true := by simpa using hs
  exact both_of rfl rfl (PE.imp (pe_bm pa slot hty hm ho h.pa (recv_base hr) (few_ok hs hlen) hl (starEach_cons hs'.1) (backTo_plain hs'.2)) fun st H Q t => liftM ok st H Q t)
theorem both_setdefT (am : Amb X P W n) {o a : Expr} {es : List Expr} {ap cp : Pos} {ta : MP.Tm} {as : Tms} (hr : recvE o = true) (hl : (ap.endLine == cp.line) = true) (hlen : (a :: es).length < 30)
    (ho : PE X o (E1 cl ta)) (h : PEl X cl (a :: es) as) : Both X cl (.meth .setdefT ta as) (.Call (.Attribute o (Str.ofString "setdefault") ap) (a :: es) [] cp) := by
  have hs := h.stars
  have hs' : notStar a = true ∧ es.all notStar = true := by simpa using hs
  refine both_of rfl rfl fun pins s σ H Q I t => ?_
  obtain ⟨ρ, ε, τ, r, τ', hE, hS, e, q⟩ := t
  obtain ⟨x, τ1, xs, τ2, e1, hrv, e2, e3⟩ := meth_inv e
  refine wpAny_Call_method_late (recv_base hr) (few_ok hs hlen) hl rfl (thn (ho pins s σ H (fun v1 H1 => ∃ ρ1, Ext ρ τ.length H ρ1 τ1.length H1 ∧ SR H1 ρ1 τ1 ∧ RR H1 ρ1 τ1.length x v1) I ⟨ρ, ε, τ, x, τ1, hE, hS, e1, fun ρ1 v1 H1 ex1 S1 r1 => ⟨ρ1, ex1, S1, r1⟩⟩) fun v s1 ⟨y, H1, I1, ry, ρ1, ex1, S1, r1⟩ => ?_)
  obtain ⟨k, kvs, rfl, ek⟩ : ∃ k kvs, x = .ref k ∧ τ1[k]? = some (.dtg kvs) := by
    cases x with
    | g _ => simp [recvOk] at hrv
    | tr _ => simp [recvOk] at hrv
    | ref k =>
      cases c : τ1[k]? with
      | none => simp [recvOk, c] at hrv
      | some cell => cases cell <;> simp [recvOk, c] at hrv; exact ⟨k, _, rfl, c⟩
  obtain ⟨hk, rfl⟩ := r1
  cases ry
  obtain ⟨o1, ys1, ha1, hn1, hd1⟩ := S1.dtg ek
  have ho1 := dg_at I1 ha1
  have hT : s1.TypeIs (.ref (ρ1 k)) "dict" := ⟨o1, ho1, hd1.1.1.1⟩
  refine ⟨"dict", "dict.setdefault", PySem.F.plainAttrs_dict, PySem.F.slot_dict_setdefault, PySem.F.type_dict_setdefault, hT, fun b z => by cases z; exact ⟨o1, ho1, hd1.1.1.2.1⟩, ?_⟩
  have hA := h.pa cp pins s1 σ H1 (fun vs H2 => ∃ ρ2, Ext ρ1 τ1.length H1 ρ2 τ2.length H2 ∧ SR H2 ρ2 τ2 ∧ RRs H2 ρ2 τ2.length xs vs) I1 ⟨ρ1, ε, τ1, xs, τ2, hE.mono hS ex1, S1, e2, fun ρ2 vs H2 ex2 S2 r2 => ⟨ρ2, ex2, S2, r2⟩⟩
  rw [starEach_cons hs'.1] at hA ⊢
  refine Calls.callWith_builtin (by show (false || (backTo cp (starEach es X.env)).any (·.1)) = false; rw [backTo_plain hs'.2] <;> rfl) (Calls.evalArgs_plain ?_)
  refine thn hA fun us s2 ⟨vs, H2, I2, r2, ρ2, ex2, S2, rr2⟩ => ?_
  refine mt_setdefT am.wd (by have := am.un; omega) pins s2 σ H2 (.ref (ρ1 k)) vs _ us Q I2 rfl r2 ?_
  have hk2 : k < τ2.length := Nat.lt_of_lt_of_le hk ex2.le
  rw [← ex2.ag k hk]
  have q2 : Fin ρ2 τ2.length H2 r τ' Q := q.after (ex1.trans S1 ex2) S2
  change pSetdefT (.ref k :: xs) τ2 = _ at e3
  match xs, rr2, e3 with
  | [], _, e => simp [pSetdefT] at e
  | [_], _, e => simp [pSetdefT] at e
  | _ :: _ :: _ :: _, _, e => simp [pSetdefT] at e
  | [.ref _, _], _, e => simp [pSetdefT] at e
  | [.tr _, _], _, e => simp [pSetdefT] at e
  | [.g _, .ref _], _, e => simp [pSetdefT] at e
  | [.g _, .tr _], _, e => simp [pSetdefT] at e
  | [.g i, .g d], rr2, e =>
    obtain ⟨vi, vd, rfl, hi, hd⟩ := rrs2 rr2
    simp only [pSetdefT] at e
    split at e
    · rename_i kvs2 e4
      split at e
      · rename_i c
        simp only [Bool.and_eq_true, decide_eq_true_eq] at c
        obtain ⟨⟨c1, c2⟩, c3⟩ := c
        obtain ⟨o2, ys2, ha2, hn2, hd2⟩ := S2.dtg e4
        refine ⟨_, o2, ys2, kvs2, i, d, vi, vd, rfl, rfl, ha2, hn2, hd2, hi, hd, c1, c2, c3, fun w v cw rw' => ?_, fun cn o' xs' g1 g2 => ?_⟩
        · rw [cw] at e
          cases e
          exact q2.same S2 rw'
        · rw [cn] at e
          cases e
          obtain ⟨x1, x2⟩ := S2.write hk2 (o := dG (ρ2 k) o') (c := .dtg (kvs2 ++ [(i, d)])) (fun _ _ z => by rw [ha2] at z; cases z) fun H' tp' e' => ⟨o', xs', e', RN.mono tp' _ g1, g2⟩
          exact q2 ρ2 vd _ x1 x2 (RG.mono (fun b vs z => by
            rw [upd_ne fun y => by rw [y, ha2] at z; cases z]; exact z) _ hd)
      · cases e
    · cases e
theorem meth_sound (am : Amb X P W n) {p : Prim} {a : MP.Tm} {as : Tms} {e o : Expr} {es : List Expr} (hm : methArgs p e = some (o, es)) (ho : PE X o (E1 cl a)) (h : PEl X cl es as) : Both X cl (.meth p a as) e := by
  have hu : X.A.units + 1 < cLine := by have := am.un; omega
  unfold methArgs at hm
  split at hm
  · split at hm
    · rename_i hr
      simp only [Bool.and_eq_true] at hr
      split at hm <;> first | (cases hm; done) | skip
      · split at hm
        · rename_i hx
          have ex := isS_eq hx
          subst ex
          cases hm
          exact both_meth PySem.F.plainAttrs_list PySem.F.slot_list_append PySem.F.type_list_append mt_append okm_append hr.1 hr.2 (by simp) ho h
        · cases hm
      · split at hm
        · rename_i hx
          have ex := isS_eq hx
          subst ex
          cases hm
          cases h
          exact both_of rfl rfl (PE.imp (pe_bm0 PySem.F.plainAttrs_dict PySem.F.slot_dict_clear PySem.F.type_dict_clear mt_clearD ho (recv_base hr.1) hr.2) fun st H Q t => liftM0 okm_clear st H Q t)
        · cases hm
      · split at hm
        · rename_i hx
          have ex := isS_eq hx
          subst ex
          cases hm
          exact both_meth PySem.F.plainAttrs_dict PySem.F.slot_dict_setdefault PySem.F.type_dict_setdefault mt_setdef okm_setdef hr.1 hr.2 (by simp) ho h
        · cases hm
      · split at hm
        · rename_i hx
          have ex := isS_eq hx
          subst ex
          cases hm
          exact both_setdefT am hr.1 hr.2 (by simp) ho h
        · cases hm
      · split at hm
        · rename_i hx
          have ex := isS_eq hx
          subst ex
          cases hm
          exact both_meth PySem.F.plainAttrs_list PySem.F.slot_list_index PySem.F.type_list_index (mt_index (by have := am.un; omega)) okm_index hr.1 hr.2 (by simp) ho h
        · cases hm
    · cases hm
  · cases hm

noncomputable def WJ (J : It) (ρ : Nat → Addr) (σ : Store) (H : Hp) (w : Walk) : Prop :=
  ∀ ρ2 σ2 H2, Ext ρ σ.length H ρ2 σ2.length H2 → SR H2 ρ2 σ2 → intact w.guard σ2 = true → ∀ i : Nat,
    (∀ x, w.items[i]? = some x → J.go i H2 ∧ ∀ v H3, J.yld i H2 v H3 → Ext ρ2 σ2.length H2 ρ2 σ2.length H3 ∧ SR H3 ρ2 σ2 ∧ RR H3 ρ2 σ2.length x v) ∧ (w.items.length ≤ i → J.stop i H2)
noncomputable def TIv (K : PySem.W.Frag) (f : MP.Env → Store → Res Walk) : TI := fun st H R => ∃ ρ ε σ w σ', RE H ρ σ.length ε st ∧ SR H ρ σ ∧ f ε σ = .ok w σ' ∧ ∀ ρ' H' J, Ext ρ σ.length H ρ' σ'.length H' → SR H' ρ' σ' → WJ J ρ' σ' H' w → BJ K J → R J H'
theorem PI.imp {tg iter : Expr} {t t' : TI} (h : PI X tg iter t) (w : ∀ σ H R, t' σ H R → t σ H R) : PI X tg iter t' := fun pins s σ H R I q => h pins s σ H R I (w σ H R q)
theorem PI.or {tg iter : Expr} {t t' : TI} (h : PI X tg iter t) (h' : PI X tg iter t') : PI X tg iter (fun σ H R => t σ H R ∨ t' σ H R) := fun pins s σ H R I q => q.elim (h pins s σ H R I) (h' pins s σ H R I)
theorem map_get {α : Type} {f : α → R} {xs : List α} {i : Nat} {x : R} (h : (xs.map f)[i]? = some x) : ∃ a, xs[i]? = some a ∧ x = f a := by
  rw [List.getElem?_map] at h
  cases e : xs[i]? with
  | none => rw [e] at h; cases h
  | some a => rw [e] at h; exact ⟨a, rfl, (Option.some.inj h).symm⟩
theorem wj_tup {K : PySem.W.Frag} {ρ : Nat → Addr} {σ : Store} {H : Hp} {a : Addr} {xs : List G} {vs : List V} (S : SR H ρ σ) (ha : H a = some (.tup vs)) (h : RGs H xs vs) : WJ (Itt K a) ρ σ H ⟨xs.map .g, none⟩ := by
  intro ρ2 σ2 H2 ex S2 _ i
  have tp := ex.tp S
  have ha2 := tp _ _ ha
  have h2 := RGs.mono tp _ h
  refine ⟨fun x hx => ?_, fun hi => ?_⟩
  · obtain ⟨g, e, rfl⟩ := map_get hx
    obtain ⟨v, e1, e2⟩ := h2.get e
    refine ⟨⟨vs, v, .of ha2, e1⟩, fun u H3 y => ?_⟩
    obtain ⟨rfl, y⟩ := y
    have := y vs (.of ha2)
    rw [e1] at this
    cases this
    exact ⟨Ext.refl _ _ _, S2, e2⟩
  · exact ⟨vs, .of ha2, by rw [h2.length]; simpa using hi⟩
theorem wj_lst {K : PySem.W.Frag} {ρ : Nat → Addr} {σ : Store} {H : Hp} {k : Nat} {xs : List G} {c : Cell} (hk : k < σ.length) (hc : c = .lst xs ∨ c = .rdl xs) : WJ (Itl K (ρ k)) ρ σ H ⟨xs.map .g, some (k, c)⟩ := by
  intro ρ2 σ2 H2 ex S2 hi i
  have e0 : σ2[k]? = some c := by
    rcases hc with rfl | rfl <;> exact of_decide_eq_true hi
  obtain ⟨vs, h1, h2⟩ := S2.lR (k := k) (xs := xs) (by rcases hc with rfl | rfl <;> first | exact .inl e0 | exact .inr e0)
  rw [ex.ag k hk] at h1
  refine ⟨fun x hx => ?_, fun hi => ?_⟩
  · obtain ⟨g, e, rfl⟩ := map_get hx
    obtain ⟨v, e1, e2⟩ := h2.get e
    refine ⟨⟨vs, v, .inl h1, e1⟩, fun u H3 y => ?_⟩
    obtain ⟨rfl, y⟩ := y
    have := y vs (.inl h1)
    rw [e1] at this
    cases this
    exact ⟨Ext.refl _ _ _, S2, e2⟩
  · exact ⟨vs, .inl h1, by rw [h2.length]; simpa using hi⟩

theorem range_get {lo hi : Int} {i : Nat} : (rangeL lo hi)[i]? = if i < (hi - lo).toNat then some (.g (.int (lo + (i : Int)))) else none := by
  unfold rangeL
  rw [List.getElem?_map]
  by_cases h : i < (hi - lo).toNat
  · rw [if_pos h, List.getElem?_range h]; rfl
  · rw [if_neg h, List.getElem?_eq_none (by simpa using h)]; rfl
theorem wj_range {ρ : Nat → Addr} {σ : Store} {H : Hp} {lo hi : Int} : WJ (Itr lo (hi - lo).toNat) ρ σ H ⟨rangeL lo hi, none⟩ := by
  intro ρ2 σ2 H2 ex S2 _ i
  refine ⟨fun x hx => ?_, fun h => ?_⟩
  · have hx : (rangeL lo hi)[i]? = some x := hx
    rw [range_get] at hx
    split at hx
    · rename_i h
      cases hx
      refine ⟨h, fun v H3 y => ?_⟩
      obtain ⟨rfl, rfl⟩ := y
      exact ⟨Ext.refl _ _ _, S2, rfl⟩
    · cases hx
  · show (hi - lo).toNat ≤ i
    have h : (rangeL lo hi).length ≤ i := h
    simpa [rangeL] using h
theorem small_inv {i : Int} (h : small i = true) : -(2 ^ 62) ≤ i ∧ i < 2 ^ 62 := by
  simp only [small, Bool.and_eq_true, decide_eq_true_eq] at h
  exact h
theorem over_inv {x : R} {σ σ' : Store} {w : Walk} (h : wOver x σ = .ok w σ') : σ' = σ ∧ ((∃ xs, x = .g (.tup xs) ∧ w = ⟨xs.map .g, none⟩) ∨ (∃ k xs c, x = .ref k ∧ (c = .lst xs ∨ c = .rdl xs) ∧ σ[k]? = some c ∧ w = ⟨xs.map .g, some (k, c)⟩)) := by
  cases x with
  | tr _ => simp [wOver] at h
  | g gx =>
    cases gx with
    | tup xs => cases h; exact ⟨rfl, .inl ⟨xs, rfl, rfl⟩⟩
    | _ => simp [wOver] at h
  | ref k =>
    simp only [wOver] at h
    split at h
    · rename_i xs e; cases h; exact ⟨rfl, .inr ⟨k, xs, _, rfl, .inl rfl, e, rfl⟩⟩
    · rename_i xs e; cases h; exact ⟨rfl, .inr ⟨k, xs, _, rfl, .inr rfl, e, rfl⟩⟩
    · cases h
theorem bj_lst (K : PySem.W.Frag) (a : Addr) : BJ K (Itl K a) := fun X pins σ H s i hK I ⟨xs, x, h, e⟩ => by
  subst hK
  obtain ⟨_, _, _, hz⟩ := I.list h
  exact Nat.lt_of_lt_of_le (List.getElem?_eq_some_iff.mp e).1 hz
theorem bj_tup (K : PySem.W.Frag) (a : Addr) : BJ K (Itt K a) := fun X pins σ H s i hK I ⟨xs, x, h, e⟩ => by
  subst hK
  obtain ⟨_, _, _, hz⟩ := I.tuple h
  exact Nat.lt_of_lt_of_le (List.getElem?_eq_some_iff.mp e).1 hz
theorem bj_range (K : PySem.W.Frag) (lo : Int) {n : Nat} (h : n ≤ big) : BJ K (Itr lo n) := fun X pins σ H s i hK I g => Nat.lt_of_lt_of_le g (Nat.le_trans h big_le)
theorem pi_over {tg e : Expr} {t : MP.Tm} (h : PE X e (E1 cl t)) : PI X tg e (TIv X.K (evW cl (.over t))) := by
  refine PI.imp (PI.or (pi_list h) (pi_tup h)) fun st H R q => ?_
  obtain ⟨ρ, ε, σ, w, σ', hE, hS, ew, q⟩ := q
  rw [evW] at ew
  obtain ⟨x, σ1, e1, e2⟩ := bind_inv ew
  obtain ⟨rfl, z⟩ := over_inv e2
  rcases z with ⟨xs, rfl, rfl⟩ | ⟨k, xs, c, rfl, hc, hk, rfl⟩
  · refine .inr ⟨ρ, ε, σ, _, _, hE, hS, e1, fun ρ' v H' ex S' rr => ?_⟩
    obtain ⟨a, vs, rfl, ha, hx⟩ := rr
    exact ⟨a, rfl, ⟨vs, .of ha⟩, q ρ' H' _ ex S' (wj_tup S' ha hx) (bj_tup _ _)⟩
  · refine .inl ⟨ρ, ε, σ, _, _, hE, hS, e1, fun ρ' v H' ex S' rr => ?_⟩
    obtain ⟨hkl, rfl⟩ := rr
    obtain ⟨vs, h1, h2⟩ := S'.lR (k := k) (xs := xs) (by rcases hc with rfl | rfl <;> first | exact .inl hk | exact .inr hk)
    exact ⟨_, rfl, ⟨vs, .inl h1⟩, q ρ' H' _ ex S' (wj_lst hkl hc) (bj_lst _ _)⟩
theorem pi_rng {tg a : Expr} {t : MP.Tm} {pp pos : Pos} (am : Amb X P W n) (hg : Gl X (Str.ofString "range")) (hs : notStar a = true) (h : PE X a (E1 cl t)) : PI X tg (.Call (.Name (Str.ofString "range") pp) [a] [] pos) (TIv X.K (evW cl (.range1 t))) := by
  have ha : PA X [a] (A1 cl (.cons t .nil)) := (PEl.cons hs h .nil).pa
  refine PI.imp (pi_range1 hg (am.blt _ (by simp)) ha (starEach_cons hs)) fun st H R q => ?_
  obtain ⟨ρ, ε, σ, w, σ', hE, hS, ew, q⟩ := q
  rw [evW] at ew
  obtain ⟨x, σ1, e1, e2⟩ := bind_inv ew
  cases x with
  | ref _ => simp [wRange] at e2
  | tr _ => simp [wRange] at e2
  | g gx =>
    cases gx with
    | int j =>
      simp only [wRange] at e2
      split at e2
      · rename_i c
        cases e2
        simp only [Bool.and_eq_true] at c
        have hj := small_inv c.1.2
        have hb : (j - 0).toNat ≤ big := of_decide_eq_true c.2
        refine ⟨ρ, ε, σ, [.g (.int j)], σ', hE, hS, by rw [evs, e1]; simp [evs], fun ρ' vs H' ex S' rr => ?_⟩
        obtain ⟨v, rfl, hv⟩ := rrs1 rr
        cases (show v = .int j from hv)
        refine ⟨j, rfl, hj.1, hj.2, ?_⟩
        have := q ρ' H' (Itr 0 (j - 0).toNat) ex S' wj_range (bj_range _ _ hb)
        simpa using this
      · cases e2
    | _ => simp [wRange] at e2

noncomputable def TCv (f : MP.Env → Store → Res Bool) : TT := fun st H Q => ∃ ρ ε σ b σ', RE H ρ σ.length ε st ∧ SR H ρ σ ∧ f ε σ = .ok b σ' ∧ ∀ ρ' H', Ext ρ σ.length H ρ' σ'.length H' → SR H' ρ' σ' → Q b H'
inductive PTl (X : Cx) (cl : CallH) : List Expr → Tms → Prop where
  | nil : PTl X cl [] .nil
  | cons {e : Expr} {es : List Expr} {a : MP.Tm} {as : Tms} : PT X e (T1 cl a) → PTl X cl es as → PTl X cl (e :: es) (.cons a as)
theorem PTl.pcs {es : List Expr} {as : Tms} (h : PTl X cl es as) : PCs X es (TCv (evC cl as)) := by
  have imp : ∀ {es : List Expr} {t t' : TT}, PCs X es t → (∀ σ H Q, t' σ H Q → t σ H Q) → PCs X es t' := fun h w pins s σ H Q I q => h pins s σ H Q I (w σ H Q q)
  induction h with
  | nil =>
    refine imp pcs_nil fun st H Q ⟨ρ, ε, σ, b, σ', hE, hS, e, q⟩ => ?_
    rw [evC] at e
    cases e
    exact q ρ H (Ext.refl _ _ _) hS
  | @cons e es a as h1 h2 ih =>
    refine imp (pcs_cons h1 ih) fun st H Q ⟨ρ, ε, σ, b, σ', hE, hS, e, q⟩ => ?_
    rw [evC] at e
    obtain ⟨r, σ1, e1, e2⟩ := bind_inv e
    cases r with
    | ref _ => cases e2
    | tr _ => cases e2
    | g gx =>
      cases gx with
      | bl c =>
        refine ⟨ρ, ε, σ, c, σ1, hE, hS, e1, fun ρ1 H1 ex1 S1 => ?_⟩
        cases c with
        | true =>
          rw [if_pos rfl]
          exact ⟨ρ1, ε, σ1, b, σ', hE.mono hS ex1, S1, e2, fun ρ2 H2 ex2 S2 => q ρ2 H2 (ex1.trans S1 ex2) S2⟩
        | false =>
          rw [if_neg Bool.false_ne_true]
          cases e2
          exact q ρ1 H1 ex1 S1
      | _ => cases e2
theorem SR.other {H : Hp} {ρ : Nat → Addr} {σ : Store} (S : SR H ρ σ) {D : Addr} {vs : List V} (hD : H D = some (.lst vs)) (nD : ∀ i, i < σ.length → ρ i ≠ D) (o : HO) : SR (upd H D o) ρ σ ∧ TPk H (upd H D o) := by
  have tp : TPk H (upd H D o) := fun a ws e => by
    rw [upd_ne fun z => ?_]
    · exact e
    · rw [z, hD] at e; cases e
  refine ⟨⟨fun i d e => ?_, S.inj⟩, tp⟩
  have hne : ρ i ≠ D := nD i (SR.lt e)
  have q := S.cell i d e
  cases d with
  | lst xs => obtain ⟨vs, h1, h2⟩ := q; exact ⟨vs, by rw [upd_ne hne]; exact h1, RGs.mono tp xs h2⟩
  | rdl xs =>
    obtain ⟨vs, h1, h2⟩ := q
    refine ⟨vs, ?_, RGs.mono tp xs h2⟩
    rcases h1 with h1 | ⟨ob, h1⟩
    · exact .inl (by rw [upd_ne hne]; exact h1)
    · exact .inr ⟨ob, by rw [upd_ne hne]; exact h1⟩
  | dct xs => obtain ⟨vs, h1, h2⟩ := q; exact ⟨vs, by rw [upd_ne hne]; exact h1, RKs.mono tp xs h2.1, h2.2⟩
  | rdd xs => obtain ⟨vs, ob, h1, h2⟩ := q; exact ⟨vs, ob, by rw [upd_ne hne]; exact h1, RKs.mono tp xs h2.1, h2.2⟩
  | dtg xs => obtain ⟨o, ys, h1, h2, h3⟩ := q; exact ⟨o, ys, by rw [upd_ne hne]; exact h1, RN.mono tp xs h2, h3⟩
  | rdt xs => obtain ⟨o, ys, h1, h2, h3⟩ := q; exact ⟨o, ys, by rw [upd_ne hne]; exact h1, RN.mono tp xs h2, h3⟩
  | rls xs => obtain ⟨vs, h1, h2⟩ := q; exact ⟨vs, by rw [upd_ne hne]; exact h1, RRs.mono tp (Nat.le_refl _) (fun _ _ => rfl) xs h2⟩
theorem RRs.append {H : Hp} {ρ : Nat → Addr} {n : Nat} : ∀ {xs ys : List R} {vs us : List V}, RRs H ρ n xs vs → RRs H ρ n ys us → RRs H ρ n (xs ++ ys) (vs ++ us)
  | [], _, _, _, h, k => by cases h; exact k
  | x :: xs, _, _, _, h, k => by
    obtain ⟨v, r, rfl, h1, h2⟩ := h
    exact ⟨v, r ++ _, rfl, h1, RRs.append h2 k⟩
noncomputable def BX (k : Nat) (x : V) (H : Hp) (bs : L2.St) : Prop := if k = 1 then bs = [some x] else ∃ a vs, x = .ref a ∧ H a = some (.tup vs) ∧ vs.length = k ∧ bs = vs.map some
theorem bx_of {H : Hp} {ρ : Nat → Addr} {n k : Nat} {x : R} {v : V} {bs : List (Option R)} (hx : RR H ρ n x v) (e : MP.bindC k x = some bs) : ∃ cs, BX k v H cs ∧ bs.length = k ∧ ∃ (rs : List R) (vs : List V), bs = rs.map some ∧ cs = vs.map some ∧ RRs H ρ n rs vs := by
  unfold MP.bindC at e
  split at e
  · rename_i hk
    cases e
    subst hk
    exact ⟨[some v], by simp [BX], rfl, [x], [v], rfl, rfl, ⟨v, [], rfl, hx, rfl⟩⟩
  · rename_i hk
    split at e
    · rename_i rs hp
      split at e
      · rename_i hl
        cases e
        obtain ⟨a, vs, rfl, ha, hr⟩ : ∃ a vs, v = .ref a ∧ H a = some (.tup vs) ∧ RRs H ρ n rs vs := by
          cases x with
          | ref _ => simp [parts] at hp
          | tr xs => cases hp; exact hx
          | g gx =>
            cases gx with
            | tup xs =>
              cases hp
              obtain ⟨a, vs, rfl, ha, h⟩ := hx
              exact ⟨a, vs, rfl, ha, RRs.toG h⟩
            | _ => simp [parts] at hp
        exact ⟨vs.map some, by rw [BX, if_neg hk]; exact ⟨a, vs, rfl, ha, by rw [hr.length, hl], rfl⟩, by simpa using hl, rs, vs, rfl, rfl, hr⟩
      · cases e
    · cases e
theorem RE.caps {H : Hp} {ρ : Nat → Addr} {n : Nat} {ε : MP.Env} {st : L2.St} (h : RE H ρ n ε st) (caps : List Nat) {rs : List R} {vs : List V} (hx : RRs H ρ n rs vs) : RE H ρ n (rs.map some ++ capsE ε caps) (vs.map some ++ caps.map fun j => (st[j]?).getD none) := by
  have hl := hx.length
  refine ⟨by simp [capsE, hl], fun i r e => ?_⟩
  by_cases hi : i < rs.length
  · rw [List.getElem?_append_left (by simpa using hi), List.getElem?_map] at e
    cases c : rs[i]? with
    | none => rw [c] at e; cases e
    | some r' =>
      rw [c] at e
      cases e
      obtain ⟨v, e1, e2⟩ := hx.get c
      exact ⟨v, by rw [List.getElem?_append_left (by simp; omega), List.getElem?_map, e1]; rfl, e2⟩
  · rw [List.getElem?_append_right (by simpa using hi), List.length_map] at e
    simp only [capsE, List.getElem?_map] at e
    cases c : caps[i - rs.length]? with
    | none => rw [c] at e; cases e
    | some k =>
      rw [c] at e
      simp only [Option.map_some, Option.some.injEq] at e
      cases c2 : ε[k]? with
      | none => rw [c2] at e; cases e
      | some o =>
        rw [c2] at e
        simp only [Option.getD_some] at e
        subst e
        obtain ⟨u, e1, e2⟩ := h.val k r c2
        refine ⟨u, ?_, e2⟩
        rw [List.getElem?_append_right (by simp; omega), List.length_map, hl, List.getElem?_map, c]
        simp only [Option.map_some, e1, Option.getD_some]

theorem compL_cons_inv {f : R → Store → Res (Option R)} {w : Option (Nat × Cell)} {x : R} {r : List R} {σ σ' : Store} {ys : List R} (h : compL f w (x :: r) σ = .ok ys σ') :
    intact w σ = true ∧ ∃ o σ1 zs, f x σ = .ok o σ1 ∧ compL f w r σ1 = .ok zs σ' ∧ ys = (match o with | some y => y :: zs | none => zs) := by
  simp only [compL] at h
  split at h
  · rename_i hi
    obtain ⟨o, σ1, e1, h⟩ := bind_inv h
    obtain ⟨zs, σ2, e2, h⟩ := bind_inv h
    cases h
    exact ⟨hi, o, σ1, zs, e1, e2, rfl⟩
  · cases h
theorem comp_lift {K : PySem.W.Frag} {kn : Nat} {caps : List Nat} {s : Src} {conds : Tms} {elt : MP.Tm} (st : L2.St) (H : Hp) (Q : VK) (t : E1 cl (.comp kn caps s conds elt) st H Q) :
    tLC K (BX kn) (TIv K (evW cl s)) caps (TCv (evC cl conds)) (E1 cl elt) st H Q := by
  obtain ⟨ρ, ε, σ, r, σ', hE, hS, e, q⟩ := t
  rw [ev_comp] at e
  cases ew : evW cl s ε σ with
  | exc c σ1 => rw [ew] at e; cases e
  | stuck => rw [ew] at e; cases e
  | ok w σ1 =>
    rw [ew, kC1_ok] at e
    generalize hf : compF cl kn caps conds elt ε = f at e
    cases ec : compL f w.guard w.items σ1 with
    | exc c σ2 => rw [ec] at e; cases e
    | stuck => rw [ec] at e; cases e
    | ok ys σ3 =>
      rw [ec] at e
      cases e
      refine ⟨ρ, ε, σ, w, σ1, hE, hS, ew, fun ρ1 H1 J ex1 S1 wj bj => ⟨bj, fun D hD => ?_⟩⟩
      have hE1 := hE.mono hS ex1
      let vals : List (Option V) := caps.map fun j => (st[j]?).getD none
      -- behind i turns
      refine ⟨fun i m acc H2 => m = w.items.length - i ∧ i ≤ w.items.length ∧ acc.length ≤ i ∧ ∃ ρ2 σ2 dn td, Ext ρ1 σ1.length H1 ρ2 σ2.length H2 ∧ SR H2 ρ2 σ2 ∧ (∀ j, j < σ2.length → ρ2 j ≠ D) ∧ H2 D = some (.lst acc) ∧
          RRs H2 ρ2 σ2.length dn acc ∧ compL f w.guard (w.items.drop i) σ2 = .ok td σ3 ∧ dn ++ td = ys, ⟨w.items.length, by simp, Nat.zero_le _, Nat.le_refl _, ρ1, σ1, [], ys, ?_, ?_, ?_, upd_same, rfl, by simpa using ec, rfl⟩, ?_⟩
      · obtain ⟨e1, _, _⟩ := S1.tup hD (.lst [])
        exact e1
      · exact (S1.tup hD (.lst [])).2.1
      · intro j hj z
        obtain ⟨o, eo, _⟩ := S1.at hj
        rw [z, hD] at eo
        cases eo
      · rintro i m acc H2 ⟨rfl, hi, hlen, ρ2, σ2, dn, td, ex2, S2, nD, hD2, hdn, hc, hys⟩
        refine ⟨hD2, ?_⟩
        by_cases hlt : i < w.items.length
        · have hd : w.items.drop i = w.items[i] :: w.items.drop (i + 1) := List.drop_eq_getElem_cons hlt
          rw [hd] at hc
          obtain ⟨hin, o, σ4, zs, ef, hc', hz⟩ := compL_cons_inv hc
          have hwj := wj ρ2 σ2 H2 ex2 S2 hin i
          obtain ⟨go, yl⟩ := hwj.1 w.items[i] (by simp [hlt])
          refine .inr ⟨go, fun x H3 y => ?_⟩
          obtain ⟨ex3, S3, rx⟩ := yl x H3 y
          have hE3 : RE H3 ρ2 σ2.length ε st := (hE1.mono S1 ex2).mono S2 ex3
          have hD3 : H3 D = some (.lst acc) := ex3.kp D _ hD2 fun j hj z => nD j hj z
          have tp23 := ex3.tp S2
          have hdn3 := RRs.mono tp23 (Nat.le_refl _) ex3.ag _ hdn
          have ex13 := ex2.trans S2 ex3
          rw [← hf] at ef
          unfold compF turnC at ef
          split at ef
          rotate_left
          · cases ef
          rename_i bs hbs
          obtain ⟨cs, hcs, _, rs', vs', rfl, rfl, hrv⟩ := bx_of rx hbs
          have hEc := hE3.caps caps hrv
          obtain ⟨b, σ5, e1, e2⟩ := bind_inv ef
          refine ⟨_, hcs, ρ2, _, σ2, b, σ5, hEc, S3, e1, fun ρ5 H5 ex5 S5 => ?_⟩
          have hD5 : H5 D = some (.lst acc) := ex5.kp D _ hD3 fun j hj z => nD j hj z
          have nD5 : ∀ j, j < σ5.length → ρ5 j ≠ D := fun j hj z => by
            by_cases hj2 : j < σ2.length
            · rw [ex5.ag j hj2] at z; exact nD j hj2 z
            · have := ex5.fr j (Nat.not_lt.mp hj2) hj
              rw [z, hD3] at this; cases this
          have hdn5 := RRs.mono (ex5.tp S3) ex5.le ex5.ag _ hdn3
          cases b with
          | false =>
            refine iteF ?_
            rw [if_neg Bool.false_ne_true] at e2
            cases e2
            exact ⟨w.items.length - (i + 1), by omega, rfl, hlt, Nat.le_succ_of_le hlen, ρ5, _, dn, zs, ex13.trans S3 ex5, S5, nD5, hD5, hdn5, hc', by rw [← hys, hz]⟩
          | true =>
            refine iteT ?_
            rw [if_pos rfl] at e2
            obtain ⟨y', σ6, e3, e4⟩ := bind_inv e2
            cases e4
            refine ⟨ρ5, _, σ5, y', _, hEc.mono S3 ex5, S5, e3, fun ρ6 v6 H6 ex6 S6 r6 => ?_⟩
            have hD6 : H6 D = some (.lst acc) := ex6.kp D _ hD5 fun j hj z => nD5 j hj z
            have nD6 : ∀ j, j < σ4.length → ρ6 j ≠ D := fun j hj z => by
              by_cases hj2 : j < σ5.length
              · rw [ex6.ag j hj2] at z; exact nD5 j hj2 z
              · have := ex6.fr j (Nat.not_lt.mp hj2) hj
                rw [z, hD5] at this; cases this
            have hdn6 := RRs.mono (ex6.tp S5) ex6.le ex6.ag _ hdn5
            obtain ⟨S7, tp7⟩ := S6.other hD6 nD6 (.lst (acc ++ [v6]))
            have ex16 := (ex13.trans S3 ex5).trans S5 ex6
            have ex7 : Ext ρ1 σ1.length H1 ρ6 σ4.length (upd H6 D (.lst (acc ++ [v6]))) := ⟨ex16.le, ex16.ag, ex16.fr, fun a o ea hn => by
              rw [upd_ne fun z => by rw [z, hD] at ea; cases ea]
              exact ex16.kp a o ea hn, fun a ob u ea => by
              rw [upd_ne fun z => by rw [z, hD] at ea; cases ea]
              exact ex16.fz a ob u ea⟩
            refine ⟨hD6, hlen, w.items.length - (i + 1), by omega, rfl, hlt, by simp; omega, ρ6, σ4, dn ++ [y'], zs, ex7, S7, nD6, upd_same, ?_, hc', by rw [← hys, hz]; simp⟩
            exact (RRs.mono tp7 (Nat.le_refl _) (fun _ _ => rfl) _ hdn6).append ⟨v6, [], rfl, RR.mono tp7 (Nat.le_refl _) (fun _ _ => rfl) _ r6, rfl⟩
        · have hii : i = w.items.length := by omega
          have hd : w.items.drop i = [] := List.drop_eq_nil_of_le (by omega)
          rw [hd] at hc
          simp only [compL] at hc
          split at hc
          · rename_i hin
            cases hc
            rw [List.append_nil] at hys
            subst hys
            refine .inl ⟨((wj ρ2 σ3 H2 ex2 S2 hin i).2 (by omega)), ?_⟩
            -- the new place
            let ρ3 : Nat → Addr := fun j => if j = σ3.length then D else ρ2 j
            have ag3 : ∀ j, j < σ3.length → ρ3 j = ρ2 j := fun j hj => by simp [ρ3, Nat.ne_of_lt hj]
            have e3 : ρ3 σ3.length = D := by simp [ρ3]
            have ex3 : Ext ρ1 σ1.length H1 ρ3 (σ3 ++ [mkLst dn]).length H2 := by
              refine ⟨Nat.le_trans ex2.le (by simp), fun j hj => by rw [ag3 j (Nat.lt_of_lt_of_le hj ex2.le), ex2.ag j hj], fun j h1 h2 => ?_, ex2.kp, ex2.fz⟩
              by_cases hj : j < σ3.length
              · rw [ag3 j hj]; exact ex2.fr j h1 hj
              · have : j = σ3.length := by simp at h2; omega
                rw [this, e3]; exact hD
            have S3 : SR H2 ρ3 (σ3 ++ [mkLst dn]) := by
              refine ⟨fun j c ej => ?_, fun j k hj hk ejk => ?_⟩
              · by_cases hj : j < σ3.length
                · rw [List.getElem?_append_left hj] at ej
                  have qc := S2.cell j c ej
                  cases c with
                  | lst xs => obtain ⟨vs, h1, h2⟩ := qc; exact ⟨vs, by rw [ag3 j hj]; exact h1, h2⟩
                  | rdl xs => obtain ⟨vs, h1, h2⟩ := qc; exact ⟨vs, by rw [ag3 j hj]; exact h1, h2⟩
                  | dct xs => obtain ⟨vs, h1, h2⟩ := qc; exact ⟨vs, by rw [ag3 j hj]; exact h1, h2⟩
                  | rdd xs => obtain ⟨vs, ob, h1, h2⟩ := qc; exact ⟨vs, ob, by rw [ag3 j hj]; exact h1, h2⟩
                  | dtg xs => obtain ⟨o, ys, h1, h2⟩ := qc; exact ⟨o, ys, by rw [ag3 j hj]; exact h1, by rw [ag3 j hj]; exact h2⟩
                  | rdt xs => obtain ⟨o, ys, h1, h2⟩ := qc; exact ⟨o, ys, by rw [ag3 j hj]; exact h1, by rw [ag3 j hj]; exact h2⟩
                  | rls xs => obtain ⟨vs, h1, h2⟩ := qc; exact ⟨vs, by rw [ag3 j hj]; exact h1, RRs.mono (fun _ _ h => h) (Nat.le_refl _) (fun l hl => ag3 l (Nat.lt_trans hl hj)) _ h2⟩
                · have hjl := SR.lt ej
                  have hjj : j = σ3.length := by simp at hjl; omega
                  subst hjj
                  rw [List.getElem?_append_right (Nat.le_refl _)] at ej
                  simp at ej
                  subst ej
                  unfold mkLst
                  cases c : allG dn with
                  | some gs => exact ⟨acc, by rw [e3]; exact hD2, RRs.ofG c hdn⟩
                  | none => exact ⟨acc, by rw [e3]; exact hD2, RRs.mono (fun _ _ h => h) (Nat.le_refl _) ag3 _ hdn⟩
              · simp at hj hk
                by_cases h1 : j = σ3.length
                · by_cases h2 : k = σ3.length
                  · omega
                  · rw [h1, e3, ag3 k (by omega)] at ejk
                    exact absurd ejk.symm (nD k (by omega))
                · by_cases h2 : k = σ3.length
                  · rw [h2, e3, ag3 j (by omega)] at ejk
                    exact absurd ejk (nD j (by omega))
                  · rw [ag3 j (by omega), ag3 k (by omega)] at ejk
                    exact S2.inj j k (by omega) (by omega) ejk
            exact q ρ3 (.ref D) H2 (ex1.trans S1 ex3) S3 ⟨by simp, by rw [e3]⟩
          · cases hc
end
end SN


set_option Elab.async false
set_option linter.all false
set_option maxRecDepth 100000
namespace SN
open PySem PySem.Spec PyProof.Rows L2 MP
variable [Wd]
section
variable {X : Cx} {pins : List (Addr × Obj)} {σ : L2.St} {H : Hp} {s : Shared} {a : Addr} {ws : List (Key × V)} {ob : Obj}

theorem freeze (I : Inv X pins σ H s) (e : H a = some (.dK ws)) (ho : s.heap.get? a = some ob) : Inv X pins σ (upd H a (.frz ob (.dK ws))) s :=
  retag I e (fun _ z => by cases z) (fun _ z => by cases z) (fun _ z => by cases z) (noF I e) fun H' tp ow => ⟨ho, (I.hok a _ e).stay (fun _ _ _ q => q) (fun c q => ow c _ q) tp⟩
theorem unfreeze (I : Inv X pins σ H s) (e : H a = some (.frz ob (.dK ws))) (nz : ∀ o x, X.H₀ a ≠ some (.frz o x)) : Inv X pins σ (upd H a (.dK ws)) s :=
  retag I e (fun _ z => by cases z) (fun _ z => by cases z) (fun _ z => by cases z) nz fun H' tp ow => by
    obtain ⟨_, q⟩ := I.hok a _ e
    exact ObjOk.stay (o := .dK ws) q (fun _ _ _ q => q) (fun c q => ow c _ q) tp
theorem frz_at (I : Inv X pins σ H s) (e : H a = some (.frz ob (.dK ws))) : ws.length ≤ sizeLine ∧ (a == sysModules) = false ∧ ∃ vs es ep, KV ws vs ∧ ob.data = .dict es ep ∧ s.heap.DictAt (mixKind X.prog X.w) a vs ep := by
  obtain ⟨e1, z, hs, vs, rv, o, es, ep, ho, r⟩ := I.hok a _ e
  rw [e1] at ho
  cases ho
  exact ⟨z, hs, vs, es, ep, rv, r.2.1, _, es, e1, r⟩

noncomputable def Itk (a : Addr) (ob : Obj) (ws : List (Key × V)) : It :=
  ⟨fun i H => H a = some (.frz ob (.dK ws)) ∧ i < ws.length, fun i H x H' => H' = H ∧ ∃ p, ws[i]? = some p ∧ x = kV p.1, fun i H => H a = some (.frz ob (.dK ws)) ∧ ws.length ≤ i⟩
theorem turn_keys {P : Program} {w : World} {K : PySem.W.Frag} {tg : Expr} {es : Array DictEntry} {ep : Nat} (a it : Addr) (ob : Obj) (ws : List (Key × V)) (hd : ob.data = .dict es ep) : Turn P w K tg (Itk a ob ws) [it] it (fun i h => h.IsKeyIter it a i ws.length ep) where
  mem := by simp
  obj := fun i h st b hb => by
    have e : b = it := by simpa using hb
    subst e
    obtain ⟨o, e, c, d⟩ := st
    exact ⟨o, e, fun v z => by rw [d] at z; cases z⟩
  keep := fun i h h' st k => st.at fun o e => k it (by simp) o e
  item := by
    intro X hP hw hK hc i pins s σ H E I hf st hg
    subst hP hw hK
    obtain ⟨ha, hi⟩ := hg
    obtain ⟨z, hs, vs, es', ep', rv, hd', dd⟩ := frz_at I ha
    rw [hd] at hd'
    cases hd'
    obtain ⟨f0, f1, f2, f3, f4, f5⟩ := hf it (by simp)
    obtain ⟨u, hu, ru⟩ := kv_get rv (List.getElem?_eq_getElem hi)
    have st' : s.heap.IsKeyIter it a i vs.length ep := by rw [← rv.length]; exact st
    refine wpAny_pyNext_dict_item st' dd hu fun key h' hk it' sb => ?_
    have I1 : Inv X pins σ H { s with heap := h' } := I.turned (t' := s.toks) (fun b o hb e => (sb.2 b hb).trans e) f0 f1 f3 f4 f5
    rw [← rv.length] at it'
    obtain ⟨o, e, c, d⟩ := id it'
    exact ⟨key, rfl, go_of (s := { s with heap := h' }) e c d (by decide) ⟨kV ws[i].1, H, I1, rel_key hk, ⟨rfl, ws[i], List.getElem?_eq_getElem hi, rfl⟩, it', fun b hb => (hf b hb).1⟩⟩
  done := by
    intro X hP hw hK hc i pins s σ H E I hf st hg
    subst hP hw hK
    obtain ⟨ha, hi⟩ := hg
    obtain ⟨z, hs, vs, es', ep', rv, hd', dd⟩ := frz_at I ha
    rw [hd] at hd'
    cases hd'
    obtain ⟨f0, f1, f2, f3, f4, f5⟩ := hf it (by simp)
    have hl := rv.length
    have st' : s.heap.IsKeyIter it a i vs.length ep := by rw [← rv.length]; exact st
    exact wpAny_pyNext_dict_end (I.ok.hd hc) st' dd (List.getElem?_eq_none (by omega)) fun h' eb => ⟨rfl, I.turned (t' := s.toks) (fun b o hb e => eb b o hb e) f0 f1 f3 f4 f5⟩
  self := fun _ _ _ _ _ st h => wpAny_pyIter_keyiter st h
theorem turned_tup {h' : Heap} {it : Addr} {xs : List V} {us : List Value} (I : Inv X pins σ H s) (k : ∀ b o, b ≠ it → s.heap.get? b = some o → h'.get? b = some o) (ti : ∃ o, h'.get? it = some o) (hn : H it = none) (hL : it ≠ X.env.locals)
    (h1 : it ∈ X.ex ∨ X.s₀.heap.objs.size ≤ it) (h2 : ∀ x c, X.env.cells.lookup x = some c → c ≠ it) (h3 : ∀ p ∈ X.pn ++ pins, p.1 ≠ it) (hit : it < s.heap.objs.size)
    (ht : h'.get? s.heap.objs.size = some { cls := .type "tuple", data := .seq us.toArray }) (hv : Vals xs us) (hz : xs.length ≤ sizeLine) : Inv X pins σ (upd H s.heap.objs.size (.tup xs)) { s with heap := h' } := by
  have hp : H s.heap.objs.size = none := I.hok.fresh (Nat.le_refl _)
  have ne : ∀ b o, s.heap.get? b = some o → b ≠ s.heap.objs.size := fun b o e => Nat.ne_of_lt (Heap.lt_size e)
  have ne2 : ∀ b u, H b = some u → b ≠ s.heap.objs.size := fun b u e => ne_of_none e hp
  refine I.step (g' := s.gens) (d' := s.drawn) (t' := s.toks) (ch := [it]) (fun b hb => ?_) (fun b o _ _ hc e _ => k b o (fun z => hc (by simp [z])) e) (fun b o _ _ hc e _ => ⟨o.slots, k b o (fun z => hc (by simp [z])) e⟩) (fun b o _ e n => by rw [upd_ne (ne b o e)]; exact n)
    (fun b o hc e => ⟨o, k b o (fun z => hc (by simp [z])) e⟩) (fun b _ e => by rw [upd_ne (ne2 b _ e)]; exact e) (fun b _ _ e => by rw [upd_ne (ne2 b _ e)]; exact e) (fun b ps e => ⟨#[], by rw [upd_ne (ne2 b _ e), e]; simp⟩) (fun m hm => ?_) (fun b u e => ?_) I.bare
  · have e : b = it := by simpa using hb
    subst e
    exact ⟨h1, hL, h2, h3⟩
  · obtain ⟨o, es, ep, ho, r⟩ := hm
    exact ⟨o, es, ep, k _ o (Ne.symm hL) ho, r⟩
  · by_cases hb : b = s.heap.objs.size
    · subst hb
      rw [upd_same] at e
      cases e
      exact ⟨hz, us, hv, _, ht, rfl, _, rfl⟩
    · rw [upd_ne hb] at e
      have nit : ∀ c v, H c = some v → c ≠ it := fun c v q z => by rw [z, hn] at q; cases q
      refine (I.hok b u e).stay (fun c v hc q => k c v ?_ q) (fun c q => by rw [upd_ne (ne2 c _ q)]; exact q) fun c xs q => by rw [upd_ne (ne2 c _ q)]; exact q
      rcases hc with z | z
      · rw [z]; exact nit b u e
      · exact nit c _ z
theorem entry_itemit : entryFor table "dict_itemiterator.__iter__" = some Builtin.«dict_keyiterator.__iter__» :=
  entryFor_alias (id' := "dict_keyiterator.__iter__") (by kernel_rfl) rfl (by decide +kernel) (by kernel_rfl)
variable {tg : Expr}
noncomputable def iFz (X : Cx) (mk : Addr → Obj → List (Key × V) → It) (tl : TE) : TI := fun σ H R => tl σ H fun x H1 => ∃ a ws, x = .ref a ∧
  ((H1 a = some (.dK ws) ∧ ∀ ob, (∀ o u, X.H₀ a ≠ some (.frz o u)) → R (mk a ob ws) (upd H1 a (.frz ob (.dK ws)))) ∨ ∃ ob, H1 a = some (.frz ob (.dK ws)) ∧ R (mk a ob ws) H1)
theorem to_frz {mk : Addr → Obj → List (Key × V) → It} {R : It → Hp → Prop} (I : Inv X pins σ H s) (h : (H a = some (.dK ws) ∧ ∀ ob, (∀ o u, X.H₀ a ≠ some (.frz o u)) → R (mk a ob ws) (upd H a (.frz ob (.dK ws)))) ∨ ∃ ob, H a = some (.frz ob (.dK ws)) ∧ R (mk a ob ws) H) :
    ∃ ob H2, Inv X pins σ H2 s ∧ H2 a = some (.frz ob (.dK ws)) ∧ R (mk a ob ws) H2 := by
  rcases h with ⟨e, q⟩ | ⟨ob, e, q⟩
  · obtain ⟨_, _, vs, _, ob, _, _, ho, _⟩ := I.hok a _ e
    exact ⟨ob, _, freeze I e ho, upd_same, q ob (noF I e)⟩
  · exact ⟨ob, H, I, e, q⟩
theorem pi_keys {l : Expr} {tl : TE} (hl : PE X l tl) : PI X tg l (iFz X Itk tl) := by
  intro pins s σ H R I h
  refine thn (hl pins s σ H _ I h) fun v s1 ⟨x, H1, I1, r1, a, ws, e, q1⟩ => ?_
  subst e
  cases r1
  obtain ⟨ob, H2, I2, ha, q⟩ := to_frz I1 q1
  obtain ⟨z, hs, vs, es, ep, rv, hd, dd⟩ := frz_at I2 ha
  refine wpAny_pyIter_dict hs dd ?_
  refine ⟨s1.heap.objs.size, [s1.heap.objs.size], _, _, H2, rfl, I2.kept (t' := s1.toks) fun b o e => Heap.get?_push_of_some _ e, turn_keys a _ ob ws hd, ⟨_, Heap.get?_push_size _ rfl, rfl, by rw [rv.length]; rfl⟩, fun b hb => ?_, q⟩
  have e : b = s1.heap.objs.size := by simpa using hb
  subst e
  exact I2.fpOk (Nat.le_refl _) (I2.hok.fresh (Nat.le_refl _))
end
end SN


set_option Elab.async false
set_option linter.all false
set_option maxRecDepth 100000
namespace SN
open PySem PySem.Spec PyProof.Rows L2 MP
variable [Wd]
section
variable {prog : Program} {w : World} {A : Around} {E : Value → Shared → Prop} {s : Shared}
theorem iterT {v d : Addr} {o : Obj} {es : Array DictEntry} {ep : Nat} {Q : Value → Shared → Prop} (hv : s.heap.IsItemsView v d) (ho : s.heap.get? d = some o) (hdt : o.data = .dict es ep)
    (q : Q (.ref s.heap.objs.size) { s with heap := s.heap.push { cls := .type "dict_itemiterator", data := .fields #[.none, .bool false, .ref d, .int 0 0, .int es.size 0, .int ep 0, .none, .none] } }) :
    wpAny (model prog w) A (pyIter (.ref v)) Q E s := by
  have hT := hv.typeIs
  obtain ⟨ov, h1, h2, h3⟩ := hv
  refine wpAny_pyIter_slot hT F.slot_dict_items_iter (wpAny_call_entry F.slot_dict_items_iter hT F.entry_dict_items_iter ?_ (F.args_dict_items_iter_1 _))
  unfold Builtin.«dict_items.__iter__» Builtin.Dict_items.dictOf Builtin.Dict_items.newIterator
  refine wpAny_bind (wpAny_pure (wpAny_bind (wpAny_bind (wpAny_field h1 h3 (x := .ref d) rfl (wpAny_pure (wpAny_bind (wpAny_bind (wpAny_dictEntries ho hdt (wpAny_bind (wpAny_dictEpoch ho hdt ?_))))))))))
  have own : Builtin.Dict_items.ownsTuple "dict_itemiterator" = true := by decide
  simp only [own, if_true]
  exact wpAny_newObj_type (wpAny_pure ⟨_, rfl, "dict_itemiterator", _, ⟨_, Heap.get?_push_size _ rfl, rfl⟩, F.slot_dict_itemiterator_next.lookup, by simpa [rawInt, Builtin.Dict_items.ownedTupleFields] using q⟩)
    (by simp only [sizeOk, Builtin.Dict_items.ownedTupleFields, List.size_toArray, List.length_append, List.length_cons, List.length_nil, sizeLine_eq]; omega)
theorem nextT {it d : Addr} {i ep : Nat} {od : Obj} {es : Array DictEntry} {x : DictEntry} {ok ov : Value} {Q : Option Value → Shared → Prop} (ii : IsItemIter s.heap it d i es.size ep ok ov)
    (hod : s.heap.get? d = some od) (hdd : od.data = .dict es ep) (hx : es[i]? = some x)
    (q : ∀ h', IsItemIterOut h' it d (i + 1) es.size ep x.key x.val s.heap.objs.size → h'.get? s.heap.objs.size = some { cls := .type "tuple", data := .seq #[x.key, x.val] } →
      (∀ b o, b ≠ it → s.heap.get? b = some o → h'.get? b = some o) → Q (some (.ref s.heap.objs.size)) { s with heap := h' }) :
    wpAny (model prog w) A (pyNext (.ref it)) Q E s := by
  obtain ⟨hp, g, dr, tk, os⟩ := s
  have ty : Shared.TypeIs ⟨hp, g, dr, tk, os⟩ (.ref it) "dict_itemiterator" := ⟨_, ii, rfl⟩
  unfold pyNext
  refine wpAny_bind (wpAny_attempt (wpAny_callSpecial?_slot (name := Str.ofString "__next__") ty F.slot_dict_itemiterator_next (wpAny_call_entry F.slot_dict_itemiterator_next ty F.entry_dict_itemiterator_next ?_ (F.args_dict_itemiterator_next_1 _))))
  refine wpAny_bind (wpAny_pure (wpAny_bind (wpAny_bind ?_)))
  first | refine wpAny_bind (wpAny_typeNameOfWhole_itemiter ty (wpAny_pure (wpAny_bind (wpAny_fieldsOf ii rfl ?_)))) | refine wpAny_bind (wpAny_typeNameOf_itemiter ty (wpAny_pure (wpAny_bind (wpAny_fieldsOf ii rfl ?_))))
  have own : Builtin.Dict_items.ownsTuple "dict_itemiterator" = true := by decide
  simp only [own, if_true]
  show wpAny _ _ (if (Value.ref d == Value.none) = true then _ else _) _ _ (Shared.mk hp g dr tk os)
  rw [if_neg (show ¬ ((Value.ref d == Value.none) = true) by exact Bool.false_ne_true)]
  refine wpAny_bind (wpAny_pure (wpAny_bind (wpAny_dictEntries hod hdd ?_)))
  rw [if_neg (by simp)]
  refine wpAny_bind (wpAny_pure (wpAny_bind (wpAny_dictEpoch hod hdd ?_)))
  rw [if_neg (by simp)]
  refine wpAny_pure ?_
  simp only [show ¬ ((i : Int) < 0) from by omega, if_false, Int.toNat_natCast, hx]
  refine wpAny_bind ?_
  first | refine wpAny_bind (wpAny_typeNameOfWhole_itemiter ty (wpAny_pure (wpAny_bind (wpAny_isOneOf_itemiter ty ?_)))) | refine wpAny_bind (wpAny_typeNameOf_itemiter ty (wpAny_pure (wpAny_bind (wpAny_isOneOf_itemiter ty ?_))))
  show wpAny _ _ (setField (.ref it) 3 (rawInt ((i : Int) + 1)) >>= _) _ _ (Shared.mk hp g dr tk os)
  refine wpAny_bind (wpAny_setField_rec ii (by simp) fun m1 a1 b1 => ?_)
  replace b1 : Heap.SameBut it hp m1 := b1
  replace a1 : IsItemIter m1 it d (i + 1) es.size ep ok ov := by
    have e : ((i + 1 : Nat) : Int) = (i : Int) + 1 := by omega
    unfold IsItemIter
    rw [e]
    simpa [rawInt] using a1
  have ty1 : Shared.TypeIs ⟨m1, g, dr, tk, os⟩ (.ref it) "dict_itemiterator" := ⟨_, a1, rfl⟩
  refine wpAny_bind (wpAny_holding (wpAny_bind (wpAny_isOneOf_itemiter ty1 (wpAny_bind (wpAny_isOneOf_itemiter ty1 ?_)))))
  show wpAny _ _ (Builtin.Dict_items.pairFromOwner (.ref it) 6 x.key x.val) _ _ (Shared.mk m1 g dr tk os)
  unfold Builtin.Dict_items.pairFromOwner
  refine wpAny_bind (wpAny_newTuple ?_)
  have a2 : IsItemIter (m1.push { cls := .type "tuple", data := .seq #[x.key, x.val] }) it d (i + 1) es.size ep ok ov := Heap.get?_push_of_some _ a1
  generalize e2 : m1.push { cls := .type "tuple", data := .seq #[x.key, x.val] } = m2 at a2
  have z1 : m1.objs.size = hp.objs.size := b1.1
  have il : it < hp.objs.size := Heap.lt_size ii
  have t2 : m2.get? hp.objs.size = some { cls := .type "tuple", data := .seq #[x.key, x.val] } := by rw [← e2, ← z1]; exact Heap.get?_push_size _ rfl
  have k2 : ∀ b o, b ≠ it → hp.get? b = some o → m2.get? b = some o := fun b o hb e => by rw [← e2]; exact Heap.get?_push_of_some _ (b1.extBut b o hb e)
  show wpAny _ _ (Builtin.Dict_items.ownedTupleIsFree (.ref it) >>= _) _ _ (Shared.mk m2 g dr tk os)
  rw [z1]
  clear e2 a1 b1 ty1 z1 m1
  refine wpAny_bind ?_
  unfold Builtin.Dict_items.ownedTupleIsFree
  refine wpAny_bind (wpAny_field a2 rfl (x := .none) rfl (wpAny_pure ?_))
  simp only [if_true]
  refine wpAny_bind (wpAny_field a2 rfl (x := ok) rfl (wpAny_bind (wpAny_field a2 rfl (x := ov) rfl (wpAny_bind (wpAny_setField_rec a2 (by simp) fun m3 a3 b3 => ?_)))))
  replace b3 : Heap.SameBut it m2 m3 := b3
  replace a3 : IsItemIter m3 it d (i + 1) es.size ep x.key ov := a3
  refine wpAny_bind (wpAny_setField_rec a3 (by simp) fun m4 a4 b4 => ?_)
  replace b4 : Heap.SameBut it m3 m4 := b4
  replace a4 : IsItemIter m4 it d (i + 1) es.size ep x.key x.val := a4
  refine wpAny_bind (wpAny_setField_rec a4 (by simp) fun m5 a5 b5 => ?_)
  replace b5 : Heap.SameBut it m4 m5 := b5
  replace a5 : IsItemIterOut m5 it d (i + 1) es.size ep x.key x.val hp.objs.size := a5
  refine wpAny_bind (wpAny_setField_rec a5 (by simp) fun m6 a6 b6 => ?_)
  replace b6 : Heap.SameBut it m5 m6 := b6
  replace a6 : IsItemIterOut m6 it d (i + 1) es.size ep x.key x.val hp.objs.size := a6
  have k6 : ∀ b o, b ≠ it → m2.get? b = some o → m6.get? b = some o := fun b o hb e => b6.extBut b o hb (b5.extBut b o hb (b4.extBut b o hb (b3.extBut b o hb e)))
  exact wpAny_bind (wpAny_letGo (wpAny_pure (wpAny_pure ⟨_, rfl, wpAny_pure (q m6 a6 (k6 _ _ (Nat.ne_of_gt il) t2) fun b o hb e => k6 b o hb (k2 b o hb e))⟩)))
theorem endT {it d : Addr} {i ep : Nat} {od : Obj} {es : Array DictEntry} {ok ov : Value} {Q : Option Value → Shared → Prop} (hh : A.handled = none) (ii : IsItemIter s.heap it d i es.size ep ok ov)
    (hod : s.heap.get? d = some od) (hdd : od.data = .dict es ep) (hx : es.size ≤ i) (q : ∀ h', Heap.ExtBut it s.heap h' → Q none { s with heap := h' }) : wpAny (model prog w) A (pyNext (.ref it)) Q E s := by
  have ty : s.TypeIs (.ref it) "dict_itemiterator" := ⟨_, ii, rfl⟩
  unfold pyNext
  refine wpAny_bind (wpAny_attempt (wpAny_callSpecial?_slot (name := Str.ofString "__next__") ty F.slot_dict_itemiterator_next (wpAny_call_entry F.slot_dict_itemiterator_next ty F.entry_dict_itemiterator_next ?_ (F.args_dict_itemiterator_next_1 _))))
  refine wpAny_bind (wpAny_pure (wpAny_bind (wpAny_bind ?_)))
  first | refine wpAny_bind (wpAny_typeNameOfWhole_itemiter ty (wpAny_pure (wpAny_bind (wpAny_fieldsOf ii rfl ?_)))) | refine wpAny_bind (wpAny_typeNameOf_itemiter ty (wpAny_pure (wpAny_bind (wpAny_fieldsOf ii rfl ?_))))
  have own : Builtin.Dict_items.ownsTuple "dict_itemiterator" = true := by decide
  simp only [own, if_true]
  show wpAny _ _ (if (Value.ref d == Value.none) = true then _ else _) _ _ _
  rw [if_neg (show ¬ ((Value.ref d == Value.none) = true) by exact Bool.false_ne_true)]
  refine wpAny_bind (wpAny_pure (wpAny_bind (wpAny_dictEntries hod hdd ?_)))
  rw [if_neg (by simp)]
  refine wpAny_bind (wpAny_pure (wpAny_bind (wpAny_dictEpoch hod hdd ?_)))
  rw [if_neg (by simp)]
  refine wpAny_pure ?_
  simp only [show ¬ ((i : Int) < 0) from by omega, if_false, Int.toNat_natCast, Array.getElem?_eq_none hx]
  refine wpAny_bind ?_
  first | refine wpAny_bind (wpAny_typeNameOfWhole_itemiter ty (wpAny_pure ?_)) | refine wpAny_bind (wpAny_typeNameOf_itemiter ty (wpAny_pure ?_))
  show wpAny _ _ (setField (.ref it) 2 .none >>= _) _ _ _
  refine wpAny_bind (wpAny_setField ii rfl (by simp) ?_)
  show wpAny _ _ (newExc (.type "StopIteration") [] >>= _) _ _ _
  simp only [newExc, newTuple]
  refine wpAny_bind (wpAny_bind (wpAny_newObj_type ?_ (by size_fits)))
  refine wpAny_bind (m := firstArgMember _ _) (wpAny_of_eq (a := Value.none) (by first | rfl | (simp only [firstArgMember]; rfl)) (wpAny_newObj_type ?_ (by size_fits)))
  simp only [raiseNew]
  refine wpAny_bind (wpAny_handled ?_)
  rw [show A.in1.handled = none by exact hh]
  refine wpAny_bind (wpAny_pure (wpAny_throw ?_))
  exact wpAny_bind (wpAny_isInstance (b := true) (T := "StopIteration") ⟨_, Heap.get?_push_size _ rfl, rfl⟩ isSubtype_stop (wpAny_pure (q _ (((Heap.SameBut.update ..).extBut.push _).push _))))
end

section
variable {X : Cx} {pins : List (Addr × Obj)} {σ : L2.St} {H : Hp} {s : Shared} {a : Addr} {ob : Obj} {xs : List (G × Addr × Value)}
noncomputable def ItT (a : Addr) (ob : Obj) (ps : List (V × V)) : It :=
  ⟨fun i H => H a = some (.frz ob (dG a ob)) ∧ i < ps.length, fun i H x H' => ∃ p b, ps[i]? = some p ∧ H b = none ∧ x = .ref b ∧ H' = upd H b (.tup [p.1, p.2]), fun i H => H a = some (.frz ob (dG a ob)) ∧ ps.length ≤ i⟩
noncomputable def Ents (es : Array DictEntry) (ps : List (V × V)) : Prop := es.size = ps.length ∧ ∀ (i : Nat) (p : V × V), ps[i]? = some p → ∃ e : DictEntry, es[i]? = some e ∧ RelV p.1 e.key ∧ RelV p.2 e.val
theorem turn_itemsT {P : Program} {w : World} {K : PySem.W.Frag} {elts : List Expr} {x1 : Nat} {pos : Pos} {es : Array DictEntry} {ep : Nat} (a it : Addr) (ob : Obj) (ps : List (V × V)) (hd : ob.data = .dict es ep) (he : Ents es ps) :
    Turn P w K (.Tuple elts x1 pos) (ItT a ob ps) [it] it (fun i h => ∃ kv vv, IsItemIter h it a i es.size ep kv vv) where
  mem := by simp
  obj := fun i h st b hb => by
    have e : b = it := by simpa using hb
    subst e
    obtain ⟨kv, vv, e⟩ := st
    exact ⟨_, e, fun v z => by
      have z' : Data.fields _ = Data.cell v := z
      cases z'⟩
  keep := fun i h h' st k => by
    obtain ⟨kv, vv, e⟩ := st
    exact ⟨kv, vv, k it (by simp) _ e⟩
  item := by
    intro X hP hw hK hc i pins s σ H E I hf st hg
    subst hP hw hK
    obtain ⟨ha, hi⟩ := hg
    have ho := (I.hok a _ ha).1
    obtain ⟨f0, f1, f2, f3, f4, f5⟩ := hf it (by simp)
    obtain ⟨e, e1, r1, r2⟩ := he.2 i _ (List.getElem?_eq_getElem hi)
    obtain ⟨kv, vv, st⟩ := st
    have hlt : it < s.heap.objs.size := Heap.lt_size st
    refine nextT st ho hd e1 fun h' out ht kk => ⟨_, rfl, wpAny_letOwnedTupleGo_items (s := { s with heap := h' }) out fun h'' it' sb => ?_⟩
    have kk2 : ∀ b o, b ≠ it → s.heap.get? b = some o → h''.get? b = some o := fun b o hb e => (sb.2 b hb).trans (kk b o hb e)
    have ht2 : h''.get? s.heap.objs.size = some { cls := .type "tuple", data := .seq [e.key, e.val].toArray } := (sb.2 _ (Nat.ne_of_gt hlt)).trans ht
    have I1 := turned_tup (h' := h'') (xs := [ps[i].1, ps[i].2]) I kk2 ⟨_, it'⟩ f0 f1 f3 f4 f5 hlt ht2 (.cons r1 (.cons r2 .nil)) (by show 2 ≤ sizeLine; decide)
    refine ⟨.ref s.heap.objs.size, _, I1, rfl, ⟨ps[i], _, List.getElem?_eq_getElem hi, I.hok.fresh (Nat.le_refl _), rfl, rfl⟩, ⟨_, _, it'⟩, fun b hb => ?_⟩
    have e : b = it := by simpa using hb
    subst e
    rw [upd_ne (Nat.ne_of_lt hlt)]
    exact f0
  done := by
    intro X hP hw hK hc i pins s σ H E I hf st hg
    subst hP hw hK
    obtain ⟨ha, hi⟩ := hg
    have ho := (I.hok a _ ha).1
    obtain ⟨f0, f1, f2, f3, f4, f5⟩ := hf it (by simp)
    obtain ⟨kv, vv, st⟩ := st
    exact endT (I.ok.hd hc) st ho hd (by rw [he.1]; exact hi) fun h' eb => ⟨rfl, I.turned (t' := s.toks) (fun b o hb e => eb b o hb e) f0 f1 f3 f4 f5⟩
  self := fun A i s Q E st h => by
    obtain ⟨kv, vv, st⟩ := st
    have hT : s.TypeIs (.ref it) "dict_itemiterator" := ⟨_, st, rfl⟩
    refine wpAny_pyIter_slot hT PySem.F.slot_dict_itemiterator_iter (wpAny_call_entry PySem.F.slot_dict_itemiterator_iter hT entry_itemit ?_ (PySem.F.args_dict_itemiterator_iter_1 _))
    show wpAny _ _ (ret (.ref it)) _ _ s
    exact wpAny_pure ⟨_, rfl, "dict_itemiterator", _, hT, PySem.F.slot_dict_itemiterator_next.lookup, h⟩
theorem RN.ents : ∀ {kvs : List (G × G)} {xs : List (G × Addr × Value)}, RN H kvs xs → ∃ ps : List (V × V), ps.length = xs.length ∧ ∀ (i : Nat) (p : G × G), kvs[i]? = some p → ∃ q x, ps[i]? = some q ∧ xs[i]? = some x ∧ RG H p.1 q.1 ∧ RG H p.2 q.2 ∧ RelV q.1 (.ref x.2.1) ∧ RelV q.2 x.2.2
  | [], _, r => by cases r; exact ⟨[], rfl, fun i p e => by simp at e⟩
  | p :: kvs, _, r => by
    obtain ⟨b, v, u, t, rfl, h1, h2, h3, h4⟩ := r
    obtain ⟨ps, k1, k2⟩ := RN.ents h4
    refine ⟨(.ref b, v) :: ps, by simp [k1], fun i p' e => ?_⟩
    cases i with
    | zero => simp at e; subst e; exact ⟨_, _, rfl, rfl, h1, h2, rfl, h3⟩
    | succ i =>
      obtain ⟨q, x, m1, m2, m3⟩ := k2 i p' (by simpa using e)
      exact ⟨q, x, by simpa using m1, by simpa using m2, m3⟩
theorem wj_itemsT {ρ : Nat → Addr} {τ : Store} {j : Nat} {kvs : List (G × G)} {ps : List (V × V)} (hj : j < τ.length) (S : SR H ρ τ) (ha : H (ρ j) = some (.frz ob (dG (ρ j) ob))) (hl : ps.length = kvs.length)
    (hp : ∀ (i : Nat) (p : G × G), kvs[i]? = some p → ∃ q, ps[i]? = some q ∧ RG H p.1 q.1 ∧ RG H p.2 q.2) : WJ (ItT (ρ j) ob ps) ρ τ H ⟨kvs.map fun p => .g (.tup [p.1, p.2]), some (j, .rdt kvs)⟩ := by
  intro ρ2 σ2 H2 ex S2 hi i
  have ha2 := ex.fz _ _ _ ha
  have tp := ex.tp S
  refine ⟨fun x hx => ?_, fun hi => ?_⟩
  · obtain ⟨p, e, rfl⟩ := map_get hx
    obtain ⟨q, e1, r1, r2⟩ := hp i p e
    refine ⟨⟨ha2, (List.getElem?_eq_some_iff.mp e1).1⟩, fun u H3 y => ?_⟩
    obtain ⟨p', b, hy, hb, rfl, rfl⟩ := y
    rw [e1] at hy
    cases hy
    obtain ⟨x1, x2, tp3⟩ := S2.tup hb (.tup [q.1, q.2])
    exact ⟨x1, x2, ⟨b, [q.1, q.2], rfl, upd_same, ⟨_, [q.2], rfl, RG.mono tp3 _ (RG.mono tp _ r1), ⟨q.2, [], rfl, RG.mono tp3 _ (RG.mono tp _ r2), rfl⟩⟩⟩⟩
  · refine ⟨ha2, ?_⟩
    rw [hl]
    simpa using hi
theorem meetsT_items {prog : Program} {w : World} (d : Addr) (hd : (d == sysModules) = false) :
    MeetsIn prog w (Builtin.«dict.items» ⟨[.ref d], []⟩) (fun _ R s => s.TypeIs (.ref d) "dict" ∧ R (.ok (.ret (.ref s.heap.objs.size))) { s with heap := s.heap.push { cls := .type "dict_items", data := .fields #[.ref d] } }) :=
  .of_wp fun A R s ⟨hT, q⟩ => by
    unfold Builtin.«dict.items» Builtin.Dict.noArgs
    refine wpAny_bind (wpAny_bind (wpAny_notOrdered_dict hT ?_))
    show wpAny _ _ (pure d) _ _ s
    refine wpAny_pure ?_
    show wpAny _ _ (Builtin.Dict.showsAll d >>= _) _ _ s
    unfold Builtin.Dict.showsAll
    rw [hd, if_neg Bool.false_ne_true]
    exact wpAny_bind (wpAny_pure (wpAny_bind (wpAny_newObj_type (wpAny_pure ⟨_, rfl, q⟩))))
end
section
variable {P : List Fn} {W n : Nat} {X : Cx} {cl : CallH}
theorem pi_itemsT {o : Expr} {e : MP.Tm} {elts : List Expr} {x1 : Nat} {pos apos cpos : Pos} (am : Amb X P W n) (hl : PE X o (E1 cl e)) (hbase : attributeBase o (Str.ofString "items") X.env (eval o X.env) = eval o X.env) (hline : (apos.endLine == cpos.line) = true) :
    PI X (.Tuple elts x1 pos) (.Call (.Attribute o (Str.ofString "items") apos) [] [] cpos) (TIv X.K (evW cl (.itemsT e))) := by
  intro pins s σ H R I h
  obtain ⟨ρ, ε, τ, w, τ', hE, hS, ew, q⟩ := h
  rw [evW] at ew
  obtain ⟨x, τ1, e1, ew⟩ := bind_inv ew
  obtain ⟨j, kvs, rfl, ej, rfl, rfl⟩ : ∃ j kvs, x = .ref j ∧ τ1[j]? = some (.dtg kvs) ∧ w = ⟨kvs.map fun p => .g (.tup [p.1, p.2]), some (j, .rdt kvs)⟩ ∧ τ' = τ1.set j (.rdt kvs) := by
    cases x with
    | g _ => simp [wItemsT] at ew
    | tr _ => simp [wItemsT] at ew
    | ref j =>
      simp only [wItemsT] at ew
      split at ew
      · rename_i kvs e3
        cases ew
        exact ⟨j, kvs, rfl, e3, rfl, rfl⟩
      · cases ew
  refine wpAny_Call_method0_late hbase hline (thn (hl pins s σ H (fun v1 H1 => ∃ ρ1, Ext ρ τ.length H ρ1 τ1.length H1 ∧ SR H1 ρ1 τ1 ∧ RR H1 ρ1 τ1.length (.ref j) v1) I ⟨ρ, ε, τ, _, τ1, hE, hS, e1, fun ρ1 v1 H1 ex1 S1 r1 => ⟨ρ1, ex1, S1, r1⟩⟩) fun v s1 ⟨y, H1, I1, ry, ρ1, ex1, S1, r1⟩ => ?_)
  obtain ⟨hj, rfl⟩ := r1
  cases ry
  obtain ⟨ob, xs, ha, hn, dt⟩ := S1.dtg ej
  have dt' := dt
  obtain ⟨⟨hc, es, ep, hd, he⟩, hs, _, _, hz⟩ := dt'
  have ho := dg_at I1 ha
  have I2 : Inv X pins σ (upd H1 (ρ1 j) (.frz ob (dG (ρ1 j) ob))) s1 := retag I1 ha (fun _ z => by cases z) (fun _ z => by cases z) (fun _ z => by cases z) (fun o u z => by
    have := I1.base.frzs _ o u z
    rw [ha] at this
    cases this) fun H' _ _ => ⟨ho, dg_ok ho⟩
  obtain ⟨x1', x2⟩ := S1.write hj (o := .frz ob (dG (ρ1 j) ob)) (c := .rdt kvs) (fun _ _ z => by rw [ha] at z; cases z) fun H' tp' e' => ⟨ob, xs, e', RN.mono tp' _ hn, dt⟩
  have hT : s1.TypeIs (.ref (ρ1 j)) "dict" := ⟨ob, ho, hc.1⟩
  obtain ⟨ps, pl, pp⟩ := hn.ents
  have hlen := hn.len
  have hes : es.size = xs.length := by rw [← Array.length_toList, he, List.length_map]
  have hents : Ents es ps := ⟨by rw [hes, pl], fun i p ep => by
    have hi : i < kvs.length := by have := (List.getElem?_eq_some_iff.mp ep).1; omega
    obtain ⟨q', x', k1, k2, _, _, k3, k4⟩ := pp i kvs[i] (List.getElem?_eq_getElem hi)
    rw [ep] at k1
    cases k1
    exact ⟨nent Wd.w x', by rw [← Array.getElem?_toList, he, List.getElem?_map, k2]; rfl, k3, k4⟩⟩
  refine ⟨"dict", "dict.items", PySem.F.plainAttrs_dict, PySem.F.slot_dict_items, PySem.F.type_dict_items, hT, fun b z => by cases z; exact ⟨ob, ho, hc.2.1⟩, Calls.callWith_builtin rfl (PySem.evalArgs_none ?_)⟩
  refine call_meetsIn PySem.F.slot_dict_items hT PySem.F.entry_dict_items (PySem.F.args_dict_items_1 _) (meetsT_items _ hs) ⟨hT, ?_⟩
  have I3 : Inv X pins σ (upd H1 (ρ1 j) (.frz ob (dG (ρ1 j) ob))) { s1 with heap := s1.heap.push { cls := .type "dict_items", data := .fields #[.ref (ρ1 j)] } } := I2.kept (t' := s1.toks) fun b o e => Heap.get?_push_of_some _ e
  refine iterT (s := { s1 with heap := s1.heap.push { cls := .type "dict_items", data := .fields #[.ref (ρ1 j)] } }) (v := s1.heap.objs.size) (d := ρ1 j) ⟨_, Heap.get?_push_size _ rfl, rfl, rfl⟩ (Heap.get?_push_of_some _ ho) hd ?_
  refine ⟨_, [(s1.heap.push { cls := .type "dict_items", data := .fields #[.ref (ρ1 j)] }).objs.size], _, _, _, rfl, I3.kept (t' := s1.toks) fun b o e => Heap.get?_push_of_some _ e, turn_itemsT (ρ1 j) _ ob ps hd hents, ⟨.none, .none, Heap.get?_push_size _ rfl⟩, fun b hb => ?_, ?_⟩
  · have e : b = (s1.heap.push { cls := .type "dict_items", data := .fields #[.ref (ρ1 j)] }).objs.size := by simpa using hb
    subst e
    exact I3.fpOk (Nat.le_refl _) (I3.hok.fresh (Nat.le_refl _))
  · refine q ρ1 _ _ (ex1.trans S1 x1') x2 (wj_itemsT (by simpa using hj) x2 upd_same (by rw [pl, hlen]) fun i p e => ?_) fun X' pins' σ' H' s' i hK I' g => ?_
    · obtain ⟨q', x', k1, _, k3, k4, _, _⟩ := pp i p e
      have tp := x1'.tp S1
      exact ⟨q', k1, RG.mono tp _ k3, RG.mono tp _ k4⟩
    · have h1 : i < ps.length := g.2
      rw [sizeLine_eq]
      omega
end
end SN


set_option Elab.async false
set_option linter.all false
namespace PySem
namespace ZT
variable {prog : Program} {w : World} {A : Around} {E : Value → Shared → Prop} {s : Shared}
theorem drawT {I T : Addr} {k : Nat} {vs : Array Value} {v : Value} {Q : Value → Shared → Prop} (pI : s.heap.IsTupleIter I T k) (pT : s.heap.IsTuple T vs) (e : vs[k]? = some v)
    (q : ∀ g, g.IsTupleIter I T (k + 1) → Heap.SameBut I s.heap g → Q v { s with heap := g }) : wpAny (model prog w) A (Builtin.SmallTypes.nextOf (.ref I)) Q E s := by
  obtain ⟨r, hr, cr, dr⟩ := id pI
  obtain ⟨rt, hrt, _, n, drt⟩ := pT
  unfold Builtin.SmallTypes.nextOf
  refine wpAny_bind (wpAny_callSpecial?_slot (name := Str.ofString "__next__") pI.typeIs F.slot_tuple_iterator_next (wpAny_call_entry F.slot_tuple_iterator_next pI.typeIs F.entry_tuple_iterator_next ?_ (F.args_tuple_iterator_next_1 _)))
  show wpAny _ _ (field (.ref I) 0 >>= _) _ _ s
  refine wpAny_bind (wpAny_field hr dr (x := .ref T) rfl ?_)
  show wpAny _ _ (if (Value.ref T == Value.none) = true then _ else _) _ _ s
  rw [if_neg (fun z : (Value.ref T == Value.none) = true => Bool.false_ne_true z)]
  show wpAny _ _ (field (.ref I) 1 >>= _) _ _ s
  refine wpAny_bind (wpAny_field hr dr (x := .int k 0) rfl ?_)
  show wpAny _ _ (seqItems? (.ref T) >>= _) _ _ s
  refine wpAny_bind (wpAny_seqItems hrt drt ?_)
  simp only [Int.toNat_natCast, e]
  refine wpAny_bind (wpAny_setField hr dr (by simp) (wpAny_pure ⟨v, rfl, wpAny_pure (q _ ⟨_, Heap.get?_update_self _ hr (Obj.isFreed_of_fields (Obj.data_mapFields dr _)), (Obj.cls_mapFields ..).trans cr, ?_⟩ (Heap.SameBut.update ..))⟩))
  rw [Obj.data_mapFields dr]
  simp [rawInt]
theorem drawEndT {I T : Addr} {k : Nat} {vs : Array Value} {Q : Value → Shared → Prop} (hA : A.handled = none) (pI : s.heap.IsTupleIter I T k) (pT : s.heap.IsTuple T vs) (e : vs[k]? = none)
    (q : ∀ g x, Heap.ExtBut I s.heap g → (∃ o, g.get? x = some o ∧ o.cls = .type "StopIteration") → E (.ref x) { s with heap := g }) : wpAny (model prog w) A (Builtin.SmallTypes.nextOf (.ref I)) Q E s := by
  obtain ⟨r, hr, cr, dr⟩ := id pI
  obtain ⟨rt, hrt, _, n, drt⟩ := pT
  unfold Builtin.SmallTypes.nextOf
  refine wpAny_bind (wpAny_callSpecial?_slot (name := Str.ofString "__next__") pI.typeIs F.slot_tuple_iterator_next (wpAny_call_entry F.slot_tuple_iterator_next pI.typeIs F.entry_tuple_iterator_next ?_ (F.args_tuple_iterator_next_1 _)))
  show wpAny _ _ (field (.ref I) 0 >>= _) _ _ s
  refine wpAny_bind (wpAny_field hr dr (x := .ref T) rfl ?_)
  show wpAny _ _ (if (Value.ref T == Value.none) = true then _ else _) _ _ s
  rw [if_neg (fun z : (Value.ref T == Value.none) = true => Bool.false_ne_true z)]
  show wpAny _ _ (field (.ref I) 1 >>= _) _ _ s
  refine wpAny_bind (wpAny_field hr dr (x := .int k 0) rfl ?_)
  show wpAny _ _ (seqItems? (.ref T) >>= _) _ _ s
  refine wpAny_bind (wpAny_seqItems hrt drt ?_)
  simp only [Int.toNat_natCast, e]
  refine wpAny_bind (wpAny_rule (wpAny_bind (wpAny_setField hr dr (by simp) ?_)))
  show wpAny _ _ (newExc (.type "StopIteration") [] >>= fun _ => _) _ _ _
  refine wpAny_bind ?_
  unfold newExc newTuple
  refine wpAny_bind (wpAny_newObj_type ?_ (by size_fits))
  refine wpAny_bind (m := firstArgMember _ _) (wpAny_of_eq (a := Value.none) (by first | rfl | (unfold firstArgMember; rfl)) ?_)
  refine wpAny_newObj_type ?_ (by size_fits)
  unfold raiseNew
  refine wpAny_bind (wpAny_handled ?_)
  first | rw [show A.in1.handled = none from hA] | rw [hA]
  exact wpAny_bind (wpAny_pure (wpAny_throw (q _ _ (((Heap.SameBut.update ..).extBut.push _).push _) ⟨_, Heap.get?_push_size _ rfl, rfl⟩)))

structure At (h : Heap) (z a b i1 i2 t1 t2 : Addr) (k : Nat) (xs ys : Array Value) (f : Value) : Prop where
  zp : IsZip h z a b f
  its : IsPair h a (.ref i1) (.ref i2)
  own : ∃ u v, IsPair h b u v
  p1 : h.IsTupleIter i1 t1 k
  p2 : h.IsTupleIter i2 t2 k
  q1 : h.IsTuple t1 xs
  q2 : h.IsTuple t2 ys
theorem tup_at {h g : Heap} {t : Addr} {vs : Array Value} (p : h.IsTuple t vs) (e : ∀ o, h.get? t = some o → g.get? t = some o) : g.IsTuple t vs := let ⟨o, ho, r⟩ := p; ⟨o, e _ ho, r⟩
theorem next {z a b i1 i2 t1 t2 : Addr} {k : Nat} {xs ys : Array Value} {x y : Value} {Q : Value → Shared → Prop} (D : ZipApart z a b i1 i2 t1 t2) (p : At s.heap z a b i1 i2 t1 t2 k xs ys .none) (ex : xs[k]? = some x) (ey : ys[k]? = some y)
    (q : ∀ g, At g z a b i1 i2 t1 t2 (k + 1) xs ys (rawInt s.heap.objs.size) → IsPair g s.heap.objs.size x y → g.objs.size = s.heap.objs.size + 1 →
      (∀ c o, c ≠ z → c ≠ b → c ≠ i1 → c ≠ i2 → s.heap.get? c = some o → g.get? c = some o) → Q (.ref s.heap.objs.size) { s with heap := g }) :
    wpAny (model prog w) A (Builtin.«zip.__next__» ⟨[.ref z], []⟩) (fun fin s' => ∃ v, fin = .done (.ret v) ∧ Q v s') E s := by
  obtain ⟨hZ, hI, ⟨u, v, hO⟩, k1, k2, s1, s2⟩ := p
  show wpAny _ _ (field (.ref z) 2 >>= _) _ _ _
  refine wpAny_bind (wpAny_field hZ rfl (x := .bool false) rfl ?_)
  show wpAny _ _ (field (.ref z) 3 >>= _) _ _ _
  refine wpAny_bind (wpAny_field hZ rfl (x := .ref a) rfl ?_)
  refine wpAny_bind (wpAny_seqItems hI rfl ?_)
  show wpAny _ _ (Builtin.SmallTypes.ownedTupleIsFree (.ref z) >>= fun _ => _) _ _ _
  refine wpAny_bind ?_
  unfold Builtin.SmallTypes.ownedTupleIsFree
  refine wpAny_bind (wpAny_field hZ rfl (x := .none) rfl (wpAny_pure ?_))
  simp only [if_true]
  refine wpAny_bind (wpAny_rule (wpAny_bind (wpAny_field hZ rfl (x := .ref b) rfl ?_)))
  refine wpAny_bind (wpAny_setField_rec hZ (by simp) fun g1 hZ1 e1 => ?_)
  replace hZ1 : IsZip g1 z a b .ellipsis := hZ1
  refine wpAny_bind ?_
  simp only [List.forIn_cons, List.forIn_nil, List.zipIdx_cons, List.zipIdx_nil]
  -- the first one
  refine wpAny_bind (wpAny_bind (wpAny_onRaise (?one : wpAny _ _ (Builtin.SmallTypes.nextOf (.ref i1) >>= fun _ => _) _ _ _)))
  refine wpAny_bind (drawT (k1.extBut e1.extBut D.i1z) (s1.extBut e1.extBut D.l1z) ex fun g2 m1 e2 => wpAny_pure ?_)
  have hO2 : IsPair g2 b u v := e2.extBut _ _ D.TOi1 (e1.extBut _ _ D.TOz hO)
  refine wpAny_bind (wpAny_seqItems hO2 rfl (wpAny_bind (wpAny_updateSeq_pair hO2 fun g3 hO3 e3 => ?_)))
  replace hO3 : IsPair g3 b x v := hO3
  refine wpAny_bind (wpAny_letGo (wpAny_pure ?_))
  -- the second one
  refine wpAny_bind (wpAny_bind (wpAny_onRaise (?two : wpAny _ _ (Builtin.SmallTypes.nextOf (.ref i2) >>= fun _ => _) _ _ _)))
  have k23 : g3.IsTupleIter i2 t2 k := ((k2.extBut e1.extBut D.i2z).extBut e2.extBut D.i12.symm).extBut e3.extBut D.TOi2.symm
  have s23 : g3.IsTuple t2 ys := ((s2.extBut e1.extBut D.l2z).extBut e2.extBut D.l2i1).extBut e3.extBut D.l2TO
  refine wpAny_bind (drawT k23 s23 ey fun g4 m2 e4 => wpAny_pure ?_)
  have hO4 : IsPair g4 b x v := e4.extBut _ _ D.TOi2 hO3
  refine wpAny_bind (wpAny_seqItems hO4 rfl (wpAny_bind (wpAny_updateSeq_pair hO4 fun g5 hO5 e5 => ?_)))
  replace hO5 : IsPair g5 b x y := hO5
  refine wpAny_bind (wpAny_letGo (wpAny_pure (wpAny_pure ?_)))
  -- the pair handed out
  refine wpAny_bind (wpAny_seqItems hO5 rfl (wpAny_bind (wpAny_newTuple ?_)))
  have sz5 : g5.objs.size = s.heap.objs.size := by rw [e5.1, e4.1, e3.1, e2.1, e1.1]
  have stay : ∀ c o, c ≠ z → c ≠ b → c ≠ i1 → c ≠ i2 → s.heap.get? c = some o → g5.get? c = some o := fun c o n1 n2 n3 n4 e =>
    e5.extBut _ _ n2 (e4.extBut _ _ n4 (e3.extBut _ _ n2 (e2.extBut _ _ n3 (e1.extBut _ _ n1 e))))
  have hZ5 : IsZip g5 z a b .ellipsis := e5.extBut _ _ D.TOz.symm (e4.extBut _ _ D.i2z.symm (e3.extBut _ _ D.TOz.symm (e2.extBut _ _ D.i1z.symm hZ1)))
  have w1 : g5.IsTupleIter i1 t1 (k + 1) := ((m1.extBut e3.extBut D.TOi1.symm).extBut e4.extBut D.i12).extBut e5.extBut D.TOi1.symm
  have w2 : g5.IsTupleIter i2 t2 (k + 1) := m2.extBut e5.extBut D.TOi2.symm
  have zl : z < g5.objs.size := Heap.lt_size hZ5
  show wpAny _ _ (Builtin.SmallTypes.ownedTupleHandOut (.ref z) (.ref g5.objs.size) >>= fun _ => _) _ _ _
  refine wpAny_bind ?_
  unfold Builtin.SmallTypes.ownedTupleHandOut
  have hZ6 : IsZip (g5.push { cls := .type "tuple", data := .seq #[x, y] }) z a b .ellipsis := Heap.get?_push_of_some _ hZ5
  refine wpAny_bind (wpAny_setField_rec hZ6 (by simp) fun g7 hZ7 e7 => ?_)
  replace hZ7 : IsZip g7 z a b (rawInt g5.objs.size) := hZ7
  refine wpAny_setField_rec hZ7 (by simp) fun g8 hZ8 e8 => ?_
  replace hZ8 : IsZip g8 z a b (rawInt g5.objs.size) := hZ8
  have on : ∀ c o, c ≠ z → g5.get? c = some o → g8.get? c = some o := fun c o n e => e8.extBut _ _ n (e7.extBut _ _ n (Heap.get?_push_of_some _ e))
  have hT : IsPair g8 g5.objs.size x y := e8.extBut _ _ (Nat.ne_of_gt zl) (e7.extBut _ _ (Nat.ne_of_gt zl) (Heap.get?_push_size _ rfl))
  have sz8 : g8.objs.size = g5.objs.size + 1 := by rw [e8.1, e7.1, Heap.size_push]
  refine wpAny_pure ⟨_, rfl, ?_⟩
  show Q (.ref g5.objs.size) _
  rw [sz5] at hZ8 hT sz8 ⊢
  refine q g8 ⟨hZ8, on _ _ D.TIz (stay _ _ D.TIz D.TITO D.TIi1 D.TIi2 hI), ⟨x, y, on _ _ D.TOz hO5⟩, w1.at fun o e => on _ o D.i1z e, w2.at fun o e => on _ o D.i2z e, ?_, ?_⟩ hT sz8 fun c o n1 n2 n3 n4 e => on c o n1 (stay c o n1 n2 n3 n4 e)
  · exact tup_at s1 fun o e => on _ o D.l1z (stay _ o D.l1z D.l1TO D.l1i1 D.l1i2 e)
  · exact tup_at s2 fun o e => on _ o D.l2z (stay _ o D.l2z D.l2TO D.l2i1 D.l2i2 e)
theorem nextEnd {z a b i1 i2 t1 t2 : Addr} {k : Nat} {xs ys : Array Value} {Q : Fin → Shared → Prop} (hA : A.handled = none) (D : ZipApart z a b i1 i2 t1 t2) (p : At s.heap z a b i1 i2 t1 t2 k xs ys .none) (en : xs[k]? = none ∨ ys[k]? = none)
    (q : ∀ g x, (∀ c o, c ≠ z → c ≠ b → c ≠ i1 → c ≠ i2 → s.heap.get? c = some o → g.get? c = some o) → (∃ o, g.get? x = some o ∧ o.cls = .type "StopIteration") → E (.ref x) { s with heap := g }) :
    wpAny (model prog w) A (Builtin.«zip.__next__» ⟨[.ref z], []⟩) Q E s := by
  obtain ⟨hZ, hI, ⟨u, v, hO⟩, k1, k2, s1, s2⟩ := p
  show wpAny _ _ (field (.ref z) 2 >>= _) _ _ _
  refine wpAny_bind (wpAny_field hZ rfl (x := .bool false) rfl ?_)
  show wpAny _ _ (field (.ref z) 3 >>= _) _ _ _
  refine wpAny_bind (wpAny_field hZ rfl (x := .ref a) rfl ?_)
  refine wpAny_bind (wpAny_seqItems hI rfl ?_)
  show wpAny _ _ (Builtin.SmallTypes.ownedTupleIsFree (.ref z) >>= fun _ => _) _ _ _
  refine wpAny_bind ?_
  unfold Builtin.SmallTypes.ownedTupleIsFree
  refine wpAny_bind (wpAny_field hZ rfl (x := .none) rfl (wpAny_pure ?_))
  simp only [if_true]
  refine wpAny_bind (wpAny_rule (wpAny_bind (wpAny_field hZ rfl (x := .ref b) rfl ?_)))
  refine wpAny_bind (wpAny_setField_rec hZ (by simp) fun g1 hZ1 e1 => ?_)
  replace hZ1 : IsZip g1 z a b .ellipsis := hZ1
  refine wpAny_bind ?_
  simp only [List.forIn_cons, List.forIn_nil, List.zipIdx_cons, List.zipIdx_nil]
  refine wpAny_bind (wpAny_bind (wpAny_onRaise (?one : wpAny _ _ (Builtin.SmallTypes.nextOf (.ref i1) >>= fun _ => _) _ _ _)))
  have other : ∀ {g : Heap} {x : Addr}, IsZip g z a b .ellipsis → (∃ o, g.get? x = some o ∧ o.cls = .type "StopIteration") → x ≠ z := fun {g x} hz ⟨o, ho, hc⟩ n => by
    subst n
    rw [hz] at ho
    cases ho
    simp at hc
  cases ex : xs[k]? with
  | none =>
    refine wpAny_bind (drawEndT hA (k1.extBut e1.extBut D.i1z) (s1.extBut e1.extBut D.l1z) ex fun g2 x e2 hx => ?_)
    have hZ2 : IsZip g2 z a b .ellipsis := e2 _ _ D.i1z.symm hZ1
    have hn := other hZ2 hx
    obtain ⟨o, ho, hc⟩ := hx
    exact wpAny_setField_rec hZ2 (by simp) fun g3 _ e3 => q g3 x (fun c o n1 _ n3 _ e => e3.extBut _ _ n1 (e2 _ _ n3 (e1.extBut _ _ n1 e))) ⟨o, e3.extBut _ _ hn ho, hc⟩
  | some x =>
    have ey : ys[k]? = none := en.resolve_left fun z => by rw [ex] at z; cases z
    refine wpAny_bind (drawT (k1.extBut e1.extBut D.i1z) (s1.extBut e1.extBut D.l1z) ex fun g2 m1 e2 => wpAny_pure ?_)
    have hO2 : IsPair g2 b u v := e2.extBut _ _ D.TOi1 (e1.extBut _ _ D.TOz hO)
    refine wpAny_bind (wpAny_seqItems hO2 rfl (wpAny_bind (wpAny_updateSeq_pair hO2 fun g3 hO3 e3 => ?_)))
    refine wpAny_bind (wpAny_letGo (wpAny_pure ?_))
    refine wpAny_bind (wpAny_bind (wpAny_onRaise (?two : wpAny _ _ (Builtin.SmallTypes.nextOf (.ref i2) >>= fun _ => _) _ _ _)))
    have k23 : g3.IsTupleIter i2 t2 k := ((k2.extBut e1.extBut D.i2z).extBut e2.extBut D.i12.symm).extBut e3.extBut D.TOi2.symm
    have s23 : g3.IsTuple t2 ys := ((s2.extBut e1.extBut D.l2z).extBut e2.extBut D.l2i1).extBut e3.extBut D.l2TO
    refine wpAny_bind (drawEndT hA k23 s23 ey fun g4 x e4 hx => ?_)
    have hZ4 : IsZip g4 z a b .ellipsis := e4 _ _ D.i2z.symm (e3.extBut _ _ D.TOz.symm (e2.extBut _ _ D.i1z.symm hZ1))
    have hn := other hZ4 hx
    obtain ⟨o, ho, hc⟩ := hx
    exact wpAny_setField_rec hZ4 (by simp) fun g5 _ e5 => q g5 x (fun c o n1 n2 n3 n4 e => e5.extBut _ _ n1 (e4 _ _ n4 (e3.extBut _ _ n2 (e2.extBut _ _ n3 (e1.extBut _ _ n1 e))))) ⟨o, e5.extBut _ _ hn ho, hc⟩
theorem pyNext {z a b i1 i2 t1 t2 : Addr} {k : Nat} {xs ys : Array Value} {x y : Value} {Q : Option Value → Shared → Prop} (D : ZipApart z a b i1 i2 t1 t2) (p : At s.heap z a b i1 i2 t1 t2 k xs ys .none) (ex : xs[k]? = some x) (ey : ys[k]? = some y)
    (q : ∀ g, At g z a b i1 i2 t1 t2 (k + 1) xs ys (rawInt s.heap.objs.size) → IsPair g s.heap.objs.size x y → g.objs.size = s.heap.objs.size + 1 →
      (∀ c o, c ≠ z → c ≠ b → c ≠ i1 → c ≠ i2 → s.heap.get? c = some o → g.get? c = some o) → Q (some (.ref s.heap.objs.size)) { s with heap := g }) : wpAny (model prog w) A (PySem.pyNext (.ref z)) Q E s := by
  have ty : s.TypeIs (.ref z) "zip" := ⟨_, p.zp, rfl⟩
  unfold PySem.pyNext
  exact wpAny_bind (wpAny_attempt (wpAny_callSpecial?_slot (name := Str.ofString "__next__") ty F.slot_zip_next (wpAny_call_entry F.slot_zip_next ty F.entry_zip_next (next D p ex ey fun g b1 b2 b3 b4 => wpAny_pure (q g b1 b2 b3 b4)) (F.args_zip_next_1 _))))
theorem pyEnd {z a b i1 i2 t1 t2 : Addr} {k : Nat} {xs ys : Array Value} {Q : Option Value → Shared → Prop} (hA : A.handled = none) (D : ZipApart z a b i1 i2 t1 t2) (p : At s.heap z a b i1 i2 t1 t2 k xs ys .none) (en : xs[k]? = none ∨ ys[k]? = none)
    (q : ∀ g, (∀ c o, c ≠ z → c ≠ b → c ≠ i1 → c ≠ i2 → s.heap.get? c = some o → g.get? c = some o) → Q none { s with heap := g }) : wpAny (model prog w) A (PySem.pyNext (.ref z)) Q E s := by
  have ty : s.TypeIs (.ref z) "zip" := ⟨_, p.zp, rfl⟩
  unfold PySem.pyNext
  refine wpAny_bind (wpAny_attempt (wpAny_callSpecial?_slot (name := Str.ofString "__next__") ty F.slot_zip_next (wpAny_call_entry F.slot_zip_next ty F.entry_zip_next (nextEnd hA D p en fun g x b1 b2 => ?_) (F.args_zip_next_1 _))))
  obtain ⟨o, ho, hc⟩ := b2
  exact wpAny_bind (wpAny_isInstance (T := "StopIteration") (b := true) ⟨o, ho, hc⟩ isSubtype_stop (wpAny_pure (q _ b1)))
noncomputable abbrev zT1 (h : Heap) (t1 : Addr) : Heap := h.push { cls := .type "tuple_iterator", data := .fields #[.ref t1, .int 0 0] }
noncomputable abbrev zT2 (h : Heap) (t1 t2 : Addr) : Heap := (zT1 h t1).push { cls := .type "tuple_iterator", data := .fields #[.ref t2, .int 0 0] }
noncomputable abbrev zT3 (h : Heap) (t1 t2 : Addr) : Heap := (zT2 h t1 t2).push { cls := .type "tuple", data := .seq #[.ref h.objs.size, .ref (zT1 h t1).objs.size] }
noncomputable abbrev zT4 (h : Heap) (t1 t2 : Addr) : Heap := (zT3 h t1 t2).push { cls := .type "tuple", data := .seq #[.none, .none] }
noncomputable abbrev zT5 (h : Heap) (t1 t2 : Addr) : Heap := (zT4 h t1 t2).push { cls := .type "zip", data := .fields #[.none, .bool false, .bool false, .ref (zT2 h t1 t2).objs.size, .ref (zT3 h t1 t2).objs.size] }
theorem meetsNew (t1 t2 : Addr) (xs ys : Array Value) : Meets (Builtin.«zip.__new__» ⟨[.type "zip", .ref t1, .ref t2], []⟩) (fun _ R s => s.heap.IsTuple t1 xs ∧ s.heap.IsTuple t2 ys ∧
      ∀ g, At g (s.heap.objs.size + 4) (s.heap.objs.size + 2) (s.heap.objs.size + 3) s.heap.objs.size (s.heap.objs.size + 1) t1 t2 0 xs ys .none → (∀ c o, s.heap.get? c = some o → g.get? c = some o) →
      R (.ok (.ret (.ref (s.heap.objs.size + 4)))) { s with heap := g }) :=
  .of_wp fun prog w A R s h => by
    obtain ⟨hp, g, d, tk, os⟩ := s
    obtain ⟨r1, r2, h⟩ := h
    have hsub := sub_zip
    have u1 : Heap.IsTuple (Shared.heap ⟨hp, g, d, tk, os⟩) t1 xs := r1
    have u2 : Heap.IsTuple (Shared.heap ⟨hp.push { cls := .type "tuple_iterator", data := .fields #[.ref t1, .int 0 0] }, g, d, tk, os⟩) t2 ys := Heap.IsTuple.push r2 _
    wp_walk using wpAny_pyIter_tuple u1, wpAny_pyIter_tuple u2
    refine ⟨_, rfl, ?_⟩
    have c1 : (zT1 hp t1).objs.size = hp.objs.size + 1 := Heap.size_push ..
    have c2 : (zT2 hp t1 t2).objs.size = hp.objs.size + 2 := by rw [Heap.size_push, c1]
    have c3 : (zT3 hp t1 t2).objs.size = hp.objs.size + 3 := by rw [Heap.size_push, c2]
    have c4 : (zT4 hp t1 t2).objs.size = hp.objs.size + 4 := by rw [Heap.size_push, c3]
    have up : ∀ c o, hp.get? c = some o → (zT5 hp t1 t2).get? c = some o := fun c o e =>
      Heap.get?_push_of_some _ (Heap.get?_push_of_some _ (Heap.get?_push_of_some _ (Heap.get?_push_of_some _ (Heap.get?_push_of_some _ e))))
    have b5 : (zT5 hp t1 t2).get? (zT4 hp t1 t2).objs.size = some { cls := .type "zip", data := .fields #[.none, .bool false, .bool false, .ref (zT2 hp t1 t2).objs.size, .ref (zT3 hp t1 t2).objs.size] } := Heap.get?_push_size _ rfl
    have b4 : (zT5 hp t1 t2).get? (zT3 hp t1 t2).objs.size = some { cls := .type "tuple", data := .seq #[.none, .none] } := Heap.get?_push_of_some _ (Heap.get?_push_size _ rfl)
    have b3 : (zT5 hp t1 t2).get? (zT2 hp t1 t2).objs.size = some { cls := .type "tuple", data := .seq #[.ref hp.objs.size, .ref (zT1 hp t1).objs.size] } := Heap.get?_push_of_some _ (Heap.get?_push_of_some _ (Heap.get?_push_size _ rfl))
    have b2 : (zT5 hp t1 t2).get? (zT1 hp t1).objs.size = some { cls := .type "tuple_iterator", data := .fields #[.ref t2, .int 0 0] } := Heap.get?_push_of_some _ (Heap.get?_push_of_some _ (Heap.get?_push_of_some _ (Heap.get?_push_size _ rfl)))
    have b1 : (zT5 hp t1 t2).get? hp.objs.size = some { cls := .type "tuple_iterator", data := .fields #[.ref t1, .int 0 0] } := Heap.get?_push_of_some _ (Heap.get?_push_of_some _ (Heap.get?_push_of_some _ (Heap.get?_push_of_some _ (Heap.get?_push_size _ rfl))))
    rw [c4, c2, c3] at b5
    rw [c3] at b4
    rw [c2, c1] at b3
    rw [c1] at b2
    have z := h (zT5 hp t1 t2) ⟨b5, b3, ⟨_, _, b4⟩, ⟨_, b1, rfl, rfl⟩, ⟨_, b2, rfl, rfl⟩, tup_at r1 (fun o e => up _ o e), tup_at r2 (fun o e => up _ o e)⟩ up
    show R (.ok (.ret (.ref (zT4 hp t1 t2).objs.size))) _
    rw [c4]
    exact z
theorem callZip {t1 t2 : Addr} {xs ys : Array Value} {Q : Value → Shared → Prop} (r1 : s.heap.IsTuple t1 xs) (r2 : s.heap.IsTuple t2 ys)
    (h : ∀ g, At g (s.heap.objs.size + 4) (s.heap.objs.size + 2) (s.heap.objs.size + 3) s.heap.objs.size (s.heap.objs.size + 1) t1 t2 0 xs ys .none → (∀ c o, s.heap.get? c = some o → g.get? c = some o) → Q (.ref (s.heap.objs.size + 4)) { s with heap := g }) :
    wpAny (model prog w) A (call (.type "zip") [.ref t1, .ref t2]) Q E s := by
  refine callType_new F.called_zip (by decide) (F.typeCall_zip_2 _ _) (F.newCall_zip_2 _ _) (fun obj => F.args_object_init_3 obj _ _) F.entry_zip_new (meetsNew t1 t2 xs ys) ⟨r1, r2, fun g p k => ?_⟩
  show _ ∧ _
  exact ⟨⟨_, p.zp, rfl⟩, h g p k⟩
end ZT
end PySem


set_option Elab.async false
set_option linter.all false
set_option maxRecDepth 100000
namespace PySem
namespace EN
open AutoSeq1 (wpAny_loadPart')
section
variable {prog : Program} {w : World} {A : Around} {E : Value → Shared → Prop} {s : Shared}
end
end EN
end PySem


set_option Elab.async false
set_option linter.all false
set_option maxRecDepth 100000
namespace SN
open PySem PySem.Spec PyProof.Rows L2 MP
variable [Wd]
section
variable {X : Cx} {pins : List (Addr × Obj)} {σ : L2.St} {H : Hp} {s : Shared} {P : List Fn} {W n : Nat} {cl : CallH}
theorem turnedL {h' : Heap} {t' : Nat} {ch : List Addr} (I : Inv X pins σ H s) (hf : ∀ b ∈ ch, FpOk X pins H b) (k : ∀ b o, b ∉ ch → s.heap.get? b = some o → h'.get? b = some o) : Inv X pins σ H { s with heap := h', toks := t' } := by
  have nit : ∀ b u, H b = some u → b ∉ ch := fun b u e z => by rw [(hf b z).1] at e; cases e
  refine I.step (g' := s.gens) (d' := s.drawn) (t' := t') (ch := ch) (fun b hb => ?_) (fun b o _ _ hc e _ => k b o hc e) (fun b o _ _ hc e _ => ⟨o.slots, k b o hc e⟩) (fun _ _ _ _ n => n)
    (fun b o hc e => ⟨o, k b o hc e⟩) (fun _ _ e => e) (fun _ _ _ e => e) (fun b ps e => ⟨#[], by rw [e]; simp⟩) (fun m hm => ?_) (fun b u e => ?_) I.bare
  · obtain ⟨f0, f1, f2, f3, f4, f5⟩ := hf b hb
    exact ⟨f3, f1, f4, f5⟩
  · obtain ⟨o, es, ep, ho, r⟩ := hm
    exact ⟨o, es, ep, k _ o (fun z => (hf _ z).2.1 rfl) ho, r⟩
  · refine (I.hok b u e).stay (fun c v hc q => k c v ?_ q) (fun c q => q) fun c xs q => q
    rcases hc with z | z
    · rw [z]; exact nit b u e
    · exact nit c _ z
theorem turnedTL {h' : Heap} {t' : Nat} {ch : List Addr} {xs : List V} {us : List Value} (I : Inv X pins σ H s) (hf : ∀ b ∈ ch, FpOk X pins H b) (k : ∀ b o, b ∉ ch → s.heap.get? b = some o → h'.get? b = some o)
    (ht : h'.get? s.heap.objs.size = some { cls := .type "tuple", data := .seq us.toArray }) (hv : Vals xs us) (hz : xs.length ≤ sizeLine) : Inv X pins σ (upd H s.heap.objs.size (.tup xs)) { s with heap := h', toks := t' } := by
  have hp : H s.heap.objs.size = none := I.hok.fresh (Nat.le_refl _)
  have ne : ∀ b o, s.heap.get? b = some o → b ≠ s.heap.objs.size := fun b o e => Nat.ne_of_lt (Heap.lt_size e)
  have ne2 : ∀ b u, H b = some u → b ≠ s.heap.objs.size := fun b u e => ne_of_none e hp
  have nit : ∀ b u, H b = some u → b ∉ ch := fun b u e z => by rw [(hf b z).1] at e; cases e
  refine I.step (g' := s.gens) (d' := s.drawn) (t' := t') (ch := ch) (fun b hb => ?_) (fun b o _ _ hc e _ => k b o hc e) (fun b o _ _ hc e _ => ⟨o.slots, k b o hc e⟩) (fun b o _ e n => by rw [upd_ne (ne b o e)]; exact n)
    (fun b o hc e => ⟨o, k b o hc e⟩) (fun b _ e => by rw [upd_ne (ne2 b _ e)]; exact e) (fun b _ _ e => by rw [upd_ne (ne2 b _ e)]; exact e) (fun b ps e => ⟨#[], by rw [upd_ne (ne2 b _ e), e]; simp⟩) (fun m hm => ?_) (fun b u e => ?_) I.bare
  · obtain ⟨f0, f1, f2, f3, f4, f5⟩ := hf b hb
    exact ⟨f3, f1, f4, f5⟩
  · obtain ⟨o, es, ep, ho, r⟩ := hm
    exact ⟨o, es, ep, k _ o (fun z => (hf _ z).2.1 rfl) ho, r⟩
  · by_cases hb : b = s.heap.objs.size
    · subst hb
      rw [upd_same] at e
      cases e
      exact ⟨hz, us, hv, _, ht, rfl, _, rfl⟩
    · rw [upd_ne hb] at e
      refine (I.hok b u e).stay (fun c v hc q => k c v ?_ q) (fun c q => by rw [upd_ne (ne2 c _ q)]; exact q) fun c xs q => by rw [upd_ne (ne2 c _ q)]; exact q
      rcases hc with z | z
      · rw [z]; exact nit b u e
      · exact nit c _ z
noncomputable def Itz (K : PySem.W.Frag) (a b : Addr) (xs ys : List V) : It :=
  ⟨fun i H => SqT K H a xs ∧ SqT K H b ys ∧ i < xs.length ∧ i < ys.length, fun i H x H' => ∃ u v p, xs[i]? = some u ∧ ys[i]? = some v ∧ H p = none ∧ x = .ref p ∧ H' = upd H p (.tup [u, v]), fun i H => SqT K H a xs ∧ SqT K H b ys ∧ (xs.length ≤ i ∨ ys.length ≤ i)⟩
theorem turn_zip {P : Program} {w : World} {K : PySem.W.Frag} {elts : List Expr} {x1 : Nat} {pos : Pos} (a b z t o i1 i2 : Addr) (xs ys : List V) (D : ZipApart z t o i1 i2 a b) :
    Turn P w K (.Tuple elts x1 pos) (Itz K a b xs ys) [z, t, o, i1, i2] z (fun i h => IsZip h z t o .none ∧ IsPair h t (.ref i1) (.ref i2) ∧ (∃ u v, IsPair h o u v) ∧ h.IsTupleIter i1 a i ∧ h.IsTupleIter i2 b i) where
  mem := by simp
  obj := fun i h st c hc => by
    obtain ⟨g1, g2, ⟨u, v, g3⟩, ⟨o4, g4, _, d4⟩, ⟨o5, g5, _, d5⟩⟩ := st
    simp only [List.mem_cons, List.not_mem_nil, or_false] at hc
    rcases hc with rfl | rfl | rfl | rfl | rfl
    · exact ⟨_, g1, fun v q => by
        have q' : Data.fields _ = Data.cell v := q
        cases q'⟩
    · exact ⟨_, g2, fun v q => by
        have q' : Data.seq _ _ = Data.cell v := q
        cases q'⟩
    · exact ⟨_, g3, fun v q => by
        have q' : Data.seq _ _ = Data.cell v := q
        cases q'⟩
    · exact ⟨_, g4, fun v q => by rw [d4] at q; cases q⟩
    · exact ⟨_, g5, fun v q => by rw [d5] at q; cases q⟩
  keep := fun i h h' st k => by
    obtain ⟨g1, g2, ⟨u, v, g3⟩, g4, g5⟩ := st
    exact ⟨k z (by simp) _ g1, k t (by simp) _ g2, ⟨u, v, k o (by simp) _ g3⟩, g4.at fun o e => k i1 (by simp) o e, g5.at fun o e => k i2 (by simp) o e⟩
  item := by
    intro X hP hw hK hc i pins s σ H E I hf st hg
    subst hP hw hK
    obtain ⟨ha, hb, hx, hy⟩ := hg
    obtain ⟨its, rv, p, hz⟩ := I.tuple ha
    obtain ⟨its2, rv2, p2, hz2⟩ := I.tuple hb
    obtain ⟨u, hu, ru⟩ := rv.get (List.getElem?_eq_getElem hx)
    obtain ⟨v, hv, rv'⟩ := rv2.get (List.getElem?_eq_getElem hy)
    obtain ⟨g1, g2, g3, g4, g5⟩ := st
    refine ZT.pyNext D ⟨g1, g2, g3, g4, g5, (show s.heap.IsTuple a its.toArray from p), (show s.heap.IsTuple b its2.toArray from p2)⟩ (x := u) (y := v) (by simpa using hu) (by simpa using hv) fun g q1 q2 q3 q4 => ⟨_, rfl, ?_⟩
    refine wpAny_letOwnedTupleGo_zip (s := { s with heap := g }) q1.zp fun g' hz' sb => ?_
    have hlt : z < s.heap.objs.size := Heap.lt_size g1
    have kk : ∀ c o', c ∉ [z, t, o, i1, i2] → s.heap.get? c = some o' → g'.get? c = some o' := fun c o' hn e => by
      simp only [List.mem_cons, List.not_mem_nil, or_false, not_or] at hn
      exact (sb.2 c hn.1).trans (q4 c o' hn.1 hn.2.2.1 hn.2.2.2.1 hn.2.2.2.2 e)
    have ht : g'.get? s.heap.objs.size = some { cls := .type "tuple", data := .seq [u, v].toArray } := (sb.2 _ (Nat.ne_of_gt hlt)).trans q2
    have I1 := turnedTL (h' := g') (t' := s.toks) (ch := [z, t, o, i1, i2]) (xs := [xs[i], ys[i]]) I hf kk ht (.cons ru (.cons rv' .nil)) (by show 2 ≤ sizeLine; decide)
    obtain ⟨u3, v3, g3'⟩ := q1.own
    refine ⟨.ref s.heap.objs.size, _, I1, rfl, ⟨xs[i], ys[i], _, List.getElem?_eq_getElem hx, List.getElem?_eq_getElem hy, I.hok.fresh (Nat.le_refl _), rfl, rfl⟩,
      ⟨hz', (sb.2 _ D.TIz).trans q1.its, ⟨u3, v3, (sb.2 _ D.TOz).trans g3'⟩, q1.p1.at fun o e => (sb.2 _ D.i1z).trans e, q1.p2.at fun o e => (sb.2 _ D.i2z).trans e⟩, fun c hc => ?_⟩
    have hcs : c < s.heap.objs.size := by
      obtain ⟨u', v', g3''⟩ := g3
      obtain ⟨o4, e4, _⟩ := g4
      obtain ⟨o5, e5, _⟩ := g5
      simp only [List.mem_cons, List.not_mem_nil, or_false] at hc
      rcases hc with rfl | rfl | rfl | rfl | rfl
      · exact Heap.lt_size g1
      · exact Heap.lt_size g2
      · exact Heap.lt_size g3''
      · exact Heap.lt_size e4
      · exact Heap.lt_size e5
    rw [upd_ne (Nat.ne_of_lt hcs)]
    exact (hf c hc).1
  done := by
    intro X hP hw hK hc i pins s σ H E I hf st hg
    subst hP hw hK
    obtain ⟨ha, hb, hen⟩ := hg
    obtain ⟨its, rv, p, hz⟩ := I.tuple ha
    obtain ⟨its2, rv2, p2, hz2⟩ := I.tuple hb
    obtain ⟨g1, g2, g3, g4, g5⟩ := st
    have l1 := rv.length
    have l2 := rv2.length
    refine ZT.pyEnd (I.ok.hd hc) D ⟨g1, g2, g3, g4, g5, (show s.heap.IsTuple a its.toArray from p), (show s.heap.IsTuple b its2.toArray from p2)⟩ ?_ fun g q => ⟨rfl, turnedL (t' := s.toks) I hf fun c o' hn e => ?_⟩
    · rcases hen with h | h
      · exact .inl (by simp; omega)
      · exact .inr (by simp; omega)
    · simp only [List.mem_cons, List.not_mem_nil, or_false, not_or] at hn
      exact q c o' hn.1 hn.2.2.1 hn.2.2.2.1 hn.2.2.2.2 e
  self := fun _ _ _ _ _ st h => wpAny_pyIter_zip st.1 h
theorem boot_zip' : bootBuiltins (Str.ofString "zip") = some (.type "zip") := by decide +kernel
theorem zipR_get : ∀ {xs ys : List G} {i : Nat} {x : R}, (zipR xs ys)[i]? = some x → ∃ a b, xs[i]? = some a ∧ ys[i]? = some b ∧ x = .g (.tup [a, b])
  | [], _, i, x, h => by simp [zipR] at h
  | _ :: _, [], i, x, h => by simp [zipR] at h
  | a :: r, b :: t, 0, x, h => by
    simp only [zipR, List.getElem?_cons_zero, Option.some.injEq] at h
    exact ⟨a, b, rfl, rfl, h.symm⟩
  | a :: r, b :: t, i + 1, x, h => by
    simp only [zipR, List.getElem?_cons_succ] at h ⊢
    exact zipR_get h
theorem zipR_len : ∀ (xs ys : List G), (zipR xs ys).length = min xs.length ys.length
  | [], _ => by simp [zipR]
  | _ :: _, [] => by simp [zipR]
  | a :: r, b :: t => by simp [zipR, zipR_len r t]
theorem wj_zip {K : PySem.W.Frag} {ρ : Nat → Addr} {σ : Store} {H : Hp} {a b : Addr} {xs ys : List G} {vs us : List V} (S : SR H ρ σ) (ha : H a = some (.tup vs)) (hb : H b = some (.tup us)) (h1 : RGs H xs vs) (h2 : RGs H ys us) : WJ (Itz K a b vs us) ρ σ H ⟨zipR xs ys, none⟩ := by
  intro ρ2 σ2 H2 ex S2 _ i
  have tp := ex.tp S
  have ha2 := tp _ _ ha
  have hb2 := tp _ _ hb
  have k1 := RGs.mono tp _ h1
  have k2 := RGs.mono tp _ h2
  refine ⟨fun x hx => ?_, fun hi => ?_⟩
  · obtain ⟨g1, g2, e1, e2, rfl⟩ := zipR_get hx
    obtain ⟨v1, f1, q1⟩ := k1.get e1
    obtain ⟨v2, f2, q2⟩ := k2.get e2
    refine ⟨⟨.of ha2, .of hb2, (List.getElem?_eq_some_iff.mp f1).1, (List.getElem?_eq_some_iff.mp f2).1⟩, fun u H3 y => ?_⟩
    obtain ⟨u1, u2, p, z1, z2, hp, rfl, rfl⟩ := y
    rw [f1] at z1
    rw [f2] at z2
    cases z1
    cases z2
    obtain ⟨x1, x2, tp3⟩ := S2.tup hp (.tup [v1, v2])
    exact ⟨x1, x2, ⟨p, [v1, v2], rfl, upd_same, ⟨v1, [v2], rfl, RG.mono tp3 _ q1, ⟨v2, [], rfl, RG.mono tp3 _ q2, rfl⟩⟩⟩⟩
  · refine ⟨.of ha2, .of hb2, ?_⟩
    have hi : (zipR xs ys).length ≤ i := hi
    rw [zipR_len] at hi
    have l1 := k1.length
    have l2 := k2.length
    rcases Nat.le_total xs.length ys.length with q | q
    · exact .inl (by omega)
    · exact .inr (by omega)
theorem bj_zip (K : PySem.W.Frag) (a b : Addr) (xs ys : List V) : BJ K (Itz K a b xs ys) := fun X pins σ H s i hK I ⟨h1, h2, h3, h4⟩ => by
  subst hK
  obtain ⟨_, _, _, hz⟩ := I.tuple h1
  exact Nat.lt_of_lt_of_le h3 hz
noncomputable def iZip (K : PySem.W.Frag) (ta : TA) : TI := fun σ H R => ta σ H fun vs H1 => ∃ a b xs ys, vs = [.ref a, .ref b] ∧ SqT K H1 a xs ∧ SqT K H1 b ys ∧ R (Itz K a b xs ys) H1
theorem pi_zipT {u v : Expr} {ta : TA} {p pos tpos : Pos} {elts : List Expr} {x1 : Nat} (hg : Gl X (Str.ofString "zip")) (hm : X.mg (Str.ofString "zip") = none) (ha : PA X [u, v] ta) (hs1 : notStar u = true) (hs2 : notStar v = true) :
    PI X (.Tuple elts x1 tpos) (.Call (.Name (Str.ofString "zip") p) [u, v] [] pos) (iZip X.K ta) := by
  intro pins s σ H R I h
  refine Call_ (ld_blt I hg hm boot_zip' (PyProof.Rows.callWith_type1 (thn (ha pos pins s σ H _ I h) fun us s1 ⟨vs, H1, I1, r1, q1⟩ => ?_) (starEach_cons hs1) (backTo_plain (es := [v]) (by simpa using hs2))))
  obtain ⟨a, b, xs, ys, rfl, h1, h2, q⟩ := q1
  obtain ⟨w1, w2, rfl, rw1, rw2⟩ := vals2 r1
  cases rw1
  cases rw2
  obtain ⟨its, rv, p1, hz⟩ := I1.tuple h1
  obtain ⟨its2, rv2, p2, hz2⟩ := I1.tuple h2
  have a1 : a < s1.heap.objs.size := by obtain ⟨_, e, _⟩ := p1; exact Heap.lt_size e
  have a2 : b < s1.heap.objs.size := by obtain ⟨_, e, _⟩ := p2; exact Heap.lt_size e
  refine ZT.callZip (show s1.heap.IsTuple a its.toArray from p1) (show s1.heap.IsTuple b its2.toArray from p2) fun g at0 kk => ?_
  have I2 : Inv X pins σ H1 { s1 with heap := g } := I1.kept (t' := s1.toks) kk
  refine wpAny_pyIter_zip (s := { s1 with heap := g }) at0.zp ?_
  have D := zipApart_new a1 a2
  refine ⟨_, [s1.heap.objs.size + 4, s1.heap.objs.size + 2, s1.heap.objs.size + 3, s1.heap.objs.size, s1.heap.objs.size + 1], _, _, H1, rfl, I2, turn_zip a b _ _ _ _ _ xs ys D, ⟨at0.zp, at0.its, at0.own, at0.p1, at0.p2⟩, fun c hc => ?_, q⟩
  have hle : s1.heap.objs.size ≤ c := by
    simp only [List.mem_cons, List.not_mem_nil, or_false] at hc
    rcases hc with rfl | rfl | rfl | rfl | rfl
    · exact Nat.le_add_right _ 4
    · exact Nat.le_add_right _ 2
    · exact Nat.le_add_right _ 3
    · exact Nat.le_refl _
    · exact Nat.le_add_right _ 1
  obtain ⟨f0, f1, f2, f3, f4, f5⟩ := I1.fpOk hle (I1.hok.fresh hle)
  exact ⟨f0, f1, f2, f3, f4, f5⟩
theorem pi_zip {tg u v : Expr} {a b : MP.Tm} {pp pos : Pos} (am : Amb X P W n) (htg : isTup tg = true) (hg : Gl X (Str.ofString "zip")) (hs1 : notStar u = true) (hs2 : notStar v = true) (ha : PE X u (E1 cl a)) (hb : PE X v (E1 cl b)) :
    PI X tg (.Call (.Name (Str.ofString "zip") pp) [u, v] [] pos) (TIv X.K (evW cl (.zip a b))) := by
  cases tg <;> first | (simp [isTup] at htg; done) | skip
  have hA : PA X [u, v] (A1 cl (.cons a (.cons b .nil))) := (PEl.cons hs1 ha (PEl.cons hs2 hb .nil)).pa
  refine PI.imp (pi_zipT hg (am.blt _ (by simp)) hA hs1 hs2) fun st H R q => ?_
  obtain ⟨ρ, ε, σ, w, σ', hE, hS, ew, q⟩ := q
  rw [evW] at ew
  obtain ⟨x, σ1, e1, ew⟩ := bind_inv ew
  obtain ⟨y, σ2, e2, ew⟩ := bind_inv ew
  cases x with
  | ref _ => simp [wZip] at ew
  | tr _ => simp [wZip] at ew
  | g gx =>
    cases gx with
    | tup xs =>
      cases y with
      | ref _ => simp [wZip] at ew
      | tr _ => simp [wZip] at ew
      | g gy =>
        cases gy with
        | tup ys =>
          cases ew
          refine ⟨ρ, ε, σ, [.g (.tup xs), .g (.tup ys)], σ', hE, hS, by rw [evs, e1]; simp [evs, e2], fun ρ' vs H' ex S' rr => ?_⟩
          obtain ⟨v1, v2, rfl, r1, r2⟩ := rrs2 rr
          obtain ⟨a1, vs1, rfl, h1, k1⟩ := r1
          obtain ⟨a2, vs2, rfl, h2, k2⟩ := r2
          exact ⟨a1, a2, vs1, vs2, rfl, .of h1, .of h2, q ρ' H' _ ex S' (wj_zip S' h1 h2 k1 k2) (bj_zip _ _ _ _ _)⟩
        | _ => simp [wZip] at ew
    | _ => simp [wZip] at ew
noncomputable def gNames : List Nat → TGs
  | [] => gNil
  | i :: is => gCons (gName i) (gNames is)
theorem tg_sound {tg : Expr} {xs names : List Str} {caps : List Nat} {scope : Scope} (am : Amb X P W n) (e : tgNames tg = some xs) (ok : CompOk X xs caps names scope) :
    ∃ g : TG, (∀ C fp s H, PG (cxC X (xs ++ names) scope (frees X.env.cells scope.names []) C fp s H) tg g) ∧ (∀ y H bs, BX xs.length y H bs → bs.length = xs.length) ∧
      (∀ y H bs os vals, BX xs.length y H bs → os.length = xs.length → g y (os ++ vals) H fun σ' H' => σ' = bs ++ vals ∧ H' = H) := by
  unfold tgNames at e
  split at e
  · rename_i x px
    cases e
    refine ⟨gName 0, fun C fp s H => pg_name (X := cxC X ([x] ++ names) scope _ C fp s H) (i := 0) (x := x) ok.nod rfl (.inl (lookup_relabel_local (ok.tgt x (by simp)))) (.inr (lookup_relabel_local (ok.tgt x (by simp)))), fun y H bs h => ?_, fun y H bs os vals h hl => ?_⟩
    · cases (show bs = [some y] from h); rfl
    · cases (show bs = [some y] from h)
      match os, hl with
      | [o], _ => exact ⟨rfl, rfl⟩
  · rename_i x px y py k pos
    cases e
    refine ⟨gTup X.K 2 (gNames [0, 1]), fun C fp s H => ?_, fun v H bs h => ?_, fun v H bs os vals h hl => ?_⟩
    · have p0 : PG (cxC X ([x, y] ++ names) scope (frees X.env.cells scope.names []) C fp s H) (.Name x px) (gName 0) := pg_name (i := 0) (x := x) ok.nod rfl (.inl (lookup_relabel_local (ok.tgt x (by simp)))) (.inr (lookup_relabel_local (ok.tgt x (by simp))))
      have p1 : PG (cxC X ([x, y] ++ names) scope (frees X.env.cells scope.names []) C fp s H) (.Name y py) (gName 1) := pg_name (i := 1) (x := y) ok.nod rfl (.inl (lookup_relabel_local (ok.tgt y (by simp)))) (.inr (lookup_relabel_local (ok.tgt y (by simp))))
      exact pg_tup am.calm (pgs_cons p0 (pgs_cons p1 pgs_nil rfl) rfl) rfl rfl
    · obtain ⟨a, vs, rfl, ha, hl, rfl⟩ := (show ∃ a vs, v = .ref a ∧ H a = some (.tup vs) ∧ vs.length = 2 ∧ bs = vs.map some from h)
      simpa using hl
    · obtain ⟨a, vs, rfl, ha, hl2, rfl⟩ := (show ∃ a vs, v = .ref a ∧ H a = some (.tup vs) ∧ vs.length = 2 ∧ bs = vs.map some from h)
      match vs, hl2, os, hl with
      | [v1, v2], _, [o1, o2], _ => exact ⟨a, [v1, v2], rfl, .of ha, rfl, v1, [v2], rfl, v2, [], rfl, rfl, rfl, rfl⟩
  · cases e
end
end SN


set_option Elab.async false
set_option linter.all false
set_option maxRecDepth 100000
namespace SN
open PySem PySem.Spec PyProof.Rows L2 MP
variable [Wd]
section
variable {X : Cx} {P : List Fn} {W n : Nat} {cl : CallH}
end
end SN


set_option Elab.async false
set_option linter.all false
set_option maxRecDepth 100000
namespace SN
open PySem PySem.Spec PyProof.Rows L2 MP
variable [Wd]
section
variable {P : List Fn} {W n : Nat}

theorem tt_and {cl : CallH} {a b : MP.Tm} (st : L2.St) (H : Hp) (Q : Bool → Hp → Prop) (t : T1 cl (.andT a b) st H Q) : tAnd (T1 cl a) (T1 cl b) st H Q := by
  obtain ⟨ρ, ε, σ, c, σ', hE, hS, e, q⟩ := t
  rw [ev] at e
  obtain ⟨r, σ1, e1, e2⟩ := bind_inv e
  cases r with
  | ref _ => cases e2
  | tr _ => cases e2
  | g gx =>
    cases gx with
    | bl d =>
      refine ⟨ρ, ε, σ, d, σ1, hE, hS, e1, fun ρ1 H1 ex1 S1 => ?_⟩
      cases d with
      | true => exact iteT ⟨ρ1, ε, σ1, c, σ', hE.mono hS ex1, S1, e2, fun ρ2 H2 ex2 S2 => q ρ2 H2 (ex1.trans S1 ex2) S2⟩
      | false => cases e2; exact iteF (q ρ1 H1 ex1 S1)
    | _ => cases e2
theorem tt_or {cl : CallH} {a b : MP.Tm} (st : L2.St) (H : Hp) (Q : Bool → Hp → Prop) (t : T1 cl (.orT a b) st H Q) : tOr (T1 cl a) (T1 cl b) st H Q := by
  obtain ⟨ρ, ε, σ, c, σ', hE, hS, e, q⟩ := t
  rw [ev] at e
  obtain ⟨r, σ1, e1, e2⟩ := bind_inv e
  cases r with
  | ref _ => cases e2
  | tr _ => cases e2
  | g gx =>
    cases gx with
    | bl d =>
      refine ⟨ρ, ε, σ, d, σ1, hE, hS, e1, fun ρ1 H1 ex1 S1 => ?_⟩
      cases d with
      | false => exact iteF ⟨ρ1, ε, σ1, c, σ', hE.mono hS ex1, S1, e2, fun ρ2 H2 ex2 S2 => q ρ2 H2 (ex1.trans S1 ex2) S2⟩
      | true => cases e2; exact iteT (q ρ1 H1 ex1 S1)
    | _ => cases e2
theorem te_and {cl : CallH} {a b : MP.Tm} (st : L2.St) (H : Hp) (Q : VK) (t : E1 cl (.andT a b) st H Q) : tAndV (E1 cl a) (E1 cl b) st H Q := by
  obtain ⟨ρ, ε, σ, r, σ', hE, hS, e, q⟩ := t
  rw [ev] at e
  obtain ⟨r1, σ1, e1, e2⟩ := bind_inv e
  cases r1 with
  | ref _ => cases e2
  | tr _ => cases e2
  | g gx =>
    cases gx with
    | bl d =>
      refine ⟨ρ, ε, σ, .g (.bl d), σ1, hE, hS, e1, fun ρ1 v1 H1 ex1 S1 r1 => ⟨d, r1, ?_⟩⟩
      cases d with
      | true => exact iteT ⟨ρ1, ε, σ1, r, σ', hE.mono hS ex1, S1, e2, q.after ex1 S1⟩
      | false => cases e2; exact iteF (q ρ1 _ H1 ex1 S1 rfl)
    | _ => cases e2
theorem te_or {cl : CallH} {a b : MP.Tm} (st : L2.St) (H : Hp) (Q : VK) (t : E1 cl (.orT a b) st H Q) : tOrV (E1 cl a) (E1 cl b) st H Q := by
  obtain ⟨ρ, ε, σ, r, σ', hE, hS, e, q⟩ := t
  rw [ev] at e
  obtain ⟨r1, σ1, e1, e2⟩ := bind_inv e
  cases r1 with
  | ref _ => cases e2
  | tr _ => cases e2
  | g gx =>
    cases gx with
    | bl d =>
      refine ⟨ρ, ε, σ, .g (.bl d), σ1, hE, hS, e1, fun ρ1 v1 H1 ex1 S1 r1 => ⟨d, r1, ?_⟩⟩
      cases d with
      | false => exact iteF ⟨ρ1, ε, σ1, r, σ', hE.mono hS ex1, S1, e2, q.after ex1 S1⟩
      | true => cases e2; exact iteT (q ρ1 _ H1 ex1 S1 rfl)
    | _ => cases e2
theorem tt_not {cl : CallH} {a : MP.Tm} (st : L2.St) (H : Hp) (Q : Bool → Hp → Prop) (hb : ∀ ε σ r σ', ev cl true a ε σ = .ok r σ' → ∃ b, r = .g (.bl b)) (t : T1 cl (.notT a) st H Q) : tNot (T1 cl a) st H Q := by
  obtain ⟨ρ, ε, σ, c, σ', hE, hS, e, q⟩ := t
  rw [ev] at e
  obtain ⟨r, σ1, e1, e2⟩ := bind_inv e
  obtain ⟨b, rfl⟩ := hb _ _ _ _ e1
  cases e2
  exact ⟨ρ, ε, σ, b, _, hE, hS, e1, q⟩

theorem ev_true_leaf {cl : CallH} (t : MP.Tm) (hl : isLeaf t = true) (ε : MP.Env) (σ : Store) (r : R) (σ' : Store) (e : ev cl true t ε σ = .ok r σ') : ∃ b, r = .g (.bl b) := by
  rw [leaf_true hl] at e
  obtain ⟨r1, σ1, e1, e2⟩ := bind_inv e
  simp only [truR, if_true] at e2
  obtain ⟨b, e3, e4⟩ := ofO_inv e2
  cases e4
  exact ⟨b, rfl⟩
theorem ev_true_bl {cl : CallH} : ∀ (t : MP.Tm) (ε : MP.Env) (σ : Store) (r : R) (σ' : Store), ev cl true t ε σ = .ok r σ' → ∃ b, r = .g (.bl b)
  | .andT a b, ε, σ, r, σ', e => by
    rw [ev] at e
    obtain ⟨r1, σ1, e1, e2⟩ := bind_inv e
    obtain ⟨c, rfl⟩ := ev_true_bl a _ _ _ _ e1
    cases c with
    | true => exact ev_true_bl b _ _ _ _ e2
    | false => cases e2; exact ⟨_, rfl⟩
  | .orT a b, ε, σ, r, σ', e => by
    rw [ev] at e
    obtain ⟨r1, σ1, e1, e2⟩ := bind_inv e
    obtain ⟨c, rfl⟩ := ev_true_bl a _ _ _ _ e1
    cases c with
    | false => exact ev_true_bl b _ _ _ _ e2
    | true => cases e2; exact ⟨_, rfl⟩
  | .notT a, ε, σ, r, σ', e => by
    rw [ev] at e
    obtain ⟨r1, σ1, e1, e2⟩ := bind_inv e
    obtain ⟨b, e3, e4⟩ := ofO_inv e2
    cases e4
    exact ⟨_, rfl⟩
  | .ifT c a b, ε, σ, r, σ', e => by
    rw [ev] at e
    obtain ⟨r1, σ1, e1, e2⟩ := bind_inv e
    obtain ⟨d, rfl⟩ := ev_true_bl c _ _ _ _ e1
    cases d with
    | true => exact ev_true_bl a _ _ _ _ e2
    | false => exact ev_true_bl b _ _ _ _ e2
  | .chain p q a b c, ε, σ, r, σ', e => by
    rw [ev] at e
    obtain ⟨x, σ1, e1, e⟩ := bind_inv e
    obtain ⟨y, σ2, e2, e⟩ := bind_inv e
    obtain ⟨r1, σ3, e3, e⟩ := bind_inv e
    cases r1 with
    | ref _ => cases e
    | tr _ => cases e
    | g gx =>
      cases gx with
      | bl d =>
        cases d with
        | true =>
          obtain ⟨z, σ4, e4, e⟩ := bind_inv e
          obtain ⟨r2, σ5, e5, e⟩ := bind_inv e
          simp only [truR, if_true] at e
          obtain ⟨b, e6, e7⟩ := ofO_inv e
          cases e7
          exact ⟨b, rfl⟩
        | false => cases e; exact ⟨_, rfl⟩
      | _ => cases e
  | .var i, ε, σ, r, σ', e => ev_true_leaf _ rfl ε σ r σ' e
  | .con x, ε, σ, r, σ', e => ev_true_leaf _ rfl ε σ r σ' e
  | .glb _ _, ε, σ, r, σ', e => ev_true_leaf _ rfl ε σ r σ' e
  | .op _ _, ε, σ, r, σ', e => ev_true_leaf _ rfl ε σ r σ' e
  | .meth _ _ _, ε, σ, r, σ', e => ev_true_leaf _ rfl ε σ r σ' e
  | .call _ _, ε, σ, r, σ', e => ev_true_leaf _ rfl ε σ r σ' e
  | .comp _ _ _ _ _, ε, σ, r, σ', e => ev_true_leaf _ rfl ε σ r σ' e

section
variable {X : Cx}
theorem pe_notT {a : Expr} {ta : TE} {pos : Pos} (ha : PE X a ta) : PE X (.UnaryOp .Not a pos) (fun σ H Q => ta σ H fun x H1 => ∃ k, TruV X.K x H1 k ∧ Q (.bl (!k)) H1) := by
  intro pins s σ H Q I h
  refine UnaryOp_ (thn (ha pins s σ H _ I h) fun v s1 ⟨x, H1, I1, r1, k, tk, q1⟩ => ?_)
  refine not_of (thn (tru_ok pins s1 σ H1 x v (fun b H' => Q (.bl (!b)) H') I1 r1 ⟨k, tk, q1⟩) fun b s2 ⟨H2, I2, q2⟩ => ?_)
  exact ⟨.bl (!b), H2, I2, rfl, q2⟩
theorem te_not {cl : CallH} {a : MP.Tm} (st : L2.St) (H : Hp) (Q : VK) (t : E1 cl (.notT a) st H Q) : E1 cl a st H fun x H1 => ∃ k, TruV X.K x H1 k ∧ Q (.bl (!k)) H1 := by
  obtain ⟨ρ, ε, σ, r, σ', hE, hS, e, q⟩ := t
  rw [ev] at e
  obtain ⟨r1, σ1, e1, e2⟩ := bind_inv e
  obtain ⟨b, e3, e4⟩ := ofO_inv e2
  cases e4
  exact ⟨ρ, ε, σ, r1, _, hE, hS, e1, fun ρ1 v1 H1 ex1 S1 rr => ⟨b, tru_TruV S1 rr e3, q ρ1 _ H1 ex1 S1 rfl⟩⟩
theorem pt_ifExp {c a b : Expr} {tc ta tb : TT} {pos : Pos} (hc : PT X c tc) (ha : PT X a ta) (hb : PT X b tb) : PT X (.IfExp c a b pos) (fun σ H Q => tc σ H fun d H1 => if d = true then ta σ H1 Q else tb σ H1 Q) := by
  intro pins s σ H Q I h
  unfold PySem.isTrue
  refine wpAny_bind (thn (hc pins s σ H _ I h) fun d s1 ⟨H1, I1, q1⟩ => ?_)
  cases d with
  | true => exact ha pins s1 σ H1 Q I1 q1
  | false => exact hb pins s1 σ H1 Q I1 q1
theorem folded {iter : Expr} {env : PySem.Env} (h : notSet iter = true) : ∀ x, foldedSetIterable iter env x = pure x := by
  intro x
  cases iter <;> first | rfl | (simp [notSet] at h; done)
theorem un_neg1 {i : Int} {k : Nat} {pos pos' : Pos} : PE X (.UnaryOp .USub (.Constant (.int i) k pos) pos') (tC (.int (-i))) := PE.imp (pe_un un_neg pe_int) fun st H Q q => ⟨i, rfl, q⟩
end

theorem con_lift {cl : CallH} {g : G} {v : V} (hv : ∀ H, RG H g v) (st : L2.St) (H : Hp) (Q : VK) (t : E1 cl (.con g) st H Q) : tC v st H Q := by
  obtain ⟨ρ, ε, σ, r, σ', hE, hS, e, q⟩ := t
  rw [ev] at e
  cases e
  exact q ρ v H (Ext.refl _ _ _) hS (hv H)
theorem compB_ok {X : Cx} {xs : List Str} {caps : List Nat} {scope : Scope} (h : compB X.N X.env.scope xs caps scope = true) : CompOk X xs caps (capNames X.N caps) scope := by
  unfold compB at h
  simp only [Bool.and_eq_true, decide_eq_true_eq, List.all_eq_true] at h
  obtain ⟨⟨⟨⟨⟨⟨h1, h2⟩, h3⟩, h4⟩, h5⟩, h6⟩, h7⟩ := h
  refine ⟨h1, h2, h3, h4, h5, h6, by simp [capNames], fun j y e => ?_⟩
  unfold capNames at e
  rw [List.getElem?_map] at e
  cases c : caps[j]? with
  | none => rw [c] at e; cases e
  | some i =>
    rw [c] at e
    have h7 := h7 i (List.mem_of_getElem? c)
    cases d : X.N[i]? with
    | none => rw [d] at h7; cases h7
    | some z =>
      rw [d] at h7
      simp only [Option.map_some, d, Option.getD_some, Option.some.injEq] at e
      subst e
      exact ⟨i, rfl, d, of_decide_eq_true h7⟩

theorem both_call {X : Cx} (am : Amb X P W n) {f : String} {x : Str} {a : Expr} {args : List Expr} {pp pos : Pos} {as : Tms} (hx : x = Str.ofString f) (hg : Gl X x) (hd : (x == ("__debug__" : Str)) = false) (h : PEl X (run P W n) (a :: args) as) :
    Both X (run P W n) (.call f as) (.Call (.Name x pp) (a :: args) [] pos) := by
  have hs := h.stars
  have hs' : notStar a = true ∧ args.all notStar = true := by simpa using hs
  cases e : look P f with
  | none =>
    have no : ∀ rs σ r σ', run P W n f rs σ ≠ .ok r σ' := fun rs σ r σ' z => by
      cases n with
      | zero => cases z
      | succ n => rw [MP.run, e] at z; cases z
    refine both_of rfl rfl (pe_false fun st H Q ⟨ρ, ε, σ, r, σ', hE, hS, ee, q⟩ => ?_)
    obtain ⟨xs, σ1, e1, e2⟩ := call_inv ee
    exact no _ _ _ _ e2
  | some d =>
    obtain ⟨fa, fd, ps, hm, hk, hb, F⟩ := am.fns f d e
    subst hx
    refine both_of rfl rfl (PE.imp (pe_call F am.room hg hm hk hb .nil pass0 h.pa hd (starEach_cons hs'.1) (backTo_plain hs'.2)) fun st H Q t => ?_)
    obtain ⟨ρ, ε, σ, r, σ', hE, hS, ee, q⟩ := t
    obtain ⟨xs, σ1, e1, e2⟩ := call_inv ee
    refine ⟨ρ, ε, σ, xs, σ1, hE, hS, e1, fun ρ1 vs H1 ex1 S1 r1 => ?_⟩
    show SpOf P W n f (vs ++ []) H1 Q E0
    rw [List.append_nil]
    exact ⟨ρ1, σ1, xs, r, σ', r1, S1, e2, q.after ex1 S1⟩
theorem var_lift {cl : CallH} {i : Nat} (st : L2.St) (H : Hp) (Q : VK) (t : E1 cl (.var i) st H Q) : tVar i st H Q := by
  obtain ⟨ρ, ε, σ, r, σ', hE, hS, e, q⟩ := t
  rw [ev] at e
  split at e
  · rename_i r' e1
    cases e
    obtain ⟨v, e2, e3⟩ := hE.val i _ e1
    exact ⟨v, e2, q ρ v H (Ext.refl _ _ _) hS e3⟩
  · cases e
theorem if_liftE {cl : CallH} {c a b : MP.Tm} (st : L2.St) (H : Hp) (Q : VK) (t : E1 cl (.ifT c a b) st H Q) : tIf (T1 cl c) (E1 cl a) (E1 cl b) st H Q := by
  obtain ⟨ρ, ε, σ, r, σ', hE, hS, e, q⟩ := t
  rw [ev] at e
  obtain ⟨r1, σ1, e1, e2⟩ := bind_inv e
  obtain ⟨d, rfl⟩ := ev_true_bl c _ _ _ _ e1
  refine ⟨ρ, ε, σ, d, σ1, hE, hS, e1, fun ρ1 H1 ex1 S1 => ?_⟩
  cases d with
  | true => exact iteT ⟨ρ1, ε, σ1, r, σ', hE.mono hS ex1, S1, e2, q.after ex1 S1⟩
  | false => exact iteF ⟨ρ1, ε, σ1, r, σ', hE.mono hS ex1, S1, e2, q.after ex1 S1⟩
theorem if_liftT {cl : CallH} {c a b : MP.Tm} (st : L2.St) (H : Hp) (Q : Bool → Hp → Prop) (t : T1 cl (.ifT c a b) st H Q) : T1 cl c st H fun d H1 => if d = true then T1 cl a st H1 Q else T1 cl b st H1 Q := by
  obtain ⟨ρ, ε, σ, r, σ', hE, hS, e, q⟩ := t
  rw [ev] at e
  obtain ⟨r1, σ1, e1, e2⟩ := bind_inv e
  obtain ⟨d, rfl⟩ := ev_true_bl c _ _ _ _ e1
  refine ⟨ρ, ε, σ, d, σ1, hE, hS, e1, fun ρ1 H1 ex1 S1 => ?_⟩
  cases d with
  | true => exact iteT ⟨ρ1, ε, σ1, r, σ', hE.mono hS ex1, S1, e2, fun ρ2 H2 ex2 S2 => q ρ2 H2 (ex1.trans S1 ex2) S2⟩
  | false => exact iteF ⟨ρ1, ε, σ1, r, σ', hE.mono hS ex1, S1, e2, fun ρ2 H2 ex2 S2 => q ρ2 H2 (ex1.trans S1 ex2) S2⟩
theorem pw_of {X : Cx} {op : BoolOp} {vs : List Expr} {pos : Pos} {t : TT} (h : PT X (.BoolOp op vs pos) t) : PW X (.BoolOp op vs pos) t := fun whole pins s σ H Q I q => by
  have := h pins s σ H Q I q
  unfold PySem.isTrue at this ⊢
  exact this
theorem vis_of {sc : Scope} {x : Str} (h : visB sc x = true) : Vis sc x := by
  unfold visB at h
  unfold Vis
  split at h <;> first | (cases h; done) | (rename_i e; rw [e]; simp)

mutual
theorem soundE : ∀ (t : MP.Tm) (X : Cx) (e : Expr), Amb X P W n → chkE X.N X.env.scope t e = true → Both X (run P W n) t e
  | .var i, X, e, am, h => by
    rw [chkE.eq_def] at h
    dsimp only at h
    split at h
    · simp only [Bool.and_eq_true, decide_eq_true_eq] at h
      obtain ⟨⟨⟨h1, h2⟩, h3⟩, h4⟩ := h
      exact both_of rfl rfl (PE.imp (pe_var h1 (vis_of h2) (beq_eq_false_iff_ne.mpr h3) (beq_eq_false_iff_ne.mpr h4)) fun st H Q t => var_lift st H Q t)
    · cases h
  | .con g, X, e, am, h => by
    rw [chkE.eq_def] at h
    dsimp only at h
    split at h
    · cases (of_decide_eq_true h); exact both_of rfl rfl (PE.imp pe_int fun st H Q t => by refine con_lift ?_ st H Q t; intro _; rfl)
    · cases (of_decide_eq_true h); exact both_of rfl rfl (PE.imp un_neg1 fun st H Q t => by refine con_lift ?_ st H Q t; intro _; rfl)
    · cases (eq_of_beq h); exact both_of rfl rfl (PE.imp pe_bl fun st H Q t => by refine con_lift ?_ st H Q t; intro _; rfl)
    · exact both_of rfl rfl (PE.imp pe_non fun st H Q t => by refine con_lift ?_ st H Q t; intro _; rfl)
    · simp only [Bool.and_eq_true, decide_eq_true_eq] at h
      obtain ⟨rfl, h2⟩ := h
      exact both_of rfl rfl (PE.imp pe_str fun st H Q t => by refine con_lift ?_ st H Q t; intro _; exact ⟨rfl, h2⟩)
    · cases h
  | .glb _ _, X, e, am, h => by rw [chkE.eq_def] at h; cases h
  | .op p as, X, e, am, h => by
    rw [chkE.eq_def] at h
    dsimp only at h
    split at h
    · rename_i es ho
      exact op_sound am ho (soundAs as X es am h).1
    · cases h
  | .meth p a as, X, e, am, h => by
    rw [chkE.eq_def] at h
    dsimp only at h
    split at h
    · rename_i o es ho
      simp only [Bool.and_eq_true] at h
      exact meth_sound am ho (soundE a X o am h.1).1 (soundAs as X es am h.2).1
    · cases h
  | .call f as, X, e, am, h => by
    rw [chkE.eq_def] at h
    dsimp only at h
    split at h
    · simp only [Bool.and_eq_true, decide_eq_true_eq] at h
      obtain ⟨⟨⟨h1, h2⟩, h3⟩, h4⟩ := h
      exact both_call am (isS_eq h1) (gl_eq h2) (beq_eq_false_iff_ne.mpr h3) (soundAs as X _ am h4).1
    · cases h
  | .andT a b, X, e, am, h => by
    rw [chkE.eq_def] at h
    dsimp only at h
    split at h
    · simp only [Bool.and_eq_true] at h
      have ha := soundE a X _ am h.1
      have hb := soundE b X _ am h.2
      exact ⟨PE.imp (pe_and ha.1 (pe_one hb.1)) fun st H Q t => te_and st H Q t, PT.imp (pw_and ha.2 (pw_and1 hb.2)).pt fun st H Q t => tt_and st H Q t⟩
    · simp only [Bool.and_eq_true] at h
      have ha := soundE a X _ am h.1
      have hb := soundE b X _ am h.2
      exact ⟨PE.imp (pe_and ha.1 hb.1) fun st H Q t => te_and st H Q t, PT.imp (pw_and ha.2 (pw_of hb.2)).pt fun st H Q t => tt_and st H Q t⟩
    · cases h
  | .orT a b, X, e, am, h => by
    rw [chkE.eq_def] at h
    dsimp only at h
    split at h
    · simp only [Bool.and_eq_true] at h
      have ha := soundE a X _ am h.1
      have hb := soundE b X _ am h.2
      exact ⟨PE.imp (pe_or ha.1 (pe_one hb.1)) fun st H Q t => te_or st H Q t, PT.imp (pw_or ha.2 (pw_or1 hb.2)).pt fun st H Q t => tt_or st H Q t⟩
    · simp only [Bool.and_eq_true] at h
      have ha := soundE a X _ am h.1
      have hb := soundE b X _ am h.2
      exact ⟨PE.imp (pe_or ha.1 hb.1) fun st H Q t => te_or st H Q t, PT.imp (pw_or ha.2 (pw_of hb.2)).pt fun st H Q t => tt_or st H Q t⟩
    · cases h
  | .notT a, X, e, am, h => by
    rw [chkE.eq_def] at h
    dsimp only at h
    split at h
    · have ha := soundE a X _ am h
      exact ⟨PE.imp (pe_notT ha.1) fun st H Q t => te_not (X := X) st H Q t, PT.imp (pt_not ha.2) fun st H Q t => tt_not st H Q (ev_true_bl a) t⟩
    · cases h
  | .ifT c a b, X, e, am, h => by
    rw [chkE.eq_def] at h
    dsimp only at h
    split at h
    · simp only [Bool.and_eq_true] at h
      have hc := soundE c X _ am h.1.1
      have ha := soundE a X _ am h.1.2
      have hb := soundE b X _ am h.2
      exact ⟨PE.imp (pe_ifExp hc.2 ha.1 hb.1) fun st H Q t => if_liftE st H Q t, PT.imp (pt_ifExp hc.2 ha.2 hb.2) fun st H Q t => if_liftT st H Q t⟩
    · cases h
  | .chain _ _ _ _ _, X, e, am, h => by rw [chkE.eq_def] at h; cases h
  | .comp k caps s conds elt, X, e, am, h => by
    rw [chkE.eq_def] at h
    dsimp only at h
    split at h
    · split at h
      · rename_i xs hxs
        simp only [Bool.and_eq_true, decide_eq_true_eq] at h
        obtain ⟨⟨⟨⟨⟨⟨rfl, rfl⟩, h2⟩, h3⟩, h4⟩, h5⟩, h6⟩ := h
        have ok := compB_ok h2
        obtain ⟨g, hG, hBl, hBg⟩ := tg_sound (X := X) am hxs ok
        refine both_of rfl rfl (PE.imp (pe_comp am.calm ok (soundW s X _ _ _ am rfl h4) hG hBl hBg (fun C fp s H => ?_) (fun C fp s H => ?_) (folded h3)) fun st H Q t => comp_lift st H Q t)
        · exact (soundAs conds _ _ (am.comp ok.nod _ _ C fp s H) h5).2.pcs
        · exact (soundE elt _ _ (am.comp ok.nod _ _ C fp s H) h6).1
      · cases h
    · cases h
theorem soundAs : ∀ (as : Tms) (X : Cx) (es : List Expr), Amb X P W n → chkAs X.N X.env.scope as es = true → PEl X (run P W n) es as ∧ PTl X (run P W n) es as
  | .nil, X, es, am, h => by
    rw [chkAs.eq_def] at h
    dsimp only at h
    cases es with
    | nil => exact ⟨.nil, .nil⟩
    | cons _ _ => cases h
  | .cons a as, X, es, am, h => by
    rw [chkAs.eq_def] at h
    dsimp only at h
    split at h
    · simp only [Bool.and_eq_true] at h
      have ha := soundE a X _ am h.1.2
      have hr := soundAs as X _ am h.2
      exact ⟨.cons h.1.1 ha.1 hr.1, .cons ha.2 hr.2⟩
    · cases h
theorem soundW : ∀ (s : Src) (X : Cx) (tup : Bool) (tg e : Expr), Amb X P W n → isTup tg = tup → chkW X.N X.env.scope tup s e = true → PI X tg e (TIv X.K (evW (run P W n) s))
  | .over t, X, tup, tg, e, am, htg, h => by
    rw [chkW.eq_def] at h
    dsimp only at h
    exact pi_over (soundE t X e am h).1
  | .range1 t, X, tup, tg, e, am, htg, h => by
    rw [chkW.eq_def] at h
    dsimp only at h
    split at h
    · simp only [Bool.and_eq_true] at h
      obtain ⟨⟨⟨h1, h2⟩, h3⟩, h4⟩ := h
      have ex := isS_eq h1
      subst ex
      exact pi_rng am (gl_eq h2) h3 (soundE t X _ am h4).1
    · cases h
  | .range2 _ _, X, tup, tg, e, am, htg, h => by rw [chkW.eq_def] at h; cases h
  | .items _, X, tup, tg, e, am, htg, h => by rw [chkW.eq_def] at h; cases h
  | .enum _ _, X, tup, tg, e, am, htg, h => by rw [chkW.eq_def] at h; cases h
  | .itemsT _, X, tup, tg, e, am, htg, h => by rw [chkW.eq_def] at h; cases h
  | .zip a b, X, tup, tg, e, am, htg, h => by
    rw [chkW.eq_def] at h
    dsimp only at h
    rw [Bool.and_eq_true] at h
    obtain ⟨rfl, h⟩ := h
    split at h
    · simp only [Bool.and_eq_true] at h
      obtain ⟨⟨⟨⟨⟨h1, h2⟩, h3⟩, h4⟩, h5⟩, h6⟩ := h
      have ex := isS_eq h1
      subst ex
      exact pi_zip am htg (gl_eq h2) h3 h4 (soundE a X _ am h5).1 (soundE b X _ am h6).1
    · cases h
  | .keys _, X, tup, tg, e, am, htg, h => by rw [chkW.eq_def] at h; cases h
  | .chars _, X, tup, tg, e, am, htg, h => by rw [chkW.eq_def] at h; cases h
end
end
end SN


set_option Elab.async false
set_option linter.all false
set_option maxRecDepth 100000
namespace SN
open PySem PySem.Spec PyProof.Rows L2 MP
variable [Wd]

noncomputable def FinS (ρ : Nat → Addr) (n : Nat) (H : Hp) (o : Out) (σ' : Store) (D : Ends) : Prop := match o with
  | .next ε' => ∀ ρ' st' H', Ext ρ n H ρ' σ'.length H' → SR H' ρ' σ' → RE H' ρ' σ'.length ε' st' → D.nx st' H'
  | .brk ε' => ∀ ρ' st' H', Ext ρ n H ρ' σ'.length H' → SR H' ρ' σ' → RE H' ρ' σ'.length ε' st' → D.bk st' H'
  | .cont ε' => ∀ ρ' st' H', Ext ρ n H ρ' σ'.length H' → SR H' ρ' σ' → RE H' ρ' σ'.length ε' st' → D.ct st' H'
  | .ret r => Fin ρ n H r σ' D.rt
noncomputable def TSv (g : MP.Env → Store → Res Out) : TS := fun D st H => ∃ ρ ε σ o σ', RE H ρ σ.length ε st ∧ SR H ρ σ ∧ g ε σ = .ok o σ' ∧ FinS ρ σ.length H o σ' D
theorem FinS.after {ρ ρ2 : Nat → Addr} {n : Nat} {σ2 : Store} {H H2 : Hp} {o : Out} {σ' : Store} {D : Ends} (q : FinS ρ n H o σ' D) (ex : Ext ρ n H ρ2 σ2.length H2) (S : SR H2 ρ2 σ2) : FinS ρ2 σ2.length H2 o σ' D := by
  cases o with
  | next ε => exact fun ρ' st' H' e S' r => q ρ' st' H' (ex.trans S e) S' r
  | brk ε => exact fun ρ' st' H' e S' r => q ρ' st' H' (ex.trans S e) S' r
  | cont ε => exact fun ρ' st' H' e S' r => q ρ' st' H' (ex.trans S e) S' r
  | ret r => exact Fin.after q ex S
noncomputable abbrev S1 (cl : CallH) (W : Nat) (s : Stm) : TS := TSv (evS cl W s)
noncomputable abbrev B1 (cl : CallH) (W : Nat) (b : Blk) : TS := TSv (evB cl W b)

noncomputable def locB (sc : Scope) (x : Str) : Bool := decide (sc.names.lookup x = some .local) || decide (sc.names.lookup x = some .cell)
noncomputable def isComp : Expr → Bool
  | .ListComp .. => true
  | .SetComp .. => true
  | .DictComp .. => true
  | _ => false
noncomputable def swB (sc : Scope) (x : Str) (px : Pos) : Expr → Bool
  | .ListComp _ _ s pos => decide (sc.kind = .function) && decide (sc.names.lookup x = some .local) && px.line == pos.line && !(s.names.any fun (n, k) => n == x && (k == .local || k == .cell))
  | _ => false

noncomputable def tgB (N : List Str) (sc : Scope) : List Nat → List Expr → Bool
  | [], [] => true
  | i :: is, .Name x _ :: es => decide (N[i]? = some x) && locB sc x && tgB N sc is es
  | _, _ => false
noncomputable def isCall : Expr → Bool
  | .Call .. => true
  | _ => false
mutual
noncomputable def chkS (N : List Str) (sc : Scope) : Stm → Stmt → Bool
  | .set i e, s => (match s with
    | .Assign [.Name x px] v _ => decide (N[i]? = some x) && locB sc x && chkE N sc e v && (!isComp v || swB sc x px v)
    | _ => false)
  | .setIdx a i v, s => (match s with
    | .Assign [.Subscript o k _] w _ => notSlice k && chkE N sc v w && chkE N sc a o && chkE N sc i k && !isComp w
    | _ => false)
  | .expr e, s => (match s with
    | .Expr v _ => chkE N sc e v && !isComp v
    | _ => false)
  | .ret e, s => (match s with
    | .Return (some v) _ => chkE N sc e v
    | _ => false)
  | .retN, s => (match s with
    | .Return none _ => true
    | _ => false)
  | .ite c a b, s => (match s with
    | .If t x y _ => chkE N sc c t && chkB N sc a x && chkB N sc b y
    | _ => false)
  | .forS tg src b, s => (match tg, s with
    | [i], .For (.Name x _) it body [] _ => decide (N[i]? = some x) && locB sc x && notSet it && (match src with
        | .keys t => chkE N sc t it
        | src => chkW N sc false src it) && chkB N sc b body
    | i :: j :: r, .For (.Tuple es _ _) it body [] _ => tgB N sc (i :: j :: r) es && notSet it && (match src, it with
        | .itemsT t, .Call (.Attribute o m ap) [] [] cp => isS m "items" && recvE o && ap.endLine == cp.line && chkE N sc t o
        | _, _ => false) && chkB N sc b body
    | _, _ => false)
  | .whileS _ _, _ => false
  | .brk, s => (match s with
    | .Break _ => true
    | _ => false)
  | .cont, s => (match s with
    | .Continue _ => true
    | _ => false)
  | .pass, s => (match s with
    | .Pass _ => true
    | _ => false)
  | .unpack is e, s => (match s with
    | .Assign [.Tuple es _ _] v _ => tgB N sc is es && isCall v && chkE N sc e v
    | _ => false)
  | .raise _ _, _ => false
  | .tryS _ _ _ _, _ => false
noncomputable def chkB (N : List Str) (sc : Scope) : Blk → List Stmt → Bool
  | .nil, ss => ss.isEmpty
  | .cons s b, ss => (match ss with
    | t :: r => chkS N sc s t && chkB N sc b r
    | [] => false)
end

section
variable {P : List Fn} {W n : Nat} {X : Cx} {cl : CallH}
theorem setSlot_inv {ε ε1 : MP.Env} {i : Nat} {r : R} (h : setSlot ε i r = some ε1) : ε1 = ε.set i (some r) := by
  unfold setSlot at h
  split at h
  · cases h; rfl
  · cases h
theorem ofE_inv {o : Option MP.Env} {f : MP.Env → Res Out} {r : Out} {σ : Store} (h : ofE o f = .ok r σ) : ∃ ε, o = some ε ∧ f ε = .ok r σ := by
  cases o with
  | none => cases h
  | some ε => exact ⟨ε, rfl, h⟩
theorem set_lift {i : Nat} {e : MP.Tm} (D : Ends) (st : L2.St) (H : Hp) (t : S1 cl W (.set i e) D st H) : E1 cl e st H fun v H' => D.nx (st.set i (some v)) H' := by
  obtain ⟨ρ, ε, σ, o, σ', hE, hS, ee, q⟩ := t
  rw [evS] at ee
  obtain ⟨r, σ1, e1, e2⟩ := bind_inv ee
  obtain ⟨ε1, e3, e4⟩ := ofE_inv e2
  cases e4
  cases setSlot_inv e3
  exact ⟨ρ, ε, σ, r, _, hE, hS, e1, fun ρ1 v1 H1 ex1 S1 r1 => q ρ1 _ H1 ex1 S1 ((hE.mono hS ex1).set r1)⟩
theorem swaps_false {v : Expr} {t : Option Expr} {l : Nat} {env : PySem.Env} (h : isComp v = false) : swapsWith v t l env = pure false := by
  cases v <;> first | rfl | (simp [isComp] at h; done)
theorem swB_true {x : Str} {px : Pos} {v : Expr} {l : Nat} (h : swB X.env.scope x px v = true) : swapsWith v (some (.Name x px)) l X.env = pure true := by
  cases v <;> first | (simp [swB] at h; done) | skip
  simp only [swB, Bool.and_eq_true, decide_eq_true_eq] at h
  obtain ⟨⟨⟨h1, h2⟩, h3⟩, h4⟩ := h
  unfold swapsWith
  have hb : X.env.blockKind = .function := by
    unfold Env.blockKind
    rw [h1]
    rfl
  have hk : X.env.kindOf x = some .local := h2
  simp only [pure_bind]
  show (pure _ : Sem Bool) = pure true
  congr 1
  simp only [hb, hk, Expr.pos, h3, h4, beq_self_eq_true, Bool.and_self]
theorem loc_of {sc : Scope} {x : Str} (h : locB sc x = true) : Loc sc x := by
  simp only [locB, Bool.or_eq_true, decide_eq_true_eq] at h
  exact h

noncomputable def rSetD : V → V → V → Hp → (Hp → Prop) → Prop := fun o i v H Q => ∃ a H', o = .ref a ∧ DPut H a i v H' ∧ Q H'
theorem set_dict (hu : X.A.units + 1 < cLine) : PSet X rSetD := by
  intro pins s σ H o i v ov iv u Q I ro ri rv h
  obtain ⟨a, H', rfl, g, q⟩ := h
  cases ro
  exact d_setItem hu I g ri rv fun s' I' => ⟨H', I', q⟩
noncomputable def rSetAll : V → V → V → Hp → (Hp → Prop) → Prop := fun o i v H Q => rSetL o i v H Q ∨ (rSetD o i v H Q)
theorem set_all (hu : X.A.units + 1 < cLine) : PSet X rSetAll := by
  intro pins s σ H o i v ov iv u Q I ro ri rv h
  rcases h with h | h
  · exact set_list pins s σ H o i v ov iv u Q I ro ri rv h
  · exact set_dict hu pins s σ H o i v ov iv u Q I ro ri rv h

theorem put_lift {a i v : MP.Tm} (D : Ends) (st : L2.St) (H : Hp) (t : S1 cl W (.setIdx a i v) D st H) : tAsg (E1 cl v) (gSub (E1 cl a) (E1 cl i) rSetAll) D st H := by
  obtain ⟨ρ, ε, σ, o, σ', hE, hS, ee, q⟩ := t
  rw [evS] at ee
  obtain ⟨z, σ1, e1, ee⟩ := bind_inv ee
  obtain ⟨x, σ2, e2, ee⟩ := bind_inv ee
  obtain ⟨y, σ3, e3, ee⟩ := bind_inv ee
  cases ep : MP.putAt x y z σ3 with
  | none => rw [ep] at ee; cases ee
  | some σ4 =>
    rw [ep] at ee
    cases ee
    refine ⟨ρ, ε, σ, z, σ1, hE, hS, e1, fun ρ1 v1 H1 ex1 S1 r1 => ?_⟩
    have hE1 := hE.mono hS ex1
    refine ⟨ρ1, ε, σ1, x, σ2, hE1, S1, e2, fun ρ2 v2 H2 ex2 S2 r2 => ?_⟩
    have hE2 := hE1.mono S1 ex2
    refine ⟨ρ2, ε, σ2, y, σ3, hE2, S2, e3, fun ρ3 v3 H3 ex3 S3 r3 => ?_⟩
    have hE3 := hE2.mono S2 ex3
    have ex := (ex1.trans S1 ex2).trans S2 ex3
    have rz : RR H3 ρ3 σ3.length z v1 := RR.mono (ex3.tp S2) ex3.le ex3.ag z (RR.mono (ex2.tp S1) ex2.le ex2.ag z r1)
    have rx : RR H3 ρ3 σ3.length x v2 := RR.mono (ex3.tp S2) ex3.le ex3.ag x r2
    cases x with
    | g _ => simp [MP.putAt] at ep
    | tr _ => simp [MP.putAt] at ep
    | ref k =>
      cases y with
      | ref _ => simp [MP.putAt] at ep
      | tr _ => simp [MP.putAt] at ep
      | g gi =>
        cases z with
        | ref _ => simp [MP.putAt] at ep
        | tr _ => simp [MP.putAt] at ep
        | g gv =>
          obtain ⟨hk, rfl⟩ := rx
          simp only [MP.putAt] at ep
          split at ep
          · rename_i xs i e4
            cases ej : MP.ixOf xs.length i with
            | none => rw [ej] at ep; cases ep
            | some j =>
              rw [ej] at ep
              cases ep
              obtain ⟨vs, h1, h2⟩ := S3.lst e4
              cases (show v3 = .int i from r3)
              obtain ⟨w1, w2⟩ := S3.write hk (o := .lst (vs.set j v1)) (c := .lst (xs.set j gv)) (nfz_l h1) fun H' tp e => ⟨_, e, RGs.set (RG.mono tp _ rz) j (RGs.mono tp _ h2)⟩
              refine .inl ⟨_, vs, i, j, rfl, rfl, h1, by rw [h2.length]; exact ej, ?_⟩
              exact q ρ3 st _ (ex.trans S3 w1) w2 (hE3.mono S3 w1)
          · rename_i gi _ _ kvs e4
            split at ep
            · rename_i c
              cases ep
              simp only [Bool.and_eq_true, decide_eq_true_eq] at c
              obtain ⟨ws, h1, h2, h3⟩ := S3.dctN e4
              obtain ⟨key, ek⟩ := isKey_keyOf c.1
              have ev := keyOf_rep ek r3
              obtain ⟨w1, w2⟩ := S3.write hk (o := .dK (putK ws key v1)) (c := .dct (dput kvs gi gv)) (nfz_d h1) fun H' tp e => ⟨_, e, RKs.put (RKs.mono tp _ h2) ek (RG.mono tp _ rz) h3, putK_nodup h3⟩
              refine .inr ⟨_, _, rfl, .inl ⟨ws, key, h1, ev, by rw [h2.length]; exact Nat.lt_of_lt_of_le c.2 big_le, rfl⟩, ?_⟩
              exact q ρ3 st _ (ex.trans S3 w1) w2 (hE3.mono S3 w1)
            · cases ep
          · cases ep

theorem evW_guard {s : Src} {ε : MP.Env} {σ σ' : Store} {w : Walk} (h : evW cl s ε σ = .ok w σ') (hs : (∃ t, s = .over t) ∨ ∃ t, s = .range1 t) : ∀ k kvs, w.guard ≠ some (k, .dct kvs) := by
  intro k kvs z
  rcases hs with ⟨t, rfl⟩ | ⟨t, rfl⟩
  · rw [evW] at h
    obtain ⟨x, σ1, e1, e2⟩ := bind_inv h
    obtain ⟨_, q⟩ := over_inv e2
    rcases q with ⟨xs, _, rfl⟩ | ⟨j, xs, c, _, hc, _, rfl⟩
    · cases z
    · rcases hc with rfl | rfl <;> cases z
  · rw [evW] at h
    obtain ⟨x, σ1, e1, e2⟩ := bind_inv h
    cases x with
    | ref _ => simp [wRange] at e2
    | tr _ => simp [wRange] at e2
    | g gx =>
      cases gx with
      | int j =>
        simp only [wRange] at e2
        split at e2
        · cases e2; cases z
        · cases e2
      | _ => simp [wRange] at e2
theorem forW_plain {tg : List Nat} {body : MP.Env → Store → Res Out} {w : Walk} {ε : MP.Env} {σ : Store} (h : ∀ k kvs, w.guard ≠ some (k, .dct kvs)) : forW tg body w ε σ = forL tg body w.guard w.items ε σ := by
  unfold forW
  split
  · rename_i k kvs e; exact absurd e (h k kvs)
  · rfl
theorem forL_cons_inv {tg : List Nat} {body : MP.Env → Store → Res Out} {w : Option (Nat × Cell)} {x : R} {r : List R} {ε : MP.Env} {σ σ' : Store} {o : Out} (h : forL tg body w (x :: r) ε σ = .ok o σ') :
    intact w σ = true ∧ ∃ ε1 ob σ1, bindTg tg x ε = some ε1 ∧ body ε1 σ = .ok ob σ1 ∧ ((∃ ε2, (ob = .next ε2 ∨ ob = .cont ε2) ∧ forL tg body w r ε2 σ1 = .ok o σ') ∨ (∃ ε2, ob = .brk ε2 ∧ o = .next ε2 ∧ σ' = σ1) ∨ (∃ v, ob = .ret v ∧ o = .ret v ∧ σ' = σ1)) := by
  simp only [forL] at h
  split at h
  · rename_i hi
    obtain ⟨ε1, e1, h⟩ := ofE_inv h
    obtain ⟨ob, σ1, e2, h⟩ := bind_inv h
    refine ⟨hi, ε1, ob, σ1, e1, e2, ?_⟩
    cases ob with
    | next ε2 => exact .inl ⟨ε2, .inl rfl, h⟩
    | cont ε2 => exact .inl ⟨ε2, .inr rfl, h⟩
    | brk ε2 => cases h; exact .inr (.inl ⟨ε2, rfl, rfl, rfl⟩)
    | ret v => cases h; exact .inr (.inr ⟨v, rfl, rfl, rfl⟩)
  · cases h
noncomputable def BindOk (tg : List Nat) (g : TG) : Prop := ∀ {ρ : Nat → Addr} {n : Nat} {H : Hp} {x : R} {v : V} {ε ε1 : MP.Env} {st : L2.St} {Q : L2.St → Hp → Prop}, RE H ρ n ε st → RR H ρ n x v → bindTg tg x ε = some ε1 → (∀ st', RE H ρ n ε1 st' → Q st' H) → g v st H Q
theorem bind_name {i : Nat} : BindOk [i] (gName i) := by
  intro ρ n H x v ε ε1 st Q hE hr e q
  have hb : ε1 = ε.set i (some x) := setSlot_inv e
  subst hb
  exact q _ (hE.set hr)
theorem slots_ok {ρ : Nat → Addr} {n : Nat} {H : Hp} : ∀ {is : List Nat} {rs : List R} {vs : List V} {ε ε1 : MP.Env} {st : L2.St} {Q : L2.St → Hp → Prop}, RE H ρ n ε st → RRs H ρ n rs vs → setSlots is rs ε = some ε1 → (∀ st', RE H ρ n ε1 st' → Q st' H) → gNames is vs st H Q
  | [], [], _, ε, ε1, st, Q, hE, hr, e, q => by
    cases hr
    cases e
    exact ⟨rfl, q st hE⟩
  | [], _ :: _, _, _, _, _, _, _, _, e, _ => by simp [setSlots] at e
  | _ :: _, [], _, _, _, _, _, _, _, e, _ => by simp [setSlots] at e
  | i :: is, r :: rs, _, ε, ε1, st, Q, hE, hr, e, q => by
    obtain ⟨v, us, rfl, h1, h2⟩ := hr
    simp only [setSlots] at e
    cases c : setSlot ε i r with
    | none => rw [c] at e; cases e
    | some ε2 =>
      rw [c] at e
      have := setSlot_inv c
      subst this
      exact ⟨v, us, rfl, slots_ok (hE.set h1) h2 e q⟩
theorem parts_ok {ρ : Nat → Addr} {n : Nat} {H : Hp} {x : R} {v : V} {rs : List R} (h : RR H ρ n x v) (e : parts x = some rs) : ∃ a vs, v = .ref a ∧ H a = some (.tup vs) ∧ RRs H ρ n rs vs := by
  cases x with
  | ref _ => simp [parts] at e
  | tr xs =>
    simp only [parts, Option.some.injEq] at e
    subst e
    exact h
  | g gx =>
    cases gx with
    | tup xs =>
      simp only [parts, Option.some.injEq] at e
      subst e
      obtain ⟨a, vs, rfl, ha, hx⟩ := h
      refine ⟨a, vs, rfl, ha, ?_⟩
      clear ha
      induction xs generalizing vs with
      | nil => exact hx
      | cons y r ih =>
        obtain ⟨v, us, rfl, h1, h2⟩ := hx
        exact ⟨v, us, rfl, h1, ih us h2⟩
    | _ => simp [parts] at e
theorem slots_len : ∀ {is : List Nat} {rs : List R} {ε ε1 : MP.Env}, setSlots is rs ε = some ε1 → rs.length = is.length := by
  intro is
  induction is with
  | nil => intro rs ε ε1 h; cases rs with
    | nil => rfl
    | cons _ _ => simp [setSlots] at h
  | cons k is ih => intro rs ε ε1 h; cases rs with
    | nil => simp [setSlots] at h
    | cons y ys =>
      simp only [setSlots] at h
      cases c : setSlot ε k y with
      | none => rw [c] at h; cases h
      | some ε2 => rw [c] at h; simp [ih h]
theorem bind_tup {K : PySem.W.Frag} {i j : Nat} {r : List Nat} : BindOk (i :: j :: r) (gTup K (i :: j :: r).length (gNames (i :: j :: r))) := by
  intro ρ n H x v ε ε1 st Q hE hr e q
  simp only [bindTg] at e
  cases c : parts x with
  | none => rw [c] at e; cases e
  | some rs =>
    rw [c] at e
    obtain ⟨a, vs, rfl, ha, hx⟩ := parts_ok hr c
    exact ⟨a, vs, rfl, .of ha, by rw [hx.length]; exact slots_len e, slots_ok hE hx e q⟩
theorem for_core {J : It} {tg : List Nat} {g : TG} {b : Blk} {w : Walk} {ε : MP.Env} {σ1 σ' : Store} {o : Out} {ρ1 : Nat → Addr} {H1 : Hp} {st : L2.St} {D : Ends} (S1 : SR H1 ρ1 σ1) (hE1 : RE H1 ρ1 σ1.length ε st) (wj : WJ J ρ1 σ1 H1 w)
    (ee : forL tg (fun ε σ => evB cl W b ε σ) w.guard w.items ε σ1 = .ok o σ') (q1 : FinS ρ1 σ1.length H1 o σ' D) (hg : BindOk tg g) :
    ∃ Wi : Nat → Nat → L2.St → Hp → Prop, (∃ m, Wi 0 m st H1) ∧ ∀ i m σ H, Wi i m σ H →
      (J.stop i H ∧ D.nx σ H) ∨ (J.go i H ∧ ∃ N : L2.St → Hp → Prop, (∀ σ' H', N σ' H' → ∃ m', m' < m ∧ Wi (i + 1) m' σ' H') ∧ ∀ x H', J.yld i H x H' → g x σ H' fun σ2 H2 => B1 cl W b { D with nx := N, ct := N, bk := D.nx } σ2 H2) := by
  refine ⟨fun j m st2 H2 => m = w.items.length - j ∧ j ≤ w.items.length ∧ ∃ ρ2 ε2 σ2, Ext ρ1 σ1.length H1 ρ2 σ2.length H2 ∧ SR H2 ρ2 σ2 ∧ RE H2 ρ2 σ2.length ε2 st2 ∧ forL tg (fun ε σ => evB cl W b ε σ) w.guard (w.items.drop j) ε2 σ2 = .ok o σ',
    ⟨w.items.length, by simp, Nat.zero_le _, ρ1, ε, σ1, Ext.refl _ _ _, S1, hE1, by simpa using ee⟩, ?_⟩
  rintro j m st2 H2 ⟨rfl, hj, ρ2, ε2, σ2, ex2, S2, hE2, hl⟩
  by_cases hlt : j < w.items.length
  · rw [List.drop_eq_getElem_cons hlt] at hl
    obtain ⟨hin, ε3, ob, σ3, eb, ebody, hcase⟩ := forL_cons_inv hl
    have hwj := (wj ρ2 σ2 H2 ex2 S2 hin j).1 w.items[j] (by simp [hlt])
    refine .inr ⟨hwj.1, fun st' H' => ∃ ρ4 ε4, (ob = .next ε4 ∨ ob = .cont ε4) ∧ Ext ρ1 σ1.length H1 ρ4 σ3.length H' ∧ SR H' ρ4 σ3 ∧ RE H' ρ4 σ3.length ε4 st', ?_, fun v H3 y => ?_⟩
    · rintro st' H' ⟨ρ4, ε4, hob, ex4, S4, hE4⟩
      rcases hcase with ⟨ε5, ho, hl'⟩ | ⟨ε5, ho, _⟩ | ⟨u, ho, _⟩
      · have : ε4 = ε5 := by
          rcases hob with z | z <;> rcases ho with y | y <;> rw [z] at y <;> cases y <;> rfl
        subst this
        exact ⟨w.items.length - (j + 1), by omega, rfl, hlt, ρ4, ε4, σ3, ex4, S4, hE4, hl'⟩
      · rcases hob with z | z <;> rw [z] at ho <;> cases ho
      · rcases hob with z | z <;> rw [z] at ho <;> cases ho
    · obtain ⟨ex3, S3, rv⟩ := hwj.2 v H3 y
      have ex13 := ex2.trans S2 ex3
      refine hg (hE2.mono S2 ex3) rv eb fun st3 hE3 => ⟨ρ2, _, σ2, ob, σ3, hE3, S3, ebody, ?_⟩
      cases ob with
      | next ε4 => exact fun ρ4 st' H' ex4 S4 hE4 => ⟨ρ4, ε4, .inl rfl, ex13.trans S3 ex4, S4, hE4⟩
      | cont ε4 => exact fun ρ4 st' H' ex4 S4 hE4 => ⟨ρ4, ε4, .inr rfl, ex13.trans S3 ex4, S4, hE4⟩
      | brk ε4 =>
        rcases hcase with ⟨ε5, ho, _⟩ | ⟨ε5, ho, rfl, rfl⟩ | ⟨u, ho, _⟩
        · rcases ho with z | z <;> cases z
        · cases ho
          exact fun ρ4 st' H' ex4 S4 hE4 => q1 ρ4 st' H' (ex13.trans S3 ex4) S4 hE4
        · cases ho
      | ret u =>
        rcases hcase with ⟨ε5, ho, _⟩ | ⟨ε5, ho, _⟩ | ⟨u', ho, rfl, rfl⟩
        · rcases ho with z | z <;> cases z
        · cases ho
        · cases ho
          exact fun ρ4 v' H' ex4 S4 r4 => q1 ρ4 v' H' (ex13.trans S3 ex4) S4 r4
  · rw [List.drop_eq_nil_of_le (by omega)] at hl
    simp only [forL] at hl
    split at hl
    · rename_i hin
      cases hl
      exact .inl ⟨(wj ρ2 _ H2 ex2 S2 hin j).2 (by omega), q1 ρ2 st2 H2 ex2 S2 hE2⟩
    · cases hl
theorem for_lift {K : PySem.W.Frag} {i : Nat} {s : Src} {b : Blk} (hs : (∃ t, s = .over t) ∨ ∃ t, s = .range1 t) (D : Ends) (st : L2.St) (H : Hp) (t : S1 cl W (.forS [i] s b) D st H) :
    tFor (TIv K (evW cl s)) (gName i) (B1 cl W b) D st H := by
  obtain ⟨ρ, ε, σ, o, σ', hE, hS, ee, q⟩ := t
  rw [evS] at ee
  obtain ⟨w, σ1, ew, ee⟩ := bind_inv ee
  rw [forW_plain (evW_guard ew hs)] at ee
  exact ⟨ρ, ε, σ, w, σ1, hE, hS, ew, fun ρ1 H1 J ex1 S1 wj bj => for_core S1 (hE.mono hS ex1) wj ee (q.after ex1 S1) bind_name⟩

theorem for_liftI {K : PySem.W.Frag} {i j : Nat} {r : List Nat} {e : MP.Tm} {b : Blk} (D : Ends) (st : L2.St) (H : Hp) (t : S1 cl W (.forS (i :: j :: r) (.itemsT e) b) D st H) :
    tFor (TIv K (evW cl (.itemsT e))) (gTup K (i :: j :: r).length (gNames (i :: j :: r))) (B1 cl W b) D st H := by
  obtain ⟨ρ, ε, σ, o, σ', hE, hS, ee, q⟩ := t
  rw [evS] at ee
  obtain ⟨w, σ1, ew, ee⟩ := bind_inv ee
  have hgd : ∀ k kvs, w.guard ≠ some (k, .dct kvs) := fun k kvs z => by
    rw [evW] at ew
    obtain ⟨x, τ1, e1, ew⟩ := bind_inv ew
    unfold wItemsT at ew
    split at ew
    · split at ew
      · cases ew; cases z
      · cases ew
    · cases ew
  rw [forW_plain hgd] at ee
  exact ⟨ρ, ε, σ, w, σ1, hE, hS, ew, fun ρ1 H1 J ex1 S1 wj bj => for_core S1 (hE.mono hS ex1) wj ee (q.after ex1 S1) bind_tup⟩

noncomputable def thE (X : Cx) (D : Ends) : Ends where
  nx := fun σ H => D.nx σ H ∨ ∃ a ob ws, H a = some (.frz ob (.dK ws)) ∧ (∀ o u, X.H₀ a ≠ some (.frz o u)) ∧ D.nx σ (upd H a (.dK ws))
  bk := fun σ H => D.bk σ H ∨ ∃ a ob ws, H a = some (.frz ob (.dK ws)) ∧ (∀ o u, X.H₀ a ≠ some (.frz o u)) ∧ D.bk σ (upd H a (.dK ws))
  ct := fun σ H => D.ct σ H ∨ ∃ a ob ws, H a = some (.frz ob (.dK ws)) ∧ (∀ o u, X.H₀ a ≠ some (.frz o u)) ∧ D.ct σ (upd H a (.dK ws))
  rt := fun v H => D.rt v H ∨ ∃ a ob ws, H a = some (.frz ob (.dK ws)) ∧ (∀ o u, X.H₀ a ≠ some (.frz o u)) ∧ D.rt v (upd H a (.dK ws))
theorem ps_thaw {st : Stmt} {t : TS} (h : PS X st t) : PS X st (fun D σ H => t (thE X D) σ H) := by
  intro pins s σ H D I q
  refine thn (h pins s σ H _ I q) fun f s' z => ?_
  cases f with
  | next =>
    obtain ⟨σ', H', I', z⟩ := z
    rcases z with z | ⟨a, ob, ws, e, nz, z⟩
    · exact ⟨σ', H', I', z⟩
    · exact ⟨σ', _, unfreeze I' e nz, z⟩
  | brk =>
    obtain ⟨σ', H', I', z⟩ := z
    rcases z with z | ⟨a, ob, ws, e, nz, z⟩
    · exact ⟨σ', H', I', z⟩
    · exact ⟨σ', _, unfreeze I' e nz, z⟩
  | cont =>
    obtain ⟨σ', H', I', z⟩ := z
    rcases z with z | ⟨a, ob, ws, e, nz, z⟩
    · exact ⟨σ', H', I', z⟩
    · exact ⟨σ', _, unfreeze I' e nz, z⟩
  | ret v =>
    obtain ⟨x, σ', H', I', r, z⟩ := z
    rcases z with z | ⟨a, ob, ws, e, nz, z⟩
    · exact ⟨x, σ', H', I', r, z⟩
    · exact ⟨x, σ', _, unfreeze I' e nz, r, z⟩
theorem RKs.at {H : Hp} : ∀ {kvs : List (G × G)} {ws : List (Key × V)}, RKs H kvs ws → ∀ {i : Nat} {p : G × G}, kvs[i]? = some p → ∃ q, ws[i]? = some q ∧ keyOf p.1 = some q.1 ∧ RG H p.2 q.2
  | [], _, _, i, p, e => by simp at e
  | (j, x) :: r, _, h, i, p, e => by
    obtain ⟨b, v, t, rfl, h1, h2, h3⟩ := h
    cases i with
    | zero => simp at e; subst e; exact ⟨(b, v), rfl, h1, h2⟩
    | succ i =>
      simp only [List.getElem?_cons_succ] at e ⊢
      exact RKs.at h3 e
theorem key_RG {H : Hp} {kvs : List (G × G)} {i : Nat} {p : G × G} {k : Key} (hi : intKeys kvs = true) (e : kvs[i]? = some p) (h : keyOf p.1 = some k) : RG H p.1 (kV k) := by
  have := (List.all_eq_true.mp hi) p (List.mem_of_getElem? e)
  obtain ⟨g, x⟩ := p
  cases g with
  | int j => cases h; rfl
  | _ => cases this
noncomputable def ItOk (mk : Addr → Obj → List (Key × V) → It) (f : G × G → R) : Prop := ∀ {ρ : Nat → Addr} {σ : Store} {H : Hp} {k : Nat} {kvs : List (G × G)} {ob : Obj} {ws : List (Key × V)}, intKeys kvs = true → k < σ.length → H (ρ k) = some (.frz ob (.dK ws)) → WJ (mk (ρ k) ob ws) ρ σ H ⟨kvs.map f, some (k, .rdd kvs)⟩
theorem it_keys : ItOk Itk (fun p => .g p.1) := by
  intro ρ σ H k kvs ob ws hi hk ha ρ2 σ2 H2 ex S2 hin i
  have e0 : σ2[k]? = some (.rdd kvs) := of_decide_eq_true hin
  have ha2 := ex.fz _ _ _ ha
  obtain ⟨ws2, ob2, h1, h2, _⟩ := S2.rddN e0
  rw [ex.ag k hk, ha2] at h1
  cases h1
  refine ⟨fun x hx => ?_, fun hl => ⟨ha2, by rw [h2.length]; simpa using hl⟩⟩
  obtain ⟨p, e, rfl⟩ := map_get hx
  obtain ⟨q, e1, e2, e3⟩ := h2.at e
  refine ⟨⟨ha2, (List.getElem?_eq_some_iff.mp e1).1⟩, fun v H3 y => ?_⟩
  obtain ⟨rfl, q', e4, rfl⟩ := y
  rw [e1] at e4
  cases e4
  exact ⟨Ext.refl _ _ _, S2, key_RG hi e e2⟩
noncomputable def WD (fw : R → Store → Res Walk) (f : G × G → R) : Prop := ∀ {x : R} {σ σ' : Store} {w : Walk}, fw x σ = .ok w σ' → σ' = σ ∧ ∃ k kvs c, x = .ref k ∧ σ[k]? = some c ∧ (c = .dct kvs ∨ c = .rdd kvs) ∧ intKeys kvs = true ∧ w = ⟨kvs.map f, some (k, c)⟩
theorem wd_keys : WD wKeys (fun p => .g p.1) := by
  intro x σ σ' w h
  cases x with
  | tr _ => simp [wKeys] at h
  | g _ => simp [wKeys] at h
  | ref k =>
    simp only [wKeys] at h
    split at h
    · rename_i xs e
      split at h
      · rename_i hi; cases h; exact ⟨rfl, k, xs, _, rfl, e, .inl rfl, hi, rfl⟩
      · cases h
    · rename_i xs e
      split at h
      · rename_i hi; cases h; exact ⟨rfl, k, xs, _, rfl, e, .inr rfl, hi, rfl⟩
      · cases h
    · cases h
theorem thaw_inv {k : Nat} {kvs : List (G × G)} {x : Res Out} {o : Out} {σ' : Store} (h : thaw k kvs x = .ok o σ') : ∃ σ1, x = .ok o σ1 ∧ σ1[k]? = some (.rdd kvs) ∧ σ' = σ1.set k (.dct kvs) := by
  cases x with
  | stuck => cases h
  | exc c σ => simp only [thaw] at h; split at h <;> cases h
  | ok o' σ =>
    simp only [thaw] at h
    split at h
    · rename_i e; cases h; exact ⟨σ, rfl, e, rfl⟩
    · cases h
theorem thawed {ρ1 ρ' : Nat → Addr} {σ1 σ3 : Store} {H1 H' : Hp} {k : Nat} {kvs : List (G × G)} {ob : Obj} {ws : List (Key × V)} (S1 : SR H1 ρ1 σ1) (hk : k < σ1.length) (h1 : H1 (ρ1 k) = some (.dK ws))
    (ex : Ext ρ1 σ1.length (upd H1 (ρ1 k) (.frz ob (.dK ws))) ρ' σ3.length H') (S' : SR H' ρ' σ3) (e : σ3[k]? = some (.rdd kvs)) :
    H' (ρ1 k) = some (.frz ob (.dK ws)) ∧ Ext ρ1 σ1.length H1 ρ' (σ3.set k (.dct kvs)).length (upd H' (ρ1 k) (.dK ws)) ∧ SR (upd H' (ρ1 k) (.dK ws)) ρ' (σ3.set k (.dct kvs)) ∧ TPk H' (upd H' (ρ1 k) (.dK ws)) := by
  have ha := ex.fz _ _ _ (upd_same (H := H1) (a := ρ1 k))
  obtain ⟨ws2, ob2, g1, g2, g3⟩ := S'.rddN e
  have ek : ρ' k = ρ1 k := ex.ag k hk
  rw [ek, ha] at g1
  cases g1
  have tp : TPk H' (upd H' (ρ1 k) (.dK ws)) := fun a vs e => by
    rw [upd_ne fun z => by rw [z, ha] at e; cases e]; exact e
  refine ⟨ha, ⟨by simpa using ex.le, ex.ag, fun i l1 l2 => ?_, fun a o ea hn => ?_, fun a o u ea => ?_⟩, ?_, tp⟩
  · have := ex.fr i l1 (by simpa using l2)
    rw [upd_ne fun z => ?_] at this
    · exact this
    · rw [z, upd_same] at this; cases this
  · have hne : a ≠ ρ1 k := fun z => hn k hk z.symm
    rw [upd_ne hne]
    exact ex.kp a o (by rw [upd_ne hne]; exact ea) hn
  · have hne : a ≠ ρ1 k := fun z => by rw [z, h1] at ea; cases ea
    rw [upd_ne hne]
    exact ex.fz a o u (by rw [upd_ne hne]; exact ea)
  · have hk' : k < σ3.length := SR.lt e
    refine ⟨fun i d ei => ?_, fun i j hi hj eij => S'.inj i j (by simpa using hi) (by simpa using hj) eij⟩
    by_cases hik : k = i
    · subst hik
      rw [List.getElem?_set_self hk'] at ei
      cases ei
      exact ⟨ws, by rw [ek]; exact upd_same, RKs.mono tp _ g2, g3⟩
    · rw [List.getElem?_set_ne hik] at ei
      have hi := SR.lt ei
      have hne : ρ' i ≠ ρ1 k := fun z => hik (S'.inj i k hi hk' (z.trans ek.symm)).symm
      have q := S'.cell i d ei
      cases d with
      | lst xs => obtain ⟨vs, h1, h2⟩ := q; exact ⟨vs, by rw [upd_ne hne]; exact h1, RGs.mono tp xs h2⟩
      | rdl xs =>
        obtain ⟨vs, h1, h2⟩ := q
        refine ⟨vs, ?_, RGs.mono tp xs h2⟩
        rcases h1 with h1 | ⟨ob, h1⟩
        · exact .inl (by rw [upd_ne hne]; exact h1)
        · exact .inr ⟨ob, by rw [upd_ne hne]; exact h1⟩
      | dct xs => obtain ⟨vs, h1, h2⟩ := q; exact ⟨vs, by rw [upd_ne hne]; exact h1, RKs.mono tp xs h2.1, h2.2⟩
      | rdd xs => obtain ⟨vs, ob, h1, h2⟩ := q; exact ⟨vs, ob, by rw [upd_ne hne]; exact h1, RKs.mono tp xs h2.1, h2.2⟩
      | dtg xs => obtain ⟨o, ys, h1, h2, h3⟩ := q; exact ⟨o, ys, by rw [upd_ne hne]; exact h1, RN.mono tp xs h2, h3⟩
      | rdt xs => obtain ⟨o, ys, h1, h2, h3⟩ := q; exact ⟨o, ys, by rw [upd_ne hne]; exact h1, RN.mono tp xs h2, h3⟩
      | rls xs => obtain ⟨vs, h1, h2⟩ := q; exact ⟨vs, by rw [upd_ne hne]; exact h1, RRs.mono tp (Nat.le_refl _) (fun _ _ => rfl) xs h2⟩
theorem ford_lift {mk : Addr → Obj → List (Key × V) → It} {f : G × G → R} {fw : R → Store → Res Walk} {src : Src} {t : MP.Tm} {tg : List Nat} {g : TG} {b : Blk} (hsrc : ∀ ε σ, evW cl src ε σ = (ev cl false t ε σ).bind fw) (wd : WD fw f) (it : ItOk mk f) (hg : BindOk tg g)
    (D : Ends) (st : L2.St) (H : Hp) (h : S1 cl W (.forS tg src b) D st H) : tFor (iFz X mk (E1 cl t)) g (B1 cl W b) (thE X D) st H := by
  obtain ⟨ρ, ε, σ, o, σ', hE, hS, ee, q⟩ := h
  rw [evS] at ee
  obtain ⟨w, σ1, ew, ee⟩ := bind_inv ee
  rw [hsrc] at ew
  obtain ⟨x, σ2, e1, e2⟩ := bind_inv ew
  obtain ⟨rfl, k, kvs, c, rfl, ek, hc, hi, rfl⟩ := wd e2
  refine ⟨ρ, ε, σ, _, _, hE, hS, e1, fun ρ1 v1 H1 ex1 S1 r1 => ?_⟩
  obtain ⟨hk, rfl⟩ := r1
  have hE1 := hE.mono hS ex1
  rcases hc with rfl | rfl
  · obtain ⟨ws, h1, h2, h3⟩ := S1.dctN ek
    refine ⟨_, ws, rfl, .inl ⟨h1, fun ob nz => ?_⟩⟩
    obtain ⟨w1, w2⟩ := S1.write hk (o := .frz ob (.dK ws)) (c := .rdd kvs) (nfz_d h1) fun H' tp e => ⟨ws, ob, e, RKs.mono tp _ h2, h3⟩
    have hE2 := hE1.mono S1 w1
    obtain ⟨σ3, e3, e4, rfl⟩ := thaw_inv ee
    have q1 := q.after ex1 S1
    have hk2 : k < (σ1.set k (.rdd kvs)).length := by simpa using hk
    have wj := it (ob := ob) (ws := ws) (H := upd H1 (ρ1 k) (.frz ob (.dK ws))) (ρ := ρ1) (σ := σ1.set k (.rdd kvs)) hi hk2 upd_same
    refine for_core w2 hE2 wj e3 ?_ hg
    have ln : (σ1.set k (Cell.rdd kvs)).length = σ1.length := by simp
    rw [ln]
    cases o with
    | next ε' =>
      intro ρ' st' H' ex S' hE'
      obtain ⟨a1, a2, a3, tp⟩ := thawed S1 hk h1 ex S' e4
      exact .inr ⟨_, ob, ws, a1, nz, q1 ρ' st' _ a2 a3 ⟨hE'.len, fun i r e => by
        obtain ⟨v, b1, b2⟩ := hE'.val i r e
        exact ⟨v, b1, RR.mono tp (by simp) (fun _ _ => rfl) r b2⟩⟩⟩
    | brk ε' =>
      intro ρ' st' H' ex S' hE'
      obtain ⟨a1, a2, a3, tp⟩ := thawed S1 hk h1 ex S' e4
      exact .inr ⟨_, ob, ws, a1, nz, q1 ρ' st' _ a2 a3 ⟨hE'.len, fun i r e => by
        obtain ⟨v, b1, b2⟩ := hE'.val i r e
        exact ⟨v, b1, RR.mono tp (by simp) (fun _ _ => rfl) r b2⟩⟩⟩
    | cont ε' =>
      intro ρ' st' H' ex S' hE'
      obtain ⟨a1, a2, a3, tp⟩ := thawed S1 hk h1 ex S' e4
      exact .inr ⟨_, ob, ws, a1, nz, q1 ρ' st' _ a2 a3 ⟨hE'.len, fun i r e => by
        obtain ⟨v, b1, b2⟩ := hE'.val i r e
        exact ⟨v, b1, RR.mono tp (by simp) (fun _ _ => rfl) r b2⟩⟩⟩
    | ret r =>
      intro ρ' v' H' ex S' r'
      obtain ⟨a1, a2, a3, tp⟩ := thawed S1 hk h1 ex S' e4
      exact .inr ⟨_, ob, ws, a1, nz, q1 ρ' v' _ a2 a3 (RR.mono tp (by simp) (fun _ _ => rfl) r r')⟩
  · obtain ⟨ws, ob, h1, h2, h3⟩ := S1.rddN ek
    refine ⟨_, ws, rfl, .inr ⟨ob, h1, ?_⟩⟩
    have wj := it (ob := ob) (ws := ws) (H := H1) (ρ := ρ1) (σ := σ1) hi hk h1
    have q1 := q.after ex1 S1
    refine for_core S1 hE1 wj ee ?_ hg
    cases o with
    | next ε' => exact fun ρ' st' H' ex S' hE' => .inl (q1 ρ' st' H' ex S' hE')
    | brk ε' => exact fun ρ' st' H' ex S' hE' => .inl (q1 ρ' st' H' ex S' hE')
    | cont ε' => exact fun ρ' st' H' ex S' hE' => .inl (q1 ρ' st' H' ex S' hE')
    | ret r => exact fun ρ' v' H' ex S' r' => .inl (q1 ρ' v' H' ex S' r')
theorem expr_lift {e : MP.Tm} (D : Ends) (st : L2.St) (H : Hp) (t : S1 cl W (.expr e) D st H) : tDrop (E1 cl e) D st H := by
  obtain ⟨ρ, ε, σ, o, σ', hE, hS, ee, q⟩ := t
  rw [evS] at ee
  obtain ⟨r, σ1, e1, e2⟩ := bind_inv ee
  cases e2
  exact ⟨ρ, ε, σ, r, _, hE, hS, e1, fun ρ1 v1 H1 ex1 S1 r1 => q ρ1 st H1 ex1 S1 (hE.mono hS ex1)⟩
theorem ret_lift {e : MP.Tm} (D : Ends) (st : L2.St) (H : Hp) (t : S1 cl W (.ret e) D st H) : tRet (E1 cl e) D st H := by
  obtain ⟨ρ, ε, σ, o, σ', hE, hS, ee, q⟩ := t
  rw [evS] at ee
  obtain ⟨r, σ1, e1, e2⟩ := bind_inv ee
  cases e2
  exact ⟨ρ, ε, σ, r, _, hE, hS, e1, q⟩
theorem ite_lift {c : MP.Tm} {a b : Blk} (D : Ends) (st : L2.St) (H : Hp) (t : S1 cl W (.ite c a b) D st H) : tIfS (T1 cl c) (B1 cl W a) (B1 cl W b) D st H := by
  obtain ⟨ρ, ε, σ, o, σ', hE, hS, ee, q⟩ := t
  rw [evS] at ee
  obtain ⟨r, σ1, e1, e2⟩ := bind_inv ee
  obtain ⟨d, rfl⟩ := ev_true_bl c _ _ _ _ e1
  refine ⟨ρ, ε, σ, d, σ1, hE, hS, e1, fun ρ1 H1 ex1 S1 => ?_⟩
  cases d with
  | true => exact iteT ⟨ρ1, ε, σ1, o, σ', hE.mono hS ex1, S1, e2, q.after ex1 S1⟩
  | false => exact iteF ⟨ρ1, ε, σ1, o, σ', hE.mono hS ex1, S1, e2, q.after ex1 S1⟩
theorem seq_lift {s : Stm} {b : Blk} (D : Ends) (st : L2.St) (H : Hp) (t : B1 cl W (.cons s b) D st H) : tSeq (S1 cl W s) (B1 cl W b) D st H := by
  obtain ⟨ρ, ε, σ, o, σ', hE, hS, ee, q⟩ := t
  rw [evB] at ee
  obtain ⟨o1, σ1, e1, e2⟩ := bind_inv ee
  cases o1 with
  | next ε1 => exact ⟨ρ, ε, σ, .next ε1, σ1, hE, hS, e1, fun ρ1 st1 H1 ex1 S1 hE1 => ⟨ρ1, ε1, σ1, o, σ', hE1, S1, e2, q.after ex1 S1⟩⟩
  | ret r => cases e2; exact ⟨ρ, ε, σ, _, _, hE, hS, e1, q⟩
  | brk ε1 => cases e2; exact ⟨ρ, ε, σ, _, _, hE, hS, e1, q⟩
  | cont ε1 => cases e2; exact ⟨ρ, ε, σ, _, _, hE, hS, e1, q⟩
theorem passes (am : Amb X P W n) : PassesOwn (model X.prog X.w) X.A X.env X.xe := by
  rw [am.xe]
  exact PassesOwn.never
theorem assign_sub {o k : Expr} {pos : Pos} {env : PySem.Env} (h : notSlice k = true) : ∀ v, assign (.Subscript o k pos) env v = (do
      let ov ← holding [v] (eval o env)
      let iv ← holding [v, ov] (eval k env)
      standAt pos
      holding [v, ov, iv] (setItem ov iv v)
      release [v, ov, iv] []) := by
  intro v
  cases k <;> first | rfl | (simp [notSlice] at h; done)
theorem sole_false {t v : Expr} {l : Nat} {env : PySem.Env} (h : isComp v = false) : swapsWithSole [t] v l env = pure false := swaps_false h
theorem stores_none {o k : Expr} {pos : Pos} (v : Expr) {env : PySem.Env} : swappedStores [.Subscript o k pos] v env = pure none := by
  cases v <;> rfl
theorem tg_ok (nd : X.N.Nodup) (hf : ∀ x, X.fn x = true) : ∀ {is : List Nat} {es : List Expr}, tgB X.N X.env.scope is es = true → PGs X es (gNames is) ∧ (assignEach es X.env).length = is.length ∧ (assignEach es X.env).findIdx? (·.1) = none
  | [], [], _ => ⟨pgs_nil, rfl, rfl⟩
  | [], _ :: _, h => by simp [tgB] at h
  | _ :: _, [], h => by simp [tgB] at h
  | i :: is, e :: es, h => by
    cases e <;> first | (simp [tgB] at h; done) | skip
    rename_i x p
    simp only [tgB, Bool.and_eq_true, decide_eq_true_eq] at h
    obtain ⟨⟨h1, h2⟩, h3⟩ := h
    obtain ⟨q1, q2, q3⟩ := tg_ok nd hf h3
    refine ⟨pgs_cons (pg_name nd h1 (loc_of h2) (.inl (hf _))) q1 rfl, by rw [List.length_cons, ← q2]; rfl, ?_⟩
    show List.findIdx? _ ((false, assign (.Name x p) X.env) :: assignEach es X.env) = none
    rw [List.findIdx?_cons, q3]
    rfl
theorem unpack_lift {K : PySem.W.Frag} {is : List Nat} {e : MP.Tm} (D : Ends) (st : L2.St) (H : Hp) (t : S1 cl W (.unpack is e) D st H) : tAsg (E1 cl e) (gTup K is.length (gNames is)) D st H := by
  obtain ⟨ρ, ε, σ, o, σ', hE, hS, ee, q⟩ := t
  rw [evS] at ee
  obtain ⟨r, σ1, e1, ee⟩ := bind_inv ee
  cases c : parts r with
  | none => rw [c] at ee; cases ee
  | some rs =>
    rw [c] at ee
    obtain ⟨ε1, e2, e3⟩ := ofE_inv ee
    cases e3
    refine ⟨ρ, ε, σ, r, _, hE, hS, e1, fun ρ1 v1 H1 ex1 S1 r1 => ?_⟩
    obtain ⟨a, vs, rfl, ha, hx⟩ := parts_ok r1 c
    exact ⟨a, vs, rfl, .of ha, by rw [hx.length]; exact slots_len e2, slots_ok (hE.mono hS ex1) hx e2 fun st' hE' => q ρ1 st' H1 ex1 S1 hE'⟩
theorem stores_call {t v : Expr} {env : PySem.Env} (h : isCall v = true) : swappedStores [t] v env = pure none := by
  cases v <;> first | (simp [isCall] at h; done) | (cases t <;> rfl)
theorem call_nocomp {v : Expr} (h : isCall v = true) : isComp v = false := by
  cases v <;> first | rfl | (simp [isCall] at h; done)
theorem chk_comp {N : List Str} {sc : Scope} {e : MP.Tm} {el : Expr} {gens : List Comprehension} {scope : Scope} {pos : Pos} (h : chkE N sc e (.ListComp el gens scope pos) = true) : ∃ k caps s conds elt, e = .comp k caps s conds elt := by
  cases e with
  | comp k caps s conds elt => exact ⟨k, caps, s, conds, elt, rfl⟩
  | con g => rw [chkE.eq_def] at h; cases g <;> simp at h
  | op p as => rw [chkE.eq_def] at h; simp [opArgs] at h
  | meth p a as => rw [chkE.eq_def] at h; simp [methArgs] at h
  | _ => rw [chkE.eq_def] at h; simp at h
mutual
theorem soundS : ∀ (s : Stm) (st : Stmt), Amb X P W n → (∀ x, X.fn x = true) → chkS X.N X.env.scope s st = true → PS X st (S1 (MP.run P W n) W s)
  | .set i e, st, am, hf, h => by
    rw [chkS.eq_def] at h
    dsimp only at h
    split at h
    · rename_i x px v pos
      simp only [Bool.and_eq_true, Bool.or_eq_true, decide_eq_true_eq, Bool.not_eq_true'] at h
      obtain ⟨⟨⟨h1, h2⟩, h3⟩, h4⟩ := h
      rcases h4 with h4 | h4
      · exact PS.imp (ps_set am.nd h1 (loc_of h2) (soundE e X v am h3).1 (swaps_false h4) (.inl (hf _))) fun D st H t => set_lift D st H t
      · -- the comprehension's own store
        have hsw := swB_true (X := X) (l := pos.line) h4
        cases v <;> first | (simp [swB] at h4; done) | skip
        rename_i el gens scope pos'
        obtain ⟨kn, caps, s, conds, elt, rfl⟩ := chk_comp h3
        rw [chkE.eq_def] at h3
        dsimp only at h3
        split at h3
        · rename_i heq
          cases heq
          split at h3
          · rename_i xs hxs
            simp only [Bool.and_eq_true, decide_eq_true_eq] at h3
            obtain ⟨⟨⟨⟨⟨⟨rfl, rfl⟩, k2⟩, k3⟩, k4⟩, k5⟩, k6⟩ := h3
            have ok := compB_ok k2
            obtain ⟨g, hG, hBl, hBg⟩ := tg_sound (X := X) am hxs ok
            refine PS.imp (ps_comp am.calm ok (soundW s X _ _ _ am rfl k4) hG hBl hBg (fun C fp s H => ?_) (fun C fp s H => ?_) (folded k3) hsw am.nd h1 (loc_of h2) (.inl (hf _))) fun D st H t => comp_lift st H _ (set_lift D st H t)
            · exact (soundAs conds _ _ (am.comp ok.nod _ _ C fp s H) k5).2.pcs
            · exact (soundE elt _ _ (am.comp ok.nod _ _ C fp s H) k6).1
          · cases h3
        · cases h3
    · cases h
  | .setIdx a i v, st, am, hf, h => by
    rw [chkS.eq_def] at h
    dsimp only at h
    split at h
    · simp only [Bool.and_eq_true, Bool.not_eq_true'] at h
      obtain ⟨⟨⟨⟨h0, h1⟩, h2⟩, h3⟩, h4⟩ := h
      exact PS.imp (ps_asg (soundE v X _ am h1).1 (pg_sub (soundE a X _ am h2).1 (soundE i X _ am h3).1 (set_all (by have := am.un; omega)) (assign_sub h0)) (sole_false h4) (stores_none _) rfl) fun D st H t => put_lift D st H t
    · cases h
  | .expr e, st, am, hf, h => by
    rw [chkS.eq_def] at h
    dsimp only at h
    split at h
    · simp only [Bool.and_eq_true, Bool.not_eq_true'] at h
      exact PS.imp (ps_expr (soundE e X _ am h.1).1 (swaps_false h.2)) fun D st H t => expr_lift D st H t
    · cases h
  | .ret e, st, am, hf, h => by
    rw [chkS.eq_def] at h
    dsimp only at h
    split at h
    · exact PS.imp (ps_ret (soundE e X _ am h).1) fun D st H t => ret_lift D st H t
    · cases h
  | .retN, st, am, hf, h => by
    rw [chkS.eq_def] at h
    dsimp only at h
    split at h
    · refine PS.imp ps_retN fun D st H t => ?_
      obtain ⟨ρ, ε, σ, o, σ', hE, hS, ee, q⟩ := t
      rw [evS] at ee
      cases ee
      exact q ρ .non H (Ext.refl _ _ _) hS rfl
    · cases h
  | .ite c a b, st, am, hf, h => by
    rw [chkS.eq_def] at h
    dsimp only at h
    split at h
    · simp only [Bool.and_eq_true] at h
      exact PS.imp (ps_if (soundE c X _ am h.1.1).2 (soundB a _ am hf h.1.2) (soundB b _ am hf h.2)) fun D st H t => ite_lift D st H t
    · cases h
  | .forS tg src b, st, am, hf, h => by
    rw [chkS.eq_def] at h
    dsimp only at h
    split at h
    · simp only [Bool.and_eq_true, decide_eq_true_eq] at h
      obtain ⟨⟨⟨⟨h1, h2⟩, h3⟩, h4⟩, h5⟩ := h
      cases src with
      | keys t =>
        exact PS.imp (ps_thaw (ps_for (passes am) am.calm (pi_keys (soundE t X _ am h4).1) (pg_name am.nd h1 (loc_of h2) (.inl (hf _))) (soundB b _ am hf h5) (folded h3))) fun D st H t => ford_lift (fun _ _ => rfl) wd_keys it_keys bind_name D st H t
      | over t => exact PS.imp (ps_for (passes am) am.calm (soundW _ X _ _ _ am rfl h4) (pg_name am.nd h1 (loc_of h2) (.inl (hf _))) (soundB b _ am hf h5) (folded h3)) fun D st H t => for_lift (.inl ⟨_, rfl⟩) D st H t
      | range1 t => exact PS.imp (ps_for (passes am) am.calm (soundW _ X _ _ _ am rfl h4) (pg_name am.nd h1 (loc_of h2) (.inl (hf _))) (soundB b _ am hf h5) (folded h3)) fun D st H t => for_lift (.inr ⟨_, rfl⟩) D st H t
      | range2 _ _ => dsimp only at h4; rw [chkW.eq_def] at h4; cases h4
      | items _ => dsimp only at h4; rw [chkW.eq_def] at h4; cases h4
      | enum _ _ => dsimp only at h4; rw [chkW.eq_def] at h4; cases h4
      | itemsT _ => dsimp only at h4; rw [chkW.eq_def] at h4; cases h4
      | zip _ _ => dsimp only at h4; rw [chkW.eq_def] at h4; cases h4
      | chars _ => dsimp only at h4; rw [chkW.eq_def] at h4; cases h4
    · simp only [Bool.and_eq_true] at h
      obtain ⟨⟨⟨h1, h3⟩, h4⟩, h5⟩ := h
      split at h4
      · simp only [Bool.and_eq_true] at h4
        obtain ⟨⟨⟨k1, k2⟩, k3⟩, k4⟩ := h4
        have ex := isS_eq k1
        subst ex
        obtain ⟨g1, g2, g3⟩ := tg_ok am.nd hf h1
        exact PS.imp (ps_for (passes am) am.calm (pi_itemsT am (soundE _ X _ am k4).1 (recv_base k2) k3) (pg_tup am.calm g1 g2 g3) (soundB b _ am hf h5) (folded h3)) fun D st H t => for_liftI D st H t
      · cases h4
    · cases h
  | .brk, st, am, hf, h => by
    rw [chkS.eq_def] at h
    dsimp only at h
    split at h
    · refine PS.imp ps_break fun D st H t => ?_
      obtain ⟨ρ, ε, σ, o, σ', hE, hS, ee, q⟩ := t
      rw [evS] at ee
      cases ee
      exact q ρ st H (Ext.refl _ _ _) hS hE
    · cases h
  | .cont, st, am, hf, h => by
    rw [chkS.eq_def] at h
    dsimp only at h
    split at h
    · refine PS.imp ps_continue fun D st H t => ?_
      obtain ⟨ρ, ε, σ, o, σ', hE, hS, ee, q⟩ := t
      rw [evS] at ee
      cases ee
      exact q ρ st H (Ext.refl _ _ _) hS hE
    · cases h
  | .pass, st, am, hf, h => by
    rw [chkS.eq_def] at h
    dsimp only at h
    split at h
    · refine PS.imp ps_pass fun D st H t => ?_
      obtain ⟨ρ, ε, σ, o, σ', hE, hS, ee, q⟩ := t
      rw [evS] at ee
      cases ee
      exact q ρ st H (Ext.refl _ _ _) hS hE
    · cases h
  | .whileS c b, st, am, hf, h => by rw [chkS.eq_def] at h; cases h
  | .unpack is e, st, am, hf, h => by
    rw [chkS.eq_def] at h
    dsimp only at h
    split at h
    · simp only [Bool.and_eq_true] at h
      obtain ⟨⟨h1, h2⟩, h3⟩ := h
      obtain ⟨g1, g2, g3⟩ := tg_ok am.nd hf h1
      exact PS.imp (ps_asg (soundE e X _ am h3).1 (pg_tup am.calm g1 g2 g3) (sole_false (call_nocomp h2)) (stores_call h2) rfl) fun D st H t => unpack_lift D st H t
    · cases h
  | .raise _ _, st, am, hf, h => by rw [chkS.eq_def] at h; cases h
  | .tryS _ _ _ _, st, am, hf, h => by rw [chkS.eq_def] at h; cases h
theorem soundB : ∀ (b : Blk) (ss : List Stmt), Amb X P W n → (∀ x, X.fn x = true) → chkB X.N X.env.scope b ss = true → PSs X ss (B1 (MP.run P W n) W b)
  | .nil, ss, am, hf, h => by
    rw [chkB.eq_def] at h
    dsimp only at h
    cases ss with
    | nil =>
      refine PSs.imp pss_nil fun D st H t => ?_
      obtain ⟨ρ, ε, σ, o, σ', hE, hS, ee, q⟩ := t
      rw [evB] at ee
      cases ee
      exact q ρ st H (Ext.refl _ _ _) hS hE
    | cons _ _ => cases h
  | .cons s b, ss, am, hf, h => by
    rw [chkB.eq_def] at h
    dsimp only at h
    split at h
    · simp only [Bool.and_eq_true] at h
      exact PSs.imp (pss_cons (soundS s _ am hf h.1) (soundB b _ am hf h.2)) fun D st H t => seq_lift D st H t
    · cases h
end
end
end SN


set_option Elab.async false
set_option linter.all false
set_option maxRecDepth 100000
namespace SN
open PySem PySem.Spec PyProof.Rows L2 MP
variable [Wd]

section
variable {n : Nat}
mutual
theorem refs_sub : ∀ (r : R) (acc : List Nat) (k : Nat), k ∈ acc → k ∈ refsGe n r acc
  | .g _, acc, k, h => by rw [refsGe]; exact h
  | .ref i, acc, k, h => by
    rw [refsGe]
    split
    · exact h
    · split
      · exact h
      · exact List.mem_append_left _ h
  | .tr xs, acc, k, h => by rw [refsGe]; exact refss_sub xs acc k h
theorem refss_sub : ∀ (xs : List R) (acc : List Nat) (k : Nat), k ∈ acc → k ∈ refsGes n xs acc
  | [], acc, k, h => by rw [refsGes]; exact h
  | x :: r, acc, k, h => by rw [refsGes]; exact refss_sub r _ k (refs_sub x acc k h)
end
mutual
theorem refs_ok : ∀ (r : R) (acc : List Nat), (∀ k ∈ acc, n ≤ k) → acc.Nodup → (∀ k ∈ refsGe n r acc, n ≤ k) ∧ (refsGe n r acc).Nodup
  | .g _, acc, h, d => by rw [refsGe]; exact ⟨h, d⟩
  | .ref i, acc, h, d => by
    rw [refsGe]
    split
    · exact ⟨h, d⟩
    · rename_i hi
      split
      · exact ⟨h, d⟩
      · rename_i hc
        refine ⟨fun k hk => ?_, ?_⟩
        · rcases List.mem_append.mp hk with z | z
          · exact h k z
          · simp at z; omega
        · rw [List.nodup_append]
          refine ⟨d, by simp, fun a ha b hb => ?_⟩
          simp at hb
          subst hb
          intro z
          subst z
          exact hc (by simpa using ha)
  | .tr xs, acc, h, d => by rw [refsGe]; exact refss_ok xs acc h d
theorem refss_ok : ∀ (xs : List R) (acc : List Nat), (∀ k ∈ acc, n ≤ k) → acc.Nodup → (∀ k ∈ refsGes n xs acc, n ≤ k) ∧ (refsGes n xs acc).Nodup
  | [], acc, h, d => by rw [refsGes]; exact ⟨h, d⟩
  | x :: r, acc, h, d => by
    rw [refsGes]
    obtain ⟨h1, d1⟩ := refs_ok x acc h d
    exact refss_ok r _ h1 d1
end
mutual
noncomputable def RIn (n : Nat) (ks : List Nat) : R → Prop
  | .g _ => True
  | .ref i => i < n ∨ i ∈ ks
  | .tr xs => RIns n ks xs
noncomputable def RIns (n : Nat) (ks : List Nat) : List R → Prop
  | [] => True
  | x :: r => RIn n ks x ∧ RIns n ks r
end
mutual
theorem refs_in : ∀ (r : R) (acc ks : List Nat), (∀ k ∈ refsGe n r acc, k ∈ ks) → RIn n ks r
  | .g _, acc, ks, h => trivial
  | .ref i, acc, ks, h => by
    by_cases hi : i < n
    · exact .inl hi
    · refine .inr (h i ?_)
      rw [refsGe, if_neg hi]
      split
      · rename_i hc; simpa using hc
      · simp
  | .tr xs, acc, ks, h => by rw [refsGe] at h; exact refss_in xs acc ks h
theorem refss_in : ∀ (xs : List R) (acc ks : List Nat), (∀ k ∈ refsGes n xs acc, k ∈ ks) → RIns n ks xs
  | [], acc, ks, h => trivial
  | x :: r, acc, ks, h => by
    rw [refsGes] at h
    exact ⟨refs_in x acc ks fun k hk => h k (refss_sub r _ k hk), refss_in r _ ks h⟩
end
theorem cells_get {σ : Store} : ∀ {ks : List Nat} {cs : List Cell}, cellsAt σ ks = some cs → cs.length = ks.length ∧ ∀ (j k : Nat), ks[j]? = some k → ∃ c, σ[k]? = some c ∧ flatCell c = true ∧ cs[j]? = some c
  | [], cs, h => by cases h; exact ⟨rfl, fun j k e => by simp at e⟩
  | k :: r, cs, h => by
    rw [cellsAt] at h
    split at h
    · rename_i c e1
      split at h
      · rename_i hf
        cases e2 : cellsAt σ r with
        | none => rw [e2] at h; cases h
        | some ds =>
          rw [e2] at h
          cases h
          obtain ⟨l, g⟩ := cells_get e2
          refine ⟨by simp [l], fun j k' e => ?_⟩
          cases j with
          | zero => simp at e; subst e; exact ⟨c, e1, hf, rfl⟩
          | succ j =>
            obtain ⟨d, a1, a2, a3⟩ := g j k' (by simpa using e)
            exact ⟨d, a1, a2, by simpa using a3⟩
      · cases h
    · cases h
noncomputable def rhoC (ρ : Nat → Addr) (n : Nat) (ks : List Nat) : Nat → Addr := fun k => if k < n then ρ k else ρ (ks.getD (k - n) 0)
mutual
theorem RR.ren {H : Hp} {ρ : Nat → Addr} {m : Nat} {ks : List Nat} : ∀ (r : R) {v : V}, RIn n ks r → RR H ρ m r v → RR H (rhoC ρ n ks) (n + ks.length) (MP.ren n ks r) v
  | .g x, v, _, h => by rw [MP.ren]; exact h
  | .ref i, v, hi, h => by
    rw [MP.ren]
    obtain ⟨_, rfl⟩ := h
    by_cases hn : i < n
    · rw [if_pos hn]
      exact ⟨by omega, by simp [rhoC, hn]⟩
    · rw [if_neg hn]
      have hm : i ∈ ks := hi.resolve_left hn
      have hl : ks.idxOf i < ks.length := List.idxOf_lt_length_of_mem hm
      refine ⟨by omega, ?_⟩
      have : ¬ n + ks.idxOf i < n := by omega
      simp only [rhoC, this, if_false]
      rw [show n + ks.idxOf i - n = ks.idxOf i by omega]
      rw [List.getD_eq_getElem?_getD, List.getElem?_eq_getElem hl]
      simp
  | .tr xs, v, hi, h => by
    rw [MP.ren]
    obtain ⟨a, vs, rfl, ha, hx⟩ := h
    exact ⟨a, vs, rfl, ha, RRs.ren xs hi hx⟩
theorem RRs.ren {H : Hp} {ρ : Nat → Addr} {m : Nat} {ks : List Nat} : ∀ (xs : List R) {vs : List V}, RIns n ks xs → RRs H ρ m xs vs → RRs H (rhoC ρ n ks) (n + ks.length) (MP.rens n ks xs) vs
  | [], vs, _, h => by rw [MP.rens]; exact h
  | x :: r, vs, hi, h => by
    rw [MP.rens]
    obtain ⟨v, us, rfl, h1, h2⟩ := h
    exact ⟨v, us, rfl, RR.ren x hi.1 h1, RRs.ren r hi.2 h2⟩
end
theorem fin_compact {ρ ρ' : Nat → Addr} {H H' : Hp} {σ' : Store} {r : R} {v : V} {cs : List Cell} (ex : Ext ρ n H ρ' σ'.length H') (S : SR H' ρ' σ') (rv : RR H' ρ' σ'.length r v) (hc : cellsAt σ' (refsGe n r []) = some cs) :
    ∃ ρ2, Ext ρ n H ρ2 (σ'.take n ++ cs).length H' ∧ SR H' ρ2 (σ'.take n ++ cs) ∧ RR H' ρ2 (σ'.take n ++ cs).length (MP.ren n (refsGe n r []) r) v := by
  obtain ⟨kge, knd⟩ := refs_ok (n := n) r [] (by simp) List.nodup_nil
  have kin := refs_in (n := n) r [] (refsGe n r []) fun k h => h
  generalize hks : refsGe n r [] = ks at *
  obtain ⟨cl, cg⟩ := cells_get hc
  have tl : (σ'.take n).length = n := by rw [List.length_take]; have := ex.le; omega
  have ln : (σ'.take n ++ cs).length = n + ks.length := by rw [List.length_append, tl, cl]
  have lo : ∀ i, i < n → rhoC ρ' n ks i = ρ' i := fun i hi => by simp [rhoC, hi]
  have hi' : ∀ j k, ks[j]? = some k → rhoC ρ' n ks (n + j) = ρ' k := fun j k e => by
    have : ¬ n + j < n := by omega
    simp only [rhoC, this, if_false]
    rw [show n + j - n = j by omega, List.getD_eq_getElem?_getD, e]
    rfl
  have klt : ∀ j k, ks[j]? = some k → k < σ'.length := fun j k e => by
    obtain ⟨c, e1, _⟩ := cg j k e
    exact SR.lt e1
  refine ⟨rhoC ρ' n ks, ⟨by rw [ln]; omega, fun i hi => by rw [lo i hi, ex.ag i hi], fun i h1 h2 => ?_, ex.kp, ex.fz⟩, ⟨fun i c e => ?_, fun i j hi hj e => ?_⟩, by rw [ln]; exact RR.ren r kin rv⟩
  · rw [ln] at h2
    obtain ⟨j, rfl⟩ : ∃ j, i = n + j := ⟨i - n, by omega⟩
    obtain ⟨k, ek⟩ : ∃ k, ks[j]? = some k := ⟨ks[j], by simp⟩
    rw [hi' j k ek]
    exact ex.fr k (kge k (List.mem_of_getElem? ek)) (klt j k ek)
  · by_cases hi : i < n
    · rw [List.getElem?_append_left (by rw [tl]; exact hi), List.getElem?_take_of_lt hi] at e
      have q := S.cell i c e
      cases c with
      | lst xs => obtain ⟨vs, h1, h2⟩ := q; exact ⟨vs, by rw [lo i hi]; exact h1, h2⟩
      | rdl xs => obtain ⟨vs, h1, h2⟩ := q; exact ⟨vs, by rw [lo i hi]; exact h1, h2⟩
      | dct xs => obtain ⟨vs, h1, h2⟩ := q; exact ⟨vs, by rw [lo i hi]; exact h1, h2⟩
      | rdd xs => obtain ⟨vs, ob, h1, h2⟩ := q; exact ⟨vs, ob, by rw [lo i hi]; exact h1, h2⟩
      | dtg xs => obtain ⟨o, ys, h1, h2⟩ := q; exact ⟨o, ys, by rw [lo i hi]; exact h1, by rw [lo i hi]; exact h2⟩
      | rdt xs => obtain ⟨o, ys, h1, h2⟩ := q; exact ⟨o, ys, by rw [lo i hi]; exact h1, by rw [lo i hi]; exact h2⟩
      | rls xs => obtain ⟨vs, h1, h2⟩ := q; exact ⟨vs, by rw [lo i hi]; exact h1, RRs.mono (fun _ _ h => h) (Nat.le_refl _) (fun l hl => lo l (Nat.lt_trans hl hi)) _ h2⟩
    · have hil := SR.lt e
      rw [ln] at hil
      obtain ⟨j, rfl⟩ : ∃ j, i = n + j := ⟨i - n, by omega⟩
      obtain ⟨k, ek⟩ : ∃ k, ks[j]? = some k := ⟨ks[j], by simp⟩
      obtain ⟨d, a1, a2, a3⟩ := cg j k ek
      rw [List.getElem?_append_right (by rw [tl]; omega), tl, show n + j - n = j by omega, a3] at e
      cases e
      have q := S.cell k c a1
      cases c with
      | lst xs => obtain ⟨vs, h1, h2⟩ := q; exact ⟨vs, by rw [hi' j k ek]; exact h1, h2⟩
      | rdl xs => obtain ⟨vs, h1, h2⟩ := q; exact ⟨vs, by rw [hi' j k ek]; exact h1, h2⟩
      | dct xs => obtain ⟨vs, h1, h2⟩ := q; exact ⟨vs, by rw [hi' j k ek]; exact h1, h2⟩
      | rdd xs => obtain ⟨vs, ob, h1, h2⟩ := q; exact ⟨vs, ob, by rw [hi' j k ek]; exact h1, h2⟩
      | dtg xs => obtain ⟨o, ys, h1, h2⟩ := q; exact ⟨o, ys, by rw [hi' j k ek]; exact h1, by rw [hi' j k ek]; exact h2⟩
      | rdt xs => obtain ⟨o, ys, h1, h2⟩ := q; exact ⟨o, ys, by rw [hi' j k ek]; exact h1, by rw [hi' j k ek]; exact h2⟩
      | rls xs => cases a2
  · rw [ln] at hi hj
    have at' : ∀ i, i < n + ks.length → ∃ k, k < σ'.length ∧ rhoC ρ' n ks i = ρ' k ∧ ((i < n ∧ k = i) ∨ (n ≤ i ∧ n ≤ k ∧ ks[i - n]? = some k)) := fun i hi => by
      by_cases h : i < n
      · exact ⟨i, Nat.lt_of_lt_of_le h ex.le, lo i h, .inl ⟨h, rfl⟩⟩
      · obtain ⟨j, rfl⟩ : ∃ j, i = n + j := ⟨i - n, by omega⟩
        obtain ⟨k, ek⟩ : ∃ k, ks[j]? = some k := ⟨ks[j], by simp⟩
        exact ⟨k, klt j k ek, hi' j k ek, .inr ⟨by omega, kge k (List.mem_of_getElem? ek), by rw [show n + j - n = j by omega]; exact ek⟩⟩
    obtain ⟨k1, l1, e1, c1⟩ := at' i hi
    obtain ⟨k2, l2, e2, c2⟩ := at' j hj
    rw [e1, e2] at e
    have := S.inj k1 k2 l1 l2 e
    subst this
    rcases c1 with ⟨a, rfl⟩ | ⟨a, b, c⟩ <;> rcases c2 with ⟨a', b'⟩ | ⟨a', b', c'⟩
    · exact b'
    · omega
    · omega
    · have := (List.getElem?_inj (List.getElem?_eq_some_iff.mp c).1 knd).mp (c.trans c'.symm)
      omega
end

section
variable {Pg : Program} {K : PySem.W.Frag} {mg : Str → Option Value} {base : Heap} {P : List Fn} {W n : Nat}
theorem start_re {H : Hp} {ρ : Nat → Addr} {m : Nat} {N : List Str} {rs : List R} {vs : List V} {nl : Nat} (h : RRs H ρ m rs vs) (hl : nl = N.length) : RE H ρ m (rs.map some ++ List.replicate (nl - rs.length) none) (L2.start N vs) := by
  have e := h.length
  refine ⟨by unfold L2.start; simp [hl, e], fun i r ei => ?_⟩
  have hi : i < rs.length := by
    by_cases hi : i < rs.length
    · exact hi
    · rw [List.getElem?_append_right (by simpa using hi), List.getElem?_replicate] at ei
      split at ei <;> cases ei
  rw [List.getElem?_append_left (by simpa using hi), List.getElem?_map] at ei
  cases c : rs[i]? with
  | none => rw [c] at ei; cases ei
  | some r' =>
    rw [c] at ei
    cases ei
    obtain ⟨v, h1, h2⟩ := h.get c
    refine ⟨v, ?_, h2⟩
    unfold L2.start
    rw [List.getElem?_append_left (by simp; omega), List.getElem?_map, h1]
    rfl
theorem spOf_len {d : Fn} {f : String} (hf : look P f = some d) {vs : List V} {H : Hp} {Q : VK} {E : XK} (h : SpOf P W n f vs H Q E) : vs.length = d.np := by
  obtain ⟨ρ, σ, rs, r, σ', h1, _, e, _⟩ := h
  cases n with
  | zero => cases e
  | succ n =>
    rw [MP.run, hf] at e
    dsimp only at e
    split at e
    · rename_i hl; rw [h1.length]; exact hl
    · cases e
theorem fn_ok {x : Str} {st : Stmt} {fa : Addr} {fd : FuncData} {N ps : List Str} {f : String} {d : Fn} (F : Fun K x x st fa fd) (S : FnScope N ps (defScope st)) (hf : look P f = some d) (hnp : d.np = ps.length) (hnl : d.nl = N.length)
    (hc : chkB N (defScope st) d.body (defBody st) = true)
    (hblt : ∀ b ∈ ["len", "tuple", "list", "dict", "isinstance", "range", "int", "bool", "str", "sum", "max", "min", "all", "enumerate", "zip", "sorted", "any", "abs", "ord", "reversed"], mg (Str.ofString b) = none)
    (ih : ∀ f d, look P f = some d → ∃ a fd ps, mg (Str.ofString f) = some (.ref a) ∧ PySem.W.keepIn K (.ref a) = true ∧ Binds K fd ps [] ∧ FnOk Pg Wd.w K mg base CX0 n a fd ps (SpOf P W n f)) :
    FnOk Pg Wd.w K mg base CX0 (n + 1) fa fd ps (SpOf P W (n + 1) f) := by
  refine F.ok S (fun vs H Q E h => by rw [spOf_len hf h, hnp]) fun cdv A outer s H vs Q E hr h => ?_
  have am : Amb (cxOf CX0 Pg Wd.w K mg base N x (defScope st) fa cdv A outer s H E).nox P W n := ⟨by have := hr.un; show (A.deeper _).units + 200 < cLine; omega, hr, rfl, rfl, S.nd, rfl, hblt, ih⟩
  refine ⟨_, soundB d.body (defBody st) am (fun _ => rfl) hc, ?_⟩
  obtain ⟨ρ, σ, rs, r, σ', h1, h2, e, q⟩ := h
  rw [MP.run, hf] at e
  dsimp only at e
  split at e
  · rename_i hl
    cases eb : evB (MP.run P W n) W d.body (rs.map some ++ List.replicate (d.nl - d.np) none) σ with
    | stuck => rw [eb] at e; cases e
    | exc c σ1 => rw [eb] at e; cases e
    | ok o σ1 =>
      rw [eb] at e
      refine ⟨ρ, _, σ, o, σ1, ?_, h2, eb, ?_⟩
      · have := start_re (N := N) (nl := d.nl) h1 hnl
        rw [hl] at this
        exact this
      · cases o with
        | next ε =>
          cases e
          intro ρ' st' H' ex S' hE'
          have hc : cellsAt σ1 (refsGe σ.length (.g .non) []) = some [] := by simp [refsGe, cellsAt]
          obtain ⟨ρ2, e1, e2, e3⟩ := fin_compact (r := .g .non) (v := .non) ex S' rfl hc
          rw [List.append_nil] at e1 e2 e3
          exact q ρ2 .non H' e1 e2 e3
        | brk ε => cases e
        | cont ε => cases e
        | ret r' =>
          intro ρ' v H' ex S' rv
          simp only [MP.fin] at e
          split at e
          · rename_i cs hc
            cases e
            obtain ⟨ρ2, e1, e2, e3⟩ := fin_compact ex S' rv hc
            exact q ρ2 v H' e1 e2 e3
          · cases e
  · cases e
structure DefOk (K : PySem.W.Frag) (mg : Str → Option Value) (d : Fn) : Prop where
  ex : ∃ (st : Stmt) (fa : Addr) (fd : FuncData) (N ps : List Str), Fun K (Str.ofString d.name) (Str.ofString d.name) st fa fd ∧ FnScope N ps (defScope st) ∧ d.np = ps.length ∧ d.nl = N.length ∧ chkB N (defScope st) d.body (defBody st) = true ∧
    Binds K fd ps [] ∧ mg (Str.ofString d.name) = some (.ref fa)
theorem look_name : ∀ {P : List Fn} {f : String} {d : Fn}, look P f = some d → d.name = f ∧ d ∈ P
  | [], _, _, h => by cases h
  | e :: r, f, d, h => by
    rw [look] at h
    split at h
    · rename_i hn; cases h; exact ⟨hn, List.mem_cons_self⟩
    · obtain ⟨a, b⟩ := look_name h; exact ⟨a, List.mem_cons_of_mem _ b⟩
theorem all_ok (hblt : ∀ b ∈ ["len", "tuple", "list", "dict", "isinstance", "range", "int", "bool", "str", "sum", "max", "min", "all", "enumerate", "zip", "sorted", "any", "abs", "ord", "reversed"], mg (Str.ofString b) = none)
    (hd : ∀ d ∈ P, DefOk K mg d) : ∀ (n : Nat) (f : String) (d : Fn), look P f = some d → ∃ a fd ps, mg (Str.ofString f) = some (.ref a) ∧ PySem.W.keepIn K (.ref a) = true ∧ Binds K fd ps [] ∧ FnOk Pg Wd.w K mg base CX0 n a fd ps (SpOf P W n f)
  | 0, f, d, h => by
    obtain ⟨en, hm⟩ := look_name h
    obtain ⟨st, fa, fd, N, ps, F, S, h1, h2, h3, h4, h5⟩ := (hd d hm).ex
    rw [en] at h5
    refine ⟨fa, fd, ps, h5, F.kp, h4, ⟨fun vs H Q E q => ?_, fun A outer s H args us vs Q E _ _ _ _ q => ?_⟩⟩
    · obtain ⟨ρ, σ, rs, r, σ', _, _, e, _⟩ := q; cases e
    · obtain ⟨ρ, σ, rs, r, σ', _, _, e, _⟩ := q; cases e
  | n + 1, f, d, h => by
    obtain ⟨en, hm⟩ := look_name h
    obtain ⟨st, fa, fd, N, ps, F, S, h1, h2, h3, h4, h5⟩ := (hd d hm).ex
    have h5' := h5
    rw [en] at h5'
    exact ⟨fa, fd, ps, h5', F.kp, h4, fn_ok F S h h1 h2 h3 hblt (all_ok hblt hd n)⟩

theorem ints_rg {H : Hp} : ∀ ns : List Int, RGs H (ns.map .int) (ns.map V.int)
  | [] => rfl
  | i :: r => ⟨_, _, rfl, rfl, ints_rg r⟩
noncomputable def noList (K : PySem.W.Frag) : Bool := K.all fun p => match p.2.cls with
  | .type "list" => false
  | _ => true
theorem lookup_mem : ∀ {K : PySem.W.Frag} {a : Addr} {o : Obj}, K.lookup a = some o → (a, o) ∈ K
  | [], _, _, h => by cases h
  | (b, p) :: r, a, o, h => by
    rw [List.lookup_cons] at h
    split at h
    · rename_i e
      cases h
      have : a = b := by simpa using e
      subst this
      exact List.mem_cons_self
    · exact List.mem_cons_of_mem _ (lookup_mem h)
theorem sq_rd {K : PySem.W.Frag} {H : Hp} {a : Addr} {xs : List V} (hn : noList K = true) (h : SqL K H a xs) : Rd H a (.lst xs) := by
  rcases h with h | ⟨o, its, m, hk, hc, _⟩
  · exact h
  · have := (List.all_eq_true.mp hn) (a, o) (lookup_mem hk)
    simp only [hc] at this
    cases this
theorem law_sp {P : List Fn} {W n : Nat} (hl : ∀ ns : List Int, ∃ σ', MP.run P W n "law" [.ref 0] [.rdl (ns.map .int)] = .ok (.g (.bl true)) σ') (H : Hp) (a : Addr) (ns : List Int) (hn : noList K = true) (hS : SqL K H a (ns.map V.int)) (E : XK) :
    SpOf P W n "law" [.ref a] H (fun v _ => v = .bl true) E := by
  obtain ⟨σ', e⟩ := hl ns
  have hg : RGs H (ns.map .int) (ns.map V.int) := ints_rg ns
  have hR := sq_rd hn hS
  refine ⟨fun _ => a, [.rdl (ns.map .int)], [.ref 0], _, σ', ⟨_, [], rfl, ⟨by simp, rfl⟩, rfl⟩, ⟨fun i c ei => ?_, fun i j hi hj _ => by simp at hi hj; omega⟩, e, fun ρ' v H' _ _ r => r⟩
  cases i with
  | zero => simp at ei; subst ei; exact ⟨_, hR, hg⟩
  | succ i => simp at ei
end
end SN


set_option Elab.async false
set_option linter.all false
set_option maxRecDepth 100000
namespace SN
open PySem PySem.Spec PyProof.Rows L2 MP
noncomputable def locals (sc : Scope) : List Str := (sc.names.filter fun p => match p.2 with
  | .local => true
  | .cell => true
  | _ => false).map (·.1)
noncomputable def nodupB : List Str → Bool
  | [] => true
  | x :: r => !r.contains x && nodupB r
theorem nodupB_ok : ∀ {xs : List Str}, nodupB xs = true → xs.Nodup
  | [], _ => List.nodup_nil
  | x :: r, h => by
    rw [nodupB, Bool.and_eq_true] at h
    exact List.nodup_cons.mpr ⟨by simpa using h.1, nodupB_ok h.2⟩
noncomputable def isLoc : Option NameKind → Bool
  | some .local => true
  | some .cell => true
  | _ => false
noncomputable def notFree : NameKind → Bool
  | .free => false
  | _ => true
noncomputable def isFunK : ScopeKind → Bool
  | .function => true
  | _ => false
noncomputable def parsOf (st : Stmt) : List Str := (defArgs st).args.map (·.arg)
noncomputable def scopeB (ps : List Str) (sc : Scope) : Bool :=
  isFunK sc.kind && (!sc.isCoroutine && (!sc.isGenerator && (nodupB (locals sc) && (decide ((locals sc).take ps.length = ps) && (ps.all (fun x => isLoc (sc.names.lookup x)) && sc.names.all fun y => notFree y.2)))))
theorem scopeB_ok {ps : List Str} {sc : Scope} (h : scopeB ps sc = true) : FnScope (locals sc) ps sc := by
  simp only [scopeB, Bool.and_eq_true, Bool.not_eq_true', decide_eq_true_eq, List.all_eq_true] at h
  obtain ⟨h1, h2, h3, h4, h5, h6, h7⟩ := h
  refine ⟨?_, h2, h3, nodupB_ok h4, h5, fun x hx => ?_, fun y hy e => ?_⟩
  · revert h1
    cases sc.kind <;> intro h1 <;> first | rfl | cases h1
  · have := h6 x hx
    revert this
    cases sc.names.lookup x with
    | none => intro z; cases z
    | some k => cases k <;> intro z <;> first | exact Or.inl rfl | exact Or.inr rfl | cases z
  · have := h7 y hy
    rw [e] at this
    cases this
noncomputable def defB (st : Stmt) (d : Fn) : Bool := scopeB (parsOf st) (defScope st) && (decide (d.np = (parsOf st).length) && (decide (d.nl = (locals (defScope st)).length) && chkB (locals (defScope st)) (defScope st) d.body (defBody st)))
noncomputable def At (K : PySem.W.Frag) (x : Str) (st : Stmt) : Prop := ∃ (f : Addr) (fd : FuncData), PySem.W.nsIn K mainGlobals x = some (some (.ref f)) ∧ Fun K x x st f fd
theorem at_mk {K : PySem.W.Frag} {h : Heap} {x : Str} {st : Stmt} {f : Addr} {oc : Value} {od an : Option Addr} {osl : Array (Option Value)} {kV doc pm cdv ct : Value} (X : K.In h) (a : PySem.W.nsIn K mainGlobals x = some (some (.ref f)))
    (l : K.lookup f = some ⟨oc, od, .func (PySem.W.fnOf x x (defArgs st) (defBody st) (defScope st) .none kV doc pm an cdv ct), osl⟩)
    (c : PySem.W.codeIn K cdv x = true) (k : PySem.W.keepIn K (.ref f) = true) : At K x st := ⟨f, _, a, fun_mk l c k⟩
theorem blt_mk {K : PySem.W.Frag} {h : Heap} {x : Str} (X : K.In h) (a : PySem.W.nsIn K mainGlobals x = some none) : PySem.W.nsIn K mainGlobals x = some none := a
noncomputable def BindB (x : Str) (st : Stmt) : Prop := ∀ (kV doc pm : Value) (an : Option Addr) (cdv ct : Value) (us : List Value), us.length = (parsOf st).length → bindArgs (PySem.W.fnOf x x (defArgs st) (defBody st) (defScope st) .none kV doc pm an cdv ct) ⟨us, []⟩ = pure ((parsOf st).zip us)
theorem def_mk {K : PySem.W.Frag} {h : Heap} {mg : Str → Option Value} {st : Stmt} {d : Fn} (X : K.In h) (G : h.Ns mainGlobals mg) (hA : At K (Str.ofString d.name) st) (hB : defB st d = true) (hb : BindB (Str.ofString d.name) st) : DefOk K mg d := by
  obtain ⟨f, fd, a, F⟩ := hA
  simp only [defB, Bool.and_eq_true, decide_eq_true_eq] at hB
  obtain ⟨h1, h2, h3, h4⟩ := hB
  exact ⟨⟨st, f, fd, _, _, F, scopeB_ok h1, h2, h3, h4, F.binds hb, PySem.W.mg_of X G a⟩⟩
theorem law_mk {l : PySem.W.OpenLaw} {w : World} {K : PySem.W.Frag} {h : Heap} {mg : Str → Option Value} {fa : Addr} {P : List Fn} {W n : Nat} {d : Fn} {st : Stmt} {x : Str} (X : K.In h) (G : h.Ns mainGlobals mg) (hfa : mg (Str.ofString "law") = some (.ref fa))
    (hn : look P "law" = some d) (hA : At K (Str.ofString "law") st) (hB : defB st d = true) (hp : parsOf st = [x]) (hb : BindB (Str.ofString "law") st)
    (hblt : ∀ b ∈ ["len", "tuple", "list", "dict", "isinstance", "range", "int", "bool", "str", "sum", "max", "min", "all", "enumerate", "zip", "sorted", "any", "abs", "ord", "reversed"], PySem.W.nsIn K mainGlobals (Str.ofString b) = some none)
    (hd : ∀ d ∈ P, DefOk K mg d) :
    ∃ fd : FuncData, (∀ (s : Shared) (u : Value), BindsTo s fd ⟨[u], []⟩ [(x, u)]) ∧ ∀ base : Heap, K.In base → base.Ns mainGlobals mg → FnOk l.prog w K mg base CX0 (n + 1) fa fd [x] (@SpOf ⟨w⟩ P W (n + 1) "law") := by
  letI : Wd := ⟨w⟩
  obtain ⟨f, fd, a, F⟩ := hA
  have e := hfa.symm.trans (PySem.W.mg_of X G a)
  cases e
  simp only [defB, Bool.and_eq_true, decide_eq_true_eq] at hB
  obtain ⟨h1, h2, h3, h4⟩ := hB
  have hl : ∀ b ∈ ["len", "tuple", "list", "dict", "isinstance", "range", "int", "bool", "str", "sum", "max", "min", "all", "enumerate", "zip", "sorted", "any", "abs", "ord", "reversed"], mg (Str.ofString b) = none := fun b hb => PySem.W.mg_none_of X G (hblt b hb)
  refine ⟨fd, fun s u => ?_, fun base _ _ => ?_⟩
  · obtain ⟨oc, od, kV, doc, pm, an, cdv, ct, osl, rfl, _, _⟩ := F.ex
    have := hb kV doc pm an cdv ct [u] (by rw [hp]; rfl)
    rw [hp] at this
    exact .of_eq this
  · have := fn_ok (Pg := l.prog) (base := base) (W := W) (n := n) F (scopeB_ok h1) hn h2 h3 h4 hl (all_ok hl hd n)
    rw [hp] at this
    exact this
theorem us0 {us : List Value} (h : us.length = 0) : us = [] := List.length_eq_zero_iff.mp h
theorem usS {us : List Value} {n : Nat} (h : us.length = n + 1) : ∃ a r, us = a :: r ∧ r.length = n := by
  cases us with
  | nil => cases h
  | cons a r => exact ⟨a, r, rfl, Nat.succ.inj h⟩
theorem us1 {us : List Value} (h : us.length = 1) : ∃ a, us = [a] := by obtain ⟨a, r, rfl, k⟩ := usS h; cases us0 k; exact ⟨a, rfl⟩
theorem us2 {us : List Value} (h : us.length = 2) : ∃ a b, us = [a, b] := by obtain ⟨a, r, rfl, k⟩ := usS h; obtain ⟨b, rfl⟩ := us1 k; exact ⟨a, b, rfl⟩
theorem us3 {us : List Value} (h : us.length = 3) : ∃ a b c, us = [a, b, c] := by obtain ⟨a, r, rfl, k⟩ := usS h; obtain ⟨b, c, rfl⟩ := us2 k; exact ⟨a, b, c, rfl⟩
theorem us4 {us : List Value} (h : us.length = 4) : ∃ a b c d, us = [a, b, c, d] := by obtain ⟨a, r, rfl, k⟩ := usS h; obtain ⟨b, c, d, rfl⟩ := us3 k; exact ⟨a, b, c, d, rfl⟩
theorem walk {l : PySem.W.OpenLaw} {q : Program} {loose : List Str} {XP : (Str → Option Value) → Heap → Prop} {YP : World → Heap → Prop} {d : DefRec} {K : Params → PySem.W.Frag} {P : List Fn} {W n : Nat} {x : Str} (hn : l.most = some 63) (hdf : d.params.defaults = [])
    (hr : Room (n + 1) callerA) (hY : ∀ (w : World) (h : Heap), YP w h → (K w.params).In h)
    (hL : ∀ w : World, noList (K w.params) = true) (hl : ∀ ns : List Int, ∃ σ', MP.run P W (n + 1) "law" [.ref 0] [.rdl (ns.map .int)] = .ok (.g (.bl true)) σ')
    (F : ∀ (w : World) (mg : Str → Option Value) (fa : Addr) (h : Heap), (K w.params).In h → h.Ns mainGlobals mg → mg d.name = some (.ref fa) →
      ∃ fd : FuncData, (∀ (s : Shared) (u : Value), BindsTo s fd ⟨[u], []⟩ [(x, u)]) ∧ ∀ base : Heap, (K w.params).In base → base.Ns mainGlobals mg → FnOk l.prog w (K w.params) mg base CX0 (n + 1) fa fd [x] (@SpOf ⟨w⟩ P W (n + 1) "law")) :
    PySem.W.WalkO q loose XP YP l.row.toRowW d [] (fun f vs => PySem.call f vs) :=
  L2.walk_of (n := 63) (k := n + 1) (x := x) (CX := fun _ => CX0) (sp := fun w => @SpOf ⟨w⟩ P W (n + 1) "law") hn (by decide) hdf hr hY F (fun w H a ns _ _ hS => @law_sp ⟨w⟩ _ _ _ _ hl H a ns (hL w) hS _) fun _ _ _ _ _ z => z
end SN


set_option Elab.async false
set_option linter.all false
set_option maxRecDepth 100000
namespace FinK
open PySem L2 MP SN
noncomputable def top (i : Nat) : Stmt := PySem.Challenge.pw_commonforms_k07_the_least_common_form.main.body.getD i (.Pass ⟨0, 0, 0, 0⟩)
theorem chk_is_gap : defB (top 1) MP.fn_is_gap = true := by decide +kernel
theorem bind_is_gap : BindB (Str.ofString "is_gap") (top 1) := fun _ _ _ _ _ _ us hl => by obtain ⟨a, rfl⟩ := SN.us1 hl; rfl
theorem chk_of_one_kind : defB (top 2) MP.fn_of_one_kind = true := by decide +kernel
theorem bind_of_one_kind : BindB (Str.ofString "of_one_kind") (top 2) := fun _ _ _ _ _ _ us hl => by obtain ⟨a, b, rfl⟩ := SN.us2 hl; rfl
theorem chk_shared : defB (top 4) MP.fn_shared = true := by decide +kernel
theorem bind_shared : BindB (Str.ofString "shared") (top 4) := fun _ _ _ _ _ _ us hl => by obtain ⟨a, b, c, rfl⟩ := SN.us3 hl; rfl
theorem chk_common : defB (top 5) MP.fn_common = true := by decide +kernel
theorem bind_common : BindB (Str.ofString "common") (top 5) := fun _ _ _ _ _ _ us hl => by obtain ⟨a, b, rfl⟩ := SN.us2 hl; rfl
theorem chk__law_cell_at : defB (top 7) MP.fn__law_cell_at = true := by decide +kernel
theorem bind__law_cell_at : BindB (Str.ofString "_law_cell_at") (top 7) := fun _ _ _ _ _ _ us hl => by obtain ⟨a, b, rfl⟩ := SN.us2 hl; rfl
theorem chk__law_whole : defB (top 8) MP.fn__law_whole = true := by decide +kernel
theorem bind__law_whole : BindB (Str.ofString "_law_whole") (top 8) := fun _ _ _ _ _ _ us hl => by obtain ⟨a, rfl⟩ := SN.us1 hl; rfl
theorem chk__law_form : defB (top 9) MP.fn__law_form = true := by decide +kernel
theorem bind__law_form : BindB (Str.ofString "_law_form") (top 9) := fun _ _ _ _ _ _ us hl => by obtain ⟨a, b, c, rfl⟩ := SN.us3 hl; rfl
theorem chk__law_drawn : defB (top 10) MP.fn__law_drawn = true := by decide +kernel
theorem bind__law_drawn : BindB (Str.ofString "_law_drawn") (top 10) := fun _ _ _ _ _ _ us hl => by obtain ⟨a, b, c, rfl⟩ := SN.us3 hl; rfl
theorem chk__law_filled : defB (top 13) MP.fn__law_filled = true := by decide +kernel
theorem bind__law_filled : BindB (Str.ofString "_law_filled") (top 13) := fun _ _ _ _ _ _ us hl => by obtain ⟨a, b, rfl⟩ := SN.us2 hl; rfl
theorem chk__law_filling : defB (top 15) MP.fn__law_filling = true := by decide +kernel
theorem bind__law_filling : BindB (Str.ofString "_law_filling") (top 15) := fun _ _ _ _ _ _ us hl => by obtain ⟨a, b, c, d, rfl⟩ := SN.us4 hl; rfl
theorem chk__law_is_form : defB (top 16) MP.fn__law_is_form = true := by decide +kernel
theorem bind__law_is_form : BindB (Str.ofString "_law_is_form") (top 16) := fun _ _ _ _ _ _ us hl => by obtain ⟨a, rfl⟩ := SN.us1 hl; rfl
theorem chk__law_is_filling : defB (top 17) MP.fn__law_is_filling = true := by decide +kernel
theorem bind__law_is_filling : BindB (Str.ofString "_law_is_filling") (top 17) := fun _ _ _ _ _ _ us hl => by obtain ⟨a, b, rfl⟩ := SN.us2 hl; rfl
theorem chk__law_common : defB (top 18) MP.fn__law_common = true := by decide +kernel
theorem bind__law_common : BindB (Str.ofString "_law_common") (top 18) := fun _ _ _ _ _ _ us hl => by obtain ⟨a, b, c, rfl⟩ := SN.us3 hl; rfl
theorem chk__law_spots : defB (top 19) MP.fn__law_spots = true := by decide +kernel
theorem bind__law_spots : BindB (Str.ofString "_law_spots") (top 19) := fun _ _ _ _ _ _ us hl => by obtain ⟨a, b, c, rfl⟩ := SN.us3 hl; rfl
theorem chk__law_opened : defB (top 20) MP.fn__law_opened = true := by decide +kernel
theorem bind__law_opened : BindB (Str.ofString "_law_opened") (top 20) := fun _ _ _ _ _ _ us hl => by obtain ⟨a, b, c, rfl⟩ := SN.us3 hl; rfl
theorem chk__law_looser : defB (top 21) MP.fn__law_looser = true := by decide +kernel
theorem bind__law_looser : BindB (Str.ofString "_law_looser") (top 21) := fun _ _ _ _ _ _ us hl => by obtain ⟨a, b, c, rfl⟩ := SN.us3 hl; rfl
theorem chk__law_two : defB (top 22) MP.fn__law_two = true := by decide +kernel
theorem bind__law_two : BindB (Str.ofString "_law_two") (top 22) := fun _ _ _ _ _ _ us hl => by obtain ⟨a, rfl⟩ := SN.us1 hl; rfl
theorem chk_law : defB (top 23) MP.fn_law07 = true := by decide +kernel
theorem bind_law : BindB (Str.ofString "law") (top 23) := fun _ _ _ _ _ _ us hl => by obtain ⟨a, rfl⟩ := SN.us1 hl; rfl
end FinK
open PySem PySem.W PyProof.Rows
set_option maxRecDepth 100000 in
set_option maxHeartbeats 0 in
theorem PySem.Challenge.cw_commonforms_k07_the_least_common_form_holds : PySem.Challenge.rw_commonforms_k07_the_least_common_form.Holds := by
  w_on; o_law; k_head; (case hw => w_witness2)
  k_fill
  refine SN.walk (l := PySem.Challenge.rw_commonforms_k07_the_least_common_form) (P := MP.P07) (W := 0) (n := 19) (x := "script") rfl rfl ⟨rfl, by decide, by decide⟩ (fun w h Y => PySem.W.kIn_of Y) ?L MP.law07 ?F
  case L =>
    intro w
    rfl
  case F =>
    intro w mg fa h KX G hmg
    have A0 : SN.At (L2.KOf KX) (Str.ofString "is_gap") (FinK.top 1) := by
      delta L2.KOf
      refine' SN.at_mk KX ?a ?l ?c ?k
      case a => k_is
      case l => k_is
      case c => k_is
      case k => k_is
    have A1 : SN.At (L2.KOf KX) (Str.ofString "of_one_kind") (FinK.top 2) := by
      delta L2.KOf
      refine' SN.at_mk KX ?a ?l ?c ?k
      case a => k_is
      case l => k_is
      case c => k_is
      case k => k_is
    have A2 : SN.At (L2.KOf KX) (Str.ofString "shared") (FinK.top 4) := by
      delta L2.KOf
      refine' SN.at_mk KX ?a ?l ?c ?k
      case a => k_is
      case l => k_is
      case c => k_is
      case k => k_is
    have A3 : SN.At (L2.KOf KX) (Str.ofString "common") (FinK.top 5) := by
      delta L2.KOf
      refine' SN.at_mk KX ?a ?l ?c ?k
      case a => k_is
      case l => k_is
      case c => k_is
      case k => k_is
    have A4 : SN.At (L2.KOf KX) (Str.ofString "_law_cell_at") (FinK.top 7) := by
      delta L2.KOf
      refine' SN.at_mk KX ?a ?l ?c ?k
      case a => k_is
      case l => k_is
      case c => k_is
      case k => k_is
    have A5 : SN.At (L2.KOf KX) (Str.ofString "_law_whole") (FinK.top 8) := by
      delta L2.KOf
      refine' SN.at_mk KX ?a ?l ?c ?k
      case a => k_is
      case l => k_is
      case c => k_is
      case k => k_is
    have A6 : SN.At (L2.KOf KX) (Str.ofString "_law_form") (FinK.top 9) := by
      delta L2.KOf
      refine' SN.at_mk KX ?a ?l ?c ?k
      case a => k_is
      case l => k_is
      case c => k_is
      case k => k_is
    have A7 : SN.At (L2.KOf KX) (Str.ofString "_law_drawn") (FinK.top 10) := by
      delta L2.KOf
      refine' SN.at_mk KX ?a ?l ?c ?k
      case a => k_is
      case l => k_is
      case c => k_is
      case k => k_is
    have A8 : SN.At (L2.KOf KX) (Str.ofString "_law_filled") (FinK.top 13) := by
      delta L2.KOf
      refine' SN.at_mk KX ?a ?l ?c ?k
      case a => k_is
      case l => k_is
      case c => k_is
      case k => k_is
    have A9 : SN.At (L2.KOf KX) (Str.ofString "_law_filling") (FinK.top 15) := by
      delta L2.KOf
      refine' SN.at_mk KX ?a ?l ?c ?k
      case a => k_is
      case l => k_is
      case c => k_is
      case k => k_is
    have A10 : SN.At (L2.KOf KX) (Str.ofString "_law_is_form") (FinK.top 16) := by
      delta L2.KOf
      refine' SN.at_mk KX ?a ?l ?c ?k
      case a => k_is
      case l => k_is
      case c => k_is
      case k => k_is
    have A11 : SN.At (L2.KOf KX) (Str.ofString "_law_is_filling") (FinK.top 17) := by
      delta L2.KOf
      refine' SN.at_mk KX ?a ?l ?c ?k
      case a => k_is
      case l => k_is
      case c => k_is
      case k => k_is
    have A12 : SN.At (L2.KOf KX) (Str.ofString "_law_common") (FinK.top 18) := by
      delta L2.KOf
      refine' SN.at_mk KX ?a ?l ?c ?k
      case a => k_is
      case l => k_is
      case c => k_is
      case k => k_is
    have A13 : SN.At (L2.KOf KX) (Str.ofString "_law_spots") (FinK.top 19) := by
      delta L2.KOf
      refine' SN.at_mk KX ?a ?l ?c ?k
      case a => k_is
      case l => k_is
      case c => k_is
      case k => k_is
    have A14 : SN.At (L2.KOf KX) (Str.ofString "_law_opened") (FinK.top 20) := by
      delta L2.KOf
      refine' SN.at_mk KX ?a ?l ?c ?k
      case a => k_is
      case l => k_is
      case c => k_is
      case k => k_is
    have A15 : SN.At (L2.KOf KX) (Str.ofString "_law_looser") (FinK.top 21) := by
      delta L2.KOf
      refine' SN.at_mk KX ?a ?l ?c ?k
      case a => k_is
      case l => k_is
      case c => k_is
      case k => k_is
    have A16 : SN.At (L2.KOf KX) (Str.ofString "_law_two") (FinK.top 22) := by
      delta L2.KOf
      refine' SN.at_mk KX ?a ?l ?c ?k
      case a => k_is
      case l => k_is
      case c => k_is
      case k => k_is
    have A17 : SN.At (L2.KOf KX) (Str.ofString "law") (FinK.top 23) := by
      delta L2.KOf
      refine' SN.at_mk KX ?a ?l ?c ?k
      case a => k_is
      case l => k_is
      case c => k_is
      case k => k_is
    have z0 : PySem.W.nsIn (L2.KOf KX) mainGlobals (Str.ofString "len") = some none := by
      delta L2.KOf
      apply SN.blt_mk KX
      k_is
    have z1 : PySem.W.nsIn (L2.KOf KX) mainGlobals (Str.ofString "tuple") = some none := by
      delta L2.KOf
      apply SN.blt_mk KX
      k_is
    have z2 : PySem.W.nsIn (L2.KOf KX) mainGlobals (Str.ofString "list") = some none := by
      delta L2.KOf
      apply SN.blt_mk KX
      k_is
    have z3 : PySem.W.nsIn (L2.KOf KX) mainGlobals (Str.ofString "dict") = some none := by
      delta L2.KOf
      apply SN.blt_mk KX
      k_is
    have z4 : PySem.W.nsIn (L2.KOf KX) mainGlobals (Str.ofString "isinstance") = some none := by
      delta L2.KOf
      apply SN.blt_mk KX
      k_is
    have z5 : PySem.W.nsIn (L2.KOf KX) mainGlobals (Str.ofString "range") = some none := by
      delta L2.KOf
      apply SN.blt_mk KX
      k_is
    have z6 : PySem.W.nsIn (L2.KOf KX) mainGlobals (Str.ofString "int") = some none := by
      delta L2.KOf
      apply SN.blt_mk KX
      k_is
    have z7 : PySem.W.nsIn (L2.KOf KX) mainGlobals (Str.ofString "bool") = some none := by
      delta L2.KOf
      apply SN.blt_mk KX
      k_is
    have z8 : PySem.W.nsIn (L2.KOf KX) mainGlobals (Str.ofString "str") = some none := by
      delta L2.KOf
      apply SN.blt_mk KX
      k_is
    have z9 : PySem.W.nsIn (L2.KOf KX) mainGlobals (Str.ofString "sum") = some none := by
      delta L2.KOf
      apply SN.blt_mk KX
      k_is
    have z10 : PySem.W.nsIn (L2.KOf KX) mainGlobals (Str.ofString "max") = some none := by
      delta L2.KOf
      apply SN.blt_mk KX
      k_is
    have z11 : PySem.W.nsIn (L2.KOf KX) mainGlobals (Str.ofString "min") = some none := by
      delta L2.KOf
      apply SN.blt_mk KX
      k_is
    have z12 : PySem.W.nsIn (L2.KOf KX) mainGlobals (Str.ofString "all") = some none := by
      delta L2.KOf
      apply SN.blt_mk KX
      k_is
    have z13 : PySem.W.nsIn (L2.KOf KX) mainGlobals (Str.ofString "enumerate") = some none := by
      delta L2.KOf
      apply SN.blt_mk KX
      k_is
    have z14 : PySem.W.nsIn (L2.KOf KX) mainGlobals (Str.ofString "zip") = some none := by
      delta L2.KOf
      apply SN.blt_mk KX
      k_is
    have z15 : PySem.W.nsIn (L2.KOf KX) mainGlobals (Str.ofString "sorted") = some none := by
      delta L2.KOf
      apply SN.blt_mk KX
      k_is
    have z16 : PySem.W.nsIn (L2.KOf KX) mainGlobals (Str.ofString "any") = some none := by
      delta L2.KOf
      apply SN.blt_mk KX
      k_is
    have z17 : PySem.W.nsIn (L2.KOf KX) mainGlobals (Str.ofString "abs") = some none := by
      delta L2.KOf
      apply SN.blt_mk KX
      k_is
    have z18 : PySem.W.nsIn (L2.KOf KX) mainGlobals (Str.ofString "ord") = some none := by
      delta L2.KOf
      apply SN.blt_mk KX
      k_is
    have z19 : PySem.W.nsIn (L2.KOf KX) mainGlobals (Str.ofString "reversed") = some none := by
      delta L2.KOf
      apply SN.blt_mk KX
      k_is
    refine SN.law_mk (n := 19) KX G hmg (d := MP.fn_law07) rfl A17 FinK.chk_law rfl FinK.bind_law ?b ?d
    case b =>
      intro b hb
      simp only [List.mem_cons, List.not_mem_nil, or_false] at hb
      rcases hb with rfl | rfl | rfl | rfl | rfl | rfl | rfl | rfl | rfl | rfl | rfl | rfl | rfl | rfl | rfl | rfl | rfl | rfl | rfl | rfl
      · exact z0
      · exact z1
      · exact z2
      · exact z3
      · exact z4
      · exact z5
      · exact z6
      · exact z7
      · exact z8
      · exact z9
      · exact z10
      · exact z11
      · exact z12
      · exact z13
      · exact z14
      · exact z15
      · exact z16
      · exact z17
      · exact z18
      · exact z19
    case d =>
      intro d hd
      simp only [MP.P07, List.mem_cons, List.not_mem_nil, or_false] at hd
      rcases hd with rfl | rfl | rfl | rfl | rfl | rfl | rfl | rfl | rfl | rfl | rfl | rfl | rfl | rfl | rfl | rfl | rfl | rfl
      · exact SN.def_mk KX G A0 FinK.chk_is_gap FinK.bind_is_gap
      · exact SN.def_mk KX G A1 FinK.chk_of_one_kind FinK.bind_of_one_kind
      · exact SN.def_mk KX G A2 FinK.chk_shared FinK.bind_shared
      · exact SN.def_mk KX G A3 FinK.chk_common FinK.bind_common
      · exact SN.def_mk KX G A4 FinK.chk__law_cell_at FinK.bind__law_cell_at
      · exact SN.def_mk KX G A5 FinK.chk__law_whole FinK.bind__law_whole
      · exact SN.def_mk KX G A6 FinK.chk__law_form FinK.bind__law_form
      · exact SN.def_mk KX G A7 FinK.chk__law_drawn FinK.bind__law_drawn
      · exact SN.def_mk KX G A8 FinK.chk__law_filled FinK.bind__law_filled
      · exact SN.def_mk KX G A9 FinK.chk__law_filling FinK.bind__law_filling
      · exact SN.def_mk KX G A10 FinK.chk__law_is_form FinK.bind__law_is_form
      · exact SN.def_mk KX G A11 FinK.chk__law_is_filling FinK.bind__law_is_filling
      · exact SN.def_mk KX G A12 FinK.chk__law_common FinK.bind__law_common
      · exact SN.def_mk KX G A13 FinK.chk__law_spots FinK.bind__law_spots
      · exact SN.def_mk KX G A14 FinK.chk__law_opened FinK.bind__law_opened
      · exact SN.def_mk KX G A15 FinK.chk__law_looser FinK.bind__law_looser
      · exact SN.def_mk KX G A16 FinK.chk__law_two FinK.bind__law_two
      · exact SN.def_mk KX G A17 FinK.chk_law FinK.bind_law
#print axioms PySem.Challenge.cw_commonforms_k07_the_least_common_form_holds

