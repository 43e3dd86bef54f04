import PyProof.Rows.All
import Wide.All
import OpenK.AllK
import Wide.FinOn
import Lean
import PyProof.EqAt
import PyProof.EqKinds
import PyProof.TupleCall
import KE.KUnpack
import KE.KDictList
import KE.KIntText
import PyProof.ListMulAny
import KE.KEqDict
import PyProof.InstEq
import KE.KRevIter
import PySem.Challenge.RW_grantweave_k33_works_written
set_option Elab.async false
set_option linter.all false
set_option maxRecDepth 100000
set_option maxHeartbeats 4000000
namespace L2
open PySem PySem.Spec PyProof.Rows

abbrev Key := Sum Int Str
def keyIs : Key → Value → Bool
  | .inl k, v => Value.isInt k v
  | .inr x, v => Value.isStrOf x v
def keyH (w : World) : Key → Int
  | .inl k => hashInt k
  | .inr x => hashStr w x
theorem keyIs_shape : ∀ {k : Key} {v : Value}, keyIs k v = true → (∃ i t, k = Sum.inl i ∧ v = Value.int i t) ∨ (∃ x t, k = Sum.inr x ∧ v = Value.str x t)
  | .inl i, v, h => by
    obtain ⟨t, e⟩ := Value.isInt_shape (k := i) (v := v) h
    exact .inl ⟨i, t, rfl, e⟩
  | .inr x, v, h => by
    obtain ⟨t, e⟩ := Value.isStrOf_shape (x := x) (v := v) h
    exact .inr ⟨x, t, rfl, e⟩
theorem keyIs_int (i : Int) (t : Tok) : keyIs (.inl i) (.int i t) = true := by simp [keyIs, Value.isInt]
theorem keyIs_str (x : Str) (t : Tok) : keyIs (.inr x) (.str x t) = true := by simp [keyIs, Value.isStrOf]
theorem key_ll (a b : Int) : decide ((Sum.inl a : Key) = Sum.inl b) = (a == b) := by
  by_cases e : a = b
  · subst e; simp
  · have h : ¬ (Sum.inl a : Key) = Sum.inl b := fun q => e (Sum.inl.inj q)
    rw [decide_eq_false h]
    exact (beq_eq_false_iff_ne.mpr e).symm
theorem key_rr (a b : Str) : decide ((Sum.inr a : Key) = Sum.inr b) = decide (a = b) := by
  by_cases e : a = b
  · subst e; simp
  · have h : ¬ (Sum.inr a : Key) = Sum.inr b := fun q => e (Sum.inr.inj q)
    rw [decide_eq_false h, decide_eq_false e]
theorem key_lr (a : Int) (b : Str) : decide ((Sum.inl a : Key) = Sum.inr b) = false := decide_eq_false (fun q => nomatch q)
theorem key_rl (a : Str) (b : Int) : decide ((Sum.inr a : Key) = Sum.inl b) = false := decide_eq_false (fun q => nomatch q)

def mixKind (prog : Program) (w : World) : PySem.KeyKind prog w Key where
  is := keyIs
  hash := keyH w
  inj := fun v a b ha hb => by
    rcases keyIs_shape ha with ⟨i, t, rfl, rfl⟩ | ⟨x, t, rfl, rfl⟩
    · rcases keyIs_shape hb with ⟨j, u, rfl, e⟩ | ⟨y, u, rfl, e⟩
      · injection e with e1 _; rw [e1]
      · exact nomatch e
    · rcases keyIs_shape hb with ⟨j, u, rfl, e⟩ | ⟨y, u, rfl, e⟩
      · exact nomatch e
      · injection e with e1 _; rw [e1]
  byValue := fun k v h => by
    rcases keyIs_shape h with ⟨i, t, rfl, rfl⟩ | ⟨x, t, rfl, rfl⟩ <;> rfl
  pyHash := fun hv h => by
    rcases keyIs_shape hv with ⟨i, t, rfl, rfl⟩ | ⟨x, t, rfl, rfl⟩
    · exact wpAny_pyHash_int h
    · exact wpAny_pyHash_str h
  eqBool := fun hu hv h => by
    rcases keyIs_shape hu with ⟨i, t, rfl, rfl⟩ | ⟨x, t, rfl, rfl⟩
    · rcases keyIs_shape hv with ⟨j, u, rfl, rfl⟩ | ⟨y, u, rfl, rfl⟩
      · rw [key_ll] at h; exact wpAny_eqBool_int h
      · rw [key_lr] at h; exact SeqAt.EqAt.int_str i t y u _ _ _ _ h
    · rcases keyIs_shape hv with ⟨j, u, rfl, rfl⟩ | ⟨y, u, rfl, rfl⟩
      · rw [key_rl] at h; exact SeqAt.EqAt.str_int x t j u _ _ _ _ h
      · rw [key_rr] at h; exact wpAny_eqBool_str h
  «strs» := fun k x t v h => by
    rcases keyIs_shape h with ⟨i, u, rfl, e⟩ | ⟨y, u, rfl, e⟩
    · exact nomatch e
    · injection e with e1 _
      subst e1
      cases v <;> rfl

theorem mixKind_int (prog : Program) (w : World) (i : Int) (t : Tok) : (mixKind prog w).is (.inl i) (.int i t) = true := keyIs_int i t
theorem mixKind_str (prog : Program) (w : World) (x : Str) (t : Tok) : (mixKind prog w).is (.inr x) (.str x t) = true := keyIs_str x t
end L2

namespace L2
open PySem PySem.Spec PyProof.Rows

inductive V where
  | non | bl (b : Bool) | int (i : Int) | str (x : Str) | byt (b : Array UInt8) | flt (b : UInt64) | ref (a : Addr) | ty (n : String)
  deriving DecidableEq

def RelV : V → Value → Prop
  | .non, u => u = Value.none
  | .bl b, u => u = Value.bool b
  | .int i, u => ∃ t, u = Value.int i t
  | .str x, u => ∃ t, u = Value.str x t
  | .byt b, u => ∃ t, u = Value.bytes b t
  | .flt b, u => ∃ t, u = Value.float b t
  | .ref a, u => u = Value.ref a
  | .ty n, u => u = Value.type n

abbrev Vals : List V → List Value → Prop := Paired RelV
theorem Vals.length {xs : List V} {us : List Value} (r : Vals xs us) : xs.length = us.length := Paired.length r
theorem Vals.get : ∀ {xs : List V} {us : List Value} {i : Nat} {x : V}, Vals xs us → xs[i]? = some x → ∃ u, us[i]? = some u ∧ RelV x u
  | _, _, _, _, .nil, e => by simp at e
  | _, _, 0, _, .cons r _, e => by simp at e; subst e; exact ⟨_, rfl, r⟩
  | _, _, i + 1, x, .cons _ t, e => by
    obtain ⟨u, h1, h2⟩ := Vals.get (i := i) (x := x) t (by simpa using e)
    exact ⟨u, by simpa using h1, h2⟩
theorem Vals.set {x : V} {u : Value} (r : RelV x u) : ∀ {xs : List V} {us : List Value} (i : Nat), Vals xs us → Vals (xs.set i x) (us.set i u)
  | _, _, _, .nil => .nil
  | _, _, 0, .cons _ t => .cons r t
  | _, _, i + 1, .cons q t => .cons q (Vals.set r i t)
theorem Vals.append : ∀ {xs ys : List V} {us ws : List Value}, Vals xs us → Vals ys ws → Vals (xs ++ ys) (us ++ ws)
  | _, _, _, _, .nil, s => s
  | _, _, _, _, .cons r t, s => .cons r (Vals.append t s)
theorem Vals.take : ∀ {xs : List V} {us : List Value} (n : Nat), Vals xs us → Vals (xs.take n) (us.take n)
  | _, _, 0, _ => .nil
  | _, _, _ + 1, .nil => .nil
  | _, _, n + 1, .cons r t => .cons r (Vals.take n t)
theorem Vals.drop : ∀ {xs : List V} {us : List Value} (n : Nat), Vals xs us → Vals (xs.drop n) (us.drop n)
  | _, _, 0, r => r
  | _, _, _ + 1, .nil => .nil
  | _, _, n + 1, .cons _ t => Vals.drop n t
def RelO : Option V → Option Value → Prop
  | some v, some u => RelV v u
  | none, none => True
  | _, _ => False
def KV {κ : Type} : List (κ × V) → List (κ × Value) → Prop := Paired fun (p : κ × V) (q : κ × Value) => p.1 = q.1 ∧ RelV p.2 q.2

def kV : Key → V
  | .inl i => .int i
  | .inr x => .str x

inductive HO where
    | lst (xs : List V)
    | tup (xs : List V)
    | dK (kvs : List (Key × V)) | dT (kvs : List (List Key × V))
    | set (S : Int → Bool) (n : Nat)
    | ins (C dx : Addr) (fs : List (Str × V))
    | own (x : Addr)
    | xd (fs : List (Str × V))
    | met (f x : Addr)
    | rng (lo hi : Int)
    | frz (o : Obj) (u : HO)
    | tbl (ps : Array Value)
    | ext (φ : Heap → Prop)

abbrev Hp := Addr → Option HO
def upd (H : Hp) (a : Addr) (o : HO) : Hp := fun b => if b = a then some o else H b
theorem upd_same {H : Hp} {a : Addr} {o : HO} : upd H a o a = some o := by unfold upd; rw [if_pos rfl]
theorem upd_ne {H : Hp} {a b : Addr} {o : HO} (h : b ≠ a) : upd H a o b = H b := by unfold upd; rw [if_neg h]
theorem ne_of {H : Hp} {a b : Addr} {o u : HO} (h : H a = some o) (h' : H b = some u) (d : o ≠ u) : a ≠ b := by
  intro e; subst e; rw [h] at h'; exact d (Option.some.inj h')
theorem ne_of_none {H : Hp} {a b : Addr} {o : HO} (h : H a = some o) (h' : H b = none) : a ≠ b := by
  intro e; subst e; rw [h] at h'; cases h'

section
variable (P : Program) (w : World)
def ObjOk (H : Hp) (h : Heap) (a : Addr) : HO → Prop
  | .lst xs => xs.length ≤ sizeLine ∧ ∃ (its : List Value) (n : Nat), Vals xs its ∧ h.get? a = some { cls := .type "list", data := .seq its.toArray n }
  | .tup xs => xs.length ≤ sizeLine ∧ ∃ its : List Value, Vals xs its ∧ IsTup h a its.toArray
  | .dK kvs => kvs.length ≤ sizeLine ∧ (a == sysModules) = false ∧ ∃ vs, KV kvs vs ∧ h.DictOf (mixKind P w) a vs
  | .dT kvs => kvs.length ≤ sizeLine ∧ (a == sysModules) = false ∧ ∃ xs : List (List Key × Addr × Value),
      Paired (fun (p : List Key × V) (q : List Key × Addr × Value) => p.1 = q.1 ∧ H q.2.1 = some (.tup (p.1.map kV)) ∧ RelV p.2 q.2.2) kvs xs ∧
      ∃ o es ep, h.get? a = some o ∧ o.ExactDict ∧ o.data = .dict es ep ∧ es.toList = xs.map (entryOfKey (tupleKind (mixKind P w))) ∧ (xs.map (·.1)).Nodup
  | .set S n => h.SetOf (intKind P w) a S n
  | .ins C dx fs => H dx = some (.own a) ∧ fs.length ≤ 1000 ∧ dx ≠ a ∧ h.get? a = some (PySem.W.instObj C dx) ∧
      ∃ mA, h.Ns1 dx mA ∧ (∀ f, RelO (fs.lookup f) (mA f)) ∧ PySem.Within mA (fs.map (·.1))
  | .own _ => ∃ o, h.get? a = some o
  | .xd fs => ∃ mA, h.Ns1 a mA ∧ ∀ f, RelO (fs.lookup f) (mA f)
  | .rng lo hi => ∃ t u v, h.get? a = some { cls := .type "range", data := .fields #[.int lo t, .int hi u, .int 1 v] }
  | .frz o u => h.get? a = some o ∧ ObjOk H h a u
  | .tbl ps => h.get? a = some { cls := .none, data := .fields ps }
  | .met f x => h.get? a = some (PySem.W.methodObj (.ref f) (.ref x))
  | .ext φ => φ h ∧ (∃ o, h.get? a = some o) ∧ ∀ h1 h2 : Heap, φ h1 → (∀ o, h1.get? a = some o → h2.get? a = some o) → φ h2
def HOk (H : Hp) (h : Heap) : Prop := ∀ a o, H a = some o → ObjOk P w H h a o
end

section
variable {P : Program} {w : World} {H H' : Hp} {h h' : Heap} {a : Addr} {o : HO}
theorem ObjOk.lt (x : ObjOk P w H h a o) : a < h.objs.size := by
  cases o with
  | lst xs => obtain ⟨_, _, _, _, e⟩ := x; exact Heap.lt_size e
  | tup xs => obtain ⟨_, _, _, p⟩ := x; exact p.lt
  | dK kvs => obtain ⟨_, _, _, _, o, _, _, e, _⟩ := x; exact Heap.lt_size e
  | dT kvs => obtain ⟨_, _, _, _, o, _, _, e, _⟩ := x; exact Heap.lt_size e
  | set S n => obtain ⟨o, _, _, _, e, _⟩ := x; exact Heap.lt_size e
  | ins C dx fs => obtain ⟨_, _, _, e, _⟩ := x; exact Heap.lt_size e
  | own y => obtain ⟨_, e⟩ := x; exact Heap.lt_size e
  | xd fs => obtain ⟨_, ⟨_, _, _, e, _⟩, _⟩ := x; exact Heap.lt_size e
  | rng lo hi => obtain ⟨_, _, _, e⟩ := x; exact Heap.lt_size e
  | frz ob u => obtain ⟨e, _⟩ := x; exact Heap.lt_size e
  | tbl ps => exact Heap.lt_size (show h.get? a = some _ from x)
  | met f y => exact Heap.lt_size (show h.get? a = some _ from x)
  | ext φ => obtain ⟨_, ⟨_, e⟩, _⟩ := x; exact Heap.lt_size e
theorem Paired.mapP {α β : Type} {F G : α → β → Prop} : ∀ {l₁ : List α} {l₂ : List β}, Paired F l₁ l₂ → (∀ a b, F a b → G a b) → Paired G l₁ l₂
  | _, _, .nil, _ => .nil
  | _, _, .cons r t, f => .cons (f _ _ r) (Paired.mapP t f)
theorem ObjOk.stay (x : ObjOk P w H h a o) (k : ∀ b u, (b = a ∨ H b = some (.own a)) → h.get? b = some u → h'.get? b = some u)
    (ho : ∀ b, H b = some (.own a) → H' b = some (.own a)) (ht : ∀ b xs, H b = some (.tup xs) → H' b = some (.tup xs)) : ObjOk P w H' h' a o := by
  induction o with
  | lst xs => obtain ⟨z, its, n, r, e⟩ := x; exact ⟨z, its, n, r, k _ _ (.inl rfl) e⟩
  | tup xs => obtain ⟨z, its, r, ob, e, c⟩ := x; exact ⟨z, its, r, ob, k _ _ (.inl rfl) e, c⟩
  | dK kvs => obtain ⟨z, y, vs, r, ob, es, ep, e, c⟩ := x; exact ⟨z, y, vs, r, ob, es, ep, k _ _ (.inl rfl) e, c⟩
  | dT kvs =>
    obtain ⟨z, y, xs, r, ob, es, ep, e, c⟩ := x
    exact ⟨z, y, xs, Paired.mapP r fun p q z => ⟨z.1, ht _ _ z.2.1, z.2.2⟩, ob, es, ep, k _ _ (.inl rfl) e, c⟩
  | set S n => obtain ⟨ob, es, ep, t, e, c⟩ := x; exact ⟨ob, es, ep, t, k _ _ (.inl rfl) e, c⟩
  | ins C dx fs =>
    obtain ⟨d, z, ne, e, mA, ⟨od, es, ep, e2, c⟩, r⟩ := x
    exact ⟨ho _ d, z, ne, k _ _ (.inl rfl) e, mA, ⟨od, es, ep, k _ _ (.inr d) e2, c⟩, r⟩
  | own y => obtain ⟨ob, e⟩ := x; exact ⟨ob, k _ _ (.inl rfl) e⟩
  | xd fs => obtain ⟨mA, ⟨od, es, ep, e, c⟩, r⟩ := x; exact ⟨mA, ⟨od, es, ep, k _ _ (.inl rfl) e, c⟩, r⟩
  | rng lo hi => obtain ⟨t, u, v, e⟩ := x; exact ⟨t, u, v, k _ _ (.inl rfl) e⟩
  | frz ob u ih => obtain ⟨e, q⟩ := x; exact ⟨k _ _ (.inl rfl) e, ih q⟩
  | tbl ps =>
    have e : h.get? a = some { cls := .none, data := .fields ps } := x
    show h'.get? a = some { cls := .none, data := .fields ps }
    exact k a _ (.inl rfl) e
  | met f y =>
    have e : h.get? a = some (PySem.W.methodObj (.ref f) (.ref y)) := x
    show h'.get? a = some (PySem.W.methodObj (.ref f) (.ref y))
    exact k a _ (.inl rfl) e
  | ext φ => obtain ⟨p, ⟨o, e⟩, st⟩ := x; exact ⟨st _ _ p fun o q => k _ _ (.inl rfl) q, ⟨o, k _ _ (.inl rfl) e⟩, st⟩
theorem HOk.lt (x : HOk P w H h) (e : H a = some o) : a < h.objs.size := (x a o e).lt
theorem HOk.fresh (x : HOk P w H h) (e : h.objs.size ≤ a) : H a = none := by
  cases q : H a with
  | none => rfl
  | some u => exact absurd (Nat.lt_of_lt_of_le (x.lt q) e) (Nat.lt_irrefl _)
theorem HOk.kept (x : HOk P w H h) (k : ∀ b u, h.get? b = some u → h'.get? b = some u) : HOk P w H h' := fun a o e =>
  (x a o e).stay (fun b u _ q => k b u q) (fun _ q => q) fun _ _ q => q
theorem HOk.laid (x : HOk P w H h) (k : ∀ b u, h.get? b = some u → h'.get? b = some u) (hp : h.objs.size ≤ a) (new : ObjOk P w (upd H a o) h' a o) : HOk P w (upd H a o) h' := fun b u e => by
  have hn := x.fresh hp
  by_cases hb : b = a
  · subst hb; rw [upd_same] at e; cases e; exact new
  · rw [upd_ne hb] at e
    exact (x b u e).stay (fun c v _ q => k c v q) (fun c q => by rw [upd_ne (ne_of_none q hn)]; exact q) fun c xs q => by rw [upd_ne (ne_of_none q hn)]; exact q
end

def Rd (H : Hp) (a : Addr) (u : HO) : Prop := H a = some u ∨ ∃ o, H a = some (.frz o u)
theorem Rd.ok {P : Program} {w : World} {H : Hp} {h : Heap} {a : Addr} {u : HO} (r : Rd H a u) (x : HOk P w H h) : ObjOk P w H h a u := by
  rcases r with r | ⟨o, r⟩
  · exact x a u r
  · obtain ⟨_, q⟩ := x a _ r
    exact q
def Mut : Option HO → Prop
  | some (.lst _) => True
  | some (.dK _) => True
  | some (.dT _) => True
  | some (.set _ _) => True
  | some (.ins _ _ _) => True
  | some (.ext _) => True
  | _ => False
section
variable {P : Program} {w : World} {H : Hp} {h h' : Heap} {x e : Addr} {o' : HO}
theorem HOk.write (ok : HOk P w H h) (mu : Mut (H x)) (he : e = x ∨ H e = some (.own x)) (k : ∀ b u, b ≠ e → h.get? b = some u → h'.get? b = some u) (heo : ∃ u, h'.get? e = some u)
    (new : ObjOk P w (upd H x o') h' x o') : HOk P w (upd H x o') h' := fun b u q => by
  have nown : ∀ c y, H c = some (.own y) → c ≠ x := fun c y r z => by subst z; rw [r] at mu; exact mu
  have ntup : ∀ c xs, H c = some (.tup xs) → c ≠ x := fun c xs r z => by subst z; rw [r] at mu; exact mu
  by_cases hb : b = x
  · subst hb; rw [upd_same] at q; cases q; exact new
  · rw [upd_ne hb] at q
    by_cases hbe : b = e
    · have q' : H b = some (.own x) := by
        rcases he with z | z
        · exact absurd (hbe.trans z) hb
        · rw [hbe]; exact z
      rw [q] at q'; cases q'
      obtain ⟨v, hv⟩ := heo
      exact ⟨v, by rw [hbe]; exact hv⟩
    · refine (ok b u q).stay (fun c v hc r => k c v ?_ r) (fun c r => by rw [upd_ne (nown c b r)]; exact r) fun c xs r => by rw [upd_ne (ntup c xs r)]; exact r
      rcases hc with rfl | hc
      · exact hbe
      · rintro rfl
        rcases he with z | z
        · exact nown c b hc z
        · rw [hc] at z; cases z; exact hb rfl
end

structure Un (fs ex : List Addr) (H H' : Hp) (h h' : Heap) : Prop where
  keep : ∀ b o, h.get? b = some o → H b = none → b ∉ fs → b ∉ ex → h'.get? b = some o
  slot : ∀ b o, h.get? b = some o → H b = none → b ∈ fs → b ∉ ex → ∃ sl, h'.get? b = some { o with slots := sl }
  free : ∀ b o, h.get? b = some o → H b = none → b ∉ ex → H' b = none
  there : ∀ b o, h.get? b = some o → b ∉ ex → ∃ o', h'.get? b = some o'
  tups : ∀ b xs, H b = some (.tup xs) → H' b = some (.tup xs)
  frzs : ∀ b o u, H b = some (.frz o u) → H' b = some (.frz o u)
  tbls : ∀ b ps, H b = some (.tbl ps) → ∃ more, H' b = some (.tbl (ps ++ more))
section
variable {fs fs' ex ex' : List Addr} {H H1 H2 : Hp} {h h1 h2 h' : Heap} {a x e : Addr} {o : HO}
theorem Un.any (u : Un fs ex H H1 h h1) {b : Addr} {ob : Obj} (q : h.get? b = some ob) (n : H b = none) (hx : b ∉ ex) : ∃ sl, h1.get? b = some { ob with slots := sl } := by
  by_cases hb : b ∈ fs
  · exact u.slot b ob q n hb hx
  · exact ⟨ob.slots, u.keep b ob q n hb hx⟩
theorem Un.kept (k : ∀ b u, h.get? b = some u → h'.get? b = some u) : Un fs ex H H h h' :=
  ⟨fun b ob q _ _ _ => k b ob q, fun b ob q _ _ _ => ⟨ob.slots, k b ob q⟩, fun _ _ _ n _ => n, fun b ob q _ => ⟨ob, k b ob q⟩, fun _ _ q => q, fun _ _ _ q => q, fun _ ps q => ⟨#[], by rw [q]; simp⟩⟩
theorem Un.refl : Un fs ex H H h h := Un.kept fun _ _ q => q
theorem Un.laid (k : ∀ b u, h.get? b = some u → h'.get? b = some u) (hp : h.objs.size ≤ a) (hn : H a = none) : Un fs ex H (upd H a o) h h' where
  keep := fun b u q _ _ _ => k b u q
  slot := fun b u q _ _ _ => ⟨u.slots, k b u q⟩
  free := fun b u q n _ => by rw [upd_ne (Nat.ne_of_lt (Nat.lt_of_lt_of_le (Heap.lt_size q) hp))]; exact n
  there := fun b u q _ => ⟨u, k b u q⟩
  tups := fun b xs q => by rw [upd_ne (ne_of_none q hn)]; exact q
  frzs := fun b u xs q => by rw [upd_ne (ne_of_none q hn)]; exact q
  tbls := fun b ps q => ⟨#[], by rw [upd_ne (ne_of_none q hn), q]; simp⟩
theorem Un.write (mu : Mut (H x)) (he : e = x ∨ H e = some (.own x)) (k : ∀ b u, b ≠ e → h.get? b = some u → h'.get? b = some u) (heo : ∃ u, h'.get? e = some u) : Un fs ex H (upd H x o) h h' := by
  have hx : ∀ b, H b = none → b ≠ x := fun b n z => by subst z; rw [n] at mu; exact mu
  have hb : ∀ b, H b = none → b ≠ e := fun b n z => by
    subst z
    rcases he with r | r
    · exact hx b n r
    · rw [n] at r; cases r
  have hm : ∀ b u, H b = some u → ¬ Mut (some u) → b ≠ x := fun b u q nm z => by subst z; rw [q] at mu; exact nm mu
  refine ⟨fun b u q n _ _ => k b u (hb b n) q, fun b u q n _ _ => ⟨u.slots, k b u (hb b n) q⟩, fun b u q n _ => by rw [upd_ne (hx b n)]; exact n, fun b u q _ => ?_,
    fun b xs q => by rw [upd_ne (hm b _ q fun z => z)]; exact q, fun b u xs q => by rw [upd_ne (hm b _ q fun z => z)]; exact q, fun b ps q => ⟨#[], by rw [upd_ne (hm b _ q fun z => z), q]; simp⟩⟩
  by_cases hbe : b = e
  · subst hbe; exact heo
  · exact ⟨u, k b u hbe q⟩
end

def trk (h : Heap) (H : Hp) : List Addr := (List.range h.objs.size).filter fun a => (H a).isSome
def hidT (h : Heap) (H : Hp) : Heap := PySem.W.hideAll h (trk h H)
theorem hidT_size (h : Heap) (H : Hp) : (hidT h H).objs.size = h.objs.size := PySem.W.hideAll_size _ _
theorem hidT_get {h : Heap} {H : Hp} {b : Addr} {o : Obj} (e : h.get? b = some o) (n : H b = none) : (hidT h H).get? b = some o :=
  PySem.W.hideAll_get _ e fun hm => by
    have q : (H b).isSome = true := (List.mem_filter.mp hm).2
    rw [n] at q; simp at q
theorem of_hidT {h : Heap} {H : Hp} {b : Addr} {o : Obj} (e : (hidT h H).get? b = some o) : h.get? b = some o ∧ H b = none := by
  have e' : h.get? b = some o := PySem.W.of_hideAll (trk h H) e
  refine ⟨e', ?_⟩
  cases q : H b with
  | none => rfl
  | some x =>
    have hm : b ∈ trk h H := List.mem_filter.mpr ⟨List.mem_range.mpr (Heap.lt_size e'), by simp [q]⟩
    have z : (hidT h H).get? b = none := PySem.W.hideAll_none (trk h H) hm
    rw [z] at e; cases e

def allNews (g h : Heap) (L : Addr) : List (Addr × Obj) := (List.range h.objs.size).filterMap fun a => if a = L ∨ (g.get? a).isSome = true then none else (h.get? a).map fun o => (a, o)
def rest (g h : Heap) (L d : Addr) : List (Addr × Obj) := (allNews g h L).filter fun p => decide (p.1 ≠ d)
end L2

namespace L2
open PySem PySem.Spec PyProof.Rows

structure Mod (K : PySem.W.Frag) (mg : Str → Option Value) (base : Heap) : Prop where
  kin : K.In base
  glob : base.Ns mainGlobals mg
  blt : ∃ mb, base.Ns builtinsNs mb ∧ ∀ x : Str, x ≠ "__name__" → mb x = bootBuiltins x
  nolimit : base.NoLimit

structure Cx where
  prog : Program
  w : World
  K : PySem.W.Frag
  mg : Str → Option Value
  base : Heap
  A : Around
  N : List Str
  s₀ : Shared
  H₀ : Hp
  env : Env
  outer : List Env
  stack : List Env
  ex : List Addr
  fn : Str → Bool
  calm : Bool
  pn : List (Addr × Obj)
  xe : Value → Shared → Prop
def frs (l : List Env) : List Addr := l.filterMap (·.frame)
abbrev Cx.fs (X : Cx) : List Addr := frs X.outer

def Vis (sc : Scope) (x : Str) : Prop := sc.names.lookup x = some .local ∨ sc.names.lookup x = some .cell ∨ sc.names.lookup x = some .free
def Loc (sc : Scope) (x : Str) : Prop := sc.names.lookup x = some .local ∨ sc.names.lookup x = some .cell
def Look (env : Env) (h : Heap) (m : Str → Option Value) (x : Str) (u : Value) : Prop :=
  (env.kindOf x = some .local ∧ m x = some u) ∨ ((env.kindOf x = some .cell ∨ env.kindOf x = some .free) ∧ ∃ c, env.cells.lookup x = some c ∧ h.IsCell c (some u))

structure Cx.Ok (X : Cx) : Prop where
  mod : Mod X.K X.mg X.base
  kind : X.env.scope.kind = .function
  glob : X.env.globals = mainGlobals
  blt : X.env.builtins = builtinsNs
  above : X.s₀.heap.objs.size ≤ X.env.locals
  inj : ∀ x y c, X.env.cells.lookup x = some c → X.env.cells.lookup y = some c → x = y
  has : ∀ x, (X.env.kindOf x = some .cell ∨ X.env.kindOf x = some .free) → ∃ c, X.env.cells.lookup x = some c
  cab : ∀ x c, X.fn x = true → X.env.cells.lookup x = some c → X.s₀.heap.objs.size ≤ c
  hd : X.calm = true → X.A.handled = none
  frames : X.A.frames = some X.stack
  stk : X.stack = X.outer ∨ (X.stack = X.env :: X.outer ∧ X.env.frame = some X.env.locals)
  exf : ∀ b ∈ X.ex, b ≠ X.env.locals ∧ ∀ x c, X.env.cells.lookup x = some c → c ≠ b
  bs : ∀ b o, X.base.get? b = some o → X.s₀.heap.get? b = some o ∧ X.H₀ b = none
  bsz : X.base.objs.size ≤ X.s₀.heap.objs.size
  noex : ∀ b o, X.base.get? b = some o → b ∉ X.ex
  exfs : ∀ b ∈ X.ex, b ∉ X.fs
  funs : X.s₀.heap.FunFrames X.base X.outer
  frf : ∀ b ∈ X.fs, X.H₀ b = none

structure Inv (X : Cx) (pins : List (Addr × Obj)) (σ : List (Option V)) (H : Hp) (s : Shared) : Prop where
  ok : X.Ok
  os : s.os = X.s₀.os
  bare : AllBare s.gens
  base : Un X.fs X.ex X.H₀ H X.s₀.heap s.heap
  loc : ∃ m, s.heap.Ns X.env.locals m ∧ ∀ (i : Nat) (x : Str) (v : V), X.N[i]? = some x → σ[i]? = some (some v) → Vis X.env.scope x → ∃ u, RelV v u ∧ Look X.env s.heap m x u
  cell : ∀ x c, X.env.cells.lookup x = some c → ∃ v, s.heap.IsCell c v
  free : H X.env.locals = none
  freeC : ∀ x c, X.env.cells.lookup x = some c → H c = none
  pin : ∀ p ∈ X.pn ++ pins, s.heap.get? p.1 = some p.2 ∧ H p.1 = none ∧ p.1 ≠ X.env.locals ∧ p.1 ∉ X.fs ∧ ∀ v, p.2.data ≠ .cell v
  hok : HOk X.prog X.w H s.heap
  len : σ.length = X.N.length

section
variable {X : Cx} {pins : List (Addr × Obj)} {σ : List (Option V)} {H H' : Hp} {s : Shared} {h' : Heap}

theorem Cx.Ok.nofr (ok : X.Ok) {b : Addr} {o : Obj} (e : X.base.get? b = some o) : b ∉ X.fs := fun hb => by
  have := (ok.funs.mem hb).1
  rw [e] at this; cases this
theorem Inv.bs (I : Inv X pins σ H s) : ∀ b o, X.base.get? b = some o → s.heap.get? b = some o ∧ H b = none := fun b o e =>
  ⟨I.base.keep b o (I.ok.bs b o e).1 (I.ok.bs b o e).2 (I.ok.nofr e) (I.ok.noex b o e), I.base.free b o (I.ok.bs b o e).1 (I.ok.bs b o e).2 (I.ok.noex b o e)⟩
theorem Inv.bk (I : Inv X pins σ H s) : ∀ b o, X.base.get? b = some o → s.heap.get? b = some o := fun b o e => (I.bs b o e).1
theorem Inv.mod (I : Inv X pins σ H s) : Mod X.K X.mg X.base := I.ok.mod
theorem Inv.kIn (I : Inv X pins σ H s) : X.K.In s.heap := I.ok.mod.kin.keeps I.bk
theorem Inv.lt (I : Inv X pins σ H s) : X.env.locals < s.heap.objs.size := let ⟨_, hn, _⟩ := I.loc; hn.lt
theorem Inv.sz (I : Inv X pins σ H s) : X.s₀.heap.objs.size ≤ s.heap.objs.size := Nat.le_trans I.ok.above (Nat.le_of_lt I.lt)
theorem Inv.nofs (I : Inv X pins σ H s) {a : Addr} (h : s.heap.objs.size ≤ a) : a ∉ X.fs := fun hb => by
  obtain ⟨_, o, ho, _⟩ := I.ok.funs.mem hb
  exact absurd (Nat.lt_of_lt_of_le (Heap.lt_size ho) (Nat.le_trans I.sz h)) (Nat.lt_irrefl _)
theorem Inv.cne (I : Inv X pins σ H s) : ∀ x c, X.env.cells.lookup x = some c → c ≠ X.env.locals := fun x c e z => by
  obtain ⟨v, o, ho, hd⟩ := I.cell x c e
  obtain ⟨m, ⟨o', es, ep, ho', hd', _⟩, _⟩ := I.loc
  rw [z, ho'] at ho; cases ho; rw [hd'] at hd; cases hd
theorem Inv.funs (I : Inv X pins σ H s) : s.heap.FunFrames X.base X.outer := by
  have all : ∀ (l : List Env), (∀ b ∈ frs l, b ∈ X.fs) → X.s₀.heap.FunFrames X.base l → s.heap.FunFrames X.base l := by
    intro l
    induction l with
    | nil => intro _ _; trivial
    | cons env r ih =>
      intro hs hl
      obtain ⟨hk, ⟨L, o, hf, hn, ho, hd⟩, hr⟩ := hl
      have hL : L ∈ X.fs := hs L (by unfold frs; rw [List.filterMap_cons, hf]; exact List.mem_cons_self)
      obtain ⟨sl, e⟩ := I.base.slot L o ho (I.ok.frf L hL) hL fun z => I.ok.exfs L z hL
      exact ⟨hk, ⟨L, _, hf, hn, e, hd⟩, ih (fun b hb => hs b (by unfold frs; rw [List.filterMap_cons, hf]; exact List.mem_cons_of_mem _ hb)) hr⟩
  exact all X.outer (fun _ hb => hb) I.ok.funs

theorem Inv.stack (I : Inv X pins σ H s) : s.heap.FunFrames X.base X.stack := by
  rcases I.ok.stk with e | ⟨e, hf⟩
  · rw [e]; exact I.funs
  · rw [e]
    obtain ⟨m, hn, _⟩ := I.loc
    refine .cons (by rw [I.ok.kind]; decide) hf hn ?_ I.funs
    exact Heap.get?_none_of_le (Nat.le_trans I.ok.bsz I.ok.above)
theorem Inv.stkSub (I : Inv X pins σ H s) : ∀ b ∈ frs X.stack, b ∈ X.env.locals :: X.fs := fun b hb => by
  rcases I.ok.stk with e | ⟨e, hf⟩
  · rw [e] at hb; exact List.mem_cons_of_mem _ hb
  · rw [e] at hb
    unfold frs at hb
    rw [List.filterMap_cons, hf] at hb
    exact hb
theorem Inv.stkFree (I : Inv X pins σ H s) : ∀ b ∈ frs X.stack, H b = none := fun b hb => by
  rcases List.mem_cons.mp (I.stkSub b hb) with e | hb
  · rw [e]; exact I.free
  · obtain ⟨_, o, ho, _⟩ := I.ok.funs.mem hb
    exact I.base.free b o ho (I.ok.frf b hb) fun z => I.ok.exfs b z hb

theorem Inv.step {g' : Array GenState} {t' : Nat} {d' : Drawn} {ch : List Addr} (I : Inv X pins σ H s)
    (hch : ∀ b ∈ ch, (b ∈ X.ex ∨ X.s₀.heap.objs.size ≤ b) ∧ b ≠ X.env.locals ∧ (∀ x c, X.env.cells.lookup x = some c → c ≠ b) ∧ ∀ p ∈ X.pn ++ pins, p.1 ≠ b)
    (keep : ∀ b o, b ≠ X.env.locals → b ∉ X.fs → b ∉ ch → s.heap.get? b = some o → H b = none → h'.get? b = some o)
    (slot : ∀ b o, b ≠ X.env.locals → b ∈ X.fs → b ∉ ch → s.heap.get? b = some o → H b = none → ∃ sl, h'.get? b = some { o with slots := sl }) (free : ∀ b o, b ∉ ch → s.heap.get? b = some o → H b = none → H' b = none)
    (there : ∀ b o, b ∉ ch → s.heap.get? b = some o → ∃ o', h'.get? b = some o')
    (tups : ∀ b xs, H b = some (.tup xs) → H' b = some (.tup xs)) (frzs : ∀ b o u, H b = some (.frz o u) → H' b = some (.frz o u)) (tbls : ∀ b ps, H b = some (.tbl ps) → ∃ more, H' b = some (.tbl (ps ++ more)))
    (ns : ∀ m, s.heap.Ns X.env.locals m → h'.Ns X.env.locals m) (hok : HOk X.prog X.w H' h') (hg : AllBare g') :
    Inv X pins σ H' { s with heap := h', gens := g', drawn := d', toks := t' } := by
  have neL : ∀ b o, X.s₀.heap.get? b = some o → b ≠ X.env.locals := fun b o e => Nat.ne_of_lt (Nat.lt_of_lt_of_le (Heap.lt_size e) I.ok.above)
  have neC : ∀ b o, X.s₀.heap.get? b = some o → b ∉ X.ex → b ∉ ch := fun b o e hx hb => by
    rcases (hch b hb).1 with z | z
    · exact hx z
    · exact absurd (Nat.lt_of_lt_of_le (Heap.lt_size e) z) (Nat.lt_irrefl _)
  have cellK : ∀ x c, X.env.cells.lookup x = some c → ∀ v, s.heap.IsCell c v → h'.IsCell c v := fun x c e v ⟨o, ho, hd⟩ => by
    have nch : c ∉ ch := fun z => (hch c z).2.2.1 x c e rfl
    by_cases hc : c ∈ X.fs
    · obtain ⟨sl, q⟩ := slot c o (I.cne x c e) hc nch ho (I.freeC x c e)
      exact ⟨_, q, hd⟩
    · exact ⟨o, keep c o (I.cne x c e) hc nch ho (I.freeC x c e), hd⟩
  refine ⟨I.ok, I.os, hg, ⟨fun b o e n hb hx => ?_, fun b o e n hb hx => ?_, fun b o e n hx => ?_, fun b o e hx => ?_, fun b xs e => tups b xs (I.base.tups b xs e), fun b o xs e => frzs b o xs (I.base.frzs b o xs e), fun b ps e => ?_⟩, ?_, fun x c e => ?_, ?_, fun x c e => ?_, fun p hp => ?_, hok, I.len⟩
  · exact keep b o (neL b o e) hb (neC b o e hx) (I.base.keep b o e n hb hx) (I.base.free b o e n hx)
  · obtain ⟨sl, e1⟩ := I.base.slot b o e n hb hx
    obtain ⟨sl', e2⟩ := slot b _ (neL b o e) hb (neC b o e hx) e1 (I.base.free b o e n hx)
    exact ⟨sl', e2⟩
  · obtain ⟨o', e1⟩ := I.base.there b o e hx
    exact free b o' (neC b o e hx) e1 (I.base.free b o e n hx)
  · obtain ⟨o', e1⟩ := I.base.there b o e hx
    exact there b o' (neC b o e hx) e1
  · obtain ⟨m1, e1⟩ := I.base.tbls b ps e
    obtain ⟨m2, e2⟩ := tbls b _ e1
    exact ⟨m1 ++ m2, by rw [e2, Array.append_assoc]⟩
  · obtain ⟨m, hn, hl⟩ := I.loc
    refine ⟨m, ns m hn, fun i x v e1 e2 e3 => ?_⟩
    obtain ⟨u, r, l⟩ := hl i x v e1 e2 e3
    refine ⟨u, r, ?_⟩
    rcases l with l | ⟨k, c, e, z⟩
    · exact .inl l
    · exact .inr ⟨k, c, e, cellK x c e _ z⟩
  · obtain ⟨v, z⟩ := I.cell x c e
    exact ⟨v, cellK x c e v z⟩
  · obtain ⟨m, ⟨o, _, _, ho, _⟩, _⟩ := I.loc
    exact free _ o (fun z => (hch _ z).2.1 rfl) ho I.free
  · obtain ⟨v, o, ho, hd⟩ := I.cell x c e
    exact free c o (fun z => (hch c z).2.2.1 x c e rfl) ho (I.freeC x c e)
  · obtain ⟨e, n, ne, nf, d⟩ := I.pin p hp
    have nch : p.1 ∉ ch := fun z => (hch p.1 z).2.2.2 p hp rfl
    exact ⟨keep p.1 p.2 ne nf nch e n, free p.1 p.2 nch e n, ne, nf, d⟩
theorem Inv.un {t' : Nat} (I : Inv X pins σ H s) (u : Un X.fs [] H H' s.heap h') (hok : HOk X.prog X.w H' h') : Inv X pins σ H' { s with heap := h', toks := t' } := by
  obtain ⟨m, ⟨o, es, ep, ho, r⟩, _⟩ := id I.loc
  obtain ⟨sl, hL⟩ := u.any ho I.free (by simp)
  exact I.step (g' := s.gens) (d' := s.drawn) (ch := []) (fun _ z => nomatch z) (fun b o _ hb _ e n => u.keep b o e n hb (by simp)) (fun b o _ hb _ e n => u.slot b o e n hb (by simp)) (fun b o _ e n => u.free b o e n (by simp)) (fun b o _ e => u.there b o e (by simp)) u.tups u.frzs u.tbls (fun m' hm => by
    obtain ⟨o', es', ep', ho', r'⟩ := hm
    rw [ho] at ho'; cases ho'
    exact ⟨_, es', ep', hL, r'⟩) hok I.bare
theorem Inv.call {g' : Array GenState} {t' : Nat} {d' : Drawn} {ch : List Addr} (I : Inv X pins σ H s) (u : Un (frs X.stack) ch H H' s.heap h') (hok : HOk X.prog X.w H' h') (hg : AllBare g')
    (hch : ∀ b ∈ ch, (b ∈ X.ex ∨ X.s₀.heap.objs.size ≤ b) ∧ b ≠ X.env.locals ∧ (∀ x c, X.env.cells.lookup x = some c → c ≠ b) ∧ ∀ p ∈ X.pn ++ pins, p.1 ≠ b) :
    Inv X pins σ H' { s with heap := h', gens := g', drawn := d', toks := t' } := by
  obtain ⟨m, ⟨o, es, ep, ho, r⟩, _⟩ := id I.loc
  obtain ⟨sl, hL⟩ := u.any ho I.free fun z => (hch _ z).2.1 rfl
  exact I.step (ch := ch) hch (fun b o hL hb hc e n => u.keep b o e n (fun z => (List.mem_cons.mp (I.stkSub b z)).elim hL hb) hc) (fun b o _ _ hc e n => u.any e n hc) (fun b o hc e n => u.free b o e n hc) (fun b o hc e => u.there b o e hc) u.tups u.frzs u.tbls (fun m' hm => by
    obtain ⟨o', es', ep', ho', r'⟩ := hm
    rw [ho] at ho'; cases ho'
    exact ⟨_, es', ep', hL, r'⟩) hok hg
theorem Inv.turned {t' : Nat} {it : Addr} (I : Inv X pins σ H s) (k : ∀ b o, b ≠ it → s.heap.get? b = some o → h'.get? b = some o) (hn : H it = none) (hL : it ≠ X.env.locals)
    (h1 : it ∈ X.ex ∨ X.s₀.heap.objs.size ≤ it) (h2 : ∀ x c, X.env.cells.lookup x = some c → c ≠ it) (h3 : ∀ p ∈ X.pn ++ pins, p.1 ≠ it) : Inv X pins σ H { s with heap := h', toks := t' } := by
  have nit : ∀ b u, H b = some u → b ≠ it := fun b u e z => by rw [z, hn] at e; cases e
  refine I.step (g' := s.gens) (d' := s.drawn) (ch := [it]) (fun b hb => ?_) (fun b o _ _ hc e _ => k b o (fun z => hc (by simp [z])) e) (fun b o _ _ hc e _ => ⟨o.slots, k b o (fun z => hc (by simp [z])) e⟩) (fun _ _ _ _ n => n)
    (fun b o hc e => ⟨o, k b o (fun z => hc (by simp [z])) e⟩) (fun _ _ e => e) (fun _ _ _ e => e) (fun b ps e => ⟨#[], by rw [e]; simp⟩) (fun m hm => ?_) (fun b u e => ?_) I.bare
  · have e : b = it := by simpa using hb
    subst e
    exact ⟨h1, hL, h2, h3⟩
  · obtain ⟨o, es, ep, ho, r⟩ := hm
    exact ⟨o, es, ep, k _ o (Ne.symm hL) ho, r⟩
  · refine (I.hok b u e).stay (fun c v hc q => k c v ?_ q) (fun _ q => q) fun _ _ q => q
    rcases hc with z | z
    · rw [z]; exact nit b u e
    · exact nit c _ z
theorem Inv.tok (I : Inv X pins σ H s) (t : Nat) : Inv X pins σ H { s with toks := t } := I.un (h' := s.heap) (t' := t) Un.refl I.hok
theorem Inv.kept {t' : Nat} (I : Inv X pins σ H s) (k : ∀ b u, s.heap.get? b = some u → h'.get? b = some u) : Inv X pins σ H { s with heap := h', toks := t' } := I.un (Un.kept k) (I.hok.kept k)
theorem Inv.laid {a : Addr} {o : HO} {t' : Nat} (I : Inv X pins σ H s) (k : ∀ b u, s.heap.get? b = some u → h'.get? b = some u) (hp : s.heap.objs.size ≤ a) (new : ObjOk X.prog X.w (upd H a o) h' a o) :
    Inv X pins σ (upd H a o) { s with heap := h', toks := t' } := I.un (Un.laid k hp (I.hok.fresh hp)) (I.hok.laid k hp new)
theorem Inv.write {x e : Addr} {o : HO} {t' : Nat} (I : Inv X pins σ H s) (mu : Mut (H x)) (he : e = x ∨ H e = some (.own x)) (k : ∀ b u, b ≠ e → s.heap.get? b = some u → h'.get? b = some u) (heo : ∃ u, h'.get? e = some u)
    (new : ObjOk X.prog X.w (upd H x o) h' x o) : Inv X pins σ (upd H x o) { s with heap := h', toks := t' } := I.un (Un.write mu he k heo) (I.hok.write mu he k heo new)
theorem Inv.pins_of {pins' : List (Addr × Obj)} (I : Inv X pins σ H s) (h : ∀ p ∈ pins', s.heap.get? p.1 = some p.2 ∧ H p.1 = none ∧ p.1 ≠ X.env.locals ∧ p.1 ∉ X.fs ∧ ∀ v, p.2.data ≠ .cell v) : Inv X pins' σ H s :=
  ⟨I.ok, I.os, I.bare, I.base, I.loc, I.cell, I.free, I.freeC, fun p hp => (List.mem_append.mp hp).elim (fun z => I.pin p (List.mem_append_left _ z)) (h p), I.hok, I.len⟩

theorem nodup_ix {N : List Str} (hN : N.Nodup) {i j : Nat} {x : Str} (a : N[i]? = some x) (b : N[j]? = some x) : i = j := by
  obtain ⟨h1, e1⟩ := List.getElem?_eq_some_iff.mp a
  obtain ⟨h2, e2⟩ := List.getElem?_eq_some_iff.mp b
  exact (List.getElem_inj hN).mp (e1.trans e2.symm)

theorem store_ok2 {M : Model} {A : Around} {E : Value → Shared → Prop} {i : Nat} {x : Str} {v : V} {u : Value} {Q : Unit → Shared → Prop} (I : Inv X pins σ H s) (hN : X.N.Nodup) (hi : X.N[i]? = some x) (hx : Loc X.env.scope x) (r : RelV v u)
    (h : ∀ s', Inv X pins (σ.set i (some v)) H s' → (∃ a, Heap.SameBut a s.heap s'.heap ∧ (a = X.env.locals ∨ X.env.cells.lookup x = some a)) → Q () s') (hf : X.fn x = true ∨ X.env.scope.names.lookup x = some .local := by first | exact .inl rfl | exact .inr rfl | assumption) : wpAny M A (storeName X.env x u) Q E s := by
  obtain ⟨m, hn, hl⟩ := id I.loc
  have hcls : (X.env.scope.kind == .class || (X.env.scope.kind == .module && X.env.locals != X.env.globals)) = false := by rw [I.ok.kind]; rfl
  have hiσ : i < σ.length := by rw [I.len]; exact (List.getElem?_eq_some_iff.mp hi).1
  have cne := I.cne
  have tracked : ∀ {a : Addr} {h' : Heap}, (∃ o, s.heap.get? a = some o ∧ H a = none) → Heap.SameBut a s.heap h' → HOk X.prog X.w H h' := fun {a h'} ha hs b ob e => by
    obtain ⟨_, _, hfree⟩ := ha
    refine (I.hok b ob e).stay (fun c w' hc q => (hs.2 c ?_).trans q) (fun _ q => q) fun _ _ q => q
    rintro rfl
    rcases hc with rfl | hc
    · rw [hfree] at e; cases e
    · rw [hfree] at hc; cases hc
  rcases hx with hk | hk
  · refine wpAny_storeName_local hk hn (fun h' hn' hs => ?_) hcls
    obtain ⟨oL, _, _, hoL, _⟩ := id hn
    refine h _ ⟨I.ok, I.os, I.bare, ⟨fun b o e n hb hx => ?_, fun b o e n hb hx => ?_, I.base.free, fun b o e hx => ?_, I.base.tups, I.base.frzs, I.base.tbls⟩, ⟨_, hn', fun j y v' e1 e2 e3 => ?_⟩, fun y c e => ?_, I.free, I.freeC, fun p hp => ?_, tracked ⟨oL, hoL, I.free⟩ hs, by simpa using I.len⟩ ⟨_, hs, .inl rfl⟩
    · exact (hs.2 b (Nat.ne_of_lt (Nat.lt_of_lt_of_le (Heap.lt_size e) I.ok.above))).trans (I.base.keep b o e n hb hx)
    · obtain ⟨sl, e1⟩ := I.base.slot b o e n hb hx
      exact ⟨sl, (hs.2 b (Nat.ne_of_lt (Nat.lt_of_lt_of_le (Heap.lt_size e) I.ok.above))).trans e1⟩
    · obtain ⟨o', e1⟩ := I.base.there b o e hx
      exact ⟨o', (hs.2 b (Nat.ne_of_lt (Nat.lt_of_lt_of_le (Heap.lt_size e) I.ok.above))).trans e1⟩
    · by_cases hj : j = i
      · subst hj
        rw [hi] at e1; cases e1
        rw [List.getElem?_set_self hiσ] at e2
        cases e2
        exact ⟨u, r, .inl ⟨hk, by simp⟩⟩
      · rw [List.getElem?_set_ne (Ne.symm hj)] at e2
        obtain ⟨u', r', q⟩ := hl j y v' e1 e2 e3
        refine ⟨u', r', ?_⟩
        rcases q with ⟨k, e⟩ | ⟨k, c, e, z⟩
        · refine .inl ⟨k, ?_⟩
          have : y ≠ x := fun e => hj (nodup_ix hN e1 (e ▸ hi))
          simp [this, e]
        · exact .inr ⟨k, c, e, z.sameBut hs (cne y c e)⟩
    · obtain ⟨w', z⟩ := I.cell y c e
      exact ⟨w', z.sameBut hs (cne y c e)⟩
    · obtain ⟨e, n, ne, nf, d⟩ := I.pin p hp
      exact ⟨(hs.2 p.1 ne).trans e, n, ne, nf, d⟩
  · have hfn : X.fn x = true := by
      rcases hf with z | z
      · exact z
      · rw [z] at hk; cases hk
    obtain ⟨c, hc⟩ := I.ok.has x (.inl hk)
    obtain ⟨w', z⟩ := I.cell x c hc
    refine wpAny_storeName_cell I.ok.kind hk hc z (fun h' hc' hs => ?_)
    obtain ⟨oc, hoc, hocd⟩ := id z
    refine h { s with heap := h' } ⟨I.ok, I.os, I.bare, ⟨fun b o e n hb hx => ?_, fun b o e n hb hx => ?_, I.base.free, fun b o e hx => ?_, I.base.tups, I.base.frzs, I.base.tbls⟩, ⟨m, hn.sameBut hs (Ne.symm (cne x c hc)), fun j y v' e1 e2 e3 => ?_⟩, fun y c' e => ?_, I.free, I.freeC, fun p hp => ?_, tracked ⟨oc, hoc, I.freeC x c hc⟩ hs, by simpa using I.len⟩ ⟨c, hs, .inr hc⟩
    · exact (hs.2 b (Nat.ne_of_lt (Nat.lt_of_lt_of_le (Heap.lt_size e) (I.ok.cab x c hfn hc)))).trans (I.base.keep b o e n hb hx)
    · obtain ⟨sl, e1⟩ := I.base.slot b o e n hb hx
      exact ⟨sl, (hs.2 b (Nat.ne_of_lt (Nat.lt_of_lt_of_le (Heap.lt_size e) (I.ok.cab x c hfn hc)))).trans e1⟩
    · obtain ⟨o', e1⟩ := I.base.there b o e hx
      exact ⟨o', (hs.2 b (Nat.ne_of_lt (Nat.lt_of_lt_of_le (Heap.lt_size e) (I.ok.cab x c hfn hc)))).trans e1⟩
    · by_cases hj : j = i
      · subst hj
        rw [hi] at e1; cases e1
        rw [List.getElem?_set_self hiσ] at e2
        cases e2
        exact ⟨u, r, .inr ⟨.inl hk, c, hc, hc'⟩⟩
      · rw [List.getElem?_set_ne (Ne.symm hj)] at e2
        obtain ⟨u', r', q⟩ := hl j y v' e1 e2 e3
        refine ⟨u', r', ?_⟩
        rcases q with q | ⟨k, c', e, z'⟩
        · exact .inl q
        · refine .inr ⟨k, c', e, z'.sameBut hs ?_⟩
          rintro rfl
          exact hj (nodup_ix hN e1 (I.ok.inj _ _ _ e hc ▸ hi))
    · by_cases hcc : c' = c
      · subst hcc; exact ⟨_, hc'⟩
      · obtain ⟨w2, z2⟩ := I.cell y c' e
        exact ⟨w2, z2.sameBut hs hcc⟩
    · obtain ⟨e, n, ne, nf, d⟩ := I.pin p hp
      refine ⟨(hs.2 p.1 ?_).trans e, n, ne, nf, d⟩
      intro q
      rw [q, hoc] at e
      have q' : oc = p.2 := Option.some.inj e
      exact d w' (by rw [← q']; exact hocd)
theorem store_ok {M : Model} {A : Around} {E : Value → Shared → Prop} {i : Nat} {x : Str} {v : V} {u : Value} {Q : Unit → Shared → Prop} (I : Inv X pins σ H s) (hN : X.N.Nodup) (hi : X.N[i]? = some x) (hx : Loc X.env.scope x) (r : RelV v u)
    (h : ∀ s', Inv X pins (σ.set i (some v)) H s' → Q () s') (hf : X.fn x = true ∨ X.env.scope.names.lookup x = some .local := by first | exact .inl rfl | exact .inr rfl | assumption) : wpAny M A (storeName X.env x u) Q E s :=
  store_ok2 I hN hi hx r (fun s' I' _ => h s' I') hf
theorem Inv.call' {s' : Shared} {ch : List Addr} (I : Inv X pins σ H s) (ho : s'.os = s.os) (u : Un (frs X.stack) ch H H' s.heap s'.heap) (hok : HOk X.prog X.w H' s'.heap) (hg : AllBare s'.gens)
    (hch : ∀ b ∈ ch, (b ∈ X.ex ∨ X.s₀.heap.objs.size ≤ b) ∧ b ≠ X.env.locals ∧ (∀ x c, X.env.cells.lookup x = some c → c ≠ b) ∧ ∀ p ∈ X.pn ++ pins, p.1 ≠ b) : Inv X pins σ H' s' := by
  obtain ⟨h', g', d', t', o'⟩ := s'
  have e : o' = s.os := ho
  subst e
  exact I.call (g' := g') (t' := t') (d' := d') u hok hg hch
end

abbrev XK := Value → Option Addr → Hp → Prop
abbrev St := List (Option V)
abbrev VK := V → Hp → Prop
abbrev TE := St → Hp → VK → Prop
abbrev TT := St → Hp → (Bool → Hp → Prop) → Prop
abbrev TA := St → Hp → (List V → Hp → Prop) → Prop
structure Ends where
  nx : St → Hp → Prop
  rt : VK
  bk : St → Hp → Prop := fun _ _ => False
  ct : St → Hp → Prop := fun _ _ => False
abbrev TS := Ends → St → Hp → Prop

def EP (X : Cx) (pins : List (Addr × Obj)) (σ : St) (Q : VK) (u : Value) (s' : Shared) : Prop := ∃ v H', Inv X pins σ H' s' ∧ RelV v u ∧ Q v H'
def TP (X : Cx) (pins : List (Addr × Obj)) (σ : St) (Q : Bool → Hp → Prop) (b : Bool) (s' : Shared) : Prop := ∃ H', Inv X pins σ H' s' ∧ Q b H'
def AP (X : Cx) (pins : List (Addr × Obj)) (σ : St) (Q : List V → Hp → Prop) (us : List Value) (s' : Shared) : Prop := ∃ vs H', Inv X pins σ H' s' ∧ Vals vs us ∧ Q vs H'
def SP (X : Cx) (pins : List (Addr × Obj)) (D : Ends) (f : Flow) (s' : Shared) : Prop :=
  match f with
  | .next => ∃ σ' H', Inv X pins σ' H' s' ∧ D.nx σ' H'
  | .brk => ∃ σ' H', Inv X pins σ' H' s' ∧ D.bk σ' H'
  | .cont => ∃ σ' H', Inv X pins σ' H' s' ∧ D.ct σ' H'
  | .ret u => ∃ v σ' H', Inv X pins σ' H' s' ∧ RelV v u ∧ D.rt v H'

def PE (X : Cx) (e : Expr) (t : TE) : Prop :=
  ∀ (pins : List (Addr × Obj)) (s : Shared) (σ : St) (H : Hp) (Q : VK), Inv X pins σ H s → t σ H Q → wpAny (model X.prog X.w) X.A (eval e X.env) (EP X pins σ Q) X.xe s
def PT (X : Cx) (e : Expr) (t : TT) : Prop :=
  ∀ (pins : List (Addr × Obj)) (s : Shared) (σ : St) (H : Hp) (Q : Bool → Hp → Prop), Inv X pins σ H s → t σ H Q → wpAny (model X.prog X.w) X.A (isTrue e X.env (eval e X.env)) (TP X pins σ Q) X.xe s
def PW (X : Cx) (e : Expr) (t : TT) : Prop :=
  ∀ (whole : Sem Value) (pins : List (Addr × Obj)) (s : Shared) (σ : St) (H : Hp) (Q : Bool → Hp → Prop), Inv X pins σ H s → t σ H Q → wpAny (model X.prog X.w) X.A (isTrue e X.env whole) (TP X pins σ Q) X.xe s
theorem PW.pt {X : Cx} {e : Expr} {t : TT} (h : PW X e t) : PT X e t := h _
def PA (X : Cx) (es : List Expr) (t : TA) : Prop :=
  ∀ (pos : Pos) (pins : List (Addr × Obj)) (s : Shared) (σ : St) (H : Hp) (Q : List V → Hp → Prop), Inv X pins σ H s → t σ H Q → wpAny (model X.prog X.w) X.A (spliced (backTo pos (starEach es X.env))) (AP X pins σ Q) X.xe s
def PS (X : Cx) (st : Stmt) (t : TS) : Prop :=
  ∀ (pins : List (Addr × Obj)) (s : Shared) (σ : St) (H : Hp) (D : Ends), Inv X pins σ H s → t D σ H → wpAny (model X.prog X.w) X.A (exec st X.env) (SP X pins D) X.xe s
def PSs (X : Cx) (st : List Stmt) (t : TS) : Prop :=
  ∀ (pins : List (Addr × Obj)) (s : Shared) (σ : St) (H : Hp) (D : Ends), Inv X pins σ H s → t D σ H → wpAny (model X.prog X.w) X.A (execs st X.env) (SP X pins D) X.xe s
theorem thn {α : Type} {t : Sem α} {Q Q' : α → Shared → Prop} {M : Model} {A : Around} {E : Value → Shared → Prop} {s : Shared} (h : wpAny M A t Q E s) (hQ : ∀ a s, Q a s → Q' a s) : wpAny M A t Q' E s := wpAny_mono h hQ fun _ _ x => x
end L2

namespace L2
open PySem PySem.Spec PyProof.Rows
section
variable {X : Cx}

def tVar (i : Nat) : TE := fun σ H Q => ∃ v, σ[i]? = some (some v) ∧ Q v H
def tC (v : V) : TE := fun _ H Q => Q v H
theorem pe_var {i : Nat} {x : Str} {pos : Pos} (hN : X.N[i]? = some x) (hv : Vis X.env.scope x) (hd : (x == ("__debug__" : Str)) = false := by decide) (hcd : (x == ("__classdict__" : Str)) = false := by decide) : PE X (.Name x pos) (tVar i) := by
  intro pins s σ H Q I h
  obtain ⟨v, e, h⟩ := h
  obtain ⟨m, hn, hl⟩ := I.loc
  obtain ⟨u, r, l⟩ := hl i x v hN e hv
  have fin : EP X pins σ Q u s := ⟨v, H, I, r, h⟩
  rcases l with ⟨hk, hm⟩ | ⟨hk, c, hc, hcell⟩
  · exact wpAny_Name (wpAny_loadName_local I.ok.kind hk hn hm fin) hd
  · rcases hk with hk | hk
    · exact wpAny_Name (wpAny_loadName_cell I.ok.kind hk hc hcell fin) hd
    · exact wpAny_Name (wpAny_loadName_free I.ok.kind hk hc hcell fin hcd) hd
theorem pe_int {i j pos} : PE X (.Constant (.int i) j pos) (tC (.int i)) := fun _ _ _ H _ I h => wpAny_Constant_int ⟨.int i, H, I.tok _, ⟨_, rfl⟩, h⟩
theorem pe_bl {b j pos} : PE X (.Constant (.bool b) j pos) (tC (.bl b)) := fun _ _ _ H _ I h => Constant_bool ⟨.bl b, H, I, rfl, h⟩
theorem pe_str {x j pos} : PE X (.Constant (.str x) j pos) (tC (.str x)) := fun _ _ _ H _ I h => Calls.Constant_str ⟨.str x, H, I.tok _, ⟨_, rfl⟩, h⟩

def Gl (X : Cx) (x : Str) : Prop := X.env.kindOf x = some .globalImplicit
theorem ld_glob {E : Value → Shared → Prop} {pins : List (Addr × Obj)} {s : Shared} {σ : St} {H : Hp} {x : Str} {u : Value} {pos : Pos} {Q : Value → Shared → Prop} (I : Inv X pins σ H s) (hg : Gl X x) (hm : X.mg x = some u) (h : Q u s)
    (hd : (x == ("__debug__" : Str)) = false := by decide) : wpAny (model X.prog X.w) X.A (eval (.Name x pos) X.env) Q E s :=
  Calls.Name_function_global I.ok.kind hg (Calls.loadGlobal_global (by rw [I.ok.glob]; exact I.mod.glob.keeps I.bk) hm h) hd
theorem ld_blt {E : Value → Shared → Prop} {pins : List (Addr × Obj)} {s : Shared} {σ : St} {H : Hp} {x : Str} {u : Value} {pos : Pos} {Q : Value → Shared → Prop} (I : Inv X pins σ H s) (hg : Gl X x) (hm : X.mg x = none) (hv : bootBuiltins x = some u) (h : Q u s)
    (hn : x ≠ "__name__" := by decide) (hd : (x == ("__debug__" : Str)) = false := by decide) : wpAny (model X.prog X.w) X.A (eval (.Name x pos) X.env) Q E s := by
  obtain ⟨mb, h1, h2⟩ := I.mod.blt
  exact Calls.Name_function_global I.ok.kind hg (Calls.loadGlobal_builtin (by rw [I.ok.glob]; exact I.mod.glob.keeps I.bk) hm (by rw [I.ok.blt]; exact h1.keeps I.bk) ((h2 x hn).trans hv) h) hd
theorem pe_glob {x : Str} {v : V} {u : Value} {pos : Pos} (hg : Gl X x) (hm : X.mg x = some u) (r : RelV v u) (hd : (x == ("__debug__" : Str)) = false := by decide) : PE X (.Name x pos) (tC v) :=
  fun _ _ _ H _ I h => ld_glob I hg hm ⟨v, H, I, r, h⟩ hd
theorem pe_bltn {x : Str} {v : V} {u : Value} {pos : Pos} (hg : Gl X x) (hm : X.mg x = none) (hv : bootBuiltins x = some u) (r : RelV v u) (hn : x ≠ "__name__" := by decide) (hd : (x == ("__debug__" : Str)) = false := by decide) : PE X (.Name x pos) (tC v) :=
  fun _ _ _ H _ I h => ld_blt I hg hm hv ⟨v, H, I, r, h⟩ hn hd

variable {a b : Expr} {ta tb : TE} {pos : Pos}
def PC (X : Cx) (op : CmpOp) (a b : Expr) (t : TE) : Prop :=
  ∀ (pins : List (Addr × Obj)) (s : Shared) (σ : St) (H : Hp) (Q : VK), Inv X pins σ H s → t σ H Q →
    wpAny (model X.prog X.w) X.A (eval a X.env) (fun v s₁ => wpAny (model X.prog X.w) X.A (eval b X.env) (fun u s₂ => wpAny (model X.prog X.w) X.A (compareOp op v u) (EP X pins σ Q) X.xe s₂) X.xe s₁) X.xe s
theorem nobehind (b : Expr) {op : CmpOp} (h : op ≠ .In) (h2 : op ≠ .NotIn) : behindInMarks op b = false := by
  have e1 : (op == CmpOp.In) = false := by cases op <;> first | rfl | exact absurd rfl h
  have e2 : (op == CmpOp.NotIn) = false := by cases op <;> first | rfl | exact absurd rfl h2
  cases b <;> simp [behindInMarks, e1, e2]
def tIsN (ta : TE) : TE := fun σ H Q => ta σ H fun x H1 => Q (.bl (decide (x = .non))) H1
theorem RelV.none_iff {x : V} {v : Value} (r : RelV x v) : (v == Value.none) = decide (x = .non) := by
  cases x with
  | non => cases r; rfl
  | bl _ => cases r; rfl
  | int _ => obtain ⟨t, rfl⟩ := r; rfl
  | str _ => obtain ⟨t, rfl⟩ := r; rfl
  | byt _ => obtain ⟨t, rfl⟩ := r; rfl
  | flt _ => obtain ⟨t, rfl⟩ := r; rfl
  | ref _ => cases r; rfl
  | ty _ => cases r; rfl
theorem pc_isN {j pos'} (ha : PE X a ta) : PC X .Is a (.Constant .none j pos') (tIsN ta) := by
  intro pins s σ H Q I h
  refine thn (ha pins s σ H _ I h) fun v s1 ⟨x, H1, I1, r1, q1⟩ => ?_
  exact Constant_none (is_none_gen ⟨.bl _, H1, I1, by rw [r1.none_iff]; rfl, q1⟩)
def tB (t : TE) : TT := fun σ H Q => t σ H fun x H1 => ∃ c, x = .bl c ∧ Q c H1
theorem pt_cmp {op : CmpOp} {t : TE} (h : PC X op a b t) (h1 : behindInMarks op b = false := by first | exact nobehind _ (by decide) (by decide) | rfl) : PT X (.Compare a [op] [b] pos) (tB t) := by
  intro pins s σ H Q I hw
  refine wpAny_isTrue_Compare1 (thn (h pins s σ H _ I hw) fun v s1 h1 => thn h1 fun u s2 h2 => thn h2 fun c s3 ⟨x, H1, I1, r1, q1⟩ => ?_) h1
  obtain ⟨d, rfl, q⟩ := q1
  cases r1
  exact wpAny_truthy_bool ⟨H1, I1, q⟩
theorem pt_val {e : Expr} {t : TE} (h : PE X e t) (he : ∀ whole, isTrue e X.env whole = (do let v ← whole; standAt e.pos; holding [v] (truthy v)) := by intro _; rfl) : PT X e (tB t) := by
  intro pins s σ H Q I hw
  refine isTrue_plain (thn (h pins s σ H _ I hw) fun v s1 ⟨x, H1, I1, r1, q1⟩ => ?_) (he _)
  obtain ⟨d, rfl, q⟩ := q1
  cases r1
  exact wpAny_truthy_bool ⟨H1, I1, q⟩

variable {tA tB' : TT} {rest : List Expr}
def tAnd (t u : TT) : TT := fun σ H Q => t σ H fun c H1 => if c = true then u σ H1 Q else Q false H1
def tOr (t u : TT) : TT := fun σ H Q => t σ H fun c H1 => if c = true then Q true H1 else u σ H1 Q
def tNot (t : TT) : TT := fun σ H Q => t σ H fun c H1 => Q (!c) H1
theorem pw_and1 (ha : PT X a tA) : PW X (.BoolOp .And [a] pos) tA := by
  intro wh pins s σ H Q I h
  refine isTrue_and (thn (ha pins s σ H Q I h) fun c s1 e => ?_)
  cases c with
  | true => exact isTrue_and_nil e
  | false => exact e
theorem pw_or1 (ha : PT X a tA) : PW X (.BoolOp .Or [a] pos) tA := by
  intro wh pins s σ H Q I h
  refine isTrue_or (thn (ha pins s σ H Q I h) fun c s1 e => ?_)
  cases c with
  | false => exact isTrue_or_nil e
  | true => exact e
theorem pw_and (ha : PT X a tA) (hb : PW X (.BoolOp .And (b :: rest) pos) tB') : PW X (.BoolOp .And (a :: b :: rest) pos) (tAnd tA tB') := by
  intro wh pins s σ H Q I h
  refine isTrue_and (thn (ha pins s σ H _ I h) fun c s1 ⟨H1, I1, q1⟩ => ?_)
  cases c with
  | true => exact hb wh pins s1 σ H1 Q I1 q1
  | false => exact ⟨H1, I1, q1⟩
theorem pw_or (ha : PT X a tA) (hb : PW X (.BoolOp .Or (b :: rest) pos) tB') : PW X (.BoolOp .Or (a :: b :: rest) pos) (tOr tA tB') := by
  intro wh pins s σ H Q I h
  refine isTrue_or (thn (ha pins s σ H _ I h) fun c s1 ⟨H1, I1, q1⟩ => ?_)
  cases c with
  | true => exact ⟨H1, I1, q1⟩
  | false => exact hb wh pins s1 σ H1 Q I1 q1
theorem pt_not (ha : PT X a tA) : PT X (.UnaryOp .Not a pos) (tNot tA) := by
  intro pins s σ H Q I h
  exact isTrue_not (ha pins s σ H (fun c H1 => Q (!c) H1) I h)
def tAndV (ta tb : TE) : TE := fun σ H Q => ta σ H fun x H1 => ∃ c, x = .bl c ∧ if c = true then tb σ H1 Q else Q (.bl false) H1
def tNotV (ta : TE) : TE := fun σ H Q => ta σ H fun x H1 => ∃ c, x = .bl c ∧ Q (.bl (!c)) H1
theorem pe_one {op} {t : TE} (h : PE X a t) : PE X (.BoolOp op [a] pos) t := fun pins s σ H Q I hw => BoolOp_one (h pins s σ H Q I hw)
theorem pe_and (ha : PE X a ta) (hb : PE X (.BoolOp .And (b :: rest) pos) tb) : PE X (.BoolOp .And (a :: b :: rest) pos) (tAndV ta tb) := by
  intro pins s σ H Q I h
  refine BoolOp_and (thn (ha pins s σ H _ I h) fun v s1 ⟨x, H1, I1, r1, q1⟩ => ?_)
  obtain ⟨c, rfl, q1⟩ := q1
  cases r1
  refine wpAny_truthy_bool ?_
  cases c with
  | true => exact hb pins s1 σ H1 Q I1 q1
  | false => exact ⟨.bl false, H1, I1, rfl, q1⟩
theorem pe_not (ha : PE X a ta) : PE X (.UnaryOp .Not a pos) (tNotV ta) := by
  intro pins s σ H Q I h
  refine UnaryOp_ (thn (ha pins s σ H _ I h) fun v s1 ⟨x, H1, I1, r1, q1⟩ => ?_)
  obtain ⟨c, rfl, q1⟩ := q1
  cases r1
  exact not_of (wpAny_truthy_bool ⟨.bl (!c), H1, I1, rfl, q1⟩)
end
end L2

namespace L2
open PySem PySem.Spec PyProof.Rows

def SqL (K : PySem.W.Frag) (H : Hp) (a : Addr) (xs : List V) : Prop :=
  Rd H a (.lst xs) ∨
    ∃ (o : Obj) (its : Array Value) (n : Nat), K.lookup a = some o ∧ o.cls = .type "list" ∧ o.dict = none ∧ o.data = .seq its n ∧ its.size ≤ sizeLine ∧ Vals xs its.toList
def SqT (K : PySem.W.Frag) (H : Hp) (a : Addr) (xs : List V) : Prop :=
  Rd H a (.tup xs) ∨
    ∃ (o : Obj) (its : Array Value) (n : Nat), K.lookup a = some o ∧ o.cls = .type "tuple" ∧ o.data = .seq its n ∧ its.size ≤ sizeLine ∧ Vals xs its.toList
def absV : Value → Option V
  | .none => some .non
  | .bool b => some (.bl b)
  | .int i _ => some (.int i)
  | .str x _ => some (.str x)
  | .bytes b _ => some (.byt b)
  | .float b _ => some (.flt b)
  | .ref a => some (.ref a)
  | .type n => some (.ty n)
  | _ => none
theorem RelV.abs {x : V} {u : Value} (r : RelV x u) : absV u = some x := by
  cases x with
  | non => cases r; rfl
  | bl _ => cases r; rfl
  | int _ => obtain ⟨t, rfl⟩ := r; rfl
  | str _ => obtain ⟨t, rfl⟩ := r; rfl
  | byt _ => obtain ⟨t, rfl⟩ := r; rfl
  | flt _ => obtain ⟨t, rfl⟩ := r; rfl
  | ref _ => cases r; rfl
  | ty _ => cases r; rfl
theorem RelV.inj {x y : V} {u : Value} (r : RelV x u) (q : RelV y u) : x = y := Option.some.inj (r.abs.symm.trans q.abs)
theorem Vals.inj : ∀ {xs ys : List V} {us : List Value}, Vals xs us → Vals ys us → xs = ys
  | _, _, _, .nil, .nil => rfl
  | _, _, _, .cons r t, .cons r' t' => by rw [r.inj r', Vals.inj t t']
section
variable {X : Cx} {pins : List (Addr × Obj)} {σ : St} {H : Hp} {s : Shared} {a : Addr} {xs ys : List V}
theorem SqL.of {K : PySem.W.Frag} (h : H a = some (.lst xs)) : SqL K H a xs := .inl (.inl h)
theorem SqT.of {K : PySem.W.Frag} (h : H a = some (.tup xs)) : SqT K H a xs := .inl (.inl h)
theorem Inv.list (I : Inv X pins σ H s) (h : SqL X.K H a xs) : ∃ its : List Value, Vals xs its ∧ PlainL s.heap a its.toArray ∧ xs.length ≤ sizeLine := by
  rcases h with h | ⟨o, its, n, hk, hc, hd, hs, hz, r⟩
  · obtain ⟨z, its, n, r, e⟩ := h.ok I.hok
    exact ⟨its, r, ⟨_, n, e, rfl, rfl, rfl⟩, z⟩
  · refine ⟨its.toList, r, ⟨o, n, I.kIn a o hk, hc, hd, by simpa using hs⟩, ?_⟩
    have e := r.length
    simp only [Array.length_toList] at e
    omega
theorem Inv.tuple (I : Inv X pins σ H s) (h : SqT X.K H a xs) : ∃ its : List Value, Vals xs its ∧ IsTup s.heap a its.toArray ∧ xs.length ≤ sizeLine := by
  rcases h with h | ⟨o, its, n, hk, hc, hs, hz, r⟩
  · obtain ⟨z, its, r, p⟩ := h.ok I.hok
    exact ⟨its, r, p, z⟩
  · refine ⟨its.toList, r, ⟨o, I.kIn a o hk, hc, n, by simpa using hs⟩, ?_⟩
    have e := r.length
    simp only [Array.length_toList] at e
    omega
theorem Inv.list_inj (I : Inv X pins σ H s) (h : SqL X.K H a xs) (h' : SqL X.K H a ys) : xs = ys := by
  obtain ⟨its, r, ⟨o, n, e, _, _, d⟩, _⟩ := I.list h
  obtain ⟨its', r', ⟨o', n', e', _, _, d'⟩, _⟩ := I.list h'
  rw [e] at e'; cases e'
  rw [d] at d'
  injection d' with d1 _
  have : its = its' := by simpa using congrArg Array.toList d1
  subst this
  exact r.inj r'
theorem Inv.tuple_inj (I : Inv X pins σ H s) (h : SqT X.K H a xs) (h' : SqT X.K H a ys) : xs = ys := by
  obtain ⟨its, r, ⟨o, e, _, n, d⟩, _⟩ := I.tuple h
  obtain ⟨its', r', ⟨o', e', _, n', d'⟩, _⟩ := I.tuple h'
  rw [e] at e'; cases e'
  rw [d] at d'
  injection d' with d1 _
  have : its = its' := by simpa using congrArg Array.toList d1
  subst this
  exact r.inj r'
end

abbrev Cx.wish (X : Cx) (E : Value → Shared → Prop) : Cx := { X with xe := E }
abbrev Cx.nox (X : Cx) : Cx := X.wish fun _ _ => False
theorem Cx.Ok.wish {X : Cx} (ok : X.Ok) (E : Value → Shared → Prop) : (X.wish E).Ok :=
  ⟨ok.mod, ok.kind, ok.glob, ok.blt, ok.above, ok.inj, ok.has, ok.cab, ok.hd, ok.frames, ok.stk, ok.exf, ok.bs, ok.bsz, ok.noex, ok.exfs, ok.funs, ok.frf⟩
theorem Cx.Ok.unwish {X : Cx} {E : Value → Shared → Prop} (ok : (X.wish E).Ok) : X.Ok :=
  ⟨ok.mod, ok.kind, ok.glob, ok.blt, ok.above, ok.inj, ok.has, ok.cab, ok.hd, ok.frames, ok.stk, ok.exf, ok.bs, ok.bsz, ok.noex, ok.exfs, ok.funs, ok.frf⟩
section
variable {X : Cx} {pins : List (Addr × Obj)} {σ : St} {H : Hp} {s : Shared} {E : Value → Shared → Prop}
theorem Inv.wish (I : Inv X pins σ H s) (E : Value → Shared → Prop) : Inv (X.wish E) pins σ H s := ⟨I.ok.wish E, I.os, I.bare, I.base, I.loc, I.cell, I.free, I.freeC, I.pin, I.hok, I.len⟩
theorem Inv.unwish (I : Inv (X.wish E) pins σ H s) : Inv X pins σ H s := ⟨I.ok.unwish, I.os, I.bare, I.base, I.loc, I.cell, I.free, I.freeC, I.pin, I.hok, I.len⟩
theorem SP.unwish {D : Ends} {f : Flow} {s' : Shared} (h : SP (X.wish E) pins D f s') : SP X pins D f s' := by
  cases f with
  | next => obtain ⟨σ', H', I, q⟩ := h; exact ⟨σ', H', I.unwish, q⟩
  | brk => obtain ⟨σ', H', I, q⟩ := h; exact ⟨σ', H', I.unwish, q⟩
  | cont => obtain ⟨σ', H', I, q⟩ := h; exact ⟨σ', H', I.unwish, q⟩
  | ret u => obtain ⟨v, σ', H', I, r, q⟩ := h; exact ⟨v, σ', H', I.unwish, r, q⟩
theorem PSs.nox {st : List Stmt} {t : TS} (h : PSs X.nox st t) : PSs X st t := fun pins s σ H D I hw =>
  wpAny_mono (h pins s σ H D (I.wish _) hw) (fun _ _ q => q.unwish) fun _ _ z => False.elim z
end

section
variable {X : Cx} {st : Stmt} {rest : List Stmt} {t u : TS} {e : Expr} {te : TE} {pos : Pos}
def tNext : TS := fun D σ H => D.nx σ H
def tSeq (t u : TS) : TS := fun D σ H => t { D with nx := u D } σ H
theorem pss_nil : PSs X [] tNext := fun _ _ σ H _ I h => wpAny_execs_nil ⟨σ, H, I, h⟩
theorem pss_cons (h1 : PS X st t) (h2 : PSs X rest u) : PSs X (st :: rest) (tSeq t u) := by
  intro pins s σ H D I h
  refine wpAny_execs_cons (thn (h1 pins s σ H { D with nx := u D } I h) fun f s1 q => ?_)
  cases f with
  | next =>
    obtain ⟨σ', H', I', q⟩ := q
    exact h2 pins s1 σ' H' D I' q
  | ret v => exact q
  | brk => exact q
  | cont => exact q
theorem pss_one (h1 : PS X st t) : PSs X [st] t := by
  intro pins s σ H D I h
  refine wpAny_execs_cons (thn (h1 pins s σ H D I h) fun f s1 q => ?_)
  cases f with
  | next => exact wpAny_execs_nil q
  | ret v => exact q
  | brk => exact q
  | cont => exact q
theorem Inv.quiet {pins : List (Addr × Obj)} {σ : St} {H : Hp} {s : Shared} (I : Inv X pins σ H s) : interactive X.env = false := by simp [interactive, I.ok.kind]
def tDrop (te : TE) : TS := fun D σ H => te σ H fun _ H1 => D.nx σ H1
theorem ps_expr (he : PE X e te) (hs : swapsWith e none pos.line X.env = pure false := by rfl) : PS X (.Expr e pos) (tDrop te) := by
  intro pins s σ H D I h
  exact wpAny_Expr_any (thn (he pins s σ H _ I h) fun v s1 ⟨x, H1, I1, r1, q1⟩ => ⟨σ, H1, I1, q1⟩) I.quiet hs
def tRet (te : TE) : TS := fun D σ H => te σ H D.rt
theorem ps_ret (he : PE X e te) : PS X (.Return (some e) pos) (tRet te) := by
  intro pins s σ H D I h
  exact wpAny_Return_some (thn (he pins s σ H _ I h) fun v s1 ⟨x, H1, I1, r1, q1⟩ => ⟨x, σ, H1, I1, r1, q1⟩)
def tIfS (c : TT) (t u : TS) : TS := fun D σ H => c σ H fun b H1 => if b = true then t D σ H1 else u D σ H1
theorem ps_if {c : Expr} {a b : List Stmt} {tc : TT} (hc : PT X c tc) (ha : PSs X a t) (hb : PSs X b u) : PS X (.If c a b pos) (tIfS tc t u) := by
  intro pins s σ H D I h
  refine wpAny_If (thn (hc pins s σ H _ I h) fun d s1 ⟨H1, I1, q1⟩ => ?_)
  cases d with
  | true => exact ha pins s1 σ H1 D I1 q1
  | false => exact hb pins s1 σ H1 D I1 q1
def tNever : TS := fun _ _ _ => False
theorem ps_never : PS X st tNever := fun _ _ _ _ _ _ h => h.elim
end

abbrev TG := V → St → Hp → (St → Hp → Prop) → Prop
abbrev TGs := List V → St → Hp → (St → Hp → Prop) → Prop
def PG (X : Cx) (target : Expr) (t : TG) : Prop :=
  ∀ (pins : List (Addr × Obj)) (s : Shared) (σ : St) (H : Hp) (v : V) (u : Value) (Q : St → Hp → Prop), Inv X pins σ H s → RelV v u → t v σ H Q →
    wpAny (model X.prog X.w) X.A (assign target X.env u) (fun _ s' => ∃ σ' H', Inv X pins σ' H' s' ∧ Q σ' H') X.xe s
def PGs (X : Cx) (ts : List Expr) (t : TGs) : Prop :=
  ∀ (pins : List (Addr × Obj)) (s : Shared) (σ : St) (H : Hp) (vs : List V) (us : List Value) (Q : St → Hp → Prop), Inv X pins σ H s → Vals vs us → t vs σ H Q →
    wpAny (model X.prog X.w) X.A (assignInOrder ((assignEach ts X.env).map (·.2)) us) (fun _ s' => ∃ σ' H', Inv X pins σ' H' s' ∧ Q σ' H') X.xe s
abbrev TSet := V → V → V → Hp → (Hp → Prop) → Prop
def PSet (X : Cx) (t : TSet) : Prop :=
  ∀ (pins : List (Addr × Obj)) (s : Shared) (σ : St) (H : Hp) (o i v : V) (ov iv u : Value) (Q : Hp → Prop), Inv X pins σ H s → RelV o ov → RelV i iv → RelV v u → t o i v H Q →
    wpAny (model X.prog X.w) X.A (setItem ov iv u) (fun _ s' => ∃ H', Inv X pins σ H' s' ∧ Q H') X.xe s
section
variable {X : Cx} {pos : Pos}
def gName (i : Nat) : TG := fun v σ H Q => Q (σ.set i (some v)) H
theorem pg_name {i : Nat} {x : Str} (hN : X.N.Nodup) (hi : X.N[i]? = some x) (hx : Loc X.env.scope x) (hf : X.fn x = true ∨ X.env.scope.names.lookup x = some .local := by first | exact .inl rfl | exact .inr rfl | assumption) : PG X (.Name x pos) (gName i) := by
  intro pins s σ H v u Q I r h
  exact wpAny_assign_Name (store_ok I hN hi hx r (fun s' I' => ⟨_, H, I', h⟩) hf)
def gNil : TGs := fun vs σ H Q => vs = [] ∧ Q σ H
def gCons (t : TG) (u : TGs) : TGs := fun vs σ H Q => ∃ v r, vs = v :: r ∧ t v σ H fun σ' H' => u r σ' H' Q
theorem pgs_nil : PGs X [] gNil := by
  intro pins s σ H vs us Q I r h
  obtain ⟨e, h⟩ := h
  subst e
  cases r
  exact assignInOrder_nil ⟨σ, H, I, h⟩
theorem pgs_cons {e : Expr} {es : List Expr} {t : TG} {u : TGs} (h1 : PG X e t) (h2 : PGs X es u)
    (hs : (assignEach (e :: es) X.env).map (·.2) = assign e X.env :: (assignEach es X.env).map (·.2) := by rfl) : PGs X (e :: es) (gCons t u) := by
  intro pins s σ H vs us Q I r h
  obtain ⟨v, vr, e1, h⟩ := h
  subst e1
  cases r with
  | cons r rr =>
    rw [hs]
    refine assignInOrder_cons (thn (h1 pins s σ H _ _ _ I r h) fun _ s1 ⟨σ1, H1, I1, q1⟩ => ?_)
    exact h2 pins s1 σ1 H1 _ _ Q I1 rr q1
def gTup (K : PySem.W.Frag) (n : Nat) (t : TGs) : TG := fun v σ H Q => ∃ a xs, v = .ref a ∧ SqT K H a xs ∧ xs.length = n ∧ t xs σ H Q
theorem pg_tup {es : List Expr} {k : Nat} {t : TGs} {n : Nat} (hc : X.calm = true) (h : PGs X es t)
    (hn : (assignEach es X.env).length = n := by rfl) (hst : (assignEach es X.env).findIdx? (·.1) = none := by rfl) : PG X (.Tuple es k pos) (gTup X.K n t) := by
  intro pins s σ H v u Q I r hw
  obtain ⟨a, xs, e1, hq, hl, hw⟩ := hw
  subst e1
  cases r
  obtain ⟨its, rv, ht, hz⟩ := I.tuple hq
  refine assign_Tuple_tuple (I.ok.hd hc) ht (by simp [hn, ← hl, rv.length]) hst fun h' hx => ?_
  have I1 : Inv X pins σ H { s with heap := h' } := I.kept (t' := s.toks) fun b o e => hx b o (Nat.ne_of_lt (Heap.lt_size e)) e
  exact h pins _ σ H xs _ Q I1 (by simpa using rv) hw
def gSub (to ti : TE) (t : TSet) : TG := fun v σ H Q => to σ H fun o H1 => ti σ H1 fun i H2 => t o i v H2 fun H3 => Q σ H3
theorem pg_sub {o i : Expr} {to ti : TE} {t : TSet} (ho : PE X o to) (hi : PE X i ti) (hs : PSet X t)
    (ha : ∀ v, assign (.Subscript o i pos) X.env v = (do
      let ov ← holding [v] (eval o X.env)
      let iv ← holding [v, ov] (eval i X.env)
      standAt pos
      holding [v, ov, iv] (setItem ov iv v)
      release [v, ov, iv] []) := by intro _; rfl) : PG X (.Subscript o i pos) (gSub to ti t) := by
  intro pins s σ H v u Q I r h
  rw [ha]
  refine wpAny_bind (wpAny_holding (thn (ho pins s σ H _ I h) fun ov s1 ⟨x, H1, I1, r1, q1⟩ => ?_))
  refine wpAny_bind (wpAny_holding (thn (hi pins s1 σ H1 _ I1 q1) fun iv s2 ⟨y, H2, I2, r2, q2⟩ => ?_))
  refine wpAny_bind (wpAny_standAt (wpAny_bind (wpAny_holding (thn (hs pins s2 σ H2 x y v ov iv u _ I2 r1 r2 r q2) fun _ s3 ⟨H3, I3, q3⟩ => ?_))))
  exact wpAny_release ⟨σ, H3, I3, q3⟩
def tAsg (te : TE) (g : TG) : TS := fun D σ H => te σ H fun x H1 => g x σ H1 D.nx
theorem ps_asg {tg e : Expr} {te : TE} {g : TG} (he : PE X e te) (hg : PG X tg g) (hs : swapsWithSole [tg] e pos.line X.env = pure false := by rfl) (hw : swappedStores [tg] e X.env = pure none := by rfl)
    (h1 : (assignEach [tg] X.env).map (·.2) = [assign tg X.env] := by rfl) : PS X (.Assign [tg] e pos) (tAsg te g) := by
  intro pins s σ H D I h
  refine wpAny_Assign_stores (thn (he pins s σ H _ I h) fun v s1 ⟨x, H1, I1, r1, q1⟩ => ?_) hs hw
  rw [h1]
  exact thn (hg pins s1 σ H1 x v _ I1 r1 q1) fun _ s2 q => q
theorem ps_set {i : Nat} {x : Str} {e : Expr} {te : TE} {pos' : Pos} (hN : X.N.Nodup) (hi : X.N[i]? = some x) (hx : Loc X.env.scope x) (he : PE X e te) (hs : swapsWith e (some (.Name x pos')) pos.line X.env = pure false := by rfl) (hf : X.fn x = true ∨ X.env.scope.names.lookup x = some .local := by first | exact .inl rfl | exact .inr rfl | assumption) :
    PS X (.Assign [.Name x pos'] e pos) (tAsg te (gName i)) := by
  intro pins s σ H D I h
  refine wpAny_Assign_Name (thn (he pins s σ H _ I h) fun v s1 ⟨y, H1, I1, r1, q1⟩ => ?_) hs
  exact store_ok I1 hN hi hx r1 (fun s2 I2 => ⟨_, H1, I2, q1⟩) hf
end

section
variable {X : Cx} {pos : Pos}
def tWhile (c : TT) (tb : TS) : TS := fun D σ H => ∃ W : Nat → St → Hp → Prop, (∃ m, W m σ H) ∧ ∀ m σ H, W m σ H →
  c σ H fun b H1 => if b = true then ∃ N : St → Hp → Prop, (∀ σ' H', N σ' H' → ∃ m', m' < m ∧ W m' σ' H') ∧ tb { D with nx := N, ct := N, bk := D.nx } σ H1 else D.nx σ H1
theorem ps_while {c : Expr} {body : List Stmt} {tc : TT} {tb : TS} (hp : PassesOwn (model X.prog X.w) X.A X.env X.xe) (hc : PT X c tc) (hb : PSs X body tb) : PS X (.While c body [] pos) (tWhile tc tb) := by
  intro pins s σ H D I h
  obtain ⟨W, ⟨m0, w0⟩, turn⟩ := h
  refine wpAny_While (codeAny_whileLoop (fun n s' => ∃ σ' H', Inv X pins σ' H' s' ∧ W n σ' H') ?_ m0 ⟨σ, H, I, w0⟩)
  rintro n s1 ⟨σ1, H1, I1, w1⟩
  refine wpAny_passesOwn hp (thn (hc pins s1 σ1 H1 _ I1 (turn n σ1 H1 w1)) fun b s2 ⟨H2, I2, q2⟩ => ?_)
  cases b with
  | true =>
    obtain ⟨N, hN, q2⟩ := q2
    rw [if_pos rfl]
    refine wpAny_passesOwn hp (thn (hb pins s2 σ1 H2 _ I2 q2) fun f s3 q3 => ?_)
    cases f with
    | next =>
      obtain ⟨σ3, H3, I3, n3⟩ := q3
      obtain ⟨m', hm, w3⟩ := hN σ3 H3 n3
      exact ⟨m', hm, σ3, H3, I3, w3⟩
    | cont =>
      obtain ⟨σ3, H3, I3, n3⟩ := q3
      obtain ⟨m', hm, w3⟩ := hN σ3 H3 n3
      exact ⟨m', hm, σ3, H3, I3, w3⟩
    | brk => exact q3
    | ret v => exact q3
  | false =>
    rw [if_neg Bool.false_ne_true]
    exact wpAny_execs_nil ⟨σ1, H2, I2, q2⟩
end

structure It where
  go : Nat → Hp → Prop
  yld : Nat → Hp → V → Hp → Prop
  stop : Nat → Hp → Prop
def FpOk (X : Cx) (pins : List (Addr × Obj)) (H : Hp) (b : Addr) : Prop :=
  H b = none ∧ b ≠ X.env.locals ∧ b ∉ X.fs ∧ (b ∈ X.ex ∨ X.s₀.heap.objs.size ≤ b) ∧ (∀ x c, X.env.cells.lookup x = some c → c ≠ b) ∧ ∀ p ∈ X.pn ++ pins, p.1 ≠ b
theorem Inv.fpOk {X : Cx} {pins : List (Addr × Obj)} {σ : St} {H H' : Hp} {s : Shared} {b : Addr} (I : Inv X pins σ H s) (hb : s.heap.objs.size ≤ b) (hn : H' b = none) : FpOk X pins H' b := by
  refine ⟨hn, Nat.ne_of_gt (Nat.lt_of_lt_of_le I.lt hb), I.nofs hb, .inr (Nat.le_trans I.sz hb), fun x c e z => ?_, fun p hp z => ?_⟩
  · obtain ⟨v, q⟩ := I.cell x c e
    exact absurd (Nat.lt_of_lt_of_le q.lt (by rw [z]; exact hb)) (Nat.lt_irrefl _)
  · exact absurd (Nat.lt_of_lt_of_le (Heap.lt_size (I.pin p hp).1) (by rw [z]; exact hb)) (Nat.lt_irrefl _)
structure Turn (P : Program) (w : World) (K : PySem.W.Frag) (tg : Expr) (J : It) (fp : List Addr) (it : Addr) (tn : Nat → Heap → Prop) : Prop where
  mem : it ∈ fp
  obj : ∀ i h, tn i h → ∀ b ∈ fp, ∃ o, h.get? b = some o ∧ ∀ v, o.data ≠ .cell v
  keep : ∀ i h h', tn i h → (∀ b ∈ fp, ∀ o, h.get? b = some o → h'.get? b = some o) → tn i h'
  item : ∀ (X : Cx), X.prog = P → X.w = w → X.K = K → X.calm = true → ∀ (i : Nat) (pins : List (Addr × Obj)) (s : Shared) (σ : St) (H : Hp) (E : Value → Shared → Prop), Inv X pins σ H s → (∀ b ∈ fp, FpOk X pins H b) → tn i s.heap → J.go i H →
    wpAny (model P w) X.A (pyNext (.ref it)) (fun r s1 => ∃ u, r = some u ∧
      wpAny (model P w) X.A (letOwnedTupleGo tg (.ref it) u) (fun _ s2 => ∃ x H', Inv X pins σ H' s2 ∧ RelV x u ∧ J.yld i H x H' ∧ tn (i + 1) s2.heap ∧ ∀ b ∈ fp, H' b = none) E s1) E s
  done : ∀ (X : Cx), X.prog = P → X.w = w → X.K = K → X.calm = true → ∀ (i : Nat) (pins : List (Addr × Obj)) (s : Shared) (σ : St) (H : Hp) (E : Value → Shared → Prop), Inv X pins σ H s → (∀ b ∈ fp, FpOk X pins H b) → tn i s.heap → J.stop i H →
    wpAny (model P w) X.A (pyNext (.ref it)) (fun r s1 => r = none ∧ Inv X pins σ H s1) E s
  self : ∀ (A : Around) (i : Nat) (s : Shared) (Q : Value → Shared → Prop) (E : Value → Shared → Prop), tn i s.heap → Q (.ref it) s → wpAny (model P w) A (pyIter (.ref it)) Q E s
abbrev TI := St → Hp → (It → Hp → Prop) → Prop
def PIE (X : Cx) (pins : List (Addr × Obj)) (σ : St) (tg : Expr) (R : It → Hp → Prop) (itv : Value) (s2 : Shared) : Prop :=
  ∃ (it : Addr) (fp : List Addr) (tn : Nat → Heap → Prop) (J : It) (H' : Hp), itv = .ref it ∧ Inv X pins σ H' s2 ∧ Turn X.prog X.w X.K tg J fp it tn ∧ tn 0 s2.heap ∧ (∀ b ∈ fp, FpOk X pins H' b) ∧ R J H'
def PI (X : Cx) (tg iter : Expr) (wi : TI) : Prop :=
  ∀ (pins : List (Addr × Obj)) (s : Shared) (σ : St) (H : Hp) (R : It → Hp → Prop), Inv X pins σ H s → wi σ H R →
    wpAny (model X.prog X.w) X.A (eval iter X.env) (fun v s1 => wpAny (model X.prog X.w) X.A (pyIter v) (PIE X pins σ tg R) X.xe s1) X.xe s

theorem go_of {M : Model} {A : Around} {E : Value → Shared → Prop} {s : Shared} {tg : Expr} {it : Addr} {u : Value} {o : Obj} {n : String} {vs : Array Value} {Q : Unit → Shared → Prop} (ho : s.heap.get? it = some o) (hc : o.cls = .type n) (hd : o.data = .fields vs)
    (hn : ["enumerate", "zip", "dict_itemiterator", "dict_reverseitemiterator", "odict_iterator", "itertools.zip_longest", "itertools.pairwise"].contains n = false) (hQ : Q () s) : wpAny M A (letOwnedTupleGo tg (.ref it) u) Q E s := by
  unfold letOwnedTupleGo
  cases tg <;> first
    | exact wpAny_pure hQ
    | (cases u <;> first
        | exact wpAny_pure hQ
        | (refine wpAny_bind (wpAny_load ho ?_)
           rw [hc, hd]
           show wpAny M A (if (["enumerate", "zip", "dict_itemiterator", "dict_reverseitemiterator", "odict_iterator", "itertools.zip_longest", "itertools.pairwise"].contains n && vs[0]? == some (rawInt _)) = true then _ else _) Q E s
           rw [if_neg (by intro h; rw [hn, Bool.false_and] at h; cases h)]
           exact wpAny_pure hQ))

def Itl (K : PySem.W.Frag) (a : Addr) : It :=
  ⟨fun i H => ∃ xs x, SqL K H a xs ∧ xs[i]? = some x, fun i H x H' => H' = H ∧ ∀ xs, SqL K H a xs → xs[i]? = some x, fun i H => ∃ xs, SqL K H a xs ∧ xs.length ≤ i⟩
def Itt (K : PySem.W.Frag) (a : Addr) : It :=
  ⟨fun i H => ∃ xs x, SqT K H a xs ∧ xs[i]? = some x, fun i H x H' => H' = H ∧ ∀ xs, SqT K H a xs → xs[i]? = some x, fun i H => ∃ xs, SqT K H a xs ∧ xs.length ≤ i⟩
def Itr (lo : Int) (n : Nat) : It := ⟨fun i _ => i < n, fun i H x H' => H' = H ∧ x = .int (lo + i), fun i _ => n ≤ i⟩
theorem turn_list {P : Program} {w : World} {K : PySem.W.Frag} {tg : Expr} (a it : Addr) : Turn P w K tg (Itl K a) [it] it (fun i h => h.IsListIter it a i) where
  mem := by simp
  obj := fun i h st b hb => by
    have e : b = it := by simpa using hb
    subst e
    obtain ⟨o, e, c, d⟩ := st
    exact ⟨o, e, fun v z => by rw [d] at z; cases z⟩
  keep := fun i h h' st k => st.at fun o e => k it (by simp) o e
  item := by
    intro X hP hw hK hc i pins s σ H E I hf st hg
    subst hP hw hK
    obtain ⟨xs, x, hq, hx⟩ := hg
    obtain ⟨its, rv, p, hz⟩ := I.list hq
    obtain ⟨u, hu, ru⟩ := rv.get hx
    obtain ⟨f0, f1, f2, f3, f4, f5⟩ := hf it (by simp)
    refine wpAny_pyNext_list_item st p.isList (x := u) (by simpa using hu) fun h' st' sb => ?_
    have I1 : Inv X pins σ H { s with heap := h' } := I.turned (t' := s.toks) (fun b o hb e => (sb.2 b hb).trans e) f0 f1 f3 f4 f5
    obtain ⟨o, e, c, d⟩ := id st'
    exact ⟨u, rfl, go_of (s := { s with heap := h' }) e c d (by decide) ⟨x, H, I1, ru, ⟨rfl, fun ys hy => by rw [I.list_inj hy hq]; exact hx⟩, st', fun b hb => (hf b hb).1⟩⟩
  done := by
    intro X hP hw hK hc i pins s σ H E I hf st hg
    subst hP hw hK
    obtain ⟨xs, hq, hx⟩ := hg
    obtain ⟨its, rv, p, hz⟩ := I.list hq
    obtain ⟨f0, f1, f2, f3, f4, f5⟩ := hf it (by simp)
    have hl := rv.length
    exact wpAny_pyNext_list_end (I.ok.hd hc) st p.isList (by simp; omega) fun h' eb => ⟨rfl, I.turned (t' := s.toks) (fun b o hb e => eb b o hb e) f0 f1 f3 f4 f5⟩
  self := fun _ _ _ _ _ st h => wpAny_pyIter_listiter st h
theorem turn_tuple {P : Program} {w : World} {K : PySem.W.Frag} {tg : Expr} (a it : Addr) : Turn P w K tg (Itt K a) [it] it (fun i h => h.IsTupleIter it a i) where
  mem := by simp
  obj := fun i h st b hb => by
    have e : b = it := by simpa using hb
    subst e
    obtain ⟨o, e, c, d⟩ := st
    exact ⟨o, e, fun v z => by rw [d] at z; cases z⟩
  keep := fun i h h' st k => st.at fun o e => k it (by simp) o e
  item := by
    intro X hP hw hK hc i pins s σ H E I hf st hg
    subst hP hw hK
    obtain ⟨xs, x, hq, hx⟩ := hg
    obtain ⟨its, rv, p, hz⟩ := I.tuple hq
    obtain ⟨u, hu, ru⟩ := rv.get hx
    obtain ⟨f0, f1, f2, f3, f4, f5⟩ := hf it (by simp)
    refine wpAny_pyNext_tuple_item st (show s.heap.IsTuple a its.toArray from p) (x := u) (by simpa using hu) fun h' st' sb => ?_
    have I1 : Inv X pins σ H { s with heap := h' } := I.turned (t' := s.toks) (fun b o hb e => (sb.2 b hb).trans e) f0 f1 f3 f4 f5
    obtain ⟨o, e, c, d⟩ := id st'
    exact ⟨u, rfl, go_of (s := { s with heap := h' }) e c d (by decide) ⟨x, H, I1, ru, ⟨rfl, fun ys hy => by rw [I.tuple_inj hy hq]; exact hx⟩, st', fun b hb => (hf b hb).1⟩⟩
  done := by
    intro X hP hw hK hc i pins s σ H E I hf st hg
    subst hP hw hK
    obtain ⟨xs, hq, hx⟩ := hg
    obtain ⟨its, rv, p, hz⟩ := I.tuple hq
    obtain ⟨f0, f1, f2, f3, f4, f5⟩ := hf it (by simp)
    have hl := rv.length
    exact wpAny_pyNext_tuple_end (I.ok.hd hc) st (show s.heap.IsTuple a its.toArray from p) (by simp; omega) fun h' eb => ⟨rfl, I.turned (t' := s.toks) (fun b o hb e => eb b o hb e) f0 f1 f3 f4 f5⟩
  self := fun _ _ _ _ _ st h => wpAny_pyIter_tupleiter st h
theorem turn_range {P : Program} {w : World} {K : PySem.W.Frag} {tg : Expr} (it : Addr) (lo : Int) (n : Nat) : Turn P w K tg (Itr lo n) [it] it (fun i h => IsRangeIter h it (lo + (i : Nat) * 1) ((n : Int) - (i : Nat)) 1) where
  mem := by simp
  obj := fun i h st b hb => by
    have e : b = it := by simpa using hb
    subst e
    exact ⟨_, st, fun v z => by
      have z' : Data.fields _ = Data.cell v := z
      cases z'⟩
  keep := fun i h h' st k => k it (by simp) _ st
  item := by
    intro X hP hw hK hc i pins s σ H E I hf st hg
    subst hP hw hK
    obtain ⟨f0, f1, f2, f3, f4, f5⟩ := hf it (by simp)
    have W := Walks.range (prog := X.prog) (w := X.w) (I.ok.hd hc) it lo 1 n
    refine W.item i s _ _ hg st fun v h' tk hv st' kk => ?_
    obtain ⟨t, rfl⟩ := hv
    have I1 : Inv X pins σ H { s with heap := h', toks := tk } := I.turned (fun b o hb e => kk b o (by simpa using hb) e) f0 f1 f3 f4 f5
    refine ⟨_, rfl, go_of (s := { s with heap := h', toks := tk }) (n := "range_iterator") st' rfl rfl (by decide) ⟨.int (lo + i), H, I1, ⟨t, ?_⟩, ⟨rfl, rfl⟩, st', fun b hb => (hf b hb).1⟩⟩
    rw [Int.mul_one]
  done := by
    intro X hP hw hK hc i pins s σ H E I hf st hg
    subst hP hw hK
    obtain ⟨f0, f1, f2, f3, f4, f5⟩ := hf it (by simp)
    exact wpAny_pyNext_range_end (I.ok.hd hc) st (by have : n ≤ i := hg; omega) fun h' eb => ⟨rfl, I.turned (t' := s.toks) (fun b o hb e => eb b o hb e) f0 f1 f3 f4 f5⟩
  self := fun _ _ _ _ _ st h => wpAny_pyIter_rangeiter st h
end L2

namespace L2
open PySem PySem.Spec PyProof.Rows
section
variable {X : Cx} {tg : Expr}
def iList (K : PySem.W.Frag) (tl : TE) : TI := fun σ H R => tl σ H fun x H1 => ∃ a, x = .ref a ∧ (∃ xs, SqL K H1 a xs) ∧ R (Itl K a) H1
def iTup (K : PySem.W.Frag) (tl : TE) : TI := fun σ H R => tl σ H fun x H1 => ∃ a, x = .ref a ∧ (∃ xs, SqT K H1 a xs) ∧ R (Itt K a) H1
theorem pi_list {l : Expr} {tl : TE} (hl : PE X l tl) : PI X tg l (iList X.K tl) := by
  intro pins s σ H R I h
  refine thn (hl pins s σ H _ I h) fun v s1 ⟨x, H1, I1, r1, q1⟩ => ?_
  obtain ⟨a, e, ⟨xs, hq⟩, q⟩ := q1
  subst e
  cases r1
  obtain ⟨its, rv, p, hz⟩ := I1.list hq
  refine wpAny_pyIter_list p.isList ?_
  refine ⟨s1.heap.objs.size, [s1.heap.objs.size], _, _, H1, rfl, I1.kept (t' := s1.toks) fun b o e => Heap.get?_push_of_some _ e, turn_list a _, ⟨_, Heap.get?_push_size _ rfl, rfl, rfl⟩, fun b hb => ?_, q⟩
  have e : b = s1.heap.objs.size := by simpa using hb
  subst e
  exact I1.fpOk (Nat.le_refl _) (I1.hok.fresh (Nat.le_refl _))
theorem pi_tup {l : Expr} {tl : TE} (hl : PE X l tl) : PI X tg l (iTup X.K tl) := by
  intro pins s σ H R I h
  refine thn (hl pins s σ H _ I h) fun v s1 ⟨x, H1, I1, r1, q1⟩ => ?_
  obtain ⟨a, e, ⟨xs, hq⟩, q⟩ := q1
  subst e
  cases r1
  obtain ⟨its, rv, p, hz⟩ := I1.tuple hq
  refine wpAny_pyIter_tuple (show s1.heap.IsTuple a its.toArray from p) ?_
  refine ⟨s1.heap.objs.size, [s1.heap.objs.size], _, _, H1, rfl, I1.kept (t' := s1.toks) fun b o e => Heap.get?_push_of_some _ e, turn_tuple a _, ⟨_, Heap.get?_push_size _ rfl, rfl, rfl⟩, fun b hb => ?_, q⟩
  have e : b = s1.heap.objs.size := by simpa using hb
  subst e
  exact I1.fpOk (Nat.le_refl _) (I1.hok.fresh (Nat.le_refl _))
theorem range_it {pins : List (Addr × Obj)} {σ : St} {H : Hp} {s : Shared} {R : It → Hp → Prop} {E : Value → Shared → Prop} {lo hi : Int} {t u v : Tok} {tk : Nat} (I : Inv X pins σ H s) (h1 : -(2 ^ 62) ≤ lo) (h2 : lo < 2 ^ 62) (h3 : -(2 ^ 62) ≤ hi) (h4 : hi < 2 ^ 62)
    (q : R (Itr lo (hi - lo).toNat) H) : wpAny (model X.prog X.w) X.A (pyIter (.ref s.heap.objs.size)) (PIE X pins σ tg R) E { s with heap := s.heap.push { cls := .type "range", data := .fields #[.int lo t, .int hi u, .int 1 v] }, toks := tk } := by
  refine wpAny_pyIter_range (IsRange.new ..) (small_one h1 h2 h3 h4) ?_
  have I1 : Inv X pins σ H { s with heap := s.heap.push { cls := .type "range", data := .fields #[.int lo t, .int hi u, .int 1 v] }, toks := tk } := I.kept fun b o e => Heap.get?_push_of_some _ e
  refine ⟨(s.heap.push { cls := .type "range", data := .fields #[.int lo t, .int hi u, .int 1 v] }).objs.size, [(s.heap.push { cls := .type "range", data := .fields #[.int lo t, .int hi u, .int 1 v] }).objs.size], _, _, H, rfl,
    I1.kept (t' := tk) fun b o e => Heap.get?_push_of_some _ e, turn_range _ lo (hi - lo).toNat, ?_, fun b hb => ?_, q⟩
  · have e1 : lo + ((0 : Nat) : Int) * 1 = lo := by simp
    have e2 : (((hi - lo).toNat : Nat) : Int) - ((0 : Nat) : Int) = Builtin.Range.rangeSize lo hi 1 := by rw [rangeSize_one]; split <;> omega
    show IsRangeIter _ _ (lo + ((0 : Nat) : Int) * 1) ((((hi - lo).toNat : Nat) : Int) - ((0 : Nat) : Int)) 1
    rw [e1, e2]
    exact Heap.get?_push_size _ rfl
  · have e : b = (s.heap.push { cls := .type "range", data := .fields #[.int lo t, .int hi u, .int 1 v] }).objs.size := by simpa using hb
    subst e
    exact I1.fpOk (Nat.le_refl _) (I1.hok.fresh (Nat.le_refl _))
def iRng1 (ta : TA) : TI := fun σ H R => ta σ H fun vs H1 => ∃ j : Int, vs = [.int j] ∧ -(2 ^ 62) ≤ j ∧ j < 2 ^ 62 ∧ R (Itr 0 j.toNat) H1
def iRng2 (ta : TA) : TI := fun σ H R => ta σ H fun vs H1 => ∃ i j : Int, vs = [.int i, .int j] ∧ (-(2 ^ 62) ≤ i ∧ i < 2 ^ 62 ∧ -(2 ^ 62) ≤ j ∧ j < 2 ^ 62) ∧ R (Itr i (j - i).toNat) H1
theorem pi_range1 {a : Expr} {ta : TA} {p pos : Pos} (hg : Gl X "range") (hm : X.mg "range" = none) (ha : PA X [a] ta) (hs : starEach [a] X.env = [(false, eval a X.env)] := by rfl) : PI X tg (.Call (.Name "range" p) [a] [] pos) (iRng1 ta) := by
  intro pins s σ H R I h
  refine Call_ (ld_blt I hg hm boot_range (PyProof.Rows.callWith_type1 (thn (ha pos pins s σ H _ I h) fun us s1 ⟨vs, H1, I1, r1, q1⟩ => ?_) hs rfl))
  obtain ⟨j, e, q1, q2, q⟩ := q1
  subst e
  cases r1 with
  | cons r rr =>
    cases rr
    obtain ⟨t, rfl⟩ := r
    exact call_range_1 (range_it I1 (by omega) (by omega) q1 q2 (by simpa using q))
theorem pi_range2 {a b : Expr} {ta : TA} {p pos : Pos} (hg : Gl X "range") (hm : X.mg "range" = none) (ha : PA X [a, b] ta) (hs : starEach [a, b] X.env = [(false, eval a X.env), (false, eval b X.env)] := by rfl) (hs2 : starEach [b] X.env = [(false, eval b X.env)] := by rfl) :
    PI X tg (.Call (.Name "range" p) [a, b] [] pos) (iRng2 ta) := by
  intro pins s σ H R I h
  refine Call_ (ld_blt I hg hm boot_range (PyProof.Rows.callWith_type1 (thn (ha pos pins s σ H _ I h) fun us s1 ⟨vs, H1, I1, r1, q1⟩ => ?_) (by rw [hs, hs2]) (by rw [hs2]; rfl)))
  obtain ⟨i, j, e, ⟨q1, q2, q3, q4⟩, q⟩ := q1
  subst e
  cases r1 with
  | cons r rr =>
    cases rr with
    | cons r' rr =>
      cases rr
      obtain ⟨t, rfl⟩ := r
      obtain ⟨t', rfl⟩ := r'
      exact call_range_2 (range_it I1 q1 q2 q3 q4 q)

def tFor (wi : TI) (g : TG) (tb : TS) : TS := fun D σ H => wi σ H fun J H1 => ∃ W : Nat → Nat → St → Hp → Prop, (∃ m, W 0 m σ H1) ∧ ∀ i m σ H, W i m σ H →
  (J.stop i H ∧ D.nx σ H) ∨ (J.go i H ∧ ∃ N : St → Hp → Prop, (∀ σ' H', N σ' H' → ∃ m', m' < m ∧ W (i + 1) m' σ' H') ∧ ∀ x H', J.yld i H x H' → g x σ H' fun σ2 H2 => tb { D with nx := N, ct := N, bk := D.nx } σ2 H2)
def pinsAt (fp : List Addr) (h : Heap) : List (Addr × Obj) := fp.filterMap fun b => (h.get? b).map fun o => (b, o)
theorem mem_pinsAt {fp : List Addr} {h : Heap} {b : Addr} {o : Obj} (hb : b ∈ fp) (e : h.get? b = some o) : (b, o) ∈ pinsAt fp h := List.mem_filterMap.mpr ⟨b, hb, by rw [e]; rfl⟩
theorem of_pinsAt {fp : List Addr} {h : Heap} {p : Addr × Obj} (hp : p ∈ pinsAt fp h) : p.1 ∈ fp ∧ h.get? p.1 = some p.2 := by
  obtain ⟨b, hb, e⟩ := List.mem_filterMap.mp hp
  cases q : h.get? b with
  | none => rw [q] at e; cases e
  | some o =>
    rw [q] at e
    have e' : (b, o) = p := Option.some.inj e
    subst e'
    exact ⟨hb, q⟩
theorem Inv.pinned {pins : List (Addr × Obj)} {σ : St} {H : Hp} {s : Shared} {fp : List Addr} (I : Inv X pins σ H s) (hf : ∀ b ∈ fp, FpOk X pins H b) (ho : ∀ b ∈ fp, ∃ o, s.heap.get? b = some o ∧ ∀ v, o.data ≠ .cell v) : Inv X (pins ++ pinsAt fp s.heap) σ H s :=
  I.pins_of fun p hp => (List.mem_append.mp hp).elim (fun z => I.pin p (List.mem_append_right _ z)) fun z => by
    obtain ⟨hb, e⟩ := of_pinsAt z
    obtain ⟨f0, f1, f2, _⟩ := hf p.1 hb
    obtain ⟨o, e', d⟩ := ho p.1 hb
    rw [e] at e'; cases e'
    exact ⟨e, f0, f1, f2, d⟩
theorem Inv.unpinned {pins pl : List (Addr × Obj)} {σ : St} {H : Hp} {s : Shared} (I : Inv X (pins ++ pl) σ H s) : Inv X pins σ H s := I.pins_of fun p hp => I.pin p (List.mem_append_right _ (List.mem_append_left _ hp))
theorem ps_for {iter : Expr} {body : List Stmt} {wi : TI} {g : TG} {tb : TS} {pos : Pos} (hp : PassesOwn (model X.prog X.w) X.A X.env X.xe) (hc : X.calm = true) (hi : PI X tg iter wi) (hg : PG X tg g) (hb : PSs X body tb)
    (hs : ∀ x, foldedSetIterable iter X.env x = pure x := by intro _; rfl) : PS X (.For tg iter body [] pos) (tFor wi g tb) := by
  intro pins s σ H D I h
  refine wpAny_For (thn (hi pins s σ H _ I h) fun v s1 h1 => thn h1 fun itv s2 h2 => ?_) hs
  obtain ⟨it, fp, tn, J, H2, e, I2, T, st2, f2, W, ⟨m0, w0⟩, turn⟩ := h2
  subst e
  -- what stays true of the iterator's objects through the loop
  have stat : ∀ {H' : Hp}, (∀ b ∈ fp, H' b = none) → ∀ b ∈ fp, FpOk X pins H' b := fun hn b hb => ⟨hn b hb, (f2 b hb).2⟩
  refine codeAny_forLoop_any (fun n s' => ∃ i σ' H', Inv X pins σ' H' s' ∧ tn i s'.heap ∧ (∀ b ∈ fp, H' b = none) ∧ W i n σ' H') ?_ m0 ⟨0, σ, H2, I2, st2, fun b hb => (f2 b hb).1, w0⟩
  rintro n s3 ⟨i, σ3, H3, I3, st3, fr3, w3⟩
  rcases turn i n σ3 H3 w3 with ⟨stop, qn⟩ | ⟨go, N, hN, step⟩
  · refine wpAny_passesOwn hp (thn (T.done X rfl rfl rfl hc i pins s3 σ3 H3 X.xe I3 (stat fr3) st3 stop) fun r s4 ⟨hr, I4⟩ => ?_)
    subst hr
    exact wpAny_execs_nil ⟨σ3, H3, I4, qn⟩
  · refine wpAny_passesOwn hp (thn (T.item X rfl rfl rfl hc i pins s3 σ3 H3 X.xe I3 (stat fr3) st3 go) fun r s4 ⟨u, hr, h4⟩ => ?_)
    subst hr
    refine wpAny_passesOwn hp (thn h4 fun _ s5 ⟨x, H5, I5, r5, y5, st5, fr5⟩ => ?_)
    have I5' := I5.pinned (stat fr5) (T.obj _ _ st5)
    refine wpAny_passesOwn hp (thn (hg _ s5 σ3 H5 x u _ I5' r5 (step x H5 y5)) fun _ s6 ⟨σ6, H6, I6, q6⟩ => ?_)
    refine wpAny_passesOwn hp (thn (hb _ s6 σ6 H6 _ I6 q6) fun f s7 q7 => ?_)
    have again : ∀ {σ7 : St} {H7 : Hp}, Inv X (pins ++ pinsAt fp s5.heap) σ7 H7 s7 → N σ7 H7 → ∃ m, m < n ∧ ∃ i σ' H', Inv X pins σ' H' s7 ∧ tn i s7.heap ∧ (∀ b ∈ fp, H' b = none) ∧ W i m σ' H' := fun {σ7 H7} I7 n7 => by
      obtain ⟨m', hm, w7⟩ := hN σ7 H7 n7
      refine ⟨m', hm, i + 1, σ7, H7, I7.unpinned, T.keep _ _ _ st5 fun b hb o e => (I7.pin (b, o) (List.mem_append_right _ (List.mem_append_right _ (mem_pinsAt hb e)))).1, fun b hb => ?_, w7⟩
      obtain ⟨o, e, d⟩ := T.obj _ _ st5 b hb
      exact (I7.pin (b, o) (List.mem_append_right _ (List.mem_append_right _ (mem_pinsAt hb e)))).2.1
    cases f with
    | next => obtain ⟨σ7, H7, I7, n7⟩ := q7; exact again I7 n7
    | cont => obtain ⟨σ7, H7, I7, n7⟩ := q7; exact again I7 n7
    | brk => obtain ⟨σ7, H7, I7, q7⟩ := q7; exact ⟨σ7, H7, I7.unpinned, q7⟩
    | ret v => obtain ⟨x7, σ7, H7, I7, r7, q7⟩ := q7; exact ⟨x7, σ7, H7, I7.unpinned, r7, q7⟩
end

theorem for_list {K : PySem.W.Frag} {a : Addr} {xs : List V} {g : TG} {tb : TS} {D : Ends} {σ : St} {H : Hp} (Pv : Nat → St → Hp → Prop) (h0 : Pv 0 σ H) (hl : ∀ i σ H, i ≤ xs.length → Pv i σ H → SqL K H a xs)
    (hs : ∀ i x σ H, xs[i]? = some x → Pv i σ H → g x σ H fun σ2 H2 => tb { D with nx := Pv (i + 1), ct := Pv (i + 1), bk := D.nx } σ2 H2) (hd : ∀ σ H, Pv xs.length σ H → D.nx σ H) :
    ∃ W : Nat → Nat → St → Hp → Prop, (∃ m, W 0 m σ H) ∧ ∀ i m σ H, W i m σ H →
      ((Itl K a).stop i H ∧ D.nx σ H) ∨ ((Itl K a).go i H ∧ ∃ N : St → Hp → Prop, (∀ σ' H', N σ' H' → ∃ m', m' < m ∧ W (i + 1) m' σ' H') ∧ ∀ x H', (Itl K a).yld i H x H' → g x σ H' fun σ2 H2 => tb { D with nx := N, ct := N, bk := D.nx } σ2 H2) := by
  refine ⟨fun i m σ H => m = xs.length - i ∧ i ≤ xs.length ∧ Pv i σ H, ⟨xs.length, by simp, Nat.zero_le _, h0⟩, ?_⟩
  rintro i m σ H ⟨rfl, hi, p⟩
  have q := hl i σ H hi p
  by_cases hlt : i < xs.length
  · refine .inr ⟨⟨xs, xs[i], q, by simp [hlt]⟩, Pv (i + 1), fun σ' H' p' => ⟨xs.length - (i + 1), by omega, rfl, hlt, p'⟩, fun x H' y => ?_⟩
    obtain ⟨e, y⟩ := y
    subst e
    exact hs i x σ _ (y xs q) p
  · have e : i = xs.length := by omega
    subst e
    exact .inl ⟨⟨xs, q, Nat.le_refl _⟩, hd σ H p⟩
theorem for_tup {K : PySem.W.Frag} {a : Addr} {xs : List V} {g : TG} {tb : TS} {D : Ends} {σ : St} {H : Hp} (Pv : Nat → St → Hp → Prop) (h0 : Pv 0 σ H) (hl : ∀ i σ H, i ≤ xs.length → Pv i σ H → SqT K H a xs)
    (hs : ∀ i x σ H, xs[i]? = some x → Pv i σ H → g x σ H fun σ2 H2 => tb { D with nx := Pv (i + 1), ct := Pv (i + 1), bk := D.nx } σ2 H2) (hd : ∀ σ H, Pv xs.length σ H → D.nx σ H) :
    ∃ W : Nat → Nat → St → Hp → Prop, (∃ m, W 0 m σ H) ∧ ∀ i m σ H, W i m σ H →
      ((Itt K a).stop i H ∧ D.nx σ H) ∨ ((Itt K a).go i H ∧ ∃ N : St → Hp → Prop, (∀ σ' H', N σ' H' → ∃ m', m' < m ∧ W (i + 1) m' σ' H') ∧ ∀ x H', (Itt K a).yld i H x H' → g x σ H' fun σ2 H2 => tb { D with nx := N, ct := N, bk := D.nx } σ2 H2) := by
  refine ⟨fun i m σ H => m = xs.length - i ∧ i ≤ xs.length ∧ Pv i σ H, ⟨xs.length, by simp, Nat.zero_le _, h0⟩, ?_⟩
  rintro i m σ H ⟨rfl, hi, p⟩
  have q := hl i σ H hi p
  by_cases hlt : i < xs.length
  · refine .inr ⟨⟨xs, xs[i], q, by simp [hlt]⟩, Pv (i + 1), fun σ' H' p' => ⟨xs.length - (i + 1), by omega, rfl, hlt, p'⟩, fun x H' y => ?_⟩
    obtain ⟨e, y⟩ := y
    subst e
    exact hs i x σ _ (y xs q) p
  · have e : i = xs.length := by omega
    subst e
    exact .inl ⟨⟨xs, q, Nat.le_refl _⟩, hd σ H p⟩
theorem for_range {lo : Int} {n : Nat} {g : TG} {tb : TS} {D : Ends} {σ : St} {H : Hp} (Pv : Nat → St → Hp → Prop) (h0 : Pv 0 σ H)
    (hs : ∀ i σ H, i < n → Pv i σ H → g (.int (lo + i)) σ H fun σ2 H2 => tb { D with nx := Pv (i + 1), ct := Pv (i + 1), bk := D.nx } σ2 H2) (hd : ∀ σ H, Pv n σ H → D.nx σ H) :
    ∃ W : Nat → Nat → St → Hp → Prop, (∃ m, W 0 m σ H) ∧ ∀ i m σ H, W i m σ H →
      ((Itr lo n).stop i H ∧ D.nx σ H) ∨ ((Itr lo n).go i H ∧ ∃ N : St → Hp → Prop, (∀ σ' H', N σ' H' → ∃ m', m' < m ∧ W (i + 1) m' σ' H') ∧ ∀ x H', (Itr lo n).yld i H x H' → g x σ H' fun σ2 H2 => tb { D with nx := N, ct := N, bk := D.nx } σ2 H2) := by
  refine ⟨fun i m σ H => m = n - i ∧ i ≤ n ∧ Pv i σ H, ⟨n, by simp, Nat.zero_le _, h0⟩, ?_⟩
  rintro i m σ H ⟨rfl, hi, p⟩
  by_cases hlt : i < n
  · refine .inr ⟨hlt, Pv (i + 1), fun σ' H' p' => ⟨n - (i + 1), by omega, rfl, hlt, p'⟩, fun x H' y => ?_⟩
    obtain ⟨e, y⟩ := y
    subst e y
    exact hs i σ _ hlt p
  · have e : i = n := by omega
    subst e
    exact .inl ⟨Nat.le_refl _, hd σ H p⟩
end L2

namespace L2
open PySem PySem.Spec PyProof.Rows

abbrev R2 := V → V → Hp → VK → Prop
def OpR (X : Cx) (f : Value → Value → Sem Value) (r : R2) : Prop :=
  ∀ (pins : List (Addr × Obj)) (s : Shared) (σ : St) (H : Hp) (x y : V) (v u : Value) (Q : VK), Inv X pins σ H s → RelV x v → RelV y u → r x y H Q →
    wpAny (model X.prog X.w) X.A (f v u) (EP X pins σ Q) X.xe s
def UnR (X : Cx) (f : Value → Sem Value) (r : V → Hp → VK → Prop) : Prop :=
  ∀ (pins : List (Addr × Obj)) (s : Shared) (σ : St) (H : Hp) (x : V) (v : Value) (Q : VK), Inv X pins σ H s → RelV x v → r x H Q →
    wpAny (model X.prog X.w) X.A (f v) (EP X pins σ Q) X.xe s
def CallR (X : Cx) (f : Value) (r : List V → Hp → VK → Prop) : Prop :=
  ∀ (pins : List (Addr × Obj)) (s : Shared) (σ : St) (H : Hp) (xs : List V) (us : List Value) (Q : VK), Inv X pins σ H s → Vals xs us → r xs H Q →
    wpAny (model X.prog X.w) X.A (call f us) (EP X pins σ Q) X.xe s
def TruR (X : Cx) (r : V → Hp → (Bool → Hp → Prop) → Prop) : Prop :=
  ∀ (pins : List (Addr × Obj)) (s : Shared) (σ : St) (H : Hp) (x : V) (v : Value) (Q : Bool → Hp → Prop), Inv X pins σ H s → RelV x v → r x H Q →
    wpAny (model X.prog X.w) X.A (truthy v) (TP X pins σ Q) X.xe s

def tOp (r : R2) (ta tb : TE) : TE := fun σ H Q => ta σ H fun x H1 => tb σ H1 fun y H2 => r x y H2 Q
def tUn (r : V → Hp → VK → Prop) (ta : TE) : TE := fun σ H Q => ta σ H fun x H1 => r x H1 Q
def rI (C : Int → Int → Prop) (g : Int → Int → V) : R2 := fun x y H Q => ∃ i j, x = .int i ∧ y = .int j ∧ C i j ∧ Q (g i j) H
def rI0 (g : Int → Int → V) : R2 := fun x y H Q => ∃ i j, x = .int i ∧ y = .int j ∧ Q (g i j) H
def rU (g : Int → V) : V → Hp → VK → Prop := fun x H Q => ∃ i, x = .int i ∧ Q (g i) H

section
variable {X : Cx} {a b c : Expr} {ta tb tc : TE} {pos : Pos}

theorem binT (ha : PE X a ta) (hb : PE X b tb) {pins : List (Addr × Obj)} {s : Shared} {σ : St} {H : Hp} {R : V → V → Hp → Prop} (I : Inv X pins σ H s)
    (h : ta σ H fun x H1 => tb σ H1 fun y H2 => R x y H2) {Q : Value → Shared → Prop} {f : Value → Value → Sem Value}
    (hf : ∀ v u s2 x y H2, Inv X pins σ H2 s2 → RelV x v → RelV y u → R x y H2 → wpAny (model X.prog X.w) X.A (f v u) Q X.xe s2) :
    wpAny (model X.prog X.w) X.A (eval a X.env) (fun v s₁ => wpAny (model X.prog X.w) X.A (eval b X.env) (fun u s₂ => wpAny (model X.prog X.w) X.A (f v u) Q X.xe s₂) X.xe s₁) X.xe s := by
  refine thn (ha pins s σ H _ I h) fun v s1 ⟨x, H1, I1, r1, q1⟩ => ?_
  refine thn (hb pins s1 σ H1 _ I1 q1) fun u s2 ⟨y, H2, I2, r2, q2⟩ => ?_
  exact hf v u s2 x y H2 I2 r1 r2 q2

theorem pe_op {op : Operator} {r : R2} (ho : OpR X (binaryOp op) r) (ha : PE X a ta) (hb : PE X b tb) : PE X (.BinOp a op b pos) (tOp r ta tb) := by
  intro pins s σ H Q I h
  exact wpAny_BinOp (binT ha hb I h fun v u s2 x y H2 I2 rx ry q => ho pins s2 σ H2 x y v u Q I2 rx ry q)
theorem pe_un {op : UnaryOp} {r : V → Hp → VK → Prop} (ho : UnR X (unaryOp op) r) (ha : PE X a ta) : PE X (.UnaryOp op a pos) (tUn r ta) := by
  intro pins s σ H Q I h
  exact UnaryOp_ (thn (ha pins s σ H _ I h) fun v s1 ⟨x, H1, I1, r1, q1⟩ => ho pins s1 σ H1 x v Q I1 r1 q1)
theorem opI {f : Value → Value → Sem Value} {C : Int → Int → Prop} {g : Int → Int → Int}
    (rule : ∀ (i j : Int) (t u : Tok) (s : Shared) (Q : Value → Shared → Prop) (E : Value → Shared → Prop), C i j → Q (.int (g i j) s.toks) { s with toks := s.toks + 1 } → wpAny (model X.prog X.w) X.A (f (.int i t) (.int j u)) Q E s) :
    OpR X f (rI C fun i j => .int (g i j)) := by
  intro pins s σ H x y v u Q I rx ry h
  obtain ⟨i, j, rfl, rfl, hc, q⟩ := h
  obtain ⟨t, rfl⟩ := rx
  obtain ⟨t', rfl⟩ := ry
  exact rule i j t t' s _ _ hc ⟨.int (g i j), H, I.tok _, ⟨_, rfl⟩, q⟩
theorem opI0 {f : Value → Value → Sem Value} {g : Int → Int → Int}
    (rule : ∀ (i j : Int) (t u : Tok) (s : Shared) (Q : Value → Shared → Prop) (E : Value → Shared → Prop), Q (.int (g i j) s.toks) { s with toks := s.toks + 1 } → wpAny (model X.prog X.w) X.A (f (.int i t) (.int j u)) Q E s) :
    OpR X f (rI0 fun i j => .int (g i j)) := by
  intro pins s σ H x y v u Q I rx ry h
  obtain ⟨i, j, rfl, rfl, q⟩ := h
  obtain ⟨t, rfl⟩ := rx
  obtain ⟨t', rfl⟩ := ry
  exact rule i j t t' s _ _ ⟨.int (g i j), H, I.tok _, ⟨_, rfl⟩, q⟩
theorem opB0 {f : Value → Value → Sem Value} {g : Int → Int → Bool}
    (rule : ∀ (i j : Int) (t u : Tok) (s : Shared) (Q : Value → Shared → Prop) (E : Value → Shared → Prop), Q (.bool (g i j)) s → wpAny (model X.prog X.w) X.A (f (.int i t) (.int j u)) Q E s) :
    OpR X f (rI0 fun i j => .bl (g i j)) := by
  intro pins s σ H x y v u Q I rx ry h
  obtain ⟨i, j, rfl, rfl, q⟩ := h
  obtain ⟨t, rfl⟩ := rx
  obtain ⟨t', rfl⟩ := ry
  exact rule i j t t' s _ _ ⟨.bl (g i j), H, I, rfl, q⟩

def CPow (i j : Int) : Prop := 0 ≤ j ∧ j ≤ 1000000 ∧ i.natAbs < 2 ^ 64
def CMul (i j : Int) : Prop := (-(2 ^ 64) < i ∧ i < 2 ^ 64) ∨ (-(2 ^ 64) < j ∧ j < 2 ^ 64)
theorem CMul.ok {i j : Int} (h : CMul i j) : IntMulOk i j := by
  rcases h with ⟨h1, h2⟩ | ⟨h1, h2⟩
  · exact .of_left (intBits_le_64 h1 h2)
  · exact .of_right (intBits_le_64 h1 h2)
theorem op_add : OpR X (binaryOp .Add) (rI0 fun i j => .int (i + j)) := opI0 fun _ _ _ _ _ _ _ q => add_int q
theorem op_sub : OpR X (binaryOp .Sub) (rI0 fun i j => .int (i - j)) := opI0 fun _ _ _ _ _ _ _ q => sub_int q
theorem op_mul : OpR X (binaryOp .Mult) (rI CMul fun i j => .int (i * j)) := opI fun _ _ _ _ _ _ _ hc q => mul_int q hc.ok
theorem op_mod : OpR X (binaryOp .Mod) (rI (fun _ j => 0 < j) fun i j => .int (i % j)) := opI fun i j _ _ _ _ _ hc q => by
  have h1 : (0 : Int) < j := hc
  exact mod_int' (by omega) (by rw [Int.fmod_eq_emod_of_nonneg i (by omega)]; exact q)
theorem op_pow : OpR X (binaryOp .Pow) (rI CPow fun i j => .int (i ^ j.toNat)) := opI fun _ _ _ _ _ _ _ hc q => pow_int_small hc.1 hc.2.1 hc.2.2 q
theorem unI {f : Value → Sem Value} {g : Int → Int}
    (rule : ∀ (i : Int) (t : Tok) (s : Shared) (Q : Value → Shared → Prop) (E : Value → Shared → Prop), Q (.int (g i) s.toks) { s with toks := s.toks + 1 } → wpAny (model X.prog X.w) X.A (f (.int i t)) Q E s) :
    UnR X f (rU fun i => .int (g i)) := by
  intro pins s σ H x v Q I rx h
  obtain ⟨i, rfl, q⟩ := h
  obtain ⟨t, rfl⟩ := rx
  exact rule i t s _ _ ⟨.int (g i), H, I.tok _, ⟨_, rfl⟩, q⟩
theorem un_neg : UnR X (unaryOp .USub) (rU fun i => .int (-i)) := unI fun _ _ _ _ _ q => neg_int q
end

def scal : V → V → Bool
  | .non, .non => true | .non, .int _ => true | .int _, .non => true | .non, .bl _ => true | .bl _, .non => true | .non, .str _ => true | .str _, .non => true
  | .int _, .int _ => true | .bl _, .bl _ => true | .str _, .str _ => true | .byt _, .byt _ => true
  | .int _, .str _ => true | .str _, .int _ => true | .bl _, .str _ => true | .str _, .bl _ => true
  | _, _ => false
def rEq : R2 := fun x y H Q => scal x y = true ∧ Q (.bl (decide (x = y))) H
def rNe : R2 := fun x y H Q => scal x y = true ∧ Q (.bl (!decide (x = y))) H

theorem dec_int {i j : Int} : decide (V.int i = V.int j) = (i == j) := by
  rw [Bool.eq_iff_iff]
  simp
theorem dec_bl {i j : Bool} : decide (V.bl i = V.bl j) = (i == j) := by
  rw [Bool.eq_iff_iff]
  simp
theorem dec_str {i j : Str} : decide (V.str i = V.str j) = (i == j) := by
  rw [Bool.eq_iff_iff]
  simp
theorem dec_byt {i j : Array UInt8} : decide (V.byt i = V.byt j) = (i.toList == j.toList) := by
  rw [Bool.eq_iff_iff]
  cases i
  cases j
  simp

section
variable {X : Cx} {a b c : Expr} {ta tb tc : TE} {pos : Pos}
theorem fin_bl {pins : List (Addr × Obj)} {σ : St} {H : Hp} {s : Shared} {Q : VK} {k k' : Bool} (I : Inv X pins σ H s) (q : Q (.bl k) H) (e : k = k') : EP X pins σ Q (.bool k') s := by
  subst e
  exact ⟨.bl k, H, I, rfl, q⟩
theorem op_eq : OpR X (compareOp .Eq) rEq := by
  intro pins s σ H x y v u Q I rx ry h
  obtain ⟨hs, q⟩ := h
  cases x with
  | non =>
    cases rx
    cases y with
    | non => cases ry; exact PySem.EqNone.eq_none_none (fin_bl I q (by simp))
    | bl j => cases ry; exact PySem.EqNone.eq_none_bool (fin_bl I q (by simp))
    | int j => obtain ⟨t', rfl⟩ := ry; exact PySem.EqNone.eq_none_int (fin_bl I q (by simp))
    | str j => obtain ⟨t', rfl⟩ := ry; exact PySem.EqNone.eq_none_str (fin_bl I q (by simp))
    | _ => exact absurd (show false = true from hs) Bool.false_ne_true
  | bl i =>
    cases rx
    cases y with
    | non => cases ry; exact PySem.EqNone.eq_bool_none (fin_bl I q (by simp))
    | bl j => cases ry; exact eq_bool (fin_bl I q dec_bl)
    | str j => obtain ⟨t', rfl⟩ := ry; exact PySem.EqMixed.eq_bool_str (fin_bl I q (by simp))
    | _ => exact absurd (show false = true from hs) Bool.false_ne_true
  | int i =>
    obtain ⟨t, rfl⟩ := rx
    cases y with
    | non => cases ry; exact PySem.EqNone.eq_int_none (fin_bl I q (by simp))
    | int j => obtain ⟨t', rfl⟩ := ry; exact eq_int (fin_bl I q dec_int)
    | str j => obtain ⟨t', rfl⟩ := ry; exact PySem.EqMixed.eq_int_str (fin_bl I q (by simp))
    | _ => exact absurd (show false = true from hs) Bool.false_ne_true
  | str i =>
    obtain ⟨t, rfl⟩ := rx
    cases y with
    | non => cases ry; exact PySem.EqNone.eq_str_none (fin_bl I q (by simp))
    | bl j => cases ry; exact PySem.EqMixed.eq_str_bool (fin_bl I q (by simp))
    | int j => obtain ⟨t', rfl⟩ := ry; exact PySem.EqMixed.eq_str_int (fin_bl I q (by simp))
    | str j => obtain ⟨t', rfl⟩ := ry; exact eq_str (fin_bl I q dec_str)
    | _ => exact absurd (show false = true from hs) Bool.false_ne_true
  | byt i =>
    obtain ⟨t, rfl⟩ := rx
    cases y with
    | byt j => obtain ⟨t', rfl⟩ := ry; exact PySem.W.eq_bytes (fin_bl I q dec_byt)
    | _ => exact absurd (show false = true from hs) Bool.false_ne_true
  | _ => cases y <;> exact absurd (show false = true from hs) Bool.false_ne_true
theorem op_ne : OpR X (compareOp .NotEq) rNe := by
  intro pins s σ H x y v u Q I rx ry h
  obtain ⟨hs, q⟩ := h
  cases x with
  | non =>
    cases rx
    cases y with
    | non => cases ry; exact PySem.EqNone.ne_none_none (fin_bl I q (by simp))
    | bl j => cases ry; exact PySem.EqNone.ne_none_bool (fin_bl I q (by simp))
    | int j => obtain ⟨t', rfl⟩ := ry; exact PySem.EqNone.ne_none_int (fin_bl I q (by simp))
    | str j => obtain ⟨t', rfl⟩ := ry; exact PySem.EqNone.ne_none_str (fin_bl I q (by simp))
    | _ => exact absurd (show false = true from hs) Bool.false_ne_true
  | bl i =>
    cases rx
    cases y with
    | non => cases ry; exact PySem.EqNone.ne_bool_none (fin_bl I q (by simp))
    | bl j => cases ry; exact ne_bool (fin_bl I q (congrArg not dec_bl))
    | str j => obtain ⟨t', rfl⟩ := ry; exact PySem.EqMixed.ne_bool_str (fin_bl I q (by simp))
    | _ => exact absurd (show false = true from hs) Bool.false_ne_true
  | int i =>
    obtain ⟨t, rfl⟩ := rx
    cases y with
    | non => cases ry; exact PySem.EqNone.ne_int_none (fin_bl I q (by simp))
    | int j => obtain ⟨t', rfl⟩ := ry; exact ne_int (fin_bl I q (congrArg not dec_int))
    | str j => obtain ⟨t', rfl⟩ := ry; exact PySem.EqMixed.ne_int_str (fin_bl I q (by simp))
    | _ => exact absurd (show false = true from hs) Bool.false_ne_true
  | str i =>
    obtain ⟨t, rfl⟩ := rx
    cases y with
    | non => cases ry; exact PySem.EqNone.ne_str_none (fin_bl I q (by simp))
    | bl j => cases ry; exact PySem.EqMixed.ne_str_bool (fin_bl I q (by simp))
    | int j => obtain ⟨t', rfl⟩ := ry; exact PySem.EqMixed.ne_str_int (fin_bl I q (by simp))
    | str j => obtain ⟨t', rfl⟩ := ry; exact ne_str (fin_bl I q (congrArg not dec_str))
    | _ => exact absurd (show false = true from hs) Bool.false_ne_true
  | byt i =>
    obtain ⟨t, rfl⟩ := rx
    cases y with
    | byt j => obtain ⟨t', rfl⟩ := ry; exact PySem.W.ne_bytes (fin_bl I q (congrArg not dec_byt))
    | _ => exact absurd (show false = true from hs) Bool.false_ne_true
  | _ => cases y <;> exact absurd (show false = true from hs) Bool.false_ne_true

theorem op_lt : OpR X (compareOp .Lt) (rI0 fun i j => .bl (decide (i < j))) := opB0 fun _ _ _ _ _ _ _ q => lt_int q
theorem op_le : OpR X (compareOp .LtE) (rI0 fun i j => .bl (decide (i ≤ j))) := opB0 fun _ _ _ _ _ _ _ q => le_int q
theorem op_gt : OpR X (compareOp .Gt) (rI0 fun i j => .bl (decide (j < i))) := opB0 fun _ _ _ _ _ _ _ q => gt_int q
theorem op_ge : OpR X (compareOp .GtE) (rI0 fun i j => .bl (decide (j ≤ i))) := opB0 fun _ _ _ _ _ _ _ q => ge_int q
theorem op_in_str : OpR X (compareOp .In) (fun x y H Q => ∃ i j, x = .str i ∧ y = .str j ∧ Q (.bl (!(Builtin.Str.occurrences j i 0 j.length 1).isEmpty)) H) := by
  intro pins s σ H x y v u Q I rx ry h
  obtain ⟨i, j, rfl, rfl, q⟩ := h
  obtain ⟨t, rfl⟩ := rx
  obtain ⟨t', rfl⟩ := ry
  exact in_str (fin_bl I q rfl)

theorem nomark (b : Expr) {op : CmpOp} (h : op ≠ .In := by decide) (h2 : op ≠ .NotIn := by decide) : behindInMarks op b = false := by
  have e1 : (op == CmpOp.In) = false := by cases op <;> first | rfl | exact absurd rfl h
  have e2 : (op == CmpOp.NotIn) = false := by cases op <;> first | rfl | exact absurd rfl h2
  cases b <;> simp [behindInMarks, e1, e2]
theorem pe_cmpR {op : CmpOp} {r : R2} (ho : OpR X (compareOp op) r) (ha : PE X a ta) (hb : PE X b tb) (hm : behindInMarks op b = false) : PE X (.Compare a [op] [b] pos) (tOp r ta tb) := by
  intro pins s σ H Q I h
  exact wpAny_Compare1 (binT ha hb I h fun v u s2 x y H2 I2 rx ry q => ho pins s2 σ H2 x y v u Q I2 rx ry q) hm
def tTest (t : TE) : TT := fun σ H Q => t σ H fun x H' => ∃ k, x = .bl k ∧ Q k H'
theorem pt_cmpR {op : CmpOp} {r : R2} (ho : OpR X (compareOp op) r) (ha : PE X a ta) (hb : PE X b tb) (hm : behindInMarks op b = false) : PT X (.Compare a [op] [b] pos) (tTest (tOp r ta tb)) := by
  intro pins s σ H Q I h
  refine wpAny_isTrue_Compare1 (thn (ha pins s σ H _ I h) fun v s1 ⟨x, H1, I1, r1, q1⟩ => thn (hb pins s1 σ H1 _ I1 q1) fun u s2 ⟨y, H2, I2, r2, q2⟩ =>
    thn (ho pins s2 σ H2 x y v u _ I2 r1 r2 q2) fun c s3 ⟨z, H3, I3, r3, k, e, q3⟩ => ?_) hm
  subst e
  cases r3
  exact wpAny_truthy_bool ⟨H3, I3, q3⟩
def tChain (r r' : R2) (ta tb tc : TE) : TE := fun σ H Q => ta σ H fun x H1 => tb σ H1 fun y H2 => r x y H2 fun z H3 => ∃ k, z = .bl k ∧
  (if k = true then tc σ H3 fun w' H4 => r' y w' H4 Q else Q (.bl false) H3)
theorem pe_chain {op op' : CmpOp} {r r' : R2} (ho : OpR X (compareOp op) r) (ho' : OpR X (compareOp op') r') (ha : PE X a ta) (hb : PE X b tb) (hc : PE X c tc)
    (hm : lastMarks [op, op'] [b, c] = false := by with_unfolding_all rfl) : PE X (.Compare a [op, op'] [b, c] pos) (tChain r r' ta tb tc) := by
  intro pins s σ H Q I h
  refine Compare_chain (thn (ha pins s σ H _ I h) fun v s1 ⟨x, H1, I1, r1, q1⟩ => chain_link (thn (hb pins s1 σ H1 _ I1 q1) fun u s2 ⟨y, H2, I2, r2, q2⟩ =>
    thn (ho pins s2 σ H2 x y v u _ I2 r1 r2 q2) fun d s3 ⟨z, H3, I3, r3, k, e, q3⟩ => ?_)) hm
  subst e
  cases r3
  refine wpAny_truthy_bool ?_
  cases k with
  | false => exact ite_ff ⟨.bl false, H3, I3, rfl, q3⟩
  | true => exact ite_tt (chain_last (thn (hc pins s3 σ H3 _ I3 q3) fun w' s4 ⟨z', H4, I4, r4, q4⟩ => ho' pins s4 σ H4 y z' u w' Q I4 r2 r4 q4))
theorem pt_chain {op op' : CmpOp} {r r' : R2} (ho : OpR X (compareOp op) r) (ho' : OpR X (compareOp op') r') (ha : PE X a ta) (hb : PE X b tb) (hc : PE X c tc)
    (hm : lastMarks [op, op'] [b, c] = false := by with_unfolding_all rfl) : PT X (.Compare a [op, op'] [b, c] pos) (tTest (tChain r r' ta tb tc)) := by
  intro pins s σ H Q I h
  refine isTrue_chain (thn (ha pins s σ H _ I h) fun v s1 ⟨x, H1, I1, r1, q1⟩ => test_link (thn (hb pins s1 σ H1 _ I1 q1) fun u s2 ⟨y, H2, I2, r2, q2⟩ =>
    thn (ho pins s2 σ H2 x y v u _ I2 r1 r2 q2) fun d s3 ⟨z, H3, I3, r3, k, e, q3⟩ => ?_)) hm
  subst e
  cases r3
  refine wpAny_truthy_bool ?_
  cases k with
  | false =>
    obtain ⟨k', e', q'⟩ := q3
    cases e'
    exact ite_ff ⟨H3, I3, q'⟩
  | true =>
    refine ite_tt (test_last (thn (hc pins s3 σ H3 _ I3 q3) fun w' s4 ⟨z', H4, I4, r4, q4⟩ => thn (ho' pins s4 σ H4 y z' u w' _ I4 r2 r4 q4) fun d' s5 ⟨z2, H5, I5, r5, k2, e2, q5⟩ => ?_))
    subst e2
    cases r5
    exact wpAny_truthy_bool ⟨H5, I5, q5⟩

def TruV (K : PySem.W.Frag) (x : V) (H : Hp) (k : Bool) : Prop :=
  match x with
  | .non => k = false
  | .bl b => k = b
  | .int i => k = (i != 0)
  | .str y => y.length ≤ sizeLine ∧ k = ((y.length : Int) != 0)
  | .byt y => y.size ≤ sizeLine ∧ k = ((y.size : Int) != 0)
  | .ref p => (∃ xs, SqL K H p xs ∧ k = !xs.isEmpty) ∨ (∃ xs, SqT K H p xs ∧ k = !xs.isEmpty) ∨ ∃ kvs, H p = some (.dK kvs) ∧ k = !kvs.isEmpty
  | _ => False
theorem isEmpty_kv {κ : Type} {kvs : List (κ × V)} {vs : List (κ × Value)} (r : KV kvs vs) : (!vs.isEmpty) = !kvs.isEmpty := by
  cases r <;> rfl
theorem isEmpty_of {xs : List V} {its : List Value} (r : Vals xs its) : (!its.toArray.isEmpty) = !xs.isEmpty := by
  cases r <;> simp
theorem line63 : (sizeLine : Nat) < 2 ^ 63 := by rw [sizeLine_eq]; decide
theorem tru_ok : TruR X (fun x H Q => ∃ k, TruV X.K x H k ∧ Q k H) := by
  intro pins s σ H x v Q I rx h
  obtain ⟨k, e, q⟩ := h
  have hl := line63
  have hs : sizeLine = 16777216 := sizeLine_eq
  cases x with
  | non =>
    cases rx
    have e' : k = false := e
    subst e'
    exact truthy_none ⟨H, I, q⟩
  | bl b =>
    cases rx
    have e' : k = b := e
    subst e'
    exact wpAny_truthy_bool ⟨H, I, q⟩
  | int i =>
    obtain ⟨t, rfl⟩ := rx
    have e' : k = (i != 0) := e
    subst e'
    exact PySem.P.truthy_int ⟨H, I, q⟩
  | str y =>
    obtain ⟨t, rfl⟩ := rx
    obtain ⟨hy, e'⟩ : y.length ≤ sizeLine ∧ k = ((y.length : Int) != 0) := e
    subst e'
    exact PySem.P.truthy_str (by omega) ⟨H, I.tok _, q⟩
  | byt y =>
    obtain ⟨t, rfl⟩ := rx
    obtain ⟨hy, e'⟩ : y.size ≤ sizeLine ∧ k = ((y.size : Int) != 0) := e
    subst e'
    exact PySem.W.truthy_bytes (by omega) ⟨H, I.tok _, q⟩
  | ref p =>
    cases rx
    have e' : (∃ xs, SqL X.K H p xs ∧ k = !xs.isEmpty) ∨ (∃ xs, SqT X.K H p xs ∧ k = !xs.isEmpty) ∨ ∃ kvs, H p = some (.dK kvs) ∧ k = !kvs.isEmpty := e
    rcases e' with ⟨xs, hx, e'⟩ | ⟨xs, hx, e'⟩ | ⟨kvs, hx, e'⟩
    · subst e'
      obtain ⟨its, r, pl, hz⟩ := I.list hx
      have hlen := r.length
      exact wpAny_truthy_list pl.isList (by simp only [List.size_toArray]; omega) ⟨H, I.tok _, by rw [isEmpty_of r]; exact q⟩
    · subst e'
      obtain ⟨its, r, pl, hz⟩ := I.tuple hx
      have hlen := r.length
      exact truthy_tuple pl (by simp only [List.size_toArray]; omega) ⟨H, I.tok _, by rw [isEmpty_of r]; exact q⟩
    · subst e'
      obtain ⟨hz, hS, vs, r, m⟩ : kvs.length ≤ sizeLine ∧ (p == sysModules) = false ∧ ∃ vs, KV kvs vs ∧ s.heap.DictOf (mixKind X.prog X.w) p vs := I.hok p _ hx
      have hlen : kvs.length = vs.length := Paired.length r
      exact wpAny_truthy_dict hS m (by omega) ⟨H, I.tok _, by rw [isEmpty_kv r]; exact q⟩
  | _ => exact (show False from e).elim
theorem pt_truth (ha : PE X a ta) (he : ∀ whole, isTrue a X.env whole = (do let v ← whole; standAt a.pos; holding [v] (truthy v))) :
    PT X a (fun σ H Q => ta σ H fun x H' => ∃ k, TruV X.K x H' k ∧ Q k H') := by
  intro pins s σ H Q I h
  exact isTrue_plain (thn (ha pins s σ H _ I h) fun v s1 ⟨x, H1, I1, r1, q1⟩ => tru_ok pins s1 σ H1 x v Q I1 r1 q1) (he _)

theorem op_add_str : OpR X (binaryOp .Add) (fun x y H Q => ∃ i j, x = .str i ∧ y = .str j ∧ i.length + j.length ≤ sizeLine ∧ Q (.str (i ++ j)) H) := by
  intro pins s σ H x y v u Q I rx ry h
  obtain ⟨i, j, rfl, rfl, hz, q⟩ := h
  obtain ⟨t, rfl⟩ := rx
  obtain ⟨t', rfl⟩ := ry
  exact add_str (fun t' tk => ⟨.str (i ++ j), H, I.tok _, ⟨_, rfl⟩, q⟩) hz
theorem vals1 {x : V} {us : List Value} (r : Vals [x] us) : ∃ u, us = [u] ∧ RelV x u := by
  cases r with
  | cons r1 r2 => cases r2; exact ⟨_, rfl, r1⟩
theorem vals2 {x y : V} {us : List Value} (r : Vals [x, y] us) : ∃ u w', us = [u, w'] ∧ RelV x u ∧ RelV y w' := by
  cases r with
  | cons r1 r2 =>
    cases r2 with
    | cons r3 r4 => cases r4; exact ⟨_, _, rfl, r1, r3⟩
theorem call_min2 (hc : X.calm = true) : CallR X (.builtin "min") (fun xs H Q => ∃ i j, xs = [.int i, .int j] ∧ Q (.int (if j < i then j else i)) H) := by
  intro pins s σ H xs us Q I r h
  obtain ⟨i, j, rfl, q⟩ := h
  obtain ⟨u, w', rfl, ⟨t, rfl⟩, ⟨t', rfl⟩⟩ := vals2 r
  refine min_two_ints (I.ok.hd hc) fun h' tk k => ⟨_, H, I.kept k, ?_, q⟩
  by_cases hj : j < i
  · rw [if_pos hj, if_pos hj]; exact ⟨_, rfl⟩
  · rw [if_neg hj, if_neg hj]; exact ⟨_, rfl⟩
theorem call_int1 : CallR X (.type "int") (fun xs H Q => (∃ i, xs = [.int i] ∧ Q (.int i) H) ∨ ∃ k, xs = [.bl k] ∧ Q (.int (if k then 1 else 0)) H) := by
  intro pins s σ H xs us Q I r h
  rcases h with ⟨i, rfl, q⟩ | ⟨k, rfl, q⟩
  · obtain ⟨u, rfl, t, rfl⟩ := vals1 r
    exact call_int_int ⟨.int i, H, I, ⟨_, rfl⟩, q⟩
  · obtain ⟨u, rfl, r1⟩ := vals1 r
    cases r1
    exact call_int_bool ⟨.int (if k then 1 else 0), H, I.tok _, ⟨_, rfl⟩, q⟩
theorem call_str_int : CallR X (.type "str") (fun xs H Q => ∃ i, xs = [.int i] ∧ i.natAbs.log2 < 1920 ∧ Q (.str (toString i)) H) := by
  intro pins s σ H xs us Q I r h
  obtain ⟨i, rfl, hz, q⟩ := h
  obtain ⟨u, rfl, t, rfl⟩ := vals1 r
  exact PySem.P.str_of_int hz ⟨.str _, H, I.tok _, ⟨_, rfl⟩, q⟩
def LenV (K : PySem.W.Frag) (x : V) (H : Hp) (n : Nat) : Prop :=
  match x with
  | .str y => y.length ≤ sizeLine ∧ n = y.length
  | .byt y => y.size ≤ sizeLine ∧ n = y.size
  | .ref p => (∃ xs, SqL K H p xs ∧ n = xs.length) ∨ ∃ xs, SqT K H p xs ∧ n = xs.length
  | _ => False
theorem call_len : CallR X (.builtin "len") (fun xs H Q => ∃ x n, xs = [x] ∧ LenV X.K x H n ∧ Q (.int n) H) := by
  intro pins s σ H xs us Q I r h
  obtain ⟨x, n, rfl, e, q⟩ := h
  obtain ⟨u, rfl, rx⟩ := vals1 r
  have hl := line63
  have hs : sizeLine = 16777216 := sizeLine_eq
  cases x with
  | str y =>
    obtain ⟨t, rfl⟩ := rx
    obtain ⟨hy, e'⟩ : y.length ≤ sizeLine ∧ n = y.length := e
    subst e'
    exact len_str (by omega) ⟨.int _, H, I.tok _, ⟨_, rfl⟩, q⟩
  | byt y =>
    obtain ⟨t, rfl⟩ := rx
    obtain ⟨hy, e'⟩ : y.size ≤ sizeLine ∧ n = y.size := e
    subst e'
    exact PySem.W.len_bytes (by omega) ⟨.int _, H, I.tok _, ⟨_, rfl⟩, q⟩
  | ref p =>
    cases rx
    have e' : (∃ xs, SqL X.K H p xs ∧ n = xs.length) ∨ ∃ xs, SqT X.K H p xs ∧ n = xs.length := e
    rcases e' with ⟨xs, hx, e'⟩ | ⟨xs, hx, e'⟩
    · subst e'
      obtain ⟨its, r', pl, hz⟩ := I.list hx
      have hlen := r'.length
      exact Calls.call_len_list pl.isList (by simp only [List.size_toArray]; omega) ⟨.int xs.length, H, I.tok _, ⟨_, by simp only [List.size_toArray]; rw [hlen]⟩, q⟩
    · subst e'
      obtain ⟨its, r', pl, hz⟩ := I.tuple hx
      have hlen := r'.length
      exact len_tuple pl (by simp only [List.size_toArray]; omega) ⟨.int xs.length, H, I.tok _, ⟨_, by simp only [List.size_toArray]; rw [hlen]⟩, q⟩
  | _ => exact (show False from e).elim
end
end L2

namespace L2
open PySem PySem.Spec PyProof.Rows

structure ObjM (h : Heap) (x dx C : Addr) (mA : Str → Option Value) : Prop where
  obj : h.get? x = some (PySem.W.instObj C dx)
  ns : h.Ns1 dx mA
  ne : dx ≠ x

theorem lookIn_ns {h : Heap} {dx : Addr} {mA : Str → Option Value} (n : h.Ns1 dx mA) : ∃ od, h.get? dx = some od ∧ ∀ name, PySem.W.lookIn name od = some (mA name) := by
  obtain ⟨o, es, ep, ho, hd, hk, _, hm⟩ := n
  refine ⟨o, ho, fun name => ?_⟩
  have e := hm name
  unfold nsFind findBy at e
  rw [← Array.find?_toList] at e
  unfold PySem.W.lookIn
  rw [hd]
  dsimp only
  split
  · rename_i y q
    rw [q] at e
    exact congrArg some e
  · rename_i q
    rw [q] at e
    have a : es.toList.any (·.refKey) = false := by
      rw [List.any_eq_false]
      intro y hy
      obtain ⟨z, t, hkey⟩ := hk y (Array.mem_toList_iff.mp hy)
      simp [DictEntry.refKey, hkey]
    have a' : ¬ es.toList.any (·.refKey) = true := by rw [a]; exact Bool.false_ne_true
    rw [if_neg a']
    exact congrArg some e

theorem ObjM.look {h : Heap} {x dx C : Addr} {mA : Str → Option Value} (I : ObjM h x dx C mA) : ∃ od, PySem.W.InstAt h x (PySem.W.instObj C dx) C (some od) ∧ ∀ name, PySem.W.lookIn name od = some (mA name) :=
  let ⟨od, ho, hl⟩ := lookIn_ns I.ns
  ⟨od, ⟨I.obj, rfl, rfl, ho⟩, hl⟩

section
variable {prog : Program} {w : World} {A : Around} {E : Value → Shared → Prop} {s : Shared} {K : PySem.W.Frag} {x dx C f : Addr} {mA : Str → Option Value} {name : Str} {v : Value}

theorem get_map {expr : Bool} {Q : Value → Shared → Prop} (X : K.In s.heap) (I : ObjM s.heap x dx C mA) (hg : PySem.W.plainGet K C name = true) (hh : PySem.W.hasDictIn K C = true)
    (ha : PySem.W.findIn K (.ref C) name = some none) (hv : mA name = some v) (hv' : PySem.W.handedIn v = true) (h : Q v { s with toks := s.toks + 1 }) :
    wpAny (model prog w) A (getAttr (.ref x) name expr) Q E s := by
  obtain ⟨od, J, hl⟩ := I.look
  exact PySem.W.get_value X J (PySem.W.plainGet_of hg).1 (PySem.W.findObj_own hh ha rfl (by rw [hl, hv])) hv' h

theorem get_meth {pl : Sem Bool} {Q : Value × List Value → Shared → Prop} (X : K.In s.heap) (I : ObjM s.heap x dx C mA) (hg : PySem.W.plainGet K C name = true)
    (hf : PySem.W.findIn K (.ref C) name = some (some (.ref f))) (ht : PySem.W.isFn K (.ref f) = true) (hv : mA name = none) (h : Q (.ref f, [.ref x]) s) :
    wpAny (model prog w) A (getMethod (.ref x) name pl) Q E s := by
  obtain ⟨od, J, hl⟩ := I.look
  exact PySem.W.method_fn X J (PySem.W.plainGet_of hg).1 (PySem.W.plainGet_of hg).2 hf (beq_iff_eq.mp ht) (by show (PySem.W.lookIn name od).map (·.isSome) = some false; rw [hl, hv]; rfl) h

theorem set_map {ns : List Str} {Q : Unit → Shared → Prop} (X : K.In s.heap) (I : ObjM s.heap x dx C mA)
    (hs : PySem.W.findIn K (.ref C) "__setattr__" = some (some (.builtin "object.__setattr__"))) (hp : PySem.W.plainOver K C = true) (ht : PySem.W.takerIn K C name = some none) (hh : PySem.W.hasDictIn K C = true)
    (hw : PySem.Within mA ns) (hsz : ns.length ≤ sizeLine)
    (h : ∀ h', ObjM h' x dx C (fun y => if y = name then some v else mA y) → Heap.SameBut dx s.heap h' → Q () { s with heap := h', toks := s.toks + 2 }) :
    wpAny (model prog w) A (setAttr (.ref x) name v) Q E s := by
  obtain ⟨od, J, hl⟩ := I.look
  refine PySem.W.set_plain X J hs (PySem.W.osa_open (s := { s with toks := s.toks + 1 }) (r := none) X J hp ht fun b => ?_)
  obtain ⟨cd, hc, hd'⟩ := PySem.W.any_some hh
  have hx : s.heap.get? x = some ⟨.ref C, some dx, .plain, #[]⟩ := I.obj
  refine wpAny_bind (wpAny_pure (wpAny_bind (wpAny_bind (wpAny_loadPart hx (wpAny_bind (PySem.W.Looks.here (s := { s with toks := s.toks + 1 }) (PySem.W.looks_clsIn X hc) ?_))))))
  rw [hd']
  refine wpAny_pure (a := some dx) (wpAny_bind (wpAny_pure (wpAny_bind ?_)))
  refine wpAny_nsSet1 (s := { s with toks := s.toks + 1 }) I.ns fun h' hn2 hs2 => ?_
  obtain ⟨oD, esD, epD, hoD, hdD, hcD⟩ := hn2.count (PySem.Within.cons name v hw)
  refine wpAny_bind (wpAny_lookBehind hoD (by rw [hdD]; exact pastItsLine_dict (Nat.le_trans hcD (by rw [List.length_cons]; omega))) ?_)
  exact wpAny_pure (h _ ⟨(hs2.2 _ (Ne.symm I.ne)).trans I.obj, hn2, I.ne⟩ hs2)

theorem make_map {R : Result → Shared → Prop} {vs : List Value} {kw : List (Str × Value)} (X : K.In s.heap) (hm : PySem.W.makesIn K C = true)
    (hi : PySem.W.findIn K (.ref C) "__init__" = some (some (.ref f))) (hf : PySem.W.typeIn K (.ref f) = some (.type "function"))
    (h : codeAny (model prog w) (A.under (.builtin "type.__call__" ⟨.ref C :: vs, kw⟩)) (.call (.ref f) ⟨.ref (s.heap.objs.size + 1) :: vs, kw⟩) (PySem.W.InitBack (s.heap.objs.size + 1) R)
      { s with heap := (s.heap.push PySem.W.emptyDict).push (PySem.W.instObj C s.heap.objs.size) }) :
    codeAny (model prog w) A (.call (.ref C) ⟨vs, kw⟩) R s := by
  obtain ⟨hh, g, d, t, os⟩ := s
  exact PySem.W.make_core (PySem.W.makes_of X hm) (PySem.W.looks_findIn X hi) (fun self => PySem.W.bind_fn X self hf) (.inl rfl) h
theorem make_map0 {R : Result → Shared → Prop} (X : K.In s.heap) (hm : PySem.W.makesIn K C = true)
    (hi : PySem.W.findIn K (.ref C) "__init__" = some (some (.builtin "object.__init__")))
    (hb : ∀ self, PySem.W.Looks (model prog w) s.heap (bindSpecial (.builtin "object.__init__") self) (.builtin "object.__init__", [self]))
    (h : codeAny (model prog w) (A.under (.builtin "type.__call__" ⟨[.ref C], []⟩)) (.call (.builtin "object.__init__") ⟨[.ref (s.heap.objs.size + 1)], []⟩) (PySem.W.InitBack (s.heap.objs.size + 1) R)
      { s with heap := (s.heap.push PySem.W.emptyDict).push (PySem.W.instObj C s.heap.objs.size) }) :
    codeAny (model prog w) A (.call (.ref C) ⟨[], []⟩) R s := by
  obtain ⟨hh, g, d, t, os⟩ := s
  exact PySem.W.make_core (PySem.W.makes_of X hm) (PySem.W.looks_findIn X hi) hb (.inr ⟨rfl, rfl⟩) h
end

def putF (f : Str) (v : V) : List (Str × V) → List (Str × V)
  | [] => [(f, v)]
  | (g, x) :: r => if g = f then (g, v) :: r else (g, x) :: putF f v r
theorem lookup_putF (f g : Str) (v : V) : ∀ fs : List (Str × V), (putF f v fs).lookup g = if g = f then some v else fs.lookup g
  | [] => by
    show List.lookup g [(f, v)] = _
    by_cases h : g = f
    · have hb : (g == f) = true := beq_iff_eq.mpr h
      simp only [List.lookup, hb, if_pos h]
    · have hb : (g == f) = false := beq_eq_false_iff_ne.mpr h
      simp only [List.lookup, hb, if_neg h]
  | (k, x) :: r => by
    have ih := lookup_putF f g v r
    rw [show putF f v ((k, x) :: r) = (if k = f then (k, v) :: r else (k, x) :: putF f v r) from rfl]
    by_cases hk : k = f
    · rw [if_pos hk]
      by_cases h : g = k
      · have hb : (g == k) = true := beq_iff_eq.mpr h
        simp only [List.lookup, hb, if_pos (h.trans hk)]
      · have hb : (g == k) = false := beq_eq_false_iff_ne.mpr h
        simp only [List.lookup, hb, if_neg (fun e : g = f => h (e.trans hk.symm))]
    · rw [if_neg hk]
      by_cases h : g = k
      · have hb : (g == k) = true := beq_iff_eq.mpr h
        simp only [List.lookup, hb, if_neg (fun e : g = f => hk (h.symm.trans e))]
      · have hb : (g == k) = false := beq_eq_false_iff_ne.mpr h
        simp only [List.lookup, hb]
        exact ih
theorem keys_putF (f : Str) (v : V) : ∀ fs : List (Str × V), f ∈ (putF f v fs).map (·.1) ∧ ∀ g, g ∈ fs.map (·.1) → g ∈ (putF f v fs).map (·.1)
  | [] => ⟨by simp [putF], fun g h => by simp at h⟩
  | (k, x) :: r => by
    obtain ⟨i1, i2⟩ := keys_putF f v r
    rw [show putF f v ((k, x) :: r) = (if k = f then (k, v) :: r else (k, x) :: putF f v r) from rfl]
    by_cases hk : k = f
    · rw [if_pos hk]
      subst hk
      exact ⟨by simp, fun g h => by simpa using h⟩
    · rw [if_neg hk]
      refine ⟨?_, fun g h => ?_⟩
      · rw [List.map_cons]
        exact List.mem_cons_of_mem _ i1
      · rw [List.map_cons] at h ⊢
        rcases List.mem_cons.mp h with e | e
        · exact List.mem_cons.mpr (.inl e)
        · exact List.mem_cons_of_mem _ (i2 g e)
theorem length_putF (f : Str) (v : V) : ∀ fs : List (Str × V), (putF f v fs).length ≤ fs.length + 1
  | [] => by simp [putF]
  | (k, x) :: r => by
    have ih := length_putF f v r
    rw [show putF f v ((k, x) :: r) = (if k = f then (k, v) :: r else (k, x) :: putF f v r) from rfl]
    by_cases hk : k = f
    · rw [if_pos hk, List.length_cons, List.length_cons]; omega
    · rw [if_neg hk, List.length_cons, List.length_cons]; omega

theorem RelO.some_of {v : V} {o : Option Value} (r : RelO (some v) o) : ∃ u, o = some u ∧ RelV v u := by
  cases o with
  | none => exact (show False from r).elim
  | some u => exact ⟨u, rfl, r⟩
theorem RelO.none_of {o : Option Value} (r : RelO none o) : o = none := by
  cases o with
  | none => rfl
  | some u => exact (show False from r).elim
theorem handed_of {v : V} {u : Value} (r : RelV v u) : PySem.W.handedIn u = true := by
  cases v with
  | non => cases (show u = Value.none from r); rfl
  | bl b => cases (show u = Value.bool b from r); rfl
  | int i => obtain ⟨t, e⟩ := (show ∃ t, u = Value.int i t from r); cases e; rfl
  | str x => obtain ⟨t, e⟩ := (show ∃ t, u = Value.str x t from r); cases e; rfl
  | byt b => obtain ⟨t, e⟩ := (show ∃ t, u = Value.bytes b t from r); cases e; rfl
  | flt b => obtain ⟨t, e⟩ := (show ∃ t, u = Value.float b t from r); cases e; rfl
  | ref a => cases (show u = Value.ref a from r); rfl
  | ty n => cases (show u = Value.type n from r); rfl

section
variable {P : Program} {w : World} {H H' : Hp} {h h' : Heap} {a C dx : Addr} {fs fs' : List (Str × V)}
theorem ins_get (hok : HOk P w H h) (e : H a = some (.ins C dx fs)) : ∃ mA, ObjM h a dx C mA ∧ (∀ f, RelO (fs.lookup f) (mA f)) ∧ PySem.Within mA (fs.map (·.1)) ∧ fs.length ≤ 1000 ∧ H dx = some (.own a) := by
  obtain ⟨d, z, ne, ob, mA, n, r, q⟩ := (show ObjOk P w H h a (.ins C dx fs) from hok a _ e)
  exact ⟨mA, ⟨ob, n, ne⟩, r, q, z, d⟩
end

structure Cls (K : PySem.W.Frag) (C : Addr) : Prop where
  pg : PySem.W.plainGet K C Str.empty = true
  hd : PySem.W.hasDictIn K C = true
  po : PySem.W.plainOver K C = true
  sa : PySem.W.findIn K (.ref C) "__setattr__" = some (some (.builtin "object.__setattr__"))
theorem Cls.get {K : PySem.W.Frag} {C : Addr} (c : Cls K C) (f : Str) : PySem.W.plainGet K C f = true := c.pg
def NoAttr (K : PySem.W.Frag) (C : Addr) (f : Str) : Prop := PySem.W.findIn K (.ref C) f = some none
theorem NoAttr.taker {K : PySem.W.Frag} {C : Addr} {f : Str} (n : NoAttr K C f) : PySem.W.takerIn K C f = some none := by
  unfold PySem.W.takerIn
  rw [show PySem.W.findIn K (.ref C) f = some none from n]
  rfl
structure Meth (K : PySem.W.Frag) (C : Addr) (m : Str) (f : Addr) : Prop where
  at_ : PySem.W.findIn K (.ref C) m = some (some (.ref f))
  fn : PySem.W.isFn K (.ref f) = true
  kp : PySem.W.keepIn K (.ref f) = true

section
variable {X : Cx} {pins : List (Addr × Obj)} {σ : St} {H : Hp} {s : Shared} {a C dx : Addr} {fs : List (Str × V)} {f : Str} {v : V} {A : Around} {E : Value → Shared → Prop}

theorem getattr_ok {b : Bool} {Q : Value → Shared → Prop} (I : Inv X pins σ H s) (e : H a = some (.ins C dx fs)) (c : Cls X.K C) (n : NoAttr X.K C f) (l : fs.lookup f = some v)
    (h : ∀ u s', Inv X pins σ H s' → RelV v u → Q u s') : wpAny (model X.prog X.w) A (getAttr (.ref a) f b) Q E s := by
  obtain ⟨mA, O, r, _, _, _⟩ := ins_get I.hok e
  obtain ⟨u, hu, ru⟩ := RelO.some_of (v := v) (o := mA f) (by rw [← l]; exact r f)
  exact get_map I.kIn O (c.get f) c.hd n hu (handed_of ru) (h u _ (I.tok _) ru)

theorem getmeth_ok {m : Str} {g : Addr} {pl : Sem Bool} {Q : Value × List Value → Shared → Prop} (I : Inv X pins σ H s) (e : H a = some (.ins C dx fs)) (c : Cls X.K C) (k : Meth X.K C m g) (l : fs.lookup m = none)
    (h : Q (.ref g, [.ref a]) s) : wpAny (model X.prog X.w) A (getMethod (.ref a) m pl) Q E s := by
  obtain ⟨mA, O, r, _, _, _⟩ := ins_get I.hok e
  have hn : mA m = none := RelO.none_of (by rw [← l]; exact r m)
  exact get_meth I.kIn O (c.get m) k.at_ k.fn hn h

theorem setattr_ok {y : V} {u : Value} {Q : Unit → Shared → Prop} (I : Inv X pins σ H s) (e : H a = some (.ins C dx fs)) (c : Cls X.K C) (n : NoAttr X.K C f) (hl : fs.length < 1000) (ry : RelV y u)
    (h : ∀ s', Inv X pins σ (upd H a (.ins C dx (putF f y fs))) s' → Q () s') : wpAny (model X.prog X.w) A (setAttr (.ref a) f u) Q E s := by
  obtain ⟨mA, O, r, wi, _, ho⟩ := ins_get I.hok e
  have hz : (fs.map (·.1)).length ≤ sizeLine := by rw [List.length_map, sizeLine_eq]; omega
  refine set_map I.kIn O c.sa c.po n.taker c.hd wi hz fun h' O' sb => h _ ?_
  have hd : ∃ o, h'.get? dx = some o := let ⟨o, _, _, e', _⟩ := O'.ns; ⟨o, e'⟩
  refine I.write (x := a) (e := dx) (by rw [e]; exact True.intro) (.inr ho) (fun b q hb z => (sb.2 b hb).trans z) hd ?_
  refine ⟨by rw [upd_ne O.ne]; exact ho, ?_, O.ne, O'.obj, _, O'.ns, fun g => ?_, fun g hg => ?_⟩
  · have := length_putF f y fs; omega
  · show RelO ((putF f y fs).lookup g) (if g = f then some u else mA g)
    rw [lookup_putF]
    by_cases q : g = f
    · rw [if_pos q, if_pos q]; exact ry
    · rw [if_neg q, if_neg q]; exact r g
  · by_cases q : g = f
    · rw [q]; exact (keys_putF f y fs).1
    · refine (keys_putF f y fs).2 g (wi g fun z => hg ?_)
      show (if g = f then some u else mA g) = none
      rw [if_neg q]; exact z

theorem Inv.made (I : Inv X pins σ H s) : Inv X pins σ (upd (upd H s.heap.objs.size (.own (s.heap.objs.size + 1))) (s.heap.objs.size + 1) (.ins C s.heap.objs.size []))
    { s with heap := (s.heap.push PySem.W.emptyDict).push (PySem.W.instObj C s.heap.objs.size) } := by
  have e1 : (s.heap.push PySem.W.emptyDict).get? s.heap.objs.size = some PySem.W.emptyDict := Heap.get?_push_size s.heap rfl
  have e2 : ((s.heap.push PySem.W.emptyDict).push (PySem.W.instObj C s.heap.objs.size)).get? (s.heap.objs.size + 1) = some (PySem.W.instObj C s.heap.objs.size) := by
    have := Heap.get?_push_size (s.heap.push PySem.W.emptyDict) (o := PySem.W.instObj C s.heap.objs.size) rfl
    rwa [Heap.size_push] at this
  have e3 : (s.heap.push PySem.W.emptyDict).Ns s.heap.objs.size (fun _ => none) := ⟨PySem.W.emptyDict, #[], _, e1, rfl, (fun e he => absurd he (by simp)), fun _ => rfl⟩
  have I1 := I.laid (a := s.heap.objs.size) (o := .own (s.heap.objs.size + 1)) (h' := s.heap.push PySem.W.emptyDict) (t' := s.toks) (fun b u q => Heap.get?_push_of_some _ q) (Nat.le_refl _) ⟨_, e1⟩
  refine I1.laid (a := s.heap.objs.size + 1) (o := .ins C s.heap.objs.size []) (t' := s.toks) (fun b u q => Heap.get?_push_of_some _ q) (Nat.le_of_eq (Heap.size_push _ _)) ?_
  have ne : s.heap.objs.size ≠ s.heap.objs.size + 1 := Nat.ne_of_lt (Nat.lt_succ_self _)
  refine ⟨by rw [upd_ne ne, upd_same], Nat.zero_le _, ne, e2, fun _ => none, (Heap.Ns1.of_empty e3).at fun o q => Heap.get?_push_of_some _ q, fun _ => True.intro, fun y hy => absurd rfl hy⟩

theorem attr_of {prog : Program} {w : World} {env : Env} {e : Expr} {f : Str} {pos : Pos} {s : Shared} {Q : Value → Shared → Prop} (hb : attributeBase e f env (eval e env) = eval e env)
    (h : wpAny (model prog w) A (eval e env) (fun o s₁ => wpAny (model prog w) A (getAttr o f true) Q E s₁) E s) : wpAny (model prog w) A (eval (.Attribute e f pos) env) Q E s :=
  Attribute_any_ h (by rw [arm_eval_Attribute, hb])
end

def tFld (K : PySem.W.Frag) (ta : TE) (f : Str) : TE := fun σ H Q => ta σ H fun x H1 => ∃ a C dx fs v, x = .ref a ∧ H1 a = some (.ins C dx fs) ∧ Cls K C ∧ NoAttr K C f ∧ fs.lookup f = some v ∧ Q v H1
def sFld (K : PySem.W.Frag) (ta tv : TE) (f : Str) : TS := fun D σ H => tv σ H fun y H1 => ta σ H1 fun x H2 => ∃ a C dx fs, x = .ref a ∧ H2 a = some (.ins C dx fs) ∧ Cls K C ∧ NoAttr K C f ∧ fs.length < 1000 ∧
  D.nx σ (upd H2 a (.ins C dx (putF f y fs)))
section
variable {X : Cx} {o e value : Expr} {f : Str} {pos pos' tpos : Pos} {ta tv : TE}
theorem pe_fld (he : PE X e ta) (hb : attributeBase e f X.env (eval e X.env) = eval e X.env) : PE X (.Attribute e f pos) (tFld X.K ta f) := by
  intro pins s σ H Q I h
  refine attr_of hb (thn (he pins s σ H _ I h) fun u s1 ⟨x, H1, I1, rx, a, C, dx, fs, v, ex, ea, c, n, l, q⟩ => ?_)
  subst ex
  obtain rfl : u = Value.ref a := rx
  exact getattr_ok I1 ea c n l fun u' s2 I2 ru => ⟨v, H1, I2, ru, q⟩
theorem ps_fld (ha : PE X o ta) (hv : PE X value tv) (hs : swapsWith value (some (.Attribute o f pos')) pos.line X.env = pure false) : PS X (.Assign [.Attribute o f pos'] value pos) (sFld X.K ta tv f) := by
  intro pins s σ H D I h
  refine plainObj_wpAny_Assign_Attribute (thn (hv pins s σ H _ I h) fun u s1 ⟨y, H1, I1, ry, q⟩ => thn (ha pins s1 σ H1 _ I1 q) fun ov s2 ⟨x, H2, I2, rx, a, C, dx, fs, ex, ea, c, n, l, q2⟩ => ?_) hs
  subst ex
  obtain rfl : ov = Value.ref a := rx
  exact setattr_ok I2 ea c n l ry fun s3 I3 => ⟨σ, _, I3, q2⟩
end

section
variable {X : Cx} {pins : List (Addr × Obj)} {σ : St} {H : Hp} {s : Shared} {A : Around} {E : Value → Shared → Prop} {Q : Value → Shared → Prop} {c : Value} {b : Bool}
inductive TyOf (K : PySem.W.Frag) (H : Hp) : V → Value → Prop where
  | non : TyOf K H .non (.type "NoneType")
  | bl (x : Bool) : TyOf K H (.bl x) (.type "bool")
  | int (i : Int) : TyOf K H (.int i) (.type "int")
  | str (x : Str) : TyOf K H (.str x) (.type "str")
  | flt (x : UInt64) : TyOf K H (.flt x) (.type "float")
  | lst {a : Addr} {xs : List V} (e : H a = some (.lst xs)) : TyOf K H (.ref a) (.type "list")
  | frz {a : Addr} {o : Obj} {xs : List V} (e : H a = some (.frz o (.lst xs))) : TyOf K H (.ref a) (.type "list")
  | tup {a : Addr} {xs : List V} (e : H a = some (.tup xs)) : TyOf K H (.ref a) (.type "tuple")
  | dK {a : Addr} {kvs : List (Key × V)} (e : H a = some (.dK kvs)) : TyOf K H (.ref a) (.type "dict")
  | dT {a : Addr} {kvs : List (List Key × V)} (e : H a = some (.dT kvs)) : TyOf K H (.ref a) (.type "dict")
  | ins {a C dx : Addr} {fs : List (Str × V)} (e : H a = some (.ins C dx fs)) (cl : Cls K C) (ha : PySem.W.findIn K (.ref C) "__class__" = some (some (.builtin "object.__class__")))
      (hn : PySem.W.specialIn K (.builtin "object.__class__") "__get__" = some (some (.builtin "getset_descriptor.__get__"))) (htk : PySem.W.takesIn K (.builtin "object.__class__") = some true)
      (hm : PySem.W.mroIn K C (.type "object") = some true) : TyOf K H (.ref a) (.ref C)
theorem isinst_ok {x : V} {u t : Value} (I : Inv X pins σ H s) (rx : RelV x u) (ty : TyOf X.K H x t) (e : PySem.W.kitOne X.K t c = some b) (h : ∀ tk, Q (.bool b) { s with toks := tk }) :
    wpAny (model X.prog X.w) A (call (.builtin "isinstance") [u, c]) Q E s := by
  cases ty with
  | non => cases (show u = Value.none from rx); exact PySem.W.kia_one PySem.W.kitx_none I.kIn True.intro e (fun z => nomatch z) h
  | bl y => cases (show u = Value.bool y from rx); exact PySem.W.kia_one PySem.W.kitx_bool I.kIn True.intro e (fun z => nomatch z) h
  | int i => obtain ⟨t, q⟩ := (show ∃ t, u = Value.int i t from rx); cases q; exact PySem.W.kia_one PySem.W.kitx_int I.kIn True.intro e (fun z => nomatch z) h
  | str y => obtain ⟨t, q⟩ := (show ∃ t, u = Value.str y t from rx); cases q; exact PySem.W.kia_one PySem.W.kitx_str I.kIn True.intro e (fun z => nomatch z) h
  | flt y => obtain ⟨t, q⟩ := (show ∃ t, u = Value.float y t from rx); cases q; exact PySem.W.kia_one PySem.W.kitx_float I.kIn True.intro e (fun z => nomatch z) h
  | @lst a xs ea =>
    cases (show u = Value.ref a from rx)
    obtain ⟨_, _, n, _, h1⟩ := (show ObjOk X.prog X.w H s.heap a (.lst xs) from I.hok a _ ea)
    exact PySem.W.kia_one PySem.W.kitx_list I.kIn ⟨_, h1, rfl⟩ e (fun z => nomatch z) h
  | @frz a ob xs ea =>
    cases (show u = Value.ref a from rx)
    obtain ⟨_, _, _, n, _, h1⟩ := (show ObjOk X.prog X.w H s.heap a (.frz ob (.lst xs)) from I.hok a _ ea)
    exact PySem.W.kia_one PySem.W.kitx_list I.kIn ⟨_, h1, rfl⟩ e (fun z => nomatch z) h
  | @tup a xs ea =>
    cases (show u = Value.ref a from rx)
    obtain ⟨_, _, _, p⟩ := (show ObjOk X.prog X.w H s.heap a (.tup xs) from I.hok a _ ea)
    obtain ⟨o, h1, h2, _⟩ := p
    exact PySem.W.kia_one PySem.W.kitx_tuple I.kIn ⟨o, h1, h2⟩ e (fun z => nomatch z) h
  | @dK a kvs ea =>
    cases (show u = Value.ref a from rx)
    obtain ⟨_, _, vs, _, p⟩ := (show ObjOk X.prog X.w H s.heap a (.dK kvs) from I.hok a _ ea)
    obtain ⟨o, es, ep, h1, h2, _⟩ := p
    exact PySem.W.kia_one PySem.W.kitx_dict I.kIn ⟨o, h1, h2.1⟩ e (fun z => nomatch z) h
  | @dT a kvs ea =>
    cases (show u = Value.ref a from rx)
    obtain ⟨_, _, xs, _, o, es, ep, h1, h2, _⟩ := (show ObjOk X.prog X.w H s.heap a (.dT kvs) from I.hok a _ ea)
    exact PySem.W.kia_one PySem.W.kitx_dict I.kIn ⟨o, h1, h2.1⟩ e (fun z => nomatch z) h
  | @ins a C dx fs ea cl ha hn htk hm =>
    cases (show u = Value.ref a from rx)
    obtain ⟨mA, O, _⟩ := ins_get I.hok ea
    obtain ⟨od, J, _⟩ := O.look
    exact PySem.W.kia_one (PySem.W.kitx_own (cl.get _) cl.hd ha hn htk hm) I.kIn J e (fun z => nomatch z) h
end
end L2

namespace L2
open PySem PySem.Spec PyProof.Rows

structure Room (k : Nat) (A : Around) : Prop where
  hd : A.handled = none
  dp : A.depth + 3 * k + 5 < recursionLimit
  un : A.units + 16 * k + 200 < cLine
  gd : A.guards = some []
theorem Room.mono {j k : Nat} {A : Around} (r : Room k A) (h : j ≤ k) : Room j A := ⟨r.hd, by have := r.dp; omega, by have := r.un; omega, r.gd⟩
theorem Room.deeper {k : Nat} {A : Around} (r : Room (k + 1) A) (env : Env) : Room k (A.deeper env) :=
  ⟨r.hd, by have := r.dp; show A.depth + 1 + 3 * k + 5 < _; omega, by have := r.un; show A.units + 3 + 16 * k + 200 < _; omega, by have := r.gd; first | exact this | simpa [Around.deeper] using this⟩
theorem make_depth {A : Around} {C : Addr} {us : List Value} {kw : List (Str × Value)} : (A.under (.builtin "type.__call__" ⟨.ref C :: us, kw⟩)).depth = A.depth + 1 := by
  first | rfl | simp [Around.under, Code.weight, Code.isCreation, Code.isGuard, Code.isCaller, Code.frames, Code.isFrame, guardIds]
theorem make_units {A : Around} {C : Addr} {us : List Value} {kw : List (Str × Value)} : (A.under (.builtin "type.__call__" ⟨.ref C :: us, kw⟩)).units = A.units + 1 := by
  first | rfl | simp [Around.under, Code.cUnits, Code.frames, Code.isFrame]
theorem Room.make {k : Nat} {A : Around} (r : Room (k + 1) A) (C : Addr) (us : List Value) (kw : List (Str × Value)) : Room k (A.under (.builtin "type.__call__" ⟨.ref C :: us, kw⟩)) :=
  ⟨r.hd, by have := r.dp; rw [make_depth]; omega, by have := r.un; rw [make_units]; omega, by have := r.gd; first | exact this | simpa [Around.under, Code.guards, Code.isGuard, guardIds, pushGuards] using this⟩
theorem Room.depth {k : Nat} {A : Around} (r : Room k A) : A.depth < recursionLimit := by have := r.dp; omega
theorem Room.units {k : Nat} {A : Around} (r : Room k A) : A.units + 64 < cLine := by have := r.un; omega
theorem Room.units0 {k : Nat} {A : Around} (r : Room k A) : A.units < cLine := by have := r.un; omega

def tNil : TA := fun _ H Q => Q [] H
def tCons (ta : TE) (tr : TA) : TA := fun σ H Q => ta σ H fun x H1 => tr σ H1 fun xs H2 => Q (x :: xs) H2
section
variable {X : Cx} {e : Expr} {es : List Expr} {te : TE} {t : TA} {pos : Pos}
theorem pa_nil : PA X [] tNil := fun _ _ _ _ H Q I h => Calls.spliced_nil ⟨[], H, I, .nil, h⟩
theorem pa_cons (ha : PE X e te) (hr : PA X es t) (hs : starEach (e :: es) X.env = (false, eval e X.env) :: starEach es X.env := by rfl) : PA X (e :: es) (tCons te t) := by
  intro pos pins s σ H Q I h
  rw [hs]
  show wpAny _ _ (spliced ((false, eval e X.env) :: backTo pos (starEach es X.env))) _ _ s
  refine Calls.spliced_cons (thn (ha pins s σ H _ I h) fun u s1 ⟨x, H1, I1, r1, q1⟩ => ?_)
  exact thn (hr pos pins s1 σ H1 _ I1 q1) fun us s2 ⟨xs, H2, I2, r2, q2⟩ => ⟨x :: xs, H2, I2, .cons r1 r2, q2⟩

def tTup (t : TA) : TE := fun σ H Q => t σ H fun xs H1 => xs.length ≤ sizeLine ∧ ∀ p, H1 p = none → Q (.ref p) (upd H1 p (.tup xs))
def tLst (t : TA) : TE := fun σ H Q => t σ H fun xs H1 => xs.length ≤ sizeLine ∧ ∀ p, H1 p = none → Q (.ref p) (upd H1 p (.lst xs))
theorem pe_tup {x1} (h : PA X es t) : PE X (.Tuple es x1 pos) (tTup t) := by
  intro pins s σ H Q I hq
  refine wpAny_Tuple_spliced (thn (h pos pins s σ H _ I hq) fun us s1 ⟨xs, H1, I1, r, z, q⟩ => ⟨by rw [← r.length]; exact z, ?_⟩)
  have hf : H1 s1.heap.objs.size = none := I1.hok.fresh (Nat.le_refl _)
  refine ⟨.ref s1.heap.objs.size, upd H1 s1.heap.objs.size (.tup xs), I1.laid (t' := s1.toks) (fun b u e => Heap.get?_push_of_some _ e) (Nat.le_refl _) ?_, rfl, q _ hf⟩
  exact ⟨z, us, r, ⟨_, Heap.get?_push_size _ rfl, rfl, _, rfl⟩⟩
theorem pe_lst (h : PA X es t) : PE X (.List es pos) (tLst t) := by
  intro pins s σ H Q I hq
  refine wpAny_List_spliced (thn (h pos pins s σ H _ I hq) fun us s1 ⟨xs, H1, I1, r, z, q⟩ => ⟨by rw [← r.length]; exact z, ?_⟩)
  have hf : H1 s1.heap.objs.size = none := I1.hok.fresh (Nat.le_refl _)
  refine ⟨.ref s1.heap.objs.size, upd H1 s1.heap.objs.size (.lst xs), I1.laid (t' := s1.toks) (fun b u e => Heap.get?_push_of_some _ e) (Nat.le_refl _) ?_, rfl, q _ hf⟩
  exact ⟨z, us, 0, r, Heap.get?_push_size _ rfl⟩
end

abbrev Sp := List V → Hp → VK → XK → Prop
abbrev CXT := List Env → Hp → Shared → XK → Value → Shared → Prop

structure Env0 (P : Program) (w : World) (K : PySem.W.Frag) (mg : Str → Option Value) (base : Heap) (A : Around) (outer : List Env) (s : Shared) (H : Hp) : Prop where
  frames : A.frames = some outer
  mod : Mod K mg base
  bs : ∀ b o, base.get? b = some o → s.heap.get? b = some o ∧ H b = none
  bsz : base.objs.size ≤ s.heap.objs.size
  funs : s.heap.FunFrames base outer
  frf : ∀ b ∈ frs outer, H b = none
  hok : HOk P w H s.heap
  bare : AllBare s.gens
def CE (outer : List Env) (P : Program) (w : World) (H : Hp) (s : Shared) (Q : VK) (u : Value) (s' : Shared) : Prop :=
  ∃ v H', s'.os = s.os ∧ AllBare s'.gens ∧ Un (frs outer) [] H H' s.heap s'.heap ∧ HOk P w H' s'.heap ∧ RelV v u ∧ Q v H'
def CR (CX : CXT) (outer : List Env) (P : Program) (w : World) (H : Hp) (s : Shared) (Q : VK) (E : XK) (r : Result) (s' : Shared) : Prop :=
  match r with
  | .ok (.ret u) => CE outer P w H s Q u s'
  | .ok _ => False
  | .error e => CX outer H s E e s'
structure FnOk (P : Program) (w : World) (K : PySem.W.Frag) (mg : Str → Option Value) (base : Heap) (CX : CXT) (k : Nat) (f : Addr) (fd : FuncData) (ps : List Str) (sp : Sp) : Prop where
  len : ∀ vs H Q E, sp vs H Q E → vs.length = ps.length
  run : ∀ (A : Around) (outer : List Env) (s : Shared) (H : Hp) (args : Args) (us : List Value) (vs : List V) (Q : VK) (E : XK), Room k A → Env0 P w K mg base A outer s H → BindsTo s fd args (ps.zip us) → Vals vs us → sp vs H Q E →
    codeAny (model P w) A (.call (.ref f) args) (CR CX outer P w H s Q E) s
theorem Env0.make {P : Program} {w : World} {K : PySem.W.Frag} {mg : Str → Option Value} {base : Heap} {A : Around} {outer : List Env} {s : Shared} {H : Hp} (e : Env0 P w K mg base A outer s H) (C : Addr) (us : List Value) (kw : List (Str × Value)) :
    Env0 P w K mg base (A.under (.builtin "type.__call__" ⟨.ref C :: us, kw⟩)) outer s H := ⟨by first | exact e.frames | (simpa [Around.under, Code.envs, Code.isFrame, pushEnvs] using e.frames), e.mod, e.bs, e.bsz, e.funs, e.frf, e.hok, e.bare⟩
section
variable {X : Cx} {pins : List (Addr × Obj)} {σ : St} {H : Hp} {s s' : Shared}
theorem Inv.env0 (I : Inv X pins σ H s) : Env0 X.prog X.w X.K X.mg X.base X.A X.stack s H :=
  ⟨I.ok.frames, I.ok.mod, I.bs, Nat.le_trans I.ok.bsz I.sz, I.stack, I.stkFree, I.hok, I.bare⟩
theorem Inv.after {Q : VK} {u : Value} (I : Inv X pins σ H s) (h : CE X.stack X.prog X.w H s Q u s') : EP X pins σ Q u s' := by
  obtain ⟨v, H', os, bare, un, hok, r, q⟩ := h
  obtain ⟨hh, g, d, t, os'⟩ := s'
  obtain rfl : os' = s.os := os
  exact ⟨v, H', I.call (h' := hh) (g' := g) (d' := d) (t' := t) (ch := []) un hok bare (fun b z => absurd z (by simp)), r, q⟩
end

def tCall (sp : Sp) (dvs : List V) (E : XK) (t : TA) : TE := fun σ H Q => t σ H fun vs H1 => sp (vs ++ dvs) H1 Q E
def tMake (C : Addr) (sp : Sp) (dvs : List V) (E : XK) (t : TA) : TE := fun σ H Q => t σ H fun vs H1 => ∀ x dx, H1 x = none → H1 dx = none → dx ≠ x →
  sp (.ref x :: (vs ++ dvs)) (upd (upd H1 dx (.own x)) x (.ins C dx [])) (fun v H2 => v = .non ∧ Q (.ref x) H2) E

def Binds (K : PySem.W.Frag) (fd : FuncData) (ps : List Str) (ds : List Value) : Prop :=
  ∀ (s : Shared) (us : List Value), K.In s.heap → (us ++ ds).length = ps.length → BindsTo s fd ⟨us, []⟩ (ps.zip (us ++ ds))
theorem Binds.all {K : PySem.W.Frag} {fd : FuncData} {ps : List Str} (h : ∀ us : List Value, us.length = ps.length → bindArgs fd ⟨us, []⟩ = pure (ps.zip us)) : Binds K fd ps [] := fun s us _ hl => by
  rw [List.append_nil] at hl ⊢
  exact .of_eq (h us hl)

def Passes (CX : CXT) (X : Cx) (E : XK) : Prop := ∀ (pins : List (Addr × Obj)) (σ : St) (H : Hp) (s : Shared) (e : Value) (s' : Shared), Inv X pins σ H s → CX X.stack H s E e s' → X.xe e s'

section
variable {X : Cx} {CX : CXT} {k : Nat} {f C : Addr} {fd : FuncData} {ps : List Str} {sp : Sp} {dvs : List V} {ds : List Value} {E : XK} {x m : Str} {p pos apos : Pos} {e o : Expr} {es : List Expr} {ta : TE} {t : TA}

theorem run_fn {pins : List (Addr × Obj)} {σ : St} {H : Hp} {s : Shared} {Q : VK} {us : List Value} {vs : List V} (F : FnOk X.prog X.w X.K X.mg X.base CX k f fd ps sp) (hr : Room k X.A) (hb : Binds X.K fd ps ds) (hd : Vals dvs ds) (hx : Passes CX X E)
    (I : Inv X pins σ H s) (r : Vals vs us) (h : sp (vs ++ dvs) H Q E) : wpAny (model X.prog X.w) X.A (call (.ref f) us) (EP X pins σ Q) X.xe s := by
  have r2 : Vals (vs ++ dvs) (us ++ ds) := r.append hd
  have hl : (us ++ ds).length = ps.length := by rw [← r2.length]; exact F.len _ _ _ _ h
  refine wpAny_call (codeAny_mono (F.run X.A X.stack s H ⟨us, []⟩ (us ++ ds) (vs ++ dvs) Q E hr I.env0 (hb s us I.kIn hl) r2 h) fun r s' hq => ?_)
  cases r with
  | error e => exact hx pins σ H s e s' I hq
  | ok fl =>
    cases fl with
    | ret u => exact I.after hq
    | next => exact False.elim hq
    | brk => exact False.elim hq
    | cont => exact False.elim hq

theorem pe_call (F : FnOk X.prog X.w X.K X.mg X.base CX k f fd ps sp) (hr : Room k X.A) (hg : Gl X x) (hm : X.mg x = some (.ref f)) (hk : PySem.W.keepIn X.K (.ref f) = true) (hb : Binds X.K fd ps ds) (hd : Vals dvs ds) (hx : Passes CX X E)
    (ha : PA X (e :: es) t) (hdb : (x == ("__debug__" : Str)) = false := by decide) (he : starEach (e :: es) X.env = (false, eval e X.env) :: starEach es X.env := by rfl) (hpl : (backTo pos (starEach es X.env)).any (·.1) = false := by rfl) :
    PE X (.Call (.Name x p) (e :: es) [] pos) (tCall sp dvs E t) := by
  intro pins s σ H Q I h
  refine wpAny_Call_Name_kw (ld_glob I hg hm ?_ hdb)
  refine PySem.W.callWith_K (h₀ := X.base) I.ok.mod.kin hk (thn (ha pos pins s σ H _ I h) fun us s1 ⟨vs, H1, I1, r, q⟩ => ⟨I1.kIn, ?_⟩) he hpl
  exact run_fn F hr hb hd hx I1 r q
theorem pe_call0 (F : FnOk X.prog X.w X.K X.mg X.base CX k f fd ps sp) (hr : Room k X.A) (hg : Gl X x) (hm : X.mg x = some (.ref f)) (hk : PySem.W.keepIn X.K (.ref f) = true) (hb : Binds X.K fd ps ds) (hd : Vals dvs ds) (hx : Passes CX X E)
    (hdb : (x == ("__debug__" : Str)) = false := by decide) : PE X (.Call (.Name x p) [] [] pos) (tCall sp dvs E tNil) := by
  intro pins s σ H Q I h
  refine wpAny_Call_Name_kw (ld_glob I hg hm ?_ hdb)
  exact PySem.W.callWith_K0 I.kIn hk (run_fn (us := []) F hr hb hd hx I .nil h)

structure Mk (K : PySem.W.Frag) (C f : Addr) : Prop where
  makes : PySem.W.makesIn K C = true
  init : PySem.W.findIn K (.ref C) "__init__" = some (some (.ref f))
  fn : PySem.W.isFn K (.ref f) = true
  kp : PySem.W.keepIn K (.ref C) = true

theorem run_make {pins : List (Addr × Obj)} {σ : St} {H : Hp} {s : Shared} {Q : VK} {us : List Value} {vs : List V} (M : Mk X.K C f) (F : FnOk X.prog X.w X.K X.mg X.base CX k f fd ps sp) (hr : Room (k + 1) X.A) (hb : Binds X.K fd ps ds) (hd : Vals dvs ds)
    (hx : Passes CX X E) (I : Inv X pins σ H s) (r : Vals vs us)
    (h : ∀ x dx, H x = none → H dx = none → dx ≠ x → sp (.ref x :: (vs ++ dvs)) (upd (upd H dx (.own x)) x (.ins C dx [])) (fun v H2 => v = .non ∧ Q (.ref x) H2) E) :
    wpAny (model X.prog X.w) X.A (call (.ref C) us) (EP X pins σ Q) X.xe s := by
  have hq := h (s.heap.objs.size + 1) s.heap.objs.size (I.hok.fresh (Nat.le_succ _)) (I.hok.fresh (Nat.le_refl _)) (Nat.ne_of_lt (Nat.lt_succ_self _))
  have I2 := Inv.made (C := C) I
  have r2 : Vals (V.ref (s.heap.objs.size + 1) :: (vs ++ dvs)) (Value.ref (s.heap.objs.size + 1) :: (us ++ ds)) := .cons rfl (r.append hd)
  have hl : (Value.ref (s.heap.objs.size + 1) :: us ++ ds).length = ps.length := by
    have e := r2.length
    rw [F.len _ _ _ _ hq] at e
    exact e.symm
  refine wpAny_call (make_map (f := f) I.kIn M.makes M.init (beq_iff_eq.mp M.fn) (codeAny_mono (F.run _ X.stack _ _ ⟨Value.ref (s.heap.objs.size + 1) :: us, []⟩ (Value.ref (s.heap.objs.size + 1) :: (us ++ ds)) _ _ E (hr.make C us [])
    (I2.env0.make C us []) (hb _ (Value.ref (s.heap.objs.size + 1) :: us) I2.kIn hl) r2 hq) fun r s' hq' => ?_))
  cases r with
  | error e => exact hx pins σ _ _ e s' I2 hq'
  | ok fl =>
    cases fl with
    | ret u =>
      obtain ⟨v, H', I3, rv, ev, q3⟩ := I2.after hq'
      subst ev
      exact ⟨rv, ⟨V.ref (s.heap.objs.size + 1), H', I3, rfl, q3⟩⟩
    | next => exact False.elim hq'
    | brk => exact False.elim hq'
    | cont => exact False.elim hq'
theorem pe_make (M : Mk X.K C f) (F : FnOk X.prog X.w X.K X.mg X.base CX k f fd ps sp) (hr : Room (k + 1) X.A) (hg : Gl X x) (hm : X.mg x = some (.ref C)) (hb : Binds X.K fd ps ds) (hd : Vals dvs ds) (hx : Passes CX X E)
    (ha : PA X (e :: es) t) (hdb : (x == ("__debug__" : Str)) = false := by decide) (he : starEach (e :: es) X.env = (false, eval e X.env) :: starEach es X.env := by rfl) (hpl : (backTo pos (starEach es X.env)).any (·.1) = false := by rfl) :
    PE X (.Call (.Name x p) (e :: es) [] pos) (tMake C sp dvs E t) := by
  intro pins s σ H Q I h
  refine wpAny_Call_Name_kw (ld_glob I hg hm ?_ hdb)
  refine PySem.W.callWith_K (h₀ := X.base) I.ok.mod.kin M.kp (thn (ha pos pins s σ H _ I h) fun us s1 ⟨vs, H1, I1, r, q⟩ => ⟨I1.kIn, ?_⟩) he hpl
  exact run_make M F hr hb hd hx I1 r q
end

section
variable {X : Cx} {CX : CXT} {k : Nat} {f C : Addr} {fd : FuncData} {ps ks : List Str} {sp : Sp} {E : XK} {x m : Str} {p pos apos kpos : Pos} {e o : Expr} {es : List Expr} {kws : List Keyword} {te ta : TE} {t tk : TA} {nm : Option Str}
variable {g : List Value → List Value → List Value} {gV : List V → List V → List V}
end

structure FnScope (N P : List Str) (sc : Scope) : Prop where
  kind : sc.kind = .function
  co : sc.isCoroutine = false
  gen : sc.isGenerator = false
  nd : N.Nodup
  pre : N.take P.length = P
  par : ∀ x ∈ P, sc.names.lookup x = some .local ∨ sc.names.lookup x = some .cell
  nofree : ∀ y ∈ sc.names, y.2 ≠ .free

theorem bindL_out {kindOf : Str → Option NameKind} {x : Str} : ∀ {binds : List (Str × Value)} {m : Str → Option Value}, (∀ v, (x, v) ∉ binds) → bindL kindOf binds m x = m x
  | [], _, _ => rfl
  | (n, v) :: r, m, h => by
    unfold bindL
    rw [bindL_out fun w hw => h w (List.mem_cons_of_mem _ hw)]
    split
    · have : x ≠ n := by rintro rfl; exact h v List.mem_cons_self
      simp [this]
    · rfl
theorem bindC_out {kindOf : Str → Option NameKind} {x : Str} : ∀ {binds : List (Str × Value)} {m : Str → Option Value}, (∀ v, (x, v) ∉ binds) → bindC kindOf binds m x = m x
  | [], _, _ => rfl
  | (n, v) :: r, m, h => by
    unfold bindC
    rw [bindC_out fun w hw => h w (List.mem_cons_of_mem _ hw)]
    split
    · rfl
    · have : x ≠ n := by rintro rfl; exact h v List.mem_cons_self
      simp [this]
theorem bindL_get {kindOf : Str → Option NameKind} {x : Str} {v : Value} : ∀ {P : List Str} {vs : List Value} {i : Nat} {m : Str → Option Value}, P.Nodup → P[i]? = some x → vs[i]? = some v → kindOf x = some .local →
    bindL kindOf (P.zip vs) m x = some v
  | [], _, _, _, _, h, _, _ => by simp at h
  | _ :: _, [], _, _, _, _, h, _ => by simp at h
  | p :: P, w :: vs, 0, m, nd, h1, h2, hk => by
    simp at h1 h2; subst h1; subst h2
    show bindL kindOf ((p, w) :: P.zip vs) m p = _
    unfold bindL
    rw [bindL_out fun v hv => (List.nodup_cons.mp nd).1 (List.of_mem_zip hv).1, if_pos hk]
    simp
  | p :: P, w :: vs, i + 1, m, nd, h1, h2, hk => by
    show bindL kindOf ((p, w) :: P.zip vs) m x = _
    unfold bindL
    exact bindL_get (i := i) (List.nodup_cons.mp nd).2 (by simpa using h1) (by simpa using h2) hk
theorem bindC_get {kindOf : Str → Option NameKind} {x : Str} {v : Value} : ∀ {P : List Str} {vs : List Value} {i : Nat} {m : Str → Option Value}, P.Nodup → P[i]? = some x → vs[i]? = some v → kindOf x ≠ some .local →
    bindC kindOf (P.zip vs) m x = some v
  | [], _, _, _, _, h, _, _ => by simp at h
  | _ :: _, [], _, _, _, _, h, _ => by simp at h
  | p :: P, w :: vs, 0, m, nd, h1, h2, hk => by
    simp at h1 h2; subst h1; subst h2
    show bindC kindOf ((p, w) :: P.zip vs) m p = _
    unfold bindC
    rw [bindC_out fun v hv => (List.nodup_cons.mp nd).1 (List.of_mem_zip hv).1, if_neg hk]
    simp
  | p :: P, w :: vs, i + 1, m, nd, h1, h2, hk => by
    show bindC kindOf ((p, w) :: P.zip vs) m x = _
    unfold bindC
    exact bindC_get (i := i) (List.nodup_cons.mp nd).2 (by simpa using h1) (by simpa using h2) hk

def start (N : List Str) (vs : List V) : St := vs.map some ++ List.replicate (N.length - vs.length) none

def cxOf (CX : CXT) (P : Program) (w : World) (K : PySem.W.Frag) (mg : Str → Option Value) (base : Heap) (N : List Str) (qual : Str) (scope : Scope) (f : Addr) (cd : Value) (A : Around) (outer : List Env) (s : Shared) (H : Hp) (E : XK) : Cx where
  prog := P
  w := w
  K := K
  mg := mg
  base := base
  A := A.deeper (envOfC qual scope s.heap.objs.size f cd)
  N := N
  s₀ := s
  H₀ := H
  env := envOfC qual scope s.heap.objs.size f cd
  outer := outer
  stack := envOfC qual scope s.heap.objs.size f cd :: outer
  ex := []
  calm := true
  fn := fun _ => true
  pn := []
  xe := fun e s' => wpAny (model P w) (A.deeper (envOfC qual scope s.heap.objs.size f cd)) (leaving (envOfC qual scope s.heap.objs.size f cd) e) (fun _ s'' => CX outer H s E e s'') (fun e' s'' => CX outer H s E e' s'') s'

theorem cell_has {sc : Scope} {n : Nat} {x : Str} (h : sc.names.lookup x = some .cell) : ∃ c, (cellsFrom n sc.names []).lookup x = some c := by
  have q := PySem.W.cellsFrom_some sc.names n [] (.inl h)
  exact Option.isSome_iff_exists.mp q

theorem inv_start {CX : CXT} {P : Program} {w : World} {K : PySem.W.Frag} {mg : Str → Option Value} {base : Heap} {N ps : List Str} {qual : Str} {scope : Scope} {f : Addr} {cd : Value} {A : Around} {outer : List Env} {s s1 : Shared} {H : Hp} {E : XK} {us : List Value} {vs : List V}
    (S : FnScope N ps scope) (hd : A.handled = none) (e0 : Env0 P w K mg base A outer s H) (hl : vs.length = ps.length) (r : Vals vs us)
    (x : InCallC s s.heap.objs.size (bindL (envOfC qual scope s.heap.objs.size f cd).kindOf (ps.zip us) fun _ => none) (cellsFrom (s.heap.objs.size + 1) scope.names []) (bindC (envOfC qual scope s.heap.objs.size f cd).kindOf (ps.zip us) fun _ => none) s1) :
    Inv (cxOf CX P w K mg base N qual scope f cd A outer s H E) [] (start N vs) H s1 := by
  have hpl : ps.length ≤ N.length := by have := congrArg List.length S.pre; rw [List.length_take] at this; omega
  obtain ⟨h1, tk, rfl, hk⟩ := x.done
  have noA : ∀ b : Addr, b ∉ (cxOf CX P w K mg base N qual scope f cd A outer s H E).ex := fun b z => absurd (show b ∈ ([] : List Addr) from z) (by simp)
  refine ⟨⟨e0.mod, S.kind, rfl, rfl, Nat.le_refl _, fun y z c h1 h2 => ?_, fun y hy => ?_, fun y c _ h => ?_, fun _ => hd, Around.frames_deeper e0.frames, .inr ⟨rfl, rfl⟩, fun b z => absurd z (noA b), e0.bs, e0.bsz, fun b _ _ => noA b, fun b z => absurd z (noA b), e0.funs, e0.frf⟩,
    rfl, e0.bare, Un.kept hk, ⟨_, x.toInCall.ns, fun i y v h1 h2 h3 => ?_⟩, fun y c h => ⟨_, x.cell y c h⟩, e0.hok.fresh (Nat.le_refl _), fun y c h => ?_, fun p hp => absurd (show p ∈ ([] : List (Addr × Obj)) from hp) (by simp), e0.hok.kept hk, ?_⟩
  · exact name_of_addr x.apart (PySem.mem_of_lookup h1) (PySem.mem_of_lookup h2)
  · have hy : scope.names.lookup y = some .cell ∨ scope.names.lookup y = some .free := hy
    rcases hy with hy | hy
    · exact cell_has hy
    · exact absurd rfl (S.nofree _ (PySem.mem_of_lookup hy))
  · exact Nat.le_of_lt (x.above y c (PySem.mem_of_lookup h))
  · have hi : i < vs.length := by
      unfold start at h2
      by_cases hi : i < vs.length
      · exact hi
      · rw [List.getElem?_append_right (by simpa using hi)] at h2
        rw [List.getElem?_replicate] at h2
        split at h2 <;> cases h2
    have ha : vs[i]? = some v := by
      unfold start at h2
      rw [List.getElem?_append_left (by simpa using hi), List.getElem?_map] at h2
      cases e : vs[i]? with
      | none => rw [e] at h2; cases h2
      | some a => rw [e] at h2; cases h2; rfl
    obtain ⟨u, hu, rv⟩ := r.get ha
    have hp : ps[i]? = some y := by
      rw [← S.pre, List.getElem?_take_of_lt (by omega)]; exact h1
    have ndP : ps.Nodup := by rw [← S.pre]; exact S.nd.sublist (List.take_sublist _ _)
    refine ⟨u, rv, ?_⟩
    rcases S.par y (List.mem_of_getElem? hp) with k | k
    · exact .inl ⟨k, bindL_get ndP hp hu k⟩
    · obtain ⟨c, e⟩ := cell_has (n := s.heap.objs.size + 1) k
      refine .inr ⟨.inl k, c, e, ?_⟩
      have q := x.cell y c e
      rw [bindC_get ndP hp hu (by show scope.names.lookup y ≠ _; rw [k]; decide)] at q
      exact q
  · exact e0.hok.fresh (Nat.le_of_lt (x.above y c (PySem.mem_of_lookup h)))
  · unfold start
    show _ = N.length
    rw [List.length_append, List.length_map, List.length_replicate]
    omega

theorem fn_of {CX : CXT} {P : Program} {w : World} {K : PySem.W.Frag} {mg : Str → Option Value} {base : Heap} {k : Nat} {f : Addr} {name qual : Str} {params : Arguments} {body : List Stmt} {scope : Scope} {dV kV doc pm cdv ct oc : Value} {an od : Option Addr}
    {osl : Array (Option Value)} {N ps : List Str} {sp : Sp} (lk : K.lookup f = some ⟨oc, od, .func (PySem.W.fnOf name qual params body scope dV kV doc pm an cdv ct), osl⟩) (hcd : PySem.W.codeIn K cdv qual = true) (S : FnScope N ps scope)
    (len : ∀ vs H Q E, sp vs H Q E → vs.length = ps.length)
    (hbody : ∀ (A : Around) (outer : List Env) (s : Shared) (H : Hp) (vs : List V) (Q : VK) (E : XK), Room k (A.deeper (envOfC qual scope s.heap.objs.size f cdv)) → sp vs H Q E →
      ∃ t, PSs (cxOf CX P w K mg base N qual scope f cdv A outer s H E) body t ∧ t { nx := fun _ H' => Q .non H', rt := Q } (start N vs) H) :
    FnOk P w K mg base CX (k + 1) f (PySem.W.fnOf name qual params body scope dV kV doc pm an cdv ct) ps sp := by
  refine ⟨len, fun A outer s H args us vs Q E hr e0 hb r hsp => ?_⟩
  have hl := len _ _ _ _ hsp
  have KX : K.In s.heap := e0.mod.kin.keeps fun b o e => (e0.bs b o e).1
  have lim : s.heap.NoLimit := e0.mod.nolimit.keeps fun b o e => (e0.bs b o e).1
  have hkind : ∀ y ∈ ps.zip us, scope.names.lookup y.1 = some .local ∨ (scope.names.lookup y.1 = some .cell ∧ ((cellsFrom (s.heap.objs.size + 1) scope.names []).lookup y.1).isSome = true) := fun ⟨n, v⟩ hy => by
    rcases S.par n (List.of_mem_zip hy).1 with q | q
    · exact .inl q
    · exact .inr ⟨q, PySem.W.cellsFrom_some _ _ _ (.inl q)⟩
  refine codeAny_call_function hr.depth (KX _ _ lk) rfl S.co S.gen rfl (PySem.W.codeRec_of KX hcd) (hb _ _ _ _ ?_)
  refine wpAny_newFunctionEnv_cells S.kind hkind fun env he s1 x => ?_
  subst he
  refine ⟨lim.keeps x.toInCall.keep, codeAny_func ?_⟩
  obtain ⟨t, ht, hq⟩ := hbody A outer s H vs Q E (hr.deeper _) hsp
  have I : Inv (cxOf CX P w K mg base N qual scope f cdv A outer s H E) [] (start N vs) H s1 := inv_start S hr.hd e0 hl r x
  refine wpAny_mono (ht [] s1 (start N vs) H _ I hq) (fun fl s' hs => ?_) fun e s' hs => hs
  have fin : ∀ {σ' : St} {H' : Hp} {v : V} {u : Value}, Inv (cxOf CX P w K mg base N qual scope f cdv A outer s H E) [] σ' H' s' → RelV v u → Q v H' → CE outer P w H s Q u s' :=
    fun {σ' H' v u} J rv q => ⟨v, H', J.os, J.bare, J.base, J.hok, rv, q⟩
  cases fl with
  | ret u =>
    obtain ⟨v, σ', H', J, rv, q⟩ := hs
    exact fin J rv q
  | next =>
    obtain ⟨σ', H', J, q⟩ := hs
    exact fin (v := V.non) (u := Value.none) J rfl q
  | brk =>
    obtain ⟨_, _, _, q⟩ := hs
    exact False.elim q
  | cont =>
    obtain ⟨_, _, _, q⟩ := hs
    exact False.elim q
end L2

namespace L2
open PySem PySem.Spec PyProof.Rows
section
variable {X : Cx} {x : Str} {p pos : Pos} {e : Expr} {es : List Expr} {t : TA} {id T : String} {r : List V → Hp → VK → Prop}

def tCB (r : List V → Hp → VK → Prop) (t : TA) : TE := fun σ H Q => t σ H fun vs H1 => r vs H1 Q
theorem pe_callB (hc : CallR X (.builtin id) r) (hg : Gl X x) (hm : X.mg x = none) (hv : bootBuiltins x = some (.builtin id)) (ha : PA X (e :: es) t) (hn : x ≠ "__name__" := by decide) (hdb : (x == ("__debug__" : Str)) = false := by decide)
    (he : starEach (e :: es) X.env = (false, eval e X.env) :: starEach es X.env := by rfl) (hpl : (backTo pos (starEach es X.env)).any (·.1) = false := by rfl) : PE X (.Call (.Name x p) (e :: es) [] pos) (tCB r t) := by
  intro pins s σ H Q I h
  refine wpAny_Call_Name_kw (ld_blt I hg hm hv ?_ hn hdb)
  exact PyProof.Rows.callWith_builtin1 (thn (ha pos pins s σ H _ I h) fun us s1 ⟨vs, H1, I1, r1, q1⟩ => hc pins s1 σ H1 vs us Q I1 r1 q1) he hpl
theorem pe_callTy (hc : CallR X (.type T) r) (hg : Gl X x) (hm : X.mg x = none) (hv : bootBuiltins x = some (.type T)) (ha : PA X (e :: es) t) (hn : x ≠ "__name__" := by decide) (hdb : (x == ("__debug__" : Str)) = false := by decide)
    (he : starEach (e :: es) X.env = (false, eval e X.env) :: starEach es X.env := by rfl) (hpl : (backTo pos (starEach es X.env)).any (·.1) = false := by rfl) : PE X (.Call (.Name x p) (e :: es) [] pos) (tCB r t) := by
  intro pins s σ H Q I h
  refine wpAny_Call_Name_kw (ld_blt I hg hm hv ?_ hn hdb)
  exact PyProof.Rows.callWith_type1 (thn (ha pos pins s σ H _ I h) fun us s1 ⟨vs, H1, I1, r1, q1⟩ => hc pins s1 σ H1 vs us Q I1 r1 q1) he hpl
end
end L2

namespace HT
open PySem PyProof.Rows

section
open PySem.SeqAt
open PySem.AutoSeq1 (wpAny_loadPart')
open PySem.MeetsSeq PySem.MeetsSeq2 PySem.MeetsSeq3

end

section
variable {prog : Program} {w : World} {A : Around} {E : Value → Shared → Prop} {s : Shared}

def sIx (n d : Nat) : Option Int → Nat
  | none => d
  | some v => if v < 0 then (v + (n : Int)).toNat else min v.toNat n
theorem sIx_none (n d : Nat) : sIx n d none = d := rfl
theorem sIx_nat (n d k : Nat) : sIx n d (some (k : Int)) = min k n := by
  show (if (k : Int) < 0 then ((k : Int) + (n : Int)).toNat else min (k : Int).toNat n) = min k n
  rw [if_neg (by omega), Int.toNat_natCast]
end
end HT

namespace L2
open PySem PySem.Spec PyProof.Rows

abbrev TO := St → Hp → (Option Int → Hp → Prop) → Prop
def PO (X : Cx) (e : Option Expr) (t : TO) : Prop :=
  ∀ (pins : List (Addr × Obj)) (s : Shared) (σ : St) (H : Hp) (Q : Option Int → Hp → Prop), Inv X pins σ H s → t σ H Q →
    wpAny (model X.prog X.w) X.A (evalPart e X.env) (fun u s' => ∃ o H', Inv X pins σ H' s' ∧ IsPart u o ∧ Q o H') X.xe s
def tNoPart : TO := fun _ H Q => Q none H
def tPart (t : TE) : TO := fun σ H Q => t σ H fun x H1 => ∃ i, x = .int i ∧ Q (some i) H1

theorem intsAre_of {ns : List Int} : ∀ {us : List Value}, Vals (ns.map V.int) us → IntsAre us ns := by
  induction ns with
  | nil => intro us r; rw [List.map_nil] at r; cases r; exact .nil
  | cons n ns ih =>
    intro us r
    rw [List.map_cons] at r
    cases r with
    | cons r1 r2 =>
      obtain ⟨t, e⟩ := r1
      subst e
      exact .cons n t (ih r2)

section
variable {X : Cx} {e : Expr} {te : TE} {lo hi : Option Expr} {tl th : TO} {pos p2 : Pos}

theorem po_none : PO X none tNoPart := by
  intro pins s σ H Q I h
  rw [evalPart_none]
  exact wpAny_pure ⟨none, H, I, .none, h⟩
theorem po_some (h : PE X e te) : PO X (some e) (tPart te) := by
  intro pins s σ H Q I hw
  rw [evalPart_some]
  refine thn (h pins s σ H _ I hw) fun u s1 ⟨x, H1, I1, r1, q1⟩ => ?_
  obtain ⟨i, rfl, q⟩ := q1
  obtain ⟨t, rfl⟩ := r1
  exact ⟨some i, H1, I1, .int i t, q⟩

def SlR (X : Cx) (r : V → Option Int → Option Int → Hp → VK → Prop) : Prop :=
  ∀ (pins : List (Addr × Obj)) (s : Shared) (σ : St) (H : Hp) (x : V) (v vl vu : Value) (lo hi : Option Int) (sl : Addr) (Q : VK), Inv X pins σ H s → RelV x v → s.heap.IsSliceOf sl vl vu .none → IsPart vl lo → IsPart vu hi → r x lo hi H Q →
    ∃ T id, typeLookup (.type T) "__getitem__" = pure (some (.builtin id)) ∧ s.TypeIs v T ∧ wpAny (model X.prog X.w) X.A (getItem v (.ref sl)) (EP X pins σ Q) X.xe s
def tSl (r : V → Option Int → Option Int → Hp → VK → Prop) (te : TE) (tl th : TO) : TE := fun σ H Q => te σ H fun x H1 => tl σ H1 fun l H2 => th σ H2 fun u H3 => r x l u H3 Q
theorem pe_slice {r : V → Option Int → Option Int → Hp → VK → Prop} (hr : SlR X r) (he : PE X e te) (hl : PO X lo tl) (hu : PO X hi th) : PE X (.Subscript e (.Slice lo hi none p2) pos) (tSl r te tl th) := by
  intro pins s σ H Q I h
  refine Subscript_ (thn (he pins s σ H _ I h) fun v s1 ⟨x, H1, I1, r1, q1⟩ => ?_)
  refine wpAny_Slice (thn (hl pins s1 σ H1 _ I1 q1) fun vl s2 ⟨l, H2, I2, pl, q2⟩ => thn (hu pins s2 σ H2 _ I2 q2) fun vu s3 ⟨u, H3, I3, pu, q3⟩ => ?_)
  rw [evalPart_none]
  refine wpAny_pure ?_
  have I4 : Inv X pins σ H3 { s3 with heap := s3.heap.push { cls := .type "slice", data := .fields #[vl, vu, .none] } } := I3.kept (t' := s3.toks) fun b ob q => Heap.get?_push_of_some _ q
  obtain ⟨T, id, hT, ht, hg⟩ := hr pins { s3 with heap := s3.heap.push { cls := .type "slice", data := .fields #[vl, vu, .none] } } σ H3 x v vl vu l u s3.heap.objs.size Q I4 r1 (Heap.IsSliceOf.new ..) pl pu q3
  show wpAny (model X.prog X.w) X.A (subscriptTail e (.Slice lo hi none p2) v (.ref s3.heap.objs.size)) (EP X pins σ Q) X.xe { s3 with heap := s3.heap.push { cls := .type "slice", data := .fields #[vl, vu, .none] } }
  exact tail_any (ops := [.ref s3.heap.objs.size, v]) ht hT hg (by with_unfolding_all rfl)

def cutV (xs : List V) (lo hi : Option Int) : List V := (xs.drop (HT.sIx xs.length 0 lo)).take (HT.sIx xs.length xs.length hi - HT.sIx xs.length 0 lo)
theorem cutV_length (xs : List V) (lo hi : Option Int) : (cutV xs lo hi).length ≤ xs.length := by
  unfold cutV
  rw [List.length_take, List.length_drop]
  omega
end
end L2

namespace L2
open PySem PySem.Spec PyProof.Rows

def ixN (n : Nat) (i : Int) : Option Nat := if 0 ≤ i then (if i < n then some i.toNat else none) else if -(n : Int) ≤ i then some (i + n).toNat else none
def atI {α : Type} (xs : List α) (i : Int) : Option α := (ixN xs.length i).bind fun j => xs[j]?
theorem ixN_seq {n : Nat} {i : Int} {j : Nat} (h : ixN n i = some j) : seqIndex? i n = some j ∧ j < n ∧ -(n : Int) ≤ i ∧ i < n := by
  unfold ixN at h
  by_cases h0 : 0 ≤ i
  · rw [if_pos h0] at h
    by_cases h1 : i < n
    · rw [if_pos h1] at h
      have e : i.toNat = j := Option.some.inj h
      exact ⟨by rw [seqIndex_of h0 h1, e], by omega, by omega, h1⟩
    · rw [if_neg h1] at h; cases h
  · rw [if_neg h0] at h
    by_cases h1 : -(n : Int) ≤ i
    · rw [if_pos h1] at h
      have e : (i + n).toNat = j := Option.some.inj h
      exact ⟨by rw [seqIndex_neg (by omega) h1, e], by omega, h1, by omega⟩
    · rw [if_neg h1] at h; cases h
theorem atI_get {α : Type} {xs : List α} {i : Int} {v : α} (h : atI xs i = some v) : ∃ j, seqIndex? i xs.length = some j ∧ xs[j]? = some v ∧ j < xs.length ∧ -(xs.length : Int) ≤ i ∧ i < xs.length := by
  unfold atI at h
  cases e : ixN xs.length i with
  | none => rw [e] at h; cases h
  | some j =>
    rw [e] at h
    obtain ⟨h1, h2, h3, h4⟩ := ixN_seq e
    exact ⟨j, h1, h, h2, h3, h4⟩
theorem atI_nat {α : Type} {xs : List α} {j : Nat} {v : α} (h : xs[j]? = some v) : atI xs (j : Int) = some v := by
  have hj : j < xs.length := (List.getElem?_eq_some_iff.mp h).1
  have e : ixN xs.length (j : Int) = some j := by
    unfold ixN
    rw [if_pos (by omega), if_pos (by omega)]; simp
  unfold atI; rw [e]; exact h
def PlainIx (b : Expr) : Prop := ∀ o i, subscripted b false o i = operate [o, i] (getItem o i)
def IxR (X : Cx) (r : R2) : Prop :=
  ∀ (value slice : Expr) (pins : List (Addr × Obj)) (s : Shared) (σ : St) (H : Hp) (x y : V) (v u : Value) (Q : VK), Inv X pins σ H s → RelV x v → RelV y u → r x y H Q →
    subscripted slice false v u = operate [v, u] (getItem v u) → wpAny (model X.prog X.w) X.A (subscriptTail value slice v u) (EP X pins σ Q) X.xe s
def MtR (X : Cx) (id : String) (r : V → List V → Hp → VK → Prop) : Prop :=
  ∀ (pins : List (Addr × Obj)) (s : Shared) (σ : St) (H : Hp) (x : V) (xs : List V) (v : Value) (us : List Value) (Q : VK), Inv X pins σ H s → RelV x v → Vals xs us → r x xs H Q →
    wpAny (model X.prog X.w) X.A (call (.builtin id) (v :: us)) (EP X pins σ Q) X.xe s
section
variable {X : Cx} {a b : Expr} {ta tb : TE} {pos : Pos}
theorem pe_ix {r : R2} (hr : IxR X r) (ha : PE X a ta) (hb : PE X b tb) (hs : PlainIx b) : PE X (.Subscript a b pos) (tOp r ta tb) := by
  intro pins s σ H Q I h
  exact Subscript_ (binT ha hb I h fun v u s2 x y H2 I2 rx ry q => hr a b pins s2 σ H2 x y v u Q I2 rx ry q (hs _ _))

def rIxL (K : PySem.W.Frag) : R2 := fun x y H Q => ∃ p xs i v, x = .ref p ∧ y = .int i ∧ SqL K H p xs ∧ atI xs i = some v ∧ Q v H
def rIxT (K : PySem.W.Frag) : R2 := fun x y H Q => ∃ p xs i v, x = .ref p ∧ y = .int i ∧ SqT K H p xs ∧ atI xs i = some v ∧ Q v H
def rIxS : R2 := fun x y H Q => ∃ z i c, x = .str z ∧ y = .int i ∧ z.length ≤ sizeLine ∧ atI z.cps.toList i = some c ∧ Q (.str ⟨#[c]⟩) H
theorem ix_list : IxR X (rIxL X.K) := by
  intro value slice pins s σ H x y v u Q I rx ry h hs
  obtain ⟨p, xs, i, z, rfl, rfl, hq, he, q⟩ := h
  cases rx
  obtain ⟨t, rfl⟩ := ry
  obtain ⟨its, r, pl, hz⟩ := I.list hq
  obtain ⟨j, h1, h2, h3, h4, h5⟩ := atI_get he
  obtain ⟨w, ew, rw'⟩ := r.get h2
  have hl := r.length
  have hn := line63
  have fin : EP X pins σ Q w s := ⟨z, H, I, rw', q⟩
  by_cases h0 : 0 ≤ i
  · have hj : i.toNat = j := by
      rw [seqIndex_of h0 h5] at h1
      exact Option.some.inj h1
    exact item_listR pl.isList h0 (by omega) (by rw [hj]; simpa using ew) fin hs
  · have hj : (i + (its.toArray.size : Int)).toNat = j := by
      rw [seqIndex_neg (by omega) h4] at h1
      rw [List.size_toArray, ← hl]
      exact Option.some.inj h1
    exact subscriptTail_builtinR (x := w) pl.isList.typeIs slot_list_getitem.lookup
      (wpAny_getItem_list_neg (Q := fun r s' => r = w ∧ EP X pins σ Q r s') pl.isList (by omega) (by rw [List.size_toArray] <;> omega) (by omega) (by rw [hj]; simpa using ew) ⟨rfl, fin⟩) hs
theorem ix_tup : IxR X (rIxT X.K) := by
  intro value slice pins s σ H x y v u Q I rx ry h hs
  obtain ⟨p, xs, i, z, rfl, rfl, hq, he, q⟩ := h
  cases rx
  obtain ⟨t, rfl⟩ := ry
  obtain ⟨its, r, pl, hz⟩ := I.tuple hq
  obtain ⟨j, h1, h2, h3, h4, h5⟩ := atI_get he
  obtain ⟨w, ew, rw'⟩ := r.get h2
  have hl := r.length
  have hn := line63
  have fin : EP X pins σ Q w s := ⟨z, H, I, rw', q⟩
  exact subscriptTail_builtinR (x := w) pl.typeIs slot_tuple_getitem.lookup
    (getItem_tuple (j := j) (Q := fun r s' => r = w ∧ EP X pins σ Q r s') pl (by omega) (by omega) (by rw [List.size_toArray, ← hl]; exact h1) (by simpa using ew) ⟨rfl, fin⟩) hs
theorem ix_str : IxR X rIxS := by
  intro value slice pins s σ H x y v u Q I rx ry h hs
  obtain ⟨z, i, c, rfl, rfl, hz, he, q⟩ := h
  obtain ⟨t, rfl⟩ := rx
  obtain ⟨t', rfl⟩ := ry
  obtain ⟨j, h1, h2, h3, h4, h5⟩ := atI_get he
  have hl : z.cps.toList.length = z.length := by simp [Str.length]
  rw [hl] at h1 h4 h5
  have hn := line63
  exact tail_any (typeIs_str s z t) slot_str_getitem.lookup (getItem_str (c := c) (by
    have e1 : decide (i < -(2 ^ 63 : Int)) = false := decide_eq_false (by omega)
    have e2 : decide (i ≥ 2 ^ 63) = false := decide_eq_false (by omega)
    rw [e1, e2, Bool.or_false]) (by rw [h1]; simpa using h2) ⟨.str ⟨#[c]⟩, H, I.tok _, ⟨_, rfl⟩, q⟩) hs
theorem mapSeq_set (its : List Value) (n j : Nat) (u : Value) : Obj.mapSeq (·.setIfInBounds j u) { cls := .type "list", data := .seq its.toArray n } = { cls := .type "list", data := .seq (its.set j u).toArray n } := by
  simp [Obj.mapSeq]
theorem Inv.lst {pins : List (Addr × Obj)} {σ : St} {H : Hp} {s : Shared} {p : Addr} {xs : List V} (I : Inv X pins σ H s) (h : H p = some (.lst xs)) :
    ∃ (its : List Value) (n : Nat), Vals xs its ∧ s.heap.get? p = some { cls := .type "list", data := .seq its.toArray n } ∧ xs.length ≤ sizeLine := by
  obtain ⟨z, its, n, r, e⟩ := I.hok p _ h
  exact ⟨its, n, r, e, z⟩
theorem Inv.lstUpd {pins : List (Addr × Obj)} {σ : St} {H : Hp} {s : Shared} {p : Addr} {xs ys : List V} {its its' : List Value} {n n' : Nat} {f : Obj → Obj} (I : Inv X pins σ H s) (h : H p = some (.lst xs))
    (ho : s.heap.get? p = some { cls := .type "list", data := .seq its.toArray n }) (hf : f { cls := .type "list", data := .seq its.toArray n } = { cls := .type "list", data := .seq its'.toArray n' }) (r : Vals ys its') (hz : ys.length ≤ sizeLine) (t : Nat) :
    Inv X pins σ (upd H p (.lst ys)) { s with heap := s.heap.update p f, toks := t } := by
  have e : (s.heap.update p f).get? p = some { cls := .type "list", data := .seq its'.toArray n' } := by
    rw [Heap.get?_update_self f ho (by rw [hf] <;> rfl), hf]
  refine I.write (x := p) (e := p) (by rw [h]; trivial) (.inl rfl) (fun b u hb q => (Heap.get?_update_other _ _ (Ne.symm hb)).trans q) ⟨_, e⟩ ?_
  exact ⟨hz, its', n', r, e⟩
def rSetL : V → V → V → Hp → (Hp → Prop) → Prop := fun o i v H Q => ∃ p xs k j, o = .ref p ∧ i = .int k ∧ H p = some (.lst xs) ∧ ixN xs.length k = some j ∧ Q (upd H p (.lst (xs.set j v)))
theorem set_list : PSet X rSetL := by
  intro pins s σ H o i v ov iv u Q I ro ri rv h
  obtain ⟨p, xs, k, j, rfl, rfl, hp, hj, q⟩ := h
  cases ro
  obtain ⟨t, rfl⟩ := ri
  obtain ⟨its, n, r, ho, hz⟩ := I.lst hp
  obtain ⟨h1, h2, h3, h4⟩ := ixN_seq hj
  have hl := r.length
  have hn := line63
  have I' : Inv X pins σ (upd H p (.lst (xs.set j v))) { s with heap := s.heap.update p (Obj.mapSeq (·.setIfInBounds j u)) } :=
    I.lstUpd hp ho (mapSeq_set its n j u) (r.set rv j) (by rw [List.length_set]; exact hz) s.toks
  by_cases h0 : 0 ≤ k
  · have hk : k.toNat = j := by
      rw [seqIndex_of h0 h4] at h1
      exact Option.some.inj h1
    exact PySem.W.ki_setAt ho h0 (by omega) (by rw [List.size_toArray, ← hl]; exact h4) (by rw [hk]; exact ⟨_, I', q⟩)
  · have hk : (k + (its.toArray.size : Int)).toNat = j := by
      rw [seqIndex_neg (by omega) h3] at h1
      rw [List.size_toArray, ← hl]
      exact Option.some.inj h1
    exact PySem.W.ki_setBack ho (by omega) (by rw [List.size_toArray, ← hl]; exact h3) (by omega) (by rw [hk]; exact ⟨_, I', q⟩)

theorem slice_bounds (lo hi : Option Int) (n : Nat) : (sliceBounds lo hi none n).1 = ((HT.sIx n 0 lo : Nat) : Int) ∧ (sliceBounds lo hi none n).2.1 = ((HT.sIx n n hi : Nat) : Int) ∧ (sliceBounds lo hi none n).2.2 = 1 := by
  refine ⟨?_, ?_, rfl⟩
  · cases lo with
    | none => simp [sliceBounds, HT.sIx]
    | some i =>
      simp only [sliceBounds, HT.sIx, Option.getD_none, show (1 : Int) > 0 by decide, if_true]
      by_cases h : i < 0
      · simp only [h, if_true] <;> omega
      · simp only [h, if_false] <;> omega
  · cases hi with
    | none => simp [sliceBounds, HT.sIx]
    | some i =>
      simp only [sliceBounds, HT.sIx, Option.getD_none, show (1 : Int) > 0 by decide, if_true]
      by_cases h : i < 0
      · simp only [h, if_true] <;> omega
      · simp only [h, if_false] <;> omega
theorem slicePick_cut (its : List Value) (lo hi : Option Int) : slicePick its.toArray lo hi none = ((its.drop (HT.sIx its.length 0 lo)).take (HT.sIx its.length its.length hi - HT.sIx its.length 0 lo)).toArray := by
  obtain ⟨h1, h2, h3⟩ := slice_bounds lo hi its.toArray.size
  unfold slicePick
  rw [h1, h2, h3]
  simp only [sliceRange_one, pick_run, List.size_toArray] <;> rfl
def rSlL (K : PySem.W.Frag) : V → Option Int → Option Int → Hp → VK → Prop := fun x lo hi H Q => ∃ a xs, x = .ref a ∧ SqL K H a xs ∧ ∀ p, H p = none → Q (.ref p) (upd H p (.lst (cutV xs lo hi)))
theorem sl_list : SlR X (rSlL X.K) := by
  intro pins s σ H x v vl vu lo hi sl Q I rx hs pl pu h
  obtain ⟨a, xs, rfl, hx, q⟩ := h
  cases rx
  obtain ⟨its, r, ht, hz⟩ := I.list hx
  have hlen := r.length
  refine ⟨"list", _, slot_list_getitem.lookup, ht.isList.typeIs, ?_⟩
  refine wpAny_getItem_list_slice ht.isList hs pl pu .none (by simp) ?_ (by rw [List.size_toArray] <;> omega)
  rw [slicePick_cut, ← hlen]
  refine ⟨.ref s.heap.objs.size, _, I.laid (t' := s.toks) (o := .lst (cutV xs lo hi)) (fun b ob q => Heap.get?_push_of_some _ q) (Nat.le_refl _) ?_, rfl, q _ (I.hok.fresh (Nat.le_refl _))⟩
  exact ⟨Nat.le_trans (cutV_length xs lo hi) hz, _, 0, (r.drop (HT.sIx xs.length 0 lo)).take (HT.sIx xs.length xs.length hi - HT.sIx xs.length 0 lo), Heap.get?_push_size _ rfl⟩

def flatV : V → Bool
  | .non => true
  | .bl _ => true
  | .int _ => true
  | .str _ => true
  | _ => false
def eqV : V → V → Bool
  | .non, .non => true
  | .bl a, .bl b => a == b
  | .bl a, .int b => (if a then 1 else 0) == b
  | .int a, .bl b => a == (if b then 1 else 0)
  | .int a, .int b => a == b
  | .str a, .str b => a == b
  | _, _ => false
theorem eqAt_V {A : Around} {s : Shared} {y x : V} {u v : Value} (ry : RelV y u) (rx : RelV x v) (fy : flatV y = true) (fx : flatV x = true) : SeqAt.EqAt A s u v (eqV y x) := by
  cases y with
  | non =>
    cases ry
    cases x with
    | non => cases rx; exact SeqAt.EqAt.same _
    | bl b => cases rx; exact SeqAt.EqAt.none_bool b
    | int b => obtain ⟨t, rfl⟩ := rx; exact SeqAt.EqAt.none_int b t
    | str b => obtain ⟨t, rfl⟩ := rx; exact SeqAt.EqAt.none_str b t
    | _ => exact absurd (show false = true from fx) Bool.false_ne_true
  | bl a =>
    cases ry
    cases x with
    | non => cases rx; exact SeqAt.EqAt.bool_none a
    | bl b => cases rx; exact SeqAt.EqAt.bool_bool a b
    | int b => obtain ⟨t, rfl⟩ := rx; exact SeqAt.EqAt.bool_int a b t
    | str b => obtain ⟨t, rfl⟩ := rx; exact SeqAt.EqAt.bool_str a b t
    | _ => exact absurd (show false = true from fx) Bool.false_ne_true
  | int a =>
    obtain ⟨t', rfl⟩ := ry
    cases x with
    | non => cases rx; exact SeqAt.EqAt.int_none a t'
    | bl b => cases rx; exact SeqAt.EqAt.int_bool a t' b
    | int b => obtain ⟨t, rfl⟩ := rx; exact SeqAt.EqAt.int_int a t' b t
    | str b => obtain ⟨t, rfl⟩ := rx; exact SeqAt.EqAt.int_str a t' b t
    | _ => exact absurd (show false = true from fx) Bool.false_ne_true
  | str a =>
    obtain ⟨t', rfl⟩ := ry
    cases x with
    | non => cases rx; exact SeqAt.EqAt.str_none a t'
    | bl b => cases rx; exact SeqAt.EqAt.str_bool a t' b
    | int b => obtain ⟨t, rfl⟩ := rx; exact SeqAt.EqAt.str_int a t' b t
    | str b => obtain ⟨t, rfl⟩ := rx; exact SeqAt.EqAt.str_str a t' b t
    | _ => exact absurd (show false = true from fx) Bool.false_ne_true
  | _ => exact absurd (show false = true from fy) Bool.false_ne_true
def eqU (x : V) (u : Value) : Bool := match u with
  | .none => eqV .non x
  | .bool b => eqV (.bl b) x
  | .int i _ => eqV (.int i) x
  | .str z _ => eqV (.str z) x
  | _ => false
theorem eqU_of {x y : V} {u : Value} (r : RelV y u) (f : flatV y = true) : eqU x u = eqV y x := by
  cases y with
  | non => cases r; rfl
  | bl b => cases r; rfl
  | int i => obtain ⟨t, rfl⟩ := r; rfl
  | str z => obtain ⟨t, rfl⟩ := r; rfl
  | _ => exact absurd (show false = true from f) Bool.false_ne_true
theorem any_eqU {x : V} : ∀ {xs : List V} {us : List Value}, Vals xs us → xs.all flatV = true → us.any (eqU x) = xs.any fun y => eqV y x
  | _, _, .nil, _ => rfl
  | y :: xs, u :: us, .cons r t, f => by
    rw [List.all_cons, Bool.and_eq_true] at f
    rw [List.any_cons, List.any_cons, eqU_of r f.1, any_eqU t f.2]
theorem mem_eqAt {A : Around} {s : Shared} {x : V} {v : Value} (rx : RelV x v) (fx : flatV x = true) : ∀ {xs : List V} {us : List Value}, Vals xs us → xs.all flatV = true → ∀ u ∈ us, SeqAt.EqAt A s u v (eqU x u)
  | _, _, .nil, _ => fun u hu => by cases hu
  | y :: xs, u :: us, .cons r t, f => fun u' hu => by
    rw [List.all_cons, Bool.and_eq_true] at f
    rcases List.mem_cons.mp hu with rfl | hu
    · rw [eqU_of r f.1]; exact eqAt_V r rx f.1 fx
    · exact mem_eqAt rx fx t f.2 u' hu
def inV (x : V) (xs : List V) : Bool := xs.any fun y => eqV y x
def rIn (K : PySem.W.Frag) (neg : Bool) : R2 := fun x y H Q => ∃ p xs, y = .ref p ∧ (SqL K H p xs ∨ SqT K H p xs) ∧ flatV x = true ∧ xs.all flatV = true ∧ Q (.bl (if neg then !inV x xs else inV x xs)) H
theorem op_in_seq : OpR X (compareOp .In) (rIn X.K false) := by
  intro pins s σ H x y v u Q I rx ry h
  obtain ⟨p, xs, rfl, hq, fx, fs, q⟩ := h
  cases ry
  rcases hq with hq | hq
  · obtain ⟨its, r, pl, hz⟩ := I.list hq
    refine SeqAt.in_listAt (eqU x) pl.isList (fun w hw => mem_eqAt rx fx r fs w (by simpa using hw)) ⟨.bl _, H, I, rfl, ?_⟩
    rw [show its.toArray.any (eqU x) = its.any (eqU x) by simp, any_eqU r fs]
    exact q
  · obtain ⟨its, r, pl, hz⟩ := I.tuple hq
    refine SeqAt.in_tupleAt (eqU x) pl (fun w hw => mem_eqAt rx fx r fs w (by simpa using hw)) ⟨.bl _, H, I, rfl, ?_⟩
    rw [show its.toArray.any (eqU x) = its.any (eqU x) by simp, any_eqU r fs]
    exact q
theorem call_list_of : CallR X (.type "list") (fun xs H Q => ∃ p ys, xs = [.ref p] ∧ (SqL X.K H p ys ∨ SqT X.K H p ys) ∧ ∀ l, H l = none → Q (.ref l) (upd H l (.lst ys))) := by
  intro pins s σ H xs us Q I r h
  obtain ⟨p, ys, rfl, hq, q⟩ := h
  obtain ⟨u, rfl, rx⟩ := vals1 r
  cases rx
  have fin : ∀ (its : List Value), Vals ys its → ys.length ≤ sizeLine → ∀ (h' : Heap) (c' : Nat), (∀ b o', s.heap.get? b = some o' → h'.get? b = some o') →
      h'.get? s.heap.objs.size = some { cls := .type "list", dict := none, data := .seq its.toArray c', slots := #[] } → EP X pins σ Q (.ref s.heap.objs.size) { s with heap := h' } := fun its r' hz h' c' kp e =>
    ⟨.ref s.heap.objs.size, _, I.laid (t' := s.toks) kp (Nat.le_refl _) (show ObjOk X.prog X.w _ h' _ (.lst ys) from ⟨hz, its, c', r', e⟩), rfl, q _ (I.hok.fresh (Nat.le_refl _))⟩
  rcases hq with hq | hq
  · obtain ⟨its, r', pl, hz⟩ := I.list hq
    have hlen := r'.length
    obtain ⟨o, ho, hc, n, hd⟩ := pl.isList
    exact call_list_seq p (.inl rfl) ho hc hd (fun h' c' kp e => fin its r' hz h' c' kp e) (by simp only [List.size_toArray] <;> omega)
  · obtain ⟨its, r', pl, hz⟩ := I.tuple hq
    have hlen := r'.length
    obtain ⟨o, ho, hc, n, hd⟩ := pl
    exact call_list_seq p (.inr rfl) ho hc hd (fun h' c' kp e => fin its r' hz h' c' kp e) (by simp only [List.size_toArray] <;> omega)
theorem call_tuple_of : CallR X (.type "tuple") (fun xs H Q => ∃ p ys, xs = [.ref p] ∧ ((SqL X.K H p ys ∧ ∀ l, H l = none → Q (.ref l) (upd H l (.tup ys))) ∨ (SqT X.K H p ys ∧ Q (.ref p) H))) := by
  intro pins s σ H xs us Q I r h
  obtain ⟨p, ys, rfl, h⟩ := h
  obtain ⟨u, rfl, rx⟩ := vals1 r
  cases rx
  rcases h with ⟨hq, q⟩ | ⟨hq, q⟩
  · obtain ⟨its, r', pl, hz⟩ := I.list hq
    have hlen := r'.length
    refine call_tuple_list pl.isList (fun h' kp => ?_) (by simp only [List.size_toArray] <;> omega)
    have I1 : Inv X pins σ H { s with heap := h' } := I.kept (t' := s.toks) kp
    have I2 : Inv X pins σ (upd H h'.objs.size (.tup ys)) { s with heap := h'.push { cls := .type "tuple", data := .seq its.toArray } } :=
      I1.laid (t' := s.toks) (fun b o e => Heap.get?_push_of_some _ e) (Nat.le_refl _) (show ObjOk X.prog X.w _ _ _ (.tup ys) from ⟨hz, its, r', IsTup.new _ _⟩)
    exact ⟨.ref h'.objs.size, _, I2, rfl, q _ (I1.hok.fresh (Nat.le_refl _))⟩
  · obtain ⟨its, r', pl, hz⟩ := I.tuple hq
    exact call_tuple_same pl ⟨.ref p, H, I, rfl, q⟩

def tyV (K : PySem.W.Frag) (T : String) (x : V) (H : Hp) : Prop := match x with
  | .str _ => T = "str"
  | .int _ => T = "int"
  | .ref p => (T = "list" ∧ ∃ xs, SqL K H p xs) ∨ (T = "tuple" ∧ ∃ o, K.lookup p = some o ∧ o.cls = .type "tuple" ∧ o.dict = none) ∨
      (T = "dict" ∧ ((∃ kvs, H p = some (.dK kvs)) ∨ ∃ kvs, H p = some (.dT kvs))) ∨ (T = "set" ∧ ∃ S n, H p = some (.set S n))
  | _ => False
theorem tyV_is {pins : List (Addr × Obj)} {σ : St} {H : Hp} {s : Shared} {T : String} {x : V} {v : Value} (I : Inv X pins σ H s) (r : RelV x v) (ty : tyV X.K T x H) :
    s.TypeIs v T ∧ ∀ a, v = .ref a → ∃ ob, s.heap.get? a = some ob ∧ ob.dict = none := by
  cases x with
  | str z =>
    obtain ⟨t, rfl⟩ := r
    cases (show T = "str" from ty)
    exact ⟨typeIs_str s z t, fun _ e => nomatch e⟩
  | int i =>
    obtain ⟨t, rfl⟩ := r
    cases (show T = "int" from ty)
    exact ⟨typeIs_int s i t, fun _ e => nomatch e⟩
  | ref p =>
    cases r
    rcases ty with ⟨rfl, xs, hq⟩ | ⟨rfl, o, hk, hc, hd⟩ | ⟨rfl, hk⟩ | ⟨rfl, S, n, hk⟩
    · obtain ⟨its, _, pl, _⟩ := I.list hq
      refine ⟨pl.isList.typeIs, fun a e => ?_⟩
      cases e
      obtain ⟨o, n, e, c, hd, _⟩ := pl
      exact ⟨o, e, hd⟩
    · refine ⟨⟨o, I.kIn p o hk, hc⟩, fun a e => ?_⟩
      cases e
      exact ⟨o, I.kIn _ o hk, hd⟩
    · have z : ∃ o, s.heap.get? p = some o ∧ o.ExactDict := by
        rcases hk with ⟨kvs, hk⟩ | ⟨kvs, hk⟩
        · obtain ⟨_, _, _, _, o, _, _, e, ex, _⟩ := I.hok p _ hk
          exact ⟨o, e, ex⟩
        · obtain ⟨_, _, _, _, o, _, _, e, ex, _⟩ := I.hok p _ hk
          exact ⟨o, e, ex⟩
      obtain ⟨o, e, ex⟩ := z
      refine ⟨⟨o, e, ex.1⟩, fun a e2 => ?_⟩
      cases e2
      exact ⟨o, e, ex.2.1⟩
    · obtain ⟨o, _, _, _, e, ex, _⟩ := I.hok p _ hk
      refine ⟨⟨o, e, ex.1⟩, fun a e2 => ?_⟩
      cases e2
      exact ⟨o, e, ex.2.1⟩
  | _ => exact False.elim ty
def tBM (K : PySem.W.Frag) (T : String) (r : V → List V → Hp → VK → Prop) (to : TE) (t : TA) : TE := fun σ H Q => to σ H fun x H1 => tyV K T x H1 ∧ t σ H1 fun xs H2 => r x xs H2 Q
variable {o e : Expr} {es : List Expr} {to : TE} {t : TA} {name : Str} {apos cpos : Pos} {T id : String} {r : V → List V → Hp → VK → Prop}
theorem pe_bm (pa : PlainAttrs T) (slot : Slot T name id) (hty : typeOf (.builtin id) = pure (.type "method_descriptor")) (hm : MtR X id r) (ho : PE X o to) (ha : PA X (e :: es) t)
    (hbase : attributeBase o name X.env (eval o X.env) = eval o X.env := by rfl)
    (hfew : ((backTo cpos (starEach (e :: es) X.env)).all (fun x => !x.1) && (backToKw cpos (keywordEach [] X.env)).all (fun x => x.1.isSome)
      && decide ((e :: es).length + ([] : List Keyword).length + (if ([] : List Keyword).isEmpty then 0 else 1) < 30)) = true := by rfl)
    (hline : (apos.endLine == cpos.line) = true := by rfl) (hs : starEach (e :: es) X.env = (false, eval e X.env) :: starEach es X.env := by rfl) (hplain : (backTo cpos (starEach es X.env)).any (·.1) = false := by rfl) :
    PE X (.Call (.Attribute o name apos) (e :: es) [] cpos) (tBM X.K T r to t) := by
  intro pins s σ H Q I h
  refine wpAny_Call_method_late hbase hfew hline rfl (thn (ho pins s σ H _ I h) fun v s1 ⟨x, H1, I1, r1, ty, q1⟩ => ?_)
  obtain ⟨h1, h2⟩ := tyV_is I1 r1 ty
  refine ⟨T, id, pa, slot, hty, h1, h2, ?_⟩
  have hA := ha cpos pins s1 σ H1 _ I1 q1
  rw [hs] at hA ⊢
  refine Calls.callWith_builtin (by show (false || (backTo cpos (starEach es X.env)).any (·.1)) = false; rw [hplain] <;> rfl) (Calls.evalArgs_plain ?_)
  exact thn hA fun us s2 ⟨vs, H2, I2, r2, q2⟩ => hm pins s2 σ H2 x vs v us Q I2 r1 r2 q2
/- xs.append(e), list.index on a module's tuple .. are MtR facts of 06m -/
end
end L2

namespace L2
open PySem PySem.Spec PyProof.Rows

def MtM (X : Cx) (id : String) (r : V → List V → Hp → VK → Prop) : Prop :=
  ∀ (pins : List (Addr × Obj)) (s : Shared) (σ : St) (H : Hp) (x : V) (xs : List V) (v : Value) (us : List Value) (Q : VK), Inv X pins σ H s → RelV x v → Vals xs us → r x xs H Q →
    wpAny (model X.prog X.w) X.A (call (.builtin id) (v :: us)) (EP X pins σ Q) X.xe s

theorem Vals.one : ∀ {x : V} {us : List Value}, Vals [x] us → ∃ u, us = [u] ∧ RelV x u
  | _, _, .cons r .nil => ⟨_, rfl, r⟩
section
variable {X : Cx} {pins : List (Addr × Obj)} {σ : St} {H : Hp} {s : Shared} {l b : Addr} {xs ys zs : List V}

theorem Inv.lset {its its' : List Value} {n : Nat} {f : Array Value → Array Value} {t' : Nat} (I : Inv X pins σ H s) (hH : H l = some (.lst xs))
    (e : s.heap.get? l = some { cls := .type "list", data := .seq its.toArray n }) (hf : f its.toArray = its'.toArray) (hv : Vals ys its') (hz : ys.length ≤ sizeLine) :
    Inv X pins σ (upd H l (.lst ys)) { s with heap := s.heap.update l (Obj.mapSeq f), toks := t' } := by
  have q := PySem.IsL.update e f
  rw [hf] at q
  refine I.write (x := l) (e := l) (by rw [hH]; exact trivial) (.inl rfl) (fun b' u hb hu => (Heap.get?_update_other s.heap (Obj.mapSeq f) (Ne.symm hb)).trans hu) ⟨_, q⟩ ?_
  exact ⟨hz, its', _, hv, q⟩
theorem Inv.lnew {its : List Value} {t' : Nat} (I : Inv X pins σ H s) (hv : Vals ys its) (hz : ys.length ≤ sizeLine) :
    Inv X pins σ (upd H s.heap.objs.size (.lst ys)) { s with heap := s.heap.push { cls := .type "list", data := .seq its.toArray }, toks := t' } :=
  I.laid (fun _ _ q => Heap.get?_push_of_some _ q) (Nat.le_refl _) ⟨hz, its, 0, hv, Heap.get?_push_size _ rfl⟩
theorem Inv.fresh (I : Inv X pins σ H s) : H s.heap.objs.size = none := I.hok.fresh (Nat.le_refl _)
theorem Inv.lstM (I : Inv X pins σ H s) (hH : H l = some (.lst xs)) : xs.length ≤ sizeLine ∧ ∃ (its : List Value) (n : Nat), Vals xs its ∧ xs.length = its.length ∧ s.heap.get? l = some { cls := .type "list", data := .seq its.toArray n } := by
  obtain ⟨z, its, n, r, e⟩ := I.hok l _ hH
  exact ⟨z, its, n, r, r.length, e⟩

theorem notLongL {n : Nat} (h : n ≤ sizeLine) : Builtin.List.listTooLong n = false := by
  unfold Builtin.List.listTooLong
  exact decide_eq_false (by omega)
end

section
variable {X : Cx}

def rAppend : V → List V → Hp → VK → Prop := fun x vs H Q => ∃ l xs y, x = .ref l ∧ vs = [y] ∧ H l = some (.lst xs) ∧ xs.length < sizeLine ∧ Q .non (upd H l (.lst (xs ++ [y])))
theorem mt_append : MtM X "list.append" rAppend := by
  intro pins s σ H x vs v us Q I rx rv h
  obtain ⟨l, xs, y, rfl, rfl, hH, hz, q⟩ := h
  cases rx
  obtain ⟨u, rfl, ru⟩ := rv.one
  obtain ⟨z, its, n, r, hl, e⟩ := I.lstM hH
  refine call_meets F.slot_list_append ⟨_, e, rfl⟩ F.entry_list_append (F.args_list_append_2 _ _) (PySem.list_append l its.toArray n u (by rw [List.size_toArray]; omega)) ⟨e, ?_⟩
  refine ⟨.non, _, I.lset (its' := its ++ [u]) hH e (by simp) (r.append (.cons ru .nil)) ?_, rfl, q⟩
  rw [List.length_append, List.length_singleton]
  omega

def rExtend : V → List V → Hp → VK → Prop := fun x vs H Q => ∃ l b xs zs, x = .ref l ∧ vs = [.ref b] ∧ H l = some (.lst xs) ∧ H b = some (.lst zs) ∧ xs.length + zs.length ≤ sizeLine ∧ Q .non (upd H l (.lst (xs ++ zs)))
theorem mt_extend : MtM X "list.extend" rExtend := by
  intro pins s σ H x vs v us Q I rx rv h
  obtain ⟨l, b, xs, zs, rfl, rfl, hH, hB, hz, q⟩ := h
  cases rx
  obtain ⟨u, rfl, ru⟩ := rv.one
  cases ru
  obtain ⟨z, its, n, r, hl, e⟩ := I.lstM hH
  obtain ⟨z2, its2, n2, r2, hl2, e2⟩ := I.lstM hB
  have hsz : its.toArray.size + its2.toArray.size ≤ sizeLine := by rw [List.size_toArray, List.size_toArray]; omega
  have hlong : ¬ (!its.toArray.isEmpty && Builtin.List.listTooLong (its.toArray.size + its2.toArray.size)) = true := by
    rw [notLongL hsz, Bool.and_false]
    exact Bool.false_ne_true
  refine call_meets F.slot_list_extend ⟨_, e, rfl⟩ F.entry_list_extend (F.args_list_extend_2 _ _)
    (AutoSeq1.list_extend_list_list_0 l its.toArray n b its2.toArray n2 hlong (by rw [List.size_toArray]; omega) (by omega)) ⟨e, e2, ?_⟩
  refine ⟨.non, _, I.lset (its' := its ++ its2) hH e (by simp) (r.append r2) ?_, rfl, q⟩
  rw [List.length_append]
  omega

def rCat : R2 := fun x y H Q => ∃ l b xs zs, x = .ref l ∧ y = .ref b ∧ H l = some (.lst xs) ∧ H b = some (.lst zs) ∧ xs.length + zs.length ≤ sizeLine ∧ ∀ p, H p = none → Q (.ref p) (upd H p (.lst (xs ++ zs)))
theorem op_cat : OpR X (binaryOp .Add) rCat := by
  intro pins s σ H x y v u Q I rx ry h
  obtain ⟨l, b, xs, zs, rfl, rfl, hH, hB, hz, q⟩ := h
  cases rx
  cases ry
  obtain ⟨z, its, n, r, hl, e⟩ := I.lstM hH
  obtain ⟨z2, its2, n2, r2, hl2, e2⟩ := I.lstM hB
  refine PySem.P.add_list e e2 ?_ (by rw [List.size_toArray, List.size_toArray]; omega)
  have ea : its.toArray ++ its2.toArray = (its ++ its2).toArray := by simp
  rw [ea]
  exact ⟨.ref _, _, I.lnew (t' := s.toks) (r.append r2) (by rw [List.length_append]; omega), rfl, q _ I.fresh⟩
end

section
variable {prog : Program} {w : World} {A : Around} {E : Value → Shared → Prop} {s : Shared}
set_option maxRecDepth 100000 in
end

section
variable {X : Cx}
end
end L2

namespace Att
open PySem PySem.W PySem.Calls PyProof.Rows

theorem ints_of_wellAll {P : Params} {h : Heap} : ∀ (ns : List Int) (vs : List Value), WellAll P h vs (ns.map WData.int) → IntsAre vs ns := by
  intro ns
  induction ns with
  | nil =>
    intro vs w
    rw [List.map_nil] at w
    cases w
    exact .nil
  | cons n ns ih =>
    intro vs w
    rw [List.map_cons] at w
    cases w with
    | cons a b =>
      cases a
      exact .cons _ _ (ih _ b)

theorem script_of {l : OpenLaw} {n : Nat} (hn : l.most = some n) {P : Params} {h : Heap} {args : List WData} {vals : List Value}
    (hpre : l.row.toRowW.claim.pre args = true) (hwl : WellAll P h vals args) :
    ∃ a vs ns, vals = [Value.ref a] ∧ args = [WData.list (ns.map WData.int)] ∧ h.get? a = some { cls := .type "list", data := .seq vs.toArray } ∧ IntsAre vs ns ∧ ns.length ≤ n := by
  have hsh : WShape.hasAll [] args [.list .int] = true := (pre_splitW hpre).1
  have hc : l.pre.holds [] { args := args } = true := (pre_splitW hpre).2
  obtain ⟨d, r, rfl, h1, h2⟩ := hasAllW_cons hsh
  obtain rfl := hasAllW_nil h2
  obtain ⟨xs, rfl, h3⟩ := hasW_list h1
  obtain ⟨ns, rfl⟩ := items_int h3
  have hlen : ns.length ≤ n := by
    unfold OpenLaw.pre at hc
    have h4 : (WTm.not (.lt (.lit (.int (n : Int))) (.len (.arg 0)))).holds [] { args := [.list (ns.map .int)] } = true := by
      have h4 := (holds_andW hc).1
      rw [hn] at h4
      exact h4
    have h5 := condW_of h4 (w_not (w_lt w_lit (w_len_list (w_arg rfl))))
    rw [List.length_map] at h5
    refine Nat.le_of_not_lt fun q => ?_
    have q' : (n : Int) < ((ns.length : Nat) : Int) := by omega
    first
      | (rw [decide_eq_true q'] at h5; exact absurd h5 (by decide))
      | (simp at h5; omega)
  cases hwl with
  | cons w1 w2 =>
    cases w2
    cases w1 with
    | list ho hall => exact ⟨_, _, ns, rfl, rfl, ho, ints_of_wellAll ns _ hall, hlen⟩

theorem post_true (l : OpenLaw) (args : List WData) : l.row.toRowW.claim.post args (.bool true) args = true :=
  postW_of (r := l.row.toRowW) (X := (true == true))
    (show WShape.has [] (.bool true) .bool = true by first | rfl | decide | simp [WShape.has, WShape.arms, WShape.armsAll])
    (show (WTm.eq .res (.lit (.bool true))).value [] { args := args, res := some (.bool true), after := args } = some (.bool (true == true)) from w_eq_bool (w_res rfl) w_lit) rfl

theorem attach_call {l : OpenLaw} {n : Nat} {q : Program} {loose : List Str} {XP : (Str → Option Value) → Heap → Prop} {YP : World → Heap → Prop} {d : DefRec}
    (hn : l.most = some n) (hdf : d.params.defaults = [])
    (call : ∀ (w : World) (s₀ s₁ : Shared) (mg mb : Str → Option Value) (fa : Addr) (o : Obj) (pm cd doc : Value) (a : Addr) (vs : List Value) (ns : List Int),
      Ground q loose [] XP w s₀ mg mb s₁.heap → YP w s₁.heap →
      s₁.heap.get? fa = some o → o.data = .func (docDef d.name d.params d.body d.scope pm cd doc) → s₁.heap.CodeRec cd d.name → mg d.name = some (.ref fa) →
      s₁.heap.get? a = some { cls := .type "list", data := .seq vs.toArray } → IntsAre vs ns → ns.length ≤ n → s₁.gens = #[] →
      codeAny (model l.prog w) callerA (.call (.ref fa) ⟨[.ref a], []⟩) (fun r s' => r = .ok (.ret (.bool true)) ∧ OldK s₁.heap s'.heap ∧ s'.os = s₁.os ∧ AllBare s'.gens) s₁) :
    WalkO q loose XP YP l.row.toRowW d [] (fun f vs => PySem.call f vs) := by
  intro w s₀ s₁ mg mb G Y fa o pm cd doc dV kV ho hd hcd hD hmg hg args vals as hpre hlay hrd hwl hlo
  obtain rfl : dV = .none := Dflts.none hD hdf
  obtain rfl : kV = .none := Dflts.noKw hD
  obtain ⟨a, vs, ns, rfl, rfl, hobj, hints, hlen⟩ := script_of hn hpre hwl
  refine enter_call (codeAny_mono (call w s₀ s₁ mg mb fa o pm cd doc a vs ns G Y ho (fd_plain hd) hcd hmg hobj hints hlen hg) fun r s' hq => ?_)
  obtain ⟨rfl, h2, h3, h4⟩ := hq
  exact ⟨.inl ⟨.bool true, .bool true, [], rfl, fun _ => rfl, .bool true, post_true l _, fun _ => ⟨List.Pairwise.nil, fun _ hm => (nomatch hm)⟩⟩, h2, h3, h4⟩

section
variable {prog : Program} {w : World} {A : Around} {E : Value → Shared → Prop} {s : Shared} {K : Frag}

end
end Att

namespace L2
open PySem PySem.Spec PyProof.Rows

theorem vals_ints : ∀ {vs : List Value} {ns : List Int}, IntsAre vs ns → Vals (ns.map V.int) vs
  | _, _, .nil => .nil
  | _, _, .cons n t h => .cons ⟨t, rfl⟩ (vals_ints h)

def Only (H : Hp) : Prop := ∀ b, H b = none ∨ ∃ o xs, H b = some (.frz o (.lst xs))

theorem law_call {P : Program} {w : World} {K : PySem.W.Frag} {mg mb : Str → Option Value} {CX : CXT} {k : Nat} {fa a : Addr} {fd : FuncData} {x : Str} {sp : Sp} {s₁ : Shared} {vs : List Value} {ns : List Int}
    (KX : K.In s₁.heap) (hns : s₁.heap.Ns mainGlobals mg) (hb : s₁.heap.Ns builtinsNs mb) (hbb : ∀ x : Str, x ≠ "__name__" → mb x = bootBuiltins x) (hlim : s₁.heap.NoLimit) (hg : s₁.gens = #[])
    (ha : s₁.heap.get? a = some { cls := .type "list", data := .seq vs.toArray }) (hi : IntsAre vs ns) (hl : ns.length ≤ sizeLine) (hr : Room k callerA)
    (F : ∀ base : Heap, K.In base → base.Ns mainGlobals mg → FnOk P w K mg base CX k fa fd [x] sp) (hbind : ∀ (s : Shared) (u : Value), BindsTo s fd ⟨[u], []⟩ [(x, u)])
    (hsp : ∀ H : Hp, Only H → SqL K H a (ns.map V.int) → sp [.ref a] H (fun v _ => v = .bl true) fun _ _ _ => False)
    (hCX : ∀ H e s', CX [] H s₁ (fun _ _ _ => False) e s' → False) :
    codeAny (model P w) callerA (.call (.ref fa) ⟨[.ref a], []⟩) (fun r s' => r = .ok (.ret (.bool true)) ∧ OldK s₁.heap s'.heap ∧ s'.os = s₁.os ∧ AllBare s'.gens) s₁ := by
  have rv := vals_ints hi
  have lenV := hi.length
  -- from an abstract heap in which nothing but the script may be tracked
  have core : ∀ H : Hp, Only H → SqL K H a (ns.map V.int) → HOk P w H s₁.heap → (∀ b, H b ≠ none → b = a) → (H a ≠ none → K.lookup a = none) →
      codeAny (model P w) callerA (.call (.ref fa) ⟨[.ref a], []⟩) (fun r s' => r = .ok (.ret (.bool true)) ∧ OldK s₁.heap s'.heap ∧ s'.os = s₁.os ∧ AllBare s'.gens) s₁ := by
    intro H hO hS hok hA hK
    have base_of : ∀ {b : Addr} {o : Obj}, s₁.heap.get? b = some o → H b = none → (hidT s₁.heap H).get? b = some o := fun e n => hidT_get e n
    have noA : ∀ {b : Addr} {o : Obj} {es : Array DictEntry} {ep : Nat}, s₁.heap.get? b = some o → o.data = .dict es ep → H b = none := fun {b o es ep} e d => by
      cases q : H b with
      | none => rfl
      | some u =>
        have e' : b = a := hA b (by rw [q]; simp)
        subst e'
        rw [ha] at e; cases e
        have d' : Data.seq vs.toArray _ = Data.dict es ep := d
        cases d'
    have nsK : ∀ {b : Addr} {m : Str → Option Value}, s₁.heap.Ns b m → (hidT s₁.heap H).Ns b m := fun {b m} ⟨o, es, ep, e, d, r⟩ => ⟨o, es, ep, base_of e (noA e d), d, r⟩
    have hKb : K.In (hidT s₁.heap H) := fun b o e => base_of (KX b o e) (by
      cases q : H b with
      | none => rfl
      | some u =>
        have e' : b = a := hA b (by rw [q]; simp)
        subst e'
        rw [hK (by rw [q]; simp)] at e; cases e)
    have hM : Mod K mg (hidT s₁.heap H) := ⟨hKb, nsK hns, ⟨mb, nsK hb, hbb⟩, let ⟨mc, h1, h2⟩ := hlim; ⟨mc, nsK h1, h2⟩⟩
    have e0 : Env0 P w K mg (hidT s₁.heap H) callerA [] s₁ H := ⟨rfl, hM, fun b o e => of_hidT e, Nat.le_of_eq (hidT_size _ _), trivial, fun b hb => absurd (show b ∈ ([] : List Addr) from hb) (by simp), hok, .of_eq hg⟩
    refine codeAny_mono ((F _ hKb (nsK hns)).run callerA [] s₁ H ⟨[.ref a], []⟩ [.ref a] [.ref a] _ _ hr e0 (hbind s₁ (.ref a)) (.cons rfl .nil) (hsp H hO hS)) fun r s' h => ?_
    cases r with
    | error e => exact (hCX H e s' h).elim
    | ok fl =>
      cases fl with
      | next => exact False.elim h
      | brk => exact False.elim h
      | cont => exact False.elim h
      | ret u =>
        obtain ⟨v, H', os, bare, un, hok', r', q⟩ := h
        have q' : v = .bl true := q
        subst q'
        obtain rfl : u = Value.bool true := r'
        refine ⟨rfl, OldK.of_keep fun b o e => ?_, os, bare⟩
        cases q : H b with
        | none => exact un.keep b o e q (by intro z; exact absurd (show b ∈ ([] : List Addr) from z) (by simp)) (by simp)
        | some u =>
          rcases hO b with z | ⟨ob, xs, z⟩
          · rw [q] at z; cases z
          · have z2 := un.frzs b ob _ z
            obtain ⟨e1, _⟩ := hok b _ z
            obtain ⟨e2, _⟩ := hok' b _ z2
            rw [e] at e1; cases e1
            exact e2
  cases hk : K.lookup a with
  | some o =>
    -- the script is one of the module's own objects
    have e := KX a o hk
    rw [ha] at e
    cases e
    refine core (fun _ => none) (fun _ => .inl rfl) (.inr ⟨_, vs.toArray, _, hk, rfl, rfl, rfl, by rw [List.size_toArray, lenV]; exact hl, by simpa using rv⟩) (fun b u z => by have z' : (none : Option HO) = some u := z; cases z') (fun b z => absurd rfl z) fun z => absurd rfl z
  | none =>
    refine core (fun b => if b = a then some (.frz { cls := .type "list", data := .seq vs.toArray } (.lst (ns.map V.int))) else none) (fun b => ?_) (.inl (.inr ⟨{ cls := .type "list", data := .seq vs.toArray }, if_pos rfl⟩)) (fun b u z => ?_) (fun b z => ?_) fun _ => hk
    · by_cases hb : b = a
      · exact .inr ⟨_, _, if_pos hb⟩
      · exact .inl (if_neg hb)
    · by_cases hb : b = a
      · have z' := (if_pos hb).symm.trans z
        cases z'
        subst hb
        exact ⟨ha, by rw [List.length_map]; exact hl, vs, _, rv, ha⟩
      · have z' := (if_neg hb).symm.trans z
        cases z'
    · by_cases hb : b = a
      · exact hb
      · exact absurd (if_neg hb) z
end L2

namespace L2
open PySem PySem.Spec PyProof.Rows

abbrev KOf {K : PySem.W.Frag} {h : Heap} (_ : K.In h) : PySem.W.Frag := K

theorem walk_of {l : PySem.W.OpenLaw} {n k : Nat} {q : Program} {loose : List Str} {XP : (Str → Option Value) → Heap → Prop} {YP : World → Heap → Prop} {d : DefRec} {K : Params → PySem.W.Frag} {CX : World → CXT} {sp : World → Sp} {x : Str}
    (hn : l.most = some n) (hn2 : n ≤ sizeLine) (hdf : d.params.defaults = []) (hr : Room k callerA)
    (hY : ∀ (w : World) (h : Heap), YP w h → (K w.params).In h)
    (F : ∀ (w : World) (mg : Str → Option Value) (fa : Addr) (h : Heap), (K w.params).In h → h.Ns mainGlobals mg → mg d.name = some (.ref fa) →
      ∃ fd : FuncData, (∀ (s : Shared) (u : Value), BindsTo s fd ⟨[u], []⟩ [(x, u)]) ∧
        ∀ base : Heap, (K w.params).In base → base.Ns mainGlobals mg → FnOk l.prog w (K w.params) mg base (CX w) k fa fd [x] (sp w))
    (hsp : ∀ (w : World) (H : Hp) (a : Addr) (ns : List Int), ns.length ≤ n → Only H → SqL (K w.params) H a (ns.map V.int) → sp w [.ref a] H (fun v _ => v = .bl true) fun _ _ _ => False)
    (hCX : ∀ (w : World) (H : Hp) (s : Shared) (e : Value) (s' : Shared), CX w [] H s (fun _ _ _ => False) e s' → False) :
    PySem.W.WalkO q loose XP YP l.row.toRowW d [] (fun f vs => PySem.call f vs) := by
  refine Att.attach_call hn hdf fun w s₀ s₁ mg mb fa o pm cd doc a vs ns G Y ho hd hcd hmg hobj hints hlen hg => ?_
  have KX := hY w _ Y
  obtain ⟨fd, hb, hF⟩ := F w mg fa _ KX G.T.g hmg
  exact law_call KX G.T.g G.T.b G.T.builtins G.T.nolimit hg hobj hints (Nat.le_trans hlen hn2) hr hF hb (fun H hO hS => hsp w H a ns hlen hO hS) fun H e s' => hCX w H s₁ e s'
end L2



namespace L2
open PySem PySem.Spec PyProof.Rows

def inClass (s : Stmt) (j : Nat) : Stmt := match s with
  | .ClassDef _ _ _ body _ _ _ _ _ _ _ => body.getD j (.Pass ⟨0, 0, 0, 0⟩)
  | _ => .Pass ⟨0, 0, 0, 0⟩
def defArgs (s : Stmt) : Arguments := match s with
  | .FunctionDef _ a _ _ _ _ _ _ _ _ => a
  | _ => { posonlyargs := [], args := [], vararg := none, kwonlyargs := [], kw_defaults := [], kwarg := none, defaults := [] }
def defBody (s : Stmt) : List Stmt := match s with
  | .FunctionDef _ _ b _ _ _ _ _ _ _ => b
  | _ => []
def defScope (s : Stmt) : Scope := match s with
  | .FunctionDef _ _ _ _ _ _ sc _ _ _ => sc
  | _ => { kind := .function, names := [], isGenerator := false, isCoroutine := false }

abbrev CX0 : CXT := fun _ _ _ _ _ _ => False
abbrev E0 : XK := fun _ _ _ => False
theorem pass0 {X : Cx} : Passes CX0 X E0 := fun _ _ _ _ _ _ _ h => h.elim

structure Fun (K : PySem.W.Frag) (x qual : Str) (st : Stmt) (f : Addr) (fd : FuncData) : Prop where
  ex : ∃ (oc : Value) (od : Option Addr) (kV doc pm : Value) (an : Option Addr) (cdv ct : Value) (osl : Array (Option Value)),
    fd = PySem.W.fnOf x qual (defArgs st) (defBody st) (defScope st) .none kV doc pm an cdv ct ∧ K.lookup f = some ⟨oc, od, .func fd, osl⟩ ∧ PySem.W.codeIn K cdv qual = true
  kp : PySem.W.keepIn K (.ref f) = true
section
variable {P : Program} {w : World} {K : PySem.W.Frag} {mg : Str → Option Value} {base : Heap}
theorem Fun.ok {x qual : Str} {st : Stmt} {f : Addr} {fd : FuncData} {N ps : List Str} {k : Nat} {sp : Sp} (F : Fun K x qual st f fd) (S : FnScope N ps (defScope st)) (len : ∀ vs H Q E, sp vs H Q E → vs.length = ps.length)
    (hbody : ∀ (cdv : Value) (A : Around) (outer : List Env) (s : Shared) (H : Hp) (vs : List V) (Q : VK) (E : XK), Room k (A.deeper (envOfC qual (defScope st) s.heap.objs.size f cdv)) → sp vs H Q E →
      ∃ t, PSs (cxOf CX0 P w K mg base N qual (defScope st) f cdv A outer s H E).nox (defBody st) t ∧ t { nx := fun _ H' => Q .non H', rt := Q } (start N vs) H) : FnOk P w K mg base CX0 (k + 1) f fd ps sp := by
  obtain ⟨oc, od, kV, doc, pm, an, cdv, ct, osl, rfl, lk, hcd⟩ := F.ex
  refine fn_of lk hcd S len fun A outer s H vs Q E hr hsp => ?_
  obtain ⟨t, h, q⟩ := hbody cdv A outer s H vs Q E hr hsp
  exact ⟨t, h.nox, q⟩
theorem fun_mk {x qual : Str} {st : Stmt} {f : Addr} {oc : Value} {od an : Option Addr} {osl : Array (Option Value)} {kV doc pm cdv ct : Value} (l : K.lookup f = some ⟨oc, od, .func (PySem.W.fnOf x qual (defArgs st) (defBody st) (defScope st) .none kV doc pm an cdv ct), osl⟩)
    (c : PySem.W.codeIn K cdv qual = true) (k : PySem.W.keepIn K (.ref f) = true) : Fun K x qual st f (PySem.W.fnOf x qual (defArgs st) (defBody st) (defScope st) .none kV doc pm an cdv ct) := ⟨⟨oc, od, kV, doc, pm, an, cdv, ct, osl, rfl, l, c⟩, k⟩
end
section
variable {X : Cx}
theorem pv (i : Nat) {x : Str} {pos : Pos} (hN : X.N[i]? = some x := by rfl) (hv : Vis X.env.scope x := by first | exact Or.inl rfl | exact Or.inr (Or.inl rfl) | exact Or.inr (Or.inr rfl)) (hd : (x == ("__debug__" : Str)) = false := by decide)
    (hcd : (x == ("__classdict__" : Str)) = false := by decide) : PE X (.Name x pos) (tVar i) := pe_var hN hv hd hcd
end

theorem iteF {A B : Prop} (h : B) : if false = true then A else B := by
  rw [if_neg Bool.false_ne_true]
  exact h
theorem iteT {A B : Prop} (h : A) : if true = true then A else B := by
  rw [if_pos rfl]
  exact h
theorem ite2 {c A B : Prop} [Decidable c] (h1 : c → A) (h2 : ¬ c → B) : if c then A else B := by
  by_cases h : c
  · rw [if_pos h]
    exact h1 h
  · rw [if_neg h]
    exact h2 h
theorem iteNS {c A B : Prop} [Decidable c] (hc : c) (h : B) : if (!decide c) = true then A else B := by
  rw [decide_eq_true hc]
  exact iteF h

def Same (H H' : Hp) : Prop := ∀ b o, H b = some o → H' b = some o
theorem Same.refl (H : Hp) : Same H H := fun _ _ h => h
theorem Same.trans {H H1 H2 : Hp} (a : Same H H1) (b : Same H1 H2) : Same H H2 := fun c o h => b c o (a c o h)
theorem Same.free {H H' : Hp} (e : Same H H') {l : Addr} (h : H' l = Option.none) : H l = Option.none := by
  cases q : H l with
  | none => rfl
  | some o =>
    rw [e l o q] at h
    cases h
theorem Same.seq {K : PySem.W.Frag} {H H' : Hp} {a : Addr} {xs : List V} (e : Same H H') (h : SqL K H a xs) : SqL K H' a xs := by
  rcases h with (h | ⟨o, h⟩) | h
  · exact .inl (.inl (e _ _ h))
  · exact .inl (.inr ⟨o, e _ _ h⟩)
  · exact .inr h

section
variable {prog : Program} {w : World} {A : Around} {R : Result → Shared → Prop} {s : Shared}
theorem comp_loop {elt target iter : Expr} {ifs : List Expr} {scope : Scope} {pos : Pos} {it acc : Value} {env : Env} (I : Nat → Shared → Prop)
    (turn : ∀ n s, I n s → wpAny (model prog w) A (pyNext it) (fun r s1 => match r with
      | none => R (.ok .next) s1
      | some v => wpAny (model prog w) A (letOwnedTupleGo target it v) (fun _ s2 => wpAny (model prog w) A (assign target env v) (fun _ s3 =>
          wpAny (model prog w) A (forIn ifs true fun c r => if r = true then do let ok ← isTrue c env (eval c env); pure (ForInStep.yield ok) else pure (ForInStep.yield r)) (fun ok s4 =>
            if ok = true then wpAny (model prog w) A (eval elt env) (fun x s5 =>
              wpAny (model prog w) A (call (.builtin "list.append") [acc, x]) (fun _ s6 => ∃ m, m < n ∧ I m s6) (notedBy (model prog w) A env fun e s' => R (.error e) s') s5) (notedBy (model prog w) A env fun e s' => R (.error e) s') s4
            else ∃ m, m < n ∧ I m s4) (notedBy (model prog w) A env fun e s' => R (.error e) s') s3) (notedBy (model prog w) A env fun e s' => R (.error e) s') s2) (notedBy (model prog w) A env fun e s' => R (.error e) s') s1)
        (notedBy (model prog w) A env fun e s' => R (.error e) s') s)
    (n : Nat) (h : I n s) :
    codeAny (model prog w) A (.compLoop (.ListComp elt [⟨target, iter, ifs, 0⟩] scope pos) 0 it acc env) R s := by
  refine codeAny_loop rfl I (fun n s hI => ?_) n h
  show wpAny _ A ((compTurn (.ListComp elt [⟨target, iter, ifs, 0⟩] scope pos) 0 it acc env).onRaise (fun x => do noteFrame x env; theTreesLotGoes x)) _ _ s
  refine wpAny_noted ?_
  rw [compTurn_list]
  refine wpAny_bind (wpAny_standAt (wpAny_bind (wpAny_mono (turn n s hI) (fun r s1 h1 => ?_) fun _ _ h' => h')))
  cases r with
  | none => exact wpAny_pure h1
  | some v =>
    refine wpAny_bind (wpAny_mono h1 (fun _ s2 h2 => ?_) fun _ _ h' => h')
    refine wpAny_bind (wpAny_mono h2 (fun _ s3 h3 => wpAny_bind (wpAny_mono h3 (fun ok s4 h4 => ?_) fun _ _ h' => h')) fun _ _ h' => h')
    cases ok with
    | false => exact wpAny_pure ⟨rfl, h4⟩
    | true =>
      exact wpAny_bind (wpAny_bind (wpAny_mono h4 (fun x s5 h5 => wpAny_bind (wpAny_mono h5 (fun _ s6 h6 => wpAny_pure (wpAny_pure ⟨rfl, h6⟩)) fun _ _ h' => h')) fun _ _ h' => h'))
end

def clOf (cells : List (Str × Addr)) : List (Str × NameKind) → List (Str × Addr) → List (Str × Addr)
  | [], acc => acc
  | (n, k) :: r, acc => if k == .free then (match cells.lookup n with
      | some a => clOf cells r ((n, a) :: acc)
      | none => clOf cells r acc) else clOf cells r acc
theorem clos_go {env : Env} : ∀ (names : List (Str × NameKind)) (acc : List (Str × Addr)), (∀ y ∈ names, y.2 = .free → ∃ a, env.cells.lookup y.1 = some a) →
    (forIn names acc fun (x : Str × NameKind) r => (if x.2 == .free then do let a ← cellOf env x.1; pure (ForInStep.yield ((x.1, a) :: r)) else pure (ForInStep.yield r) : Sem (ForInStep (List (Str × Addr))))) = pure (clOf env.cells names acc)
  | [], acc, _ => rfl
  | (n, k) :: r, acc, h => by
    rw [List.forIn_cons]
    have ih := fun acc => clos_go r acc fun y hy => h y (List.mem_cons_of_mem _ hy)
    by_cases hk : k = .free
    · subst hk
      obtain ⟨a, e⟩ := h (n, .free) List.mem_cons_self rfl
      have e : env.cells.lookup n = some a := e
      simp only [beq_self_eq_true, if_true, cellOf, e, clOf, pure_bind]
      exact ih _
    · have hb : (k == NameKind.free) = false := by simpa using hk
      simp only [hb, Bool.false_eq_true, if_false, clOf, pure_bind]
      exact ih _
theorem clos_ok {env : Env} {scope : Scope} (h : ∀ y ∈ scope.names, y.2 = .free → ∃ a, env.cells.lookup y.1 = some a) : closureFor scope env = pure (clOf env.cells scope.names []) := by
  unfold closureFor
  have e := clos_go (env := env) scope.names [] h
  simp only [bind_pure]
  exact e
theorem clOf_sub {cells : List (Str × Addr)} {x : Str} {c : Addr} : ∀ (names : List (Str × NameKind)) (acc : List (Str × Addr)), (∀ y b, (y, b) ∈ acc → cells.lookup y = some b) → (x, c) ∈ clOf cells names acc → cells.lookup x = some c
  | [], acc, ha, hm => ha x c hm
  | (n, k) :: r, acc, ha, hm => by
    unfold clOf at hm
    split at hm
    · split at hm
      · rename_i a e
        refine clOf_sub r _ (fun y b hb => ?_) hm
        rcases List.mem_cons.mp hb with q | q
        · cases q; exact e
        · exact ha y b q
      · exact clOf_sub r _ ha hm
    · exact clOf_sub r _ ha hm
theorem lookup_mem {x : Str} {c : Addr} {l : List (Str × Addr)} (h : l.lookup x = some c) : (x, c) ∈ l := PySem.mem_of_lookup h
theorem clOf_in {cells : List (Str × Addr)} {x : Str} {c : Addr} (hx : cells.lookup x = some c) : ∀ (names : List (Str × NameKind)) (acc : List (Str × Addr)), ((x, NameKind.free) ∈ names ∨ (x, c) ∈ acc) → (x, c) ∈ clOf cells names acc
  | [], acc, hm => by
    rcases hm with q | q
    · exact absurd q (by simp)
    · exact q
  | (n, k) :: r, acc, hm => by
    unfold clOf
    by_cases hk : k = .free
    · subst hk
      simp only [beq_self_eq_true, if_true]
      split
      · rename_i a e
        refine clOf_in hx r _ ?_
        rcases hm with q | q
        · rcases List.mem_cons.mp q with q | q
          · cases q
            rw [hx] at e; cases e
            exact .inr List.mem_cons_self
          · exact .inl q
        · exact .inr (List.mem_cons_of_mem _ q)
      · rename_i e
        refine clOf_in hx r _ ?_
        rcases hm with q | q
        · rcases List.mem_cons.mp q with q | q
          · cases q
            rw [hx] at e; cases e
          · exact .inl q
        · exact .inr q
    · have hb : (k == NameKind.free) = false := by simpa using hk
      simp only [hb, Bool.false_eq_true, if_false]
      refine clOf_in hx r _ ?_
      rcases hm with q | q
      · rcases List.mem_cons.mp q with q | q
        · cases q; exact absurd rfl hk
        · exact .inl q
      · exact .inr q
theorem lookup_of_mem {x : Str} {c : Addr} : ∀ {l : List (Str × Addr)}, (x, c) ∈ l → ∃ d, l.lookup x = some d ∧ (x, d) ∈ l
  | [], h => absurd h (by simp)
  | (y, b) :: r, h => by
    by_cases e : x = y
    · subst e
      exact ⟨b, by simp, List.mem_cons_self⟩
    · rcases List.mem_cons.mp h with q | q
      · cases q; exact absurd rfl e
      · obtain ⟨d, e1, e2⟩ := lookup_of_mem q
        refine ⟨d, ?_, List.mem_cons_of_mem _ e2⟩
        rw [List.lookup_cons]
        have : (x == y) = false := by simpa using e
        rw [this]
        exact e1
theorem clOf_lookup {cells : List (Str × Addr)} {names : List (Str × NameKind)} {x : Str} {c : Addr} (hf : (x, NameKind.free) ∈ names) (hx : cells.lookup x = some c) : (clOf cells names []).lookup x = some c := by
  obtain ⟨d, e1, e2⟩ := lookup_of_mem (clOf_in hx names [] (.inl hf))
  have e3 := clOf_sub names [] (fun _ _ h => absurd h (by simp)) e2
  rw [hx] at e3; cases e3
  exact e1
theorem clOf_back {cells : List (Str × Addr)} {names : List (Str × NameKind)} {x : Str} {c : Addr} (h : (clOf cells names []).lookup x = some c) : cells.lookup x = some c :=
  clOf_sub names [] (fun _ _ h => absurd h (by simp)) (lookup_mem h)
theorem relab_free {env : Env} : ∀ {names : List (Str × NameKind)} {x : Str}, names.lookup x = some .free →
    (names.map fun (n, k) => if (k == NameKind.free && env.scope.kind == .function && env.kindOf n == some .cell) then (n, NameKind.cell) else (n, k)).lookup x = some .cell ∨
    (names.map fun (n, k) => if (k == NameKind.free && env.scope.kind == .function && env.kindOf n == some .cell) then (n, NameKind.cell) else (n, k)).lookup x = some .free
  | [], _, h => by simp at h
  | (n, k) :: r, x, h => by
    have ih := @relab_free env r x
    rw [List.map_cons]
    cases hx : x == n with
    | true =>
      simp only [List.lookup_cons, hx] at h
      cases h
      dsimp only
      by_cases hc : (NameKind.free == NameKind.free && env.scope.kind == .function && env.kindOf n == some .cell) = true
      · rw [if_pos hc]; simp [List.lookup_cons, hx]
      · rw [if_neg hc]; simp [List.lookup_cons, hx]
    | false =>
      simp only [List.lookup_cons, hx] at h
      dsimp only
      by_cases hc : (k == NameKind.free && env.scope.kind == .function && env.kindOf n == some .cell) = true
      · rw [if_pos hc]; simp only [List.lookup_cons, hx]; exact ih h
      · rw [if_neg hc]; simp only [List.lookup_cons, hx]; exact ih h
theorem relab_back {env : Env} : ∀ {names : List (Str × NameKind)} {x : Str}, (∀ y ∈ names, y.2 ≠ .cell) →
    ((names.map fun (n, k) => if (k == NameKind.free && env.scope.kind == .function && env.kindOf n == some .cell) then (n, NameKind.cell) else (n, k)).lookup x = some .cell ∨
    (names.map fun (n, k) => if (k == NameKind.free && env.scope.kind == .function && env.kindOf n == some .cell) then (n, NameKind.cell) else (n, k)).lookup x = some .free) → names.lookup x = some .free
  | [], _, _, h => by simp at h
  | (n, k) :: r, x, hn, h => by
    have ih := @relab_back env r x fun y hy => hn y (List.mem_cons_of_mem _ hy)
    rw [List.map_cons] at h
    dsimp only at h
    have hk : k ≠ .cell := hn (n, k) List.mem_cons_self
    cases hx : x == n with
    | true =>
      by_cases hc : (k == NameKind.free && env.scope.kind == .function && env.kindOf n == some .cell) = true
      · simp only [Bool.and_eq_true, beq_iff_eq] at hc
        obtain ⟨⟨hc, _⟩, _⟩ := hc
        subst hc
        simp only [List.lookup_cons, hx]
      · rw [if_neg hc] at h
        simp only [List.lookup_cons, hx] at h ⊢
        rcases h with h | h
        · cases h; exact absurd rfl hk
        · exact h
    | false =>
      by_cases hc : (k == NameKind.free && env.scope.kind == .function && env.kindOf n == some .cell) = true
      · rw [if_pos hc] at h
        simp only [List.lookup_cons, hx] at h ⊢
        exact ih h
      · rw [if_neg hc] at h
        simp only [List.lookup_cons, hx] at h ⊢
        exact ih h

structure CompSc (scope sc : Scope) (N0 xs ys : List Str) (js : List Nat) : Prop where
  kind : scope.kind = .function
  nocell : ∀ y ∈ scope.names, y.2 ≠ .cell
  loc : ∀ y ∈ scope.names, y.2 = .local → scope.names.lookup y.1 = some .local
  fr : ∀ y ∈ scope.names, y.2 = .free → sc.names.lookup y.1 = some .cell ∨ sc.names.lookup y.1 = some .free
  cap : ys.length = js.length ∧ ∀ p ∈ ys.zip js, N0[p.2]? = some p.1 ∧ scope.names.lookup p.1 = some .free ∧ (p.1, NameKind.free) ∈ scope.names ∧ (sc.names.lookup p.1 = some .cell ∨ sc.names.lookup p.1 = some .free)
def sigC (k : Nat) (js : List Nat) (σ : St) : St := List.replicate k none ++ js.map fun j => (σ[j]?).join
def cxC (X : Cx) (N : List Str) (scope : Scope) (C : Addr) (s2 : Shared) (H2 : Hp) (fp : List Addr) : Cx where
  prog := X.prog
  w := X.w
  K := X.K
  mg := X.mg
  base := X.base
  A := X.A
  N := N
  s₀ := s2
  H₀ := H2
  env := compEnvC scope (clOf X.env.cells scope.names []) C X.env
  outer := X.stack
  stack := X.stack
  ex := fp
  fn := fun _ => false
  calm := X.calm
  pn := []
  xe := fun _ _ => False
section
variable {X : Cx} {pins : List (Addr × Obj)} {σ : St} {H : Hp} {s2 : Shared} {scope sc : Scope} {N0 xs ys : List Str} {js : List Nat} {C D : Addr} {fp : List Addr} {h1 : Heap} {tk : Nat}
theorem fp_stk {b : Addr} (I : Inv X pins σ H s2) (f : FpOk X pins H b) : b ∉ frs X.stack := fun hb => by
  rcases List.mem_cons.mp (I.stkSub b hb) with e | e
  · exact f.2.1 e
  · exact f.2.2.1 e
theorem cxC_ok (I : Inv X pins σ H s2) (CS : CompSc scope sc N0 xs ys js) (hsc : X.env.scope = sc) (hC : s2.heap.objs.size ≤ C) (f : ∀ b ∈ fp, FpOk X pins H b) (fl : ∀ b ∈ fp, b < s2.heap.objs.size) :
    (cxC X (xs ++ ys) scope C s2 H fp).Ok where
  mod := I.ok.mod
  kind := CS.kind
  glob := I.ok.glob
  blt := I.ok.blt
  above := hC
  inj := fun x y c e1 e2 => I.ok.inj x y c (clOf_back e1) (clOf_back e2)
  has := fun x hx => by
    have hx : (relabel scope X.env).names.lookup x = some .cell ∨ (relabel scope X.env).names.lookup x = some .free := hx
    have q := relab_back (env := X.env) CS.nocell hx
    have m := PySem.mem_of_lookup q
    have hk := CS.fr _ m rfl
    rw [← hsc] at hk
    obtain ⟨c, e⟩ := I.ok.has x hk
    exact ⟨c, clOf_lookup m e⟩
  cab := fun x c e _ => by cases e
  hd := I.ok.hd
  frames := I.ok.frames
  stk := .inl rfl
  exf := fun b hb => ⟨Nat.ne_of_lt (Nat.lt_of_lt_of_le (fl b hb) hC), fun x c e => (f b hb).2.2.2.2.1 x c (clOf_back e)⟩
  bs := I.bs
  bsz := Nat.le_trans I.ok.bsz I.sz
  noex := fun b o e hb => by
    rcases (f b hb).2.2.2.1 with q | q
    · exact I.ok.noex b o e q
    · exact absurd (Nat.lt_of_lt_of_le (Heap.lt_size e) (Nat.le_trans I.ok.bsz q)) (Nat.lt_irrefl _)
  exfs := fun b hb => fp_stk I (f b hb)
  funs := I.stack
  frf := I.stkFree
theorem inv_comp {oD : Obj} (I : Inv X pins σ H s2) (CS : CompSc scope sc N0 xs ys js) (hsc : X.env.scope = sc) (hN : X.N = N0) (f : ∀ b ∈ fp, FpOk X pins H b) (fl : ∀ b ∈ fp, b < s2.heap.objs.size)
    (hC : s2.heap.objs.size ≤ C) (hD : s2.heap.objs.size ≤ D) (hDC : D ≠ C) {m : Str → Option Value} (hns : h1.Ns C m) (old : ∀ b o, s2.heap.get? b = some o → h1.get? b = some o) (hacc : h1.get? D = some oD) (hod : ∀ v, oD.data ≠ .cell v) :
    Inv (cxC X (xs ++ ys) scope C s2 H fp) [(D, oD)] (sigC xs.length js σ) H { s2 with heap := h1, toks := tk } where
  ok := cxC_ok I CS hsc hC f fl
  os := rfl
  bare := I.bare
  base := Un.kept old
  loc := by
    refine ⟨m, hns, fun i x v e1 e2 e3 => ?_⟩
    have e1 : (xs ++ ys)[i]? = some x := e1
    have hi : xs.length ≤ i := by
      refine Nat.le_of_not_lt fun q => ?_
      unfold sigC at e2
      rw [List.getElem?_append_left (by simpa using q), List.getElem?_replicate, if_pos q] at e2
      cases e2
    rw [List.getElem?_append_right hi] at e1
    unfold sigC at e2
    rw [List.getElem?_append_right (by simpa using hi), List.length_replicate, List.getElem?_map] at e2
    obtain ⟨j, ej⟩ : ∃ j, js[i - xs.length]? = some j := by
      cases e : js[i - xs.length]? with
      | none => rw [e] at e2; cases e2
      | some j => exact ⟨j, rfl⟩
    rw [ej] at e2
    have e2 : (σ[j]?).join = some v := Option.some.inj e2
    have e2' : σ[j]? = some (some v) := by
      cases e : σ[j]? with
      | none => rw [e] at e2; cases e2
      | some o => rw [e] at e2; exact congrArg some e2
    have hz : (x, j) ∈ ys.zip js := by
      have : (ys.zip js)[i - xs.length]? = some (x, j) := by rw [List.getElem?_zip_eq_some]; exact ⟨e1, ej⟩
      exact List.mem_of_getElem? this
    obtain ⟨c1, c2, c3, c4⟩ := CS.cap.2 _ hz
    have c1 : N0[j]? = some x := c1
    have c4' : X.env.kindOf x = some .cell ∨ X.env.kindOf x = some .free := by
      show X.env.scope.names.lookup x = some .cell ∨ X.env.scope.names.lookup x = some .free
      rw [hsc]; exact c4
    obtain ⟨m0, hn0, hl0⟩ := I.loc
    obtain ⟨u, ru, lu⟩ := hl0 j x v (by rw [hN]; exact c1) e2' (.inr c4')
    refine ⟨u, ru, .inr ⟨?_, ?_⟩⟩
    · exact relab_free c2
    · rcases lu with ⟨k, _⟩ | ⟨_, c, ec, hc⟩
      · rcases c4' with z | z <;> (rw [k] at z; cases z)
      · refine ⟨c, clOf_lookup c3 ec, ?_⟩
        obtain ⟨o, ho, hd⟩ := hc
        exact ⟨o, old _ _ ho, hd⟩
  cell := fun x c e => by
    obtain ⟨v, o, ho, hd⟩ := I.cell x c (clOf_back e)
    exact ⟨v, o, old _ _ ho, hd⟩
  free := I.hok.fresh hC
  freeC := fun x c e => I.freeC x c (clOf_back e)
  pin := fun p hp => by
    have hp : p ∈ ([] : List (Addr × Obj)) ++ [(D, oD)] := hp
    have e : p = (D, oD) := by simpa using hp
    subst e
    refine ⟨hacc, I.hok.fresh hD, hDC, fun hb => ?_, hod⟩
    obtain ⟨_, o, ho, _⟩ := I.stack.mem (show D ∈ frs X.stack from hb)
    exact absurd (Nat.lt_of_lt_of_le (Heap.lt_size ho) hD) (Nat.lt_irrefl _)
  hok := I.hok.kept old
  len := by
    unfold sigC
    show _ = (xs ++ ys).length
    rw [List.length_append, List.length_append, List.length_replicate, List.length_map, CS.cap.1]
end

theorem inv_reset {X : Cx} {pins pp : List (Addr × Obj)} {σ σ' : St} {H H' : Hp} {s2 s' : Shared} {scope sc : Scope} {N0 xs ys : List Str} {js : List Nat} {C : Addr} {fp : List Addr} (I : Inv X pins σ H s2) (CS : CompSc scope sc N0 xs ys js) (hsc : X.env.scope = sc) (hN : X.N = N0)
    (f : ∀ b ∈ fp, FpOk X pins H b) (J : Inv (cxC X (xs ++ ys) scope C s2 H fp) pp σ' H' s') : Inv (cxC X (xs ++ ys) scope C s2 H fp) pp (sigC xs.length js σ) H' s' where
  ok := J.ok
  os := J.os
  bare := J.bare
  base := J.base
  loc := by
    obtain ⟨m, hns, _⟩ := J.loc
    refine ⟨m, hns, fun i x v e1 e2 e3 => ?_⟩
    have e1 : (xs ++ ys)[i]? = some x := e1
    have hi : xs.length ≤ i := by
      refine Nat.le_of_not_lt fun q => ?_
      unfold sigC at e2
      rw [List.getElem?_append_left (by simpa using q), List.getElem?_replicate, if_pos q] at e2
      cases e2
    rw [List.getElem?_append_right hi] at e1
    unfold sigC at e2
    rw [List.getElem?_append_right (by simpa using hi), List.length_replicate, List.getElem?_map] at e2
    obtain ⟨j, ej⟩ : ∃ j, js[i - xs.length]? = some j := by
      cases e : js[i - xs.length]? with
      | none => rw [e] at e2; cases e2
      | some j => exact ⟨j, rfl⟩
    rw [ej] at e2
    have e2 : (σ[j]?).join = some v := Option.some.inj e2
    have e2' : σ[j]? = some (some v) := by
      cases e : σ[j]? with
      | none => rw [e] at e2; cases e2
      | some o => rw [e] at e2; exact congrArg some e2
    have hz : (x, j) ∈ ys.zip js := by
      have : (ys.zip js)[i - xs.length]? = some (x, j) := by rw [List.getElem?_zip_eq_some]; exact ⟨e1, ej⟩
      exact List.mem_of_getElem? this
    obtain ⟨c1, c2, c3, c4⟩ := CS.cap.2 _ hz
    have c1 : N0[j]? = some x := c1
    have c4' : X.env.kindOf x = some .cell ∨ X.env.kindOf x = some .free := by
      show X.env.scope.names.lookup x = some .cell ∨ X.env.scope.names.lookup x = some .free
      rw [hsc]; exact c4
    obtain ⟨m0, hn0, hl0⟩ := I.loc
    obtain ⟨u, ru, lu⟩ := hl0 j x v (by rw [hN]; exact c1) e2' (.inr c4')
    refine ⟨u, ru, .inr ⟨relab_free c2, ?_⟩⟩
    rcases lu with ⟨k, _⟩ | ⟨_, c, ec, hc⟩
    · rcases c4' with z | z <;> (rw [k] at z; cases z)
    · refine ⟨c, clOf_lookup c3 ec, ?_⟩
      obtain ⟨o, ho, hd⟩ := hc
      obtain ⟨sl, e⟩ := J.base.any ho (I.freeC x c ec) fun hb => (f c hb).2.2.2.2.1 x c ec rfl
      exact ⟨_, e, hd⟩
  cell := J.cell
  free := J.free
  freeC := J.freeC
  pin := J.pin
  hok := J.hok
  len := by
    unfold sigC
    show _ = (xs ++ ys).length
    rw [List.length_append, List.length_append, List.length_replicate, List.length_map, CS.cap.1]

def PQ (X : Cx) (ifs : List Expr) (t : TT) : Prop :=
  ∀ (pins : List (Addr × Obj)) (s : Shared) (σ : St) (H : Hp) (Q : Bool → Hp → Prop), Inv X pins σ H s → t σ H Q →
    wpAny (model X.prog X.w) X.A (forIn ifs true fun c r => if r = true then do let ok ← isTrue c X.env (eval c X.env); pure (ForInStep.yield ok) else pure (ForInStep.yield r)) (TP X pins σ Q) X.xe s
def tAlways : TT := fun _ H Q => Q true H
theorem pq_nil {X : Cx} : PQ X [] tAlways := fun _ _ _ H _ I h => wpAny_tests_nil ⟨H, I, h⟩
theorem pq_one {X : Cx} {c : Expr} {t : TT} (h : PT X c t) : PQ X [c] t := fun pins s σ H Q I hw => wpAny_tests_one (h pins s σ H Q I hw)

def compW (k : Nat) (js : List Nat) (g : TG) (tc : TT) (te : TE) (σ : St) (J : It) (H1 : Hp) (fin : List V → Hp → Prop) : Prop :=
  ∃ W : Nat → Nat → List V → Hp → Prop, (∃ m, W 0 m [] H1) ∧ ∀ i m ys H, W i m ys H →
    (J.stop i H ∧ ys.length ≤ sizeLine ∧ fin ys H) ∨
    (J.go i H ∧ ys.length < sizeLine ∧ ∃ N : List V → Hp → Prop, (∀ ys' H', N ys' H' → ∃ m', m' < m ∧ W (i + 1) m' ys' H') ∧ ∀ x H2, J.yld i H x H2 → g x (sigC k js σ) H2 fun σ2 H3 => tc σ2 H3 fun b H4 =>
      if b = true then te σ2 H4 fun y H5 => N (ys ++ [y]) H5 else N ys H4)
def tComp (k : Nat) (js : List Nat) (wi : TI) (g : TG) (tc : TT) (te : TE) : TE := fun σ H Q => wi σ H fun J H1 => compW k js g tc te σ J H1 fun ys H' => ∀ p, H' p = none → Q (.ref p) (upd H' p (.lst ys))

section
variable {X : Cx} {scope sc : Scope} {N0 xs ys : List Str} {js : List Nat} {elt tg iter : Expr} {ifs : List Expr} {pos : Pos} {wi : TI} {g : TG} {tc : TT} {te : TE}
theorem lst_push (its : List Value) (y : Value) : its.toArray.push y = (its ++ [y]).toArray := by simp
theorem comp_block {pins : List (Addr × Obj)} {σ : St} {H : Hp} {s2 : Shared} {it : Addr} {fp : List Addr} {tn : Nat → Heap → Prop} {J : It} {RR : Value → Addr → Result → Shared → Prop} {fin : List V → Hp → Prop} {E : Value → Shared → Prop}
    (CS : CompSc scope sc N0 xs ys js) (hsc : X.env.scope = sc) (hN : X.N = N0) (hc : X.calm = true)
    (I : Inv X pins σ H s2) (T : Turn X.prog X.w X.K tg J fp it tn) (t0 : tn 0 s2.heap) (f : ∀ b ∈ fp, FpOk X pins H b)
    (hg : ∀ C s2 H fp, PG (cxC X (xs ++ ys) scope C s2 H fp) tg g) (hq : ∀ C s2 H fp, PQ (cxC X (xs ++ ys) scope C s2 H fp) ifs tc) (he : ∀ C s2 H fp, PE (cxC X (xs ++ ys) scope C s2 H fp) elt te)
    (hw : compW xs.length js g tc te σ J H fin)
    (hR : ∀ (D C : Addr) (H' : Hp) (vs : List V) (s' : Shared), (∃ m, s'.heap.Ns C m) → Inv X pins σ (upd H' D (.lst vs)) s' → H' D = none → C ≠ D → H' C = none → C ≠ X.env.locals → X.s₀.heap.objs.size ≤ C → (∀ x c, X.env.cells.lookup x = some c → c ≠ C) → (∀ p ∈ X.pn ++ pins, p.1 ≠ C) → fin vs H' →
      RR (.ref D) C (.ok .next) s') :
    wpAny (model X.prog X.w) X.A (newList []) (fun acc s3 => wpAny (model X.prog X.w) X.A (newFunctionEnv scope X.env.globals (clOf X.env.cells scope.names []) [] X.env.qual none .none (some X.env)) (fun cenv s4 =>
      codeAny (model X.prog X.w) X.A (.compStart (.ListComp elt [⟨tg, iter, ifs, 0⟩] scope pos) 0 (.ref it) acc { cenv with scope := relabel scope X.env }) (RR acc cenv.locals) s4) E s3) E s2 := by
  obtain ⟨W, ⟨m0, w0⟩, turn⟩ := hw
  have fl : ∀ b ∈ fp, b < s2.heap.objs.size := fun b hb => by
    obtain ⟨o, e, _⟩ := T.obj 0 _ t0 b hb
    exact Heap.lt_size e
  refine wpAny_newObj_type (wpAny_newFunctionEnv CS.nocell (by intro y hy; simp at hy) (fun h1 hns1 hsb1 => ?_) CS.kind)
  dsimp only at hns1 hsb1 ⊢
  generalize hH2 : s2.heap.push { cls := .type "list", dict := none, data := .seq ([] : List Value).toArray } = H2 at hns1 hsb1 ⊢
  have hC : H2.objs.size = s2.heap.objs.size + 1 := by rw [← hH2, Heap.size_push]
  have hDC : s2.heap.objs.size ≠ H2.objs.size := by rw [hC]; exact Nat.ne_of_lt (Nat.lt_succ_self _)
  have hCle : s2.heap.objs.size ≤ H2.objs.size := by rw [hC]; exact Nat.le_succ _
  have below : ∀ b, b < s2.heap.objs.size → b ≠ H2.objs.size ∧ b ≠ s2.heap.objs.size := fun b hb => ⟨by rw [hC]; exact Nat.ne_of_lt (Nat.lt_succ_of_lt hb), Nat.ne_of_lt hb⟩
  have old : ∀ b o, s2.heap.get? b = some o → h1.get? b = some o := fun b o e => hsb1.extBut b o (below b (Heap.lt_size e)).1 (Heap.get?_push_of_some _ (hH2 ▸ Heap.get?_push_of_some _ e))
  have hacc : h1.get? s2.heap.objs.size = some { cls := .type "list", data := .seq ([] : List Value).toArray 0 } := hsb1.extBut _ _ hDC (Heap.get?_push_of_some _ (hH2 ▸ Heap.get?_push_size _ rfl))
  have t1 : tn 0 h1 := T.keep _ _ _ t0 fun b _ o e => old b o e
  have fC : ∀ {H' : Hp} {oD : Obj}, (∀ b ∈ fp, H' b = none) → ∀ b ∈ fp, FpOk (cxC X (xs ++ ys) scope H2.objs.size s2 H fp) [(s2.heap.objs.size, oD)] H' b := fun {H' oD} hn b hb =>
    ⟨hn b hb, (below b (fl b hb)).1, fp_stk I (f b hb), .inl hb, fun x c e => (f b hb).2.2.2.2.1 x c (clOf_back e), fun p hp => by
      have hp : p ∈ ([] : List (Addr × Obj)) ++ [(s2.heap.objs.size, oD)] := hp
      have e : p = (s2.heap.objs.size, oD) := by simpa using hp
      subst e
      exact Ne.symm (below b (fl b hb)).2⟩
  have loop : ∀ s3 : Shared, s3 = { s2 with heap := h1, toks := s2.toks + ([] : List (Str × Value)).length } →
      codeAny (model X.prog X.w) X.A (.compLoop (.ListComp elt [⟨tg, iter, ifs, 0⟩] scope pos) 0 (.ref it) (.ref s2.heap.objs.size) (compEnvC scope (clOf X.env.cells scope.names []) H2.objs.size X.env))
        (RR (.ref s2.heap.objs.size) H2.objs.size) s3 := by
    rintro s3 rfl
    refine comp_loop (fun k s' => ∃ (i : Nat) (vs : List V) (its : List Value) (n : Nat) (H' : Hp), Inv (cxC X (xs ++ ys) scope H2.objs.size s2 H fp) [(s2.heap.objs.size, { cls := .type "list", data := .seq its.toArray n })] (sigC xs.length js σ) H' s' ∧
      Vals vs its ∧ tn i s'.heap ∧ (∀ b ∈ fp, H' b = none) ∧ W i k vs H') ?_ m0 ⟨0, [], [], 0, H, ?_, .nil, t1, fun b hb => (f b hb).1, w0⟩
    · rintro k s3 ⟨i, vs, its, n, H3, I3, rv, t3, fr3, w3⟩
      have hno : ∀ (e : Value) (s' : Shared), False → notedBy (model X.prog X.w) X.A (compEnvC scope (clOf X.env.cells scope.names []) H2.objs.size X.env) (fun e s' => RR (.ref s2.heap.objs.size) H2.objs.size (.error e) s') e s' := fun _ _ z => z.elim
      rcases turn i k vs H3 w3 with ⟨stop, hz, fn⟩ | ⟨go, hz, N, hN', step⟩
      · refine wpAny_mono (T.done (cxC X (xs ++ ys) scope H2.objs.size s2 H fp) rfl rfl rfl hc i _ s3 _ H3 (fun _ _ => False) I3 (fC fr3) t3 stop) (fun r s4 ⟨hr, I4⟩ => ?_) hno
        subst hr
        have pD := I4.pin (s2.heap.objs.size, _) (List.mem_append_right _ List.mem_cons_self)
        obtain ⟨mC, hnC, _⟩ := I4.loc
        have u4 : Un (frs X.stack) fp H (upd H3 s2.heap.objs.size (.lst vs)) s2.heap s4.heap :=
          ⟨I4.base.keep, I4.base.slot, fun b o e n hb => by rw [upd_ne (below b (Heap.lt_size e)).2]; exact I4.base.free b o e n hb, I4.base.there,
            fun b x e => by rw [upd_ne (below b (I.hok.lt e)).2]; exact I4.base.tups b x e, fun b o x e => by rw [upd_ne (below b (I.hok.lt e)).2]; exact I4.base.frzs b o x e,
            fun b p e => by rw [upd_ne (below b (I.hok.lt e)).2]; exact I4.base.tbls b p e⟩
        have hk4 : HOk X.prog X.w (upd H3 s2.heap.objs.size (.lst vs)) s4.heap := fun b o e => by
          by_cases hb : b = s2.heap.objs.size
          · subst hb
            rw [upd_same] at e
            cases e
            exact ⟨hz, its, n, rv, pD.1⟩
          · rw [upd_ne hb] at e
            exact (I4.hok b o e).stay (fun _ _ _ q => q) (fun c q => by rw [upd_ne (ne_of_none q pD.2.1)]; exact q) fun c x q => by rw [upd_ne (ne_of_none q pD.2.1)]; exact q
        refine hR _ _ H3 vs s4 ⟨mC, hnC⟩ (I.call' I4.os u4 hk4 I4.bare fun b hb => ⟨(f b hb).2.2.2.1, (f b hb).2.1, (f b hb).2.2.2.2.1, (f b hb).2.2.2.2.2⟩) pD.2.1 (Ne.symm hDC) I4.free ?_ ?_ ?_ ?_ fn
        · exact Ne.symm (below _ I.lt).1
        · exact Nat.le_trans I.sz hCle
        · intro x c e
          obtain ⟨v, o, ho, _⟩ := I.cell x c e
          exact (below c (Heap.lt_size ho)).1
        · intro p hp
          exact (below p.1 (Heap.lt_size (I.pin p hp).1)).1
      · refine wpAny_mono (T.item (cxC X (xs ++ ys) scope H2.objs.size s2 H fp) rfl rfl rfl hc i _ s3 _ H3 (fun _ _ => False) I3 (fC fr3) t3 go) (fun r s4 ⟨u, hr, h4⟩ => ?_) hno
        subst hr
        refine wpAny_mono h4 (fun _ s5 ⟨x, H5, I5, r5, y5, t5, fr5⟩ => ?_) hno
        have I5' := I5.pinned (fC fr5) (T.obj _ _ t5)
        refine wpAny_mono (hg H2.objs.size s2 H fp _ s5 _ H5 x u _ I5' r5 (step x H5 y5)) (fun _ s6 ⟨σ6, H6, I6, q6⟩ => ?_) hno
        refine wpAny_mono (hq H2.objs.size s2 H fp _ s6 σ6 H6 _ I6 q6) (fun b s7 ⟨H7, I7, q7⟩ => ?_) hno
        have keepI : ∀ {σ' : St} {H' : Hp} {s' : Shared}, Inv (cxC X (xs ++ ys) scope H2.objs.size s2 H fp) ([(s2.heap.objs.size, { cls := .type "list", data := .seq its.toArray n })] ++ pinsAt fp s5.heap) σ' H' s' → tn (i + 1) s'.heap ∧ ∀ b ∈ fp, H' b = none := fun {σ' H' s'} J' =>
          ⟨T.keep _ _ _ t5 fun b hb o e => (J'.pin (b, o) (List.mem_append_right _ (List.mem_append_right _ (mem_pinsAt hb e)))).1, fun b hb => by
            obtain ⟨o, e, d⟩ := T.obj _ _ t5 b hb
            exact (J'.pin (b, o) (List.mem_append_right _ (List.mem_append_right _ (mem_pinsAt hb e)))).2.1⟩
        cases b with
        | false =>
          obtain ⟨m', hm, w7⟩ := hN' _ _ q7
          exact ⟨m', hm, i + 1, vs, its, n, H7, inv_reset I CS hsc hN f I7.unpinned, rv, (keepI I7).1, (keepI I7).2, w7⟩
        | true =>
          refine wpAny_mono (he H2.objs.size s2 H fp _ s7 σ6 H7 _ I7 q7) (fun y s8 ⟨yv, H8, I8, r8, n8⟩ => ?_) hno
          obtain ⟨m', hm, w8⟩ := hN' _ _ n8
          have pD := I8.pin (s2.heap.objs.size, _) (List.mem_append_right _ (List.mem_append_left _ List.mem_cons_self))
          refine append_at (hsz := by show its.toArray.size ≤ sizeLine; rw [List.size_toArray, ← rv.length]; exact Nat.le_of_lt hz) pD.1 fun h9 hs9 hD9 => ?_
          have hD9' : h9.get? s2.heap.objs.size = some { cls := .type "list", data := .seq (its ++ [y]).toArray (n + 1) } := by rw [hD9, lst_push]
          have J8 := inv_reset I CS hsc hN f I8.unpinned
          have hDf : s2.heap.objs.size ∉ fp := fun hb => Nat.lt_irrefl _ (fl _ hb)
          refine ⟨m', hm, i + 1, vs ++ [yv], its ++ [y], n + 1, H8, ?_, rv.append (.cons r8 .nil), T.keep _ _ _ (keepI I8).1 fun b hb o e => hs9.extBut b o (fun q => hDf (q ▸ hb)) e, (keepI I8).2, w8⟩
          -- the accumulator is another object now
          have J9 : Inv (cxC X (xs ++ ys) scope H2.objs.size s2 H fp) [] (sigC xs.length js σ) H8 s8 := J8.pins_of fun p hp => absurd hp (by simp)
          have J9' : Inv (cxC X (xs ++ ys) scope H2.objs.size s2 H fp) [] (sigC xs.length js σ) H8 { s8 with heap := h9, toks := s8.toks } := J9.turned (it := s2.heap.objs.size) (fun b o hb e => hs9.extBut b o hb e) pD.2.1 hDC (.inr (Nat.le_refl _))
            (fun x c e z => by
              obtain ⟨v, o, ho, _⟩ := I.cell x c (clOf_back e)
              exact (below c (Heap.lt_size ho)).2 z) (fun p hp => absurd (show p ∈ ([] : List (Addr × Obj)) ++ [] from hp) (by simp))
          refine J9'.pins_of fun p hp => ?_
          have e : p = (s2.heap.objs.size, { cls := .type "list", data := .seq (its ++ [y]).toArray (n + 1) }) := by simpa using hp
          subst e
          exact ⟨hD9', pD.2.1, hDC, pD.2.2.2.1, fun v z => by cases z⟩
    · exact inv_comp (fp := fp) I CS hsc hN f fl hCle (Nat.le_refl _) hDC hns1 old hacc (fun v z => by cases z)
  exact codeAny_compStart_list (loop _ rfl) (T.self X.A 0 _ _ _ t1 (loop _ rfl))

theorem comp_clos (ok : X.Ok) (CS : CompSc scope sc N0 xs ys js) (hsc : X.env.scope = sc) : closureFor scope X.env = pure (clOf X.env.cells scope.names []) := clos_ok fun y hy e => by
  have h := CS.fr y hy e
  rw [← hsc] at h
  exact ok.has y.1 h
theorem inv_gone {pins : List (Addr × Obj)} {σ : St} {H : Hp} {s : Shared} {C : Addr} {h' : Heap} (I : Inv X pins σ H s) (hn : H C = none) (hL : C ≠ X.env.locals) (h0 : X.s₀.heap.objs.size ≤ C) (hcl : ∀ x c, X.env.cells.lookup x = some c → c ≠ C) (hp : ∀ p ∈ X.pn ++ pins, p.1 ≠ C)
    (hs : Heap.SameBut C s.heap h') : Inv X pins σ H { s with heap := h' } := I.turned (t' := s.toks) (it := C) (fun b o hb e => hs.extBut b o hb e) hn hL (.inr h0) hcl hp
theorem pe_comp (CS : CompSc scope sc N0 xs ys js) (hc : X.calm = true) (hi : PI X tg iter wi) (hg : ∀ C s2 H fp, PG (cxC X (xs ++ ys) scope C s2 H fp) tg g) (hq : ∀ C s2 H fp, PQ (cxC X (xs ++ ys) scope C s2 H fp) ifs tc)
    (he : ∀ C s2 H fp, PE (cxC X (xs ++ ys) scope C s2 H fp) elt te) (hsc : X.env.scope = sc := by rfl) (hN : X.N = N0 := by rfl) (hs : ∀ x, foldedSetIterable iter X.env x = pure x := by intro _; rfl) :
    PE X (.ListComp elt [⟨tg, iter, ifs, 0⟩] scope pos) (tComp xs.length js wi g tc te) := by
  intro pins s σ H Q I h
  rw [eval_ListComp]
  refine wpAny_comprehension_free (use := none) rfl hs (comp_clos I.ok CS hsc) CS.kind CS.loc (thn (hi pins s σ H _ I h) fun v s1 h1 => thn h1 fun itv s2 h2 => ?_)
  obtain ⟨it, fp, tn, J, H2, e, I2, T, t2, f2, hw⟩ := h2
  subst e
  refine comp_block (RR := fun acc C => compPost (model X.prog X.w) X.A X.xe none (EP X pins σ Q) acc C) CS hsc hN hc I2 T t2 f2 hg hq he hw ?_
  intro D C H' vs s' hm I' hD hCD hC hL h0 hcl hp fn
  obtain ⟨m, hm⟩ := hm
  refine ⟨m, hm, fun h' hs' => ⟨.ref D, _, inv_gone I' (by rw [upd_ne hCD]; exact hC) hL h0 hcl hp hs', rfl, fn D hD⟩⟩
theorem ps_setComp {i : Nat} {y : Str} {py spos : Pos} (CS : CompSc scope sc N0 xs ys js) (hc : X.calm = true) (hNd : X.N.Nodup) (hiy : X.N[i]? = some y) (hy : X.env.scope.names.lookup y = some .local)
    (hi : PI X tg iter wi) (hg : ∀ C s2 H fp, PG (cxC X (xs ++ ys) scope C s2 H fp) tg g) (hq : ∀ C s2 H fp, PQ (cxC X (xs ++ ys) scope C s2 H fp) ifs tc)
    (he : ∀ C s2 H fp, PE (cxC X (xs ++ ys) scope C s2 H fp) elt te) (hsc : X.env.scope = sc := by rfl) (hN : X.N = N0 := by rfl) (hs : ∀ x, foldedSetIterable iter X.env x = pure x := by intro _; rfl)
    (hsw : swapsWith (.ListComp elt [⟨tg, iter, ifs, 0⟩] scope pos) (some (.Name y py)) spos.line X.env = pure true := by rfl) :
    PS X (.Assign [.Name y py] (.ListComp elt [⟨tg, iter, ifs, 0⟩] scope pos) spos) (tAsg (tComp xs.length js wi g tc te) (gName i)) := by
  intro pins s σ H Dn I h
  rw [exec_Assign_Name_used _ _ _ _ hsw]
  refine wpAny_bind (wpAny_standAt (wpAny_bind ?_))
  show wpAny _ X.A (do let _ ← comprehension (.ListComp elt [⟨tg, iter, ifs, 0⟩] scope pos) scope X.env _ (newList []) false (eval iter X.env) (some (assign (.Name y py) X.env))) _ _ s
  refine wpAny_bind (wpAny_mono (wpAny_comprehension_free (use := some (assign (.Name y py) X.env)) (Q := fun _ s' => SP X pins Dn .next s') rfl hs (comp_clos I.ok CS hsc) CS.kind CS.loc
    (thn (hi pins s σ H _ I h) fun v s1 h1 => thn h1 fun itv s2 h2 => ?_)) (fun _ s' hq => wpAny_pure (wpAny_pure hq)) fun _ _ e => e)
  obtain ⟨it, fp, tn, J, H2, e, I2, T, t2, f2, hw⟩ := h2
  subst e
  refine comp_block (RR := fun acc C => compPost (model X.prog X.w) X.A X.xe (some (assign (.Name y py) X.env)) (fun _ s' => SP X pins Dn .next s') acc C) CS hsc hN hc I2 T t2 f2 hg hq he hw ?_
  intro D C H' vs s' hm I' hD hCD hC hL h0 hcl hp fn
  obtain ⟨m, hm⟩ := hm
  show wpAny _ X.A (assign (.Name y py) X.env (.ref D)) _ _ _
  refine wpAny_assign_Name (store_ok2 (v := .ref D) I' hNd hiy (.inl hy) rfl (fun s2 I2 hch => ?_) (.inr hy))
  obtain ⟨a, sb, ha⟩ := hch
  have hCa : C ≠ a := by
    rcases ha with ha | ha
    · rw [ha]; exact hL
    · exact fun z => hcl y a ha z.symm
  refine ⟨m, hm.sameBut sb hCa, fun h' hs' => ?_⟩
  exact ⟨_, _, inv_gone I2 (by rw [upd_ne hCD]; exact hC) hL h0 hcl hp hs', fn D hD⟩
end
section
variable {k : Nat} {js : List Nat} {g : TG} {tc : TT} {te : TE} {σ : St} {fin : List V → Hp → Prop} {H : Hp}
theorem comp_range {lo : Int} {n : Nat} (Pv : Nat → List V → Hp → Prop) (h0 : Pv 0 [] H) (hn : n ≤ sizeLine) (hl : ∀ i ys H, Pv i ys H → ys.length ≤ i)
    (hs : ∀ i ys H, i < n → Pv i ys H → g (.int (lo + i)) (sigC k js σ) H fun σ2 H3 => tc σ2 H3 fun b H4 => if b = true then te σ2 H4 fun y H5 => Pv (i + 1) (ys ++ [y]) H5 else Pv (i + 1) ys H4)
    (hd : ∀ ys H, Pv n ys H → fin ys H) : compW k js g tc te σ (Itr lo n) H fin := by
  refine ⟨fun i m ys H => m = n - i ∧ i ≤ n ∧ Pv i ys H, ⟨n, by simp, Nat.zero_le _, h0⟩, ?_⟩
  rintro i m ys H ⟨rfl, hi, p⟩
  have hy := hl i ys H p
  by_cases hlt : i < n
  · refine .inr ⟨hlt, by omega, Pv (i + 1), fun ys' H' p' => ⟨n - (i + 1), by omega, rfl, hlt, p'⟩, fun x H' y => ?_⟩
    obtain ⟨e, y⟩ := y
    subst e y
    exact hs i ys _ hlt p
  · have e : i = n := by omega
    subst e
    exact .inl ⟨Nat.le_refl _, by omega, hd ys H p⟩
theorem comp_list {K : PySem.W.Frag} {a : Addr} {xs : List V} (Pv : Nat → List V → Hp → Prop) (h0 : Pv 0 [] H) (hn : xs.length ≤ sizeLine) (hl : ∀ i ys H, Pv i ys H → ys.length ≤ i) (hq : ∀ i ys H, i ≤ xs.length → Pv i ys H → SqL K H a xs)
    (hs : ∀ i x ys H, xs[i]? = some x → Pv i ys H → g x (sigC k js σ) H fun σ2 H3 => tc σ2 H3 fun b H4 => if b = true then te σ2 H4 fun y H5 => Pv (i + 1) (ys ++ [y]) H5 else Pv (i + 1) ys H4)
    (hd : ∀ ys H, Pv xs.length ys H → fin ys H) : compW k js g tc te σ (Itl K a) H fin := by
  refine ⟨fun i m ys H => m = xs.length - i ∧ i ≤ xs.length ∧ Pv i ys H, ⟨xs.length, by simp, Nat.zero_le _, h0⟩, ?_⟩
  rintro i m ys H ⟨rfl, hi, p⟩
  have hy := hl i ys H p
  have q := hq i ys H hi p
  by_cases hlt : i < xs.length
  · refine .inr ⟨⟨xs, xs[i], q, by simp [hlt]⟩, by omega, Pv (i + 1), fun ys' H' p' => ⟨xs.length - (i + 1), by omega, rfl, hlt, p'⟩, fun x H' y => ?_⟩
    obtain ⟨e, y⟩ := y
    subst e
    exact hs i x ys _ (y xs q) p
  · have e : i = xs.length := by omega
    subst e
    exact .inl ⟨⟨xs, q, Nat.le_refl _⟩, by omega, hd ys H p⟩
theorem comp_tup {K : PySem.W.Frag} {a : Addr} {xs : List V} (Pv : Nat → List V → Hp → Prop) (h0 : Pv 0 [] H) (hn : xs.length ≤ sizeLine) (hl : ∀ i ys H, Pv i ys H → ys.length ≤ i) (hq : ∀ i ys H, i ≤ xs.length → Pv i ys H → SqT K H a xs)
    (hs : ∀ i x ys H, xs[i]? = some x → Pv i ys H → g x (sigC k js σ) H fun σ2 H3 => tc σ2 H3 fun b H4 => if b = true then te σ2 H4 fun y H5 => Pv (i + 1) (ys ++ [y]) H5 else Pv (i + 1) ys H4)
    (hd : ∀ ys H, Pv xs.length ys H → fin ys H) : compW k js g tc te σ (Itt K a) H fin := by
  refine ⟨fun i m ys H => m = xs.length - i ∧ i ≤ xs.length ∧ Pv i ys H, ⟨xs.length, by simp, Nat.zero_le _, h0⟩, ?_⟩
  rintro i m ys H ⟨rfl, hi, p⟩
  have hy := hl i ys H p
  have q := hq i ys H hi p
  by_cases hlt : i < xs.length
  · refine .inr ⟨⟨xs, xs[i], q, by simp [hlt]⟩, by omega, Pv (i + 1), fun ys' H' p' => ⟨xs.length - (i + 1), by omega, rfl, hlt, p'⟩, fun x H' y => ?_⟩
    obtain ⟨e, y⟩ := y
    subst e
    exact hs i x ys _ (y xs q) p
  · have e : i = xs.length := by omega
    subst e
    exact .inl ⟨⟨xs, q, Nat.le_refl _⟩, by omega, hd ys H p⟩
end
def CDivB (i j : Int) : Prop := 0 < j ∧ j < 10000000000000000000000000000000000000000
theorem cdivB_no {i j : Int} (h : CDivB i j) : Builtin.divisionGoesByPylong i j = false := by
  obtain ⟨h1, h2⟩ := h
  refine PyProof.noPylong_of_log2 ?_
  have h0 : j.natAbs ≠ 0 := by omega
  have h3 : j.natAbs < 2 ^ 200 := by
    have e : (2 : Nat) ^ 200 = 1606938044258990275541962092341162602522202993782792835301376 := by decide
    rw [e]
    omega
  have := (Nat.log2_lt h0).mpr h3
  omega
section
variable {X : Cx}
theorem op_fdivB : OpR X (binaryOp .FloorDiv) (rI CDivB fun i j => .int (i / j)) := opI fun i j _ _ _ _ _ hc q => by
  have h1 : (0 : Int) < j := hc.1
  exact floordiv_int (by omega) (by rw [Int.fdiv_eq_ediv_of_nonneg i (by omega)]; exact q) (.inl (cdivB_no hc))
def clsV : V → Option Value
  | .ty n => some (.type n)
  | .ref C => some (.ref C)
  | _ => none
theorem clsV_rel {c : V} {cv u : Value} (h : clsV c = some cv) (r : RelV c u) : u = cv := by
  cases c with
  | ty n => cases h; exact r
  | ref C => cases h; exact r
  | _ => cases h
theorem call_isinst : CallR X (.builtin "isinstance") (fun xs H Q => ∃ x c t cv b, xs = [x, c] ∧ clsV c = some cv ∧ TyOf X.K H x t ∧ PySem.W.kitOne X.K t cv = some b ∧ Q (.bl b) H) := by
  intro pins s σ H xs us Q I r h
  obtain ⟨x, c, t, cv, b, rfl, hc, ht, hk, q⟩ := h
  obtain ⟨u, w', rfl, rx, rc⟩ := vals2 r
  have e := clsV_rel hc rc
  subst e
  exact isinst_ok I rx ht hk fun tk => ⟨.bl b, H, I.tok _, rfl, q⟩
theorem kit_same {K : PySem.W.Frag} {n : String} : PySem.W.kitOne K (.type n) (.type n) = some true := by
  unfold PySem.W.kitOne
  rw [if_pos (beq_self_eq_true _)]
theorem kit_ty {K : PySem.W.Frag} {a c : String} {b : Bool} (h1 : (Value.type a == Value.type c) = false) (h2 : PySem.W.kitMeta c = true) (h3 : (fastBuiltinMro a).map (·.contains (Value.type c)) = some b) :
    PySem.W.kitOne K (.type a) (.type c) = some b := by
  unfold PySem.W.kitOne
  rw [if_neg (by rw [h1]; exact Bool.false_ne_true)]
  show (if PySem.W.kitMeta c = true then PySem.W.subIn K (.type a) (.type c) else none) = some b
  rw [if_pos h2]
  exact h3
section
variable {K : PySem.W.Frag}
theorem kit_bool_int : PySem.W.kitOne K (.type "bool") (.type "int") = some true := kit_ty (by decide +kernel) (by decide +kernel) (by decide +kernel)
theorem kit_none_int : PySem.W.kitOne K (.type "NoneType") (.type "int") = some false := kit_ty (by decide +kernel) (by decide +kernel) (by decide +kernel)
theorem kit_str_int : PySem.W.kitOne K (.type "str") (.type "int") = some false := kit_ty (by decide +kernel) (by decide +kernel) (by decide +kernel)
theorem kit_list_int : PySem.W.kitOne K (.type "list") (.type "int") = some false := kit_ty (by decide +kernel) (by decide +kernel) (by decide +kernel)
theorem kit_tuple_int : PySem.W.kitOne K (.type "tuple") (.type "int") = some false := kit_ty (by decide +kernel) (by decide +kernel) (by decide +kernel)
theorem kit_dict_int : PySem.W.kitOne K (.type "dict") (.type "int") = some false := kit_ty (by decide +kernel) (by decide +kernel) (by decide +kernel)
theorem kit_int_bool : PySem.W.kitOne K (.type "int") (.type "bool") = some false := kit_ty (by decide +kernel) (by decide +kernel) (by decide +kernel)
theorem kit_none_bool : PySem.W.kitOne K (.type "NoneType") (.type "bool") = some false := kit_ty (by decide +kernel) (by decide +kernel) (by decide +kernel)
theorem kit_str_bool : PySem.W.kitOne K (.type "str") (.type "bool") = some false := kit_ty (by decide +kernel) (by decide +kernel) (by decide +kernel)
theorem kit_list_bool : PySem.W.kitOne K (.type "list") (.type "bool") = some false := kit_ty (by decide +kernel) (by decide +kernel) (by decide +kernel)
theorem kit_tuple_bool : PySem.W.kitOne K (.type "tuple") (.type "bool") = some false := kit_ty (by decide +kernel) (by decide +kernel) (by decide +kernel)
theorem kit_dict_bool : PySem.W.kitOne K (.type "dict") (.type "bool") = some false := kit_ty (by decide +kernel) (by decide +kernel) (by decide +kernel)
theorem kit_int_str : PySem.W.kitOne K (.type "int") (.type "str") = some false := kit_ty (by decide +kernel) (by decide +kernel) (by decide +kernel)
theorem kit_bool_str : PySem.W.kitOne K (.type "bool") (.type "str") = some false := kit_ty (by decide +kernel) (by decide +kernel) (by decide +kernel)
theorem kit_none_str : PySem.W.kitOne K (.type "NoneType") (.type "str") = some false := kit_ty (by decide +kernel) (by decide +kernel) (by decide +kernel)
theorem kit_list_str : PySem.W.kitOne K (.type "list") (.type "str") = some false := kit_ty (by decide +kernel) (by decide +kernel) (by decide +kernel)
theorem kit_tuple_str : PySem.W.kitOne K (.type "tuple") (.type "str") = some false := kit_ty (by decide +kernel) (by decide +kernel) (by decide +kernel)
theorem kit_dict_str : PySem.W.kitOne K (.type "dict") (.type "str") = some false := kit_ty (by decide +kernel) (by decide +kernel) (by decide +kernel)
theorem kit_int_tuple : PySem.W.kitOne K (.type "int") (.type "tuple") = some false := kit_ty (by decide +kernel) (by decide +kernel) (by decide +kernel)
theorem kit_bool_tuple : PySem.W.kitOne K (.type "bool") (.type "tuple") = some false := kit_ty (by decide +kernel) (by decide +kernel) (by decide +kernel)
theorem kit_none_tuple : PySem.W.kitOne K (.type "NoneType") (.type "tuple") = some false := kit_ty (by decide +kernel) (by decide +kernel) (by decide +kernel)
theorem kit_list_tuple : PySem.W.kitOne K (.type "list") (.type "tuple") = some false := kit_ty (by decide +kernel) (by decide +kernel) (by decide +kernel)
theorem kit_str_tuple : PySem.W.kitOne K (.type "str") (.type "tuple") = some false := kit_ty (by decide +kernel) (by decide +kernel) (by decide +kernel)
theorem kit_dict_tuple : PySem.W.kitOne K (.type "dict") (.type "tuple") = some false := kit_ty (by decide +kernel) (by decide +kernel) (by decide +kernel)
end
inductive Kd where
  | non | bl | int | str | lst | tup | dct
  deriving DecidableEq
def Kd.nm : Kd → String
  | .non => "NoneType" | .bl => "bool" | .int => "int" | .str => "str" | .lst => "list" | .tup => "tuple" | .dct => "dict"
def KdOf (K : PySem.W.Frag) (H : Hp) (x : V) (k : Kd) : Prop := TyOf K H x (.type k.nm)
def Kd.isA : Kd → Kd → Bool
  | .bl, .int => true
  | a, b => decide (a = b)
theorem kit_kd {K : PySem.W.Frag} {a c : Kd} (hc : c = .int ∨ c = .bl ∨ c = .str ∨ c = .tup) : PySem.W.kitOne K (.type a.nm) (.type c.nm) = some (a.isA c) := by
  rcases hc with rfl | rfl | rfl | rfl
  · cases a <;> first | exact kit_same | exact kit_bool_int | exact kit_none_int | exact kit_str_int | exact kit_list_int | exact kit_tuple_int | exact kit_dict_int
  · cases a <;> first | exact kit_same | exact kit_int_bool | exact kit_none_bool | exact kit_str_bool | exact kit_list_bool | exact kit_tuple_bool | exact kit_dict_bool
  · cases a <;> first | exact kit_same | exact kit_int_str | exact kit_none_str | exact kit_bool_str | exact kit_list_str | exact kit_tuple_str | exact kit_dict_str
  · cases a <;> first | exact kit_same | exact kit_int_tuple | exact kit_none_tuple | exact kit_bool_tuple | exact kit_list_tuple | exact kit_str_tuple | exact kit_dict_tuple
theorem call_isKd (c : Kd) (hc : c = .int ∨ c = .bl ∨ c = .str ∨ c = .tup) : CallR X (.builtin "isinstance") (fun xs H Q => ∃ x k, xs = [x, .ty c.nm] ∧ KdOf X.K H x k ∧ Q (.bl (k.isA c)) H) := by
  intro pins s σ H xs us Q I r h
  obtain ⟨x, k, rfl, hk, q⟩ := h
  exact call_isinst pins s σ H _ us Q I r ⟨x, _, _, _, _, rfl, rfl, hk, kit_kd hc, q⟩
end

def Its (x : Str) : It := ⟨fun i _ => i < x.cps.size, fun i H v H' => H' = H ∧ ∃ c, x.cps[i]? = some c ∧ v = .str ⟨#[c]⟩, fun i _ => i = x.cps.size⟩
theorem turn_str {P : Program} {w : World} {K : PySem.W.Frag} {tg : Expr} (it : Addr) (ty : String) (x : Str) (t : Tok) (hty : ["enumerate", "zip", "dict_itemiterator", "dict_reverseitemiterator", "odict_iterator", "itertools.zip_longest", "itertools.pairwise"].contains ty = false)
    (W : ∀ A' : Around, A'.handled = none → Walks P w A' it [it] [it] x.cps.size (SignAt x) (fun i h => h.IsStrIter it ty x t i))
    (slf : ∀ (A : Around) (i : Nat) (s : Shared) (Q : Value → Shared → Prop) (E : Value → Shared → Prop), s.heap.IsStrIter it ty x t i → Q (.ref it) s → wpAny (model P w) A (pyIter (.ref it)) Q E s) :
    Turn P w K tg (Its x) [it] it (fun i h => h.IsStrIter it ty x t i) where
  mem := by simp
  obj := fun i h st b hb => by
    have e : b = it := by simpa using hb
    subst e
    obtain ⟨o, e, c, d⟩ := st
    exact ⟨o, e, fun v z => by rw [d] at z; cases z⟩
  keep := fun i h h' st k => by
    obtain ⟨o, e, r⟩ := st
    exact ⟨o, k it (by simp) o e, r⟩
  item := by
    intro X hP hw hK hc i pins s σ H E I hf st hg
    subst hP hw hK
    obtain ⟨f0, f1, f2, f3, f4, f5⟩ := hf it (by simp)
    refine (W X.A (I.ok.hd hc)).item i s _ _ hg st fun v h' tk hv st' kk => ?_
    obtain ⟨c, u, ec, rfl⟩ := hv
    have I1 : Inv X pins σ H { s with heap := h', toks := tk } := I.turned (fun b o hb e => kk b o (by simpa using hb) e) f0 f1 f3 f4 f5
    obtain ⟨o, e, cc, d⟩ := id st'
    exact ⟨_, rfl, go_of (s := { s with heap := h', toks := tk }) e cc d hty ⟨.str ⟨#[c]⟩, H, I1, ⟨u, rfl⟩, ⟨rfl, c, ec, rfl⟩, st', fun b hb => (hf b hb).1⟩⟩
  done := by
    intro X hP hw hK hc i pins s σ H E I hf st hg
    subst hP hw hK
    obtain ⟨f0, f1, f2, f3, f4, f5⟩ := hf it (by simp)
    have e : i = x.cps.size := hg
    subst e
    exact (W X.A (I.ok.hd hc)).done s _ _ st fun h' tk kk => ⟨rfl, I.turned (fun b o hb e => kk b o (by simpa using hb) e) f0 f1 f3 f4 f5⟩
  self := slf
def iStr (tl : TE) : TI := fun σ H R => tl σ H fun x H1 => ∃ z, x = .str z ∧ R (Its z) H1
section
variable {X : Cx} {tg : Expr}
theorem pi_str {l : Expr} {tl : TE} (hl : PE X l tl) : PI X tg l (iStr tl) := by
  intro pins s σ H R I h
  refine thn (hl pins s σ H _ I h) fun v s1 ⟨x, H1, I1, r1, q1⟩ => ?_
  obtain ⟨z, e, q⟩ := q1
  subst e
  obtain ⟨t, rfl⟩ := r1
  have fp : ∀ b ∈ [s1.heap.objs.size], FpOk X pins H1 b := fun b hb => by
    have e : b = s1.heap.objs.size := by simpa using hb
    subst e
    exact I1.fpOk (Nat.le_refl _) (I1.hok.fresh (Nat.le_refl _))
  cases ha : z.cps.all (· < 128)
  · refine wpAny_pyIter_wide ha ?_
    exact ⟨s1.heap.objs.size, [s1.heap.objs.size], _, _, H1, rfl, I1.kept (t' := s1.toks) fun b o e => Heap.get?_push_of_some _ e, turn_str _ _ z t (by decide) (fun A' hA => Walks.strWide hA _ z t) (fun _ _ _ _ _ st h => wpAny_pyIter_striter_wide st h),
      ⟨_, Heap.get?_push_size _ rfl, rfl, rfl⟩, fp, q⟩
  · refine wpAny_pyIter_ascii ha ?_
    exact ⟨s1.heap.objs.size, [s1.heap.objs.size], _, _, H1, rfl, I1.kept (t' := s1.toks) fun b o e => Heap.get?_push_of_some _ e, turn_str _ _ z t (by decide) (fun A' hA => Walks.strAscii hA _ z t) (fun _ _ _ _ _ st h => wpAny_pyIter_striter_ascii st h),
      ⟨_, Heap.get?_push_size _ rfl, rfl, rfl⟩, fp, q⟩
def sgn (x : Str) (i : Nat) : Str := ⟨#[x.cps.getD i 0]⟩
theorem comp_str {k : Nat} {js : List Nat} {g : TG} {tc : TT} {te : TE} {σ : St} {fin : List V → Hp → Prop} {H : Hp} {z : Str} (Pv : Nat → List V → Hp → Prop) (h0 : Pv 0 [] H) (hn : z.cps.size ≤ sizeLine) (hl : ∀ i ys H, Pv i ys H → ys.length ≤ i)
    (hs : ∀ i ys H, i < z.cps.size → Pv i ys H → g (.str (sgn z i)) (sigC k js σ) H fun σ2 H3 => tc σ2 H3 fun b H4 => if b = true then te σ2 H4 fun y H5 => Pv (i + 1) (ys ++ [y]) H5 else Pv (i + 1) ys H4)
    (hd : ∀ ys H, Pv z.cps.size ys H → fin ys H) : compW k js g tc te σ (Its z) H fin := by
  refine ⟨fun i m ys H => m = z.cps.size - i ∧ i ≤ z.cps.size ∧ Pv i ys H, ⟨z.cps.size, by simp, Nat.zero_le _, h0⟩, ?_⟩
  rintro i m ys H ⟨rfl, hi, p⟩
  have hy := hl i ys H p
  by_cases hlt : i < z.cps.size
  · refine .inr ⟨hlt, by omega, Pv (i + 1), fun ys' H' p' => ⟨z.cps.size - (i + 1), by omega, rfl, hlt, p'⟩, fun x H' y => ?_⟩
    obtain ⟨e, c, ec, ex⟩ := y
    subst e ex
    have hh := hs i ys _ hlt p
    have e2 : sgn z i = ⟨#[c]⟩ := by unfold sgn; rw [Array.getD_eq_getD_getElem?, ec]; rfl
    rw [e2] at hh
    exact hh
  · have e : i = z.cps.size := by omega
    subst e
    exact .inl ⟨rfl, by omega, hd ys H p⟩
theorem vals_bl : ∀ {bs : List Bool} {its : List Value}, Vals (bs.map V.bl) its → its = bs.map Value.bool
  | [], _, .nil => rfl
  | b :: bs, _, .cons r t => by
    cases r
    rw [vals_bl t]
    rfl
theorem call_allB (hc : X.calm = true) : CallR X (.builtin "all") (fun xs H Q => ∃ (p : Addr) (bs : List Bool), xs = [.ref p] ∧ SqL X.K H p (bs.map V.bl) ∧ Q (.bl (bs.all id)) H) := by
  intro pins s σ H xs us Q I r h
  obtain ⟨p, bs, rfl, hq, q⟩ := h
  obtain ⟨u, rfl, ru⟩ := vals1 r
  cases ru
  obtain ⟨its, rv, pl, hz⟩ := I.list hq
  have e := vals_bl rv
  subst e
  have hlt : p < s.heap.objs.size := by obtain ⟨o, n, e, _⟩ := pl; exact Heap.lt_size e
  refine call_all_walk (wpAny_pyIter_list pl.isList ?_)
  refine ⟨s.heap.objs.size, _, [s.heap.objs.size], _, _, _, fun i => bs.getD i true, rfl, Walks.list (A := X.A.in1) (show X.A.in1.handled = none from I.ok.hd hc) s.heap.objs.size p (Nat.ne_of_lt hlt) (bs.map Value.bool).toArray, ⟨⟨_, Heap.get?_push_size _ rfl, rfl, rfl⟩, pl.isList.push _⟩, ?_, fun h' tk hk => ?_⟩
  · intro i v s' Q' E' hP hQ'
    have hP : ((bs.map Value.bool).toArray)[i]? = some v := hP
    rw [List.getElem?_toArray, List.getElem?_map] at hP
    cases e : bs[i]? with
    | none => rw [e] at hP; cases hP
    | some b =>
      rw [e] at hP
      cases hP
      refine wpAny_truthy_bool ?_
      have e' : bs.getD i true = b := by rw [List.getD_eq_getElem?_getD, e]; rfl
      have hQ' : Q' (bs.getD i true) s' := hQ'
      rw [e'] at hQ'
      exact hQ'
  · have e : (List.range (bs.map Value.bool).toArray.size).all (fun i => bs.getD i true) = bs.all id := by
      rw [Bool.eq_iff_iff]
      simp only [List.size_toArray, List.length_map, List.all_eq_true, List.mem_range, id]
      constructor
      · intro h b hb
        obtain ⟨i, hi, e⟩ := List.mem_iff_getElem.mp hb
        have := h i hi
        rw [List.getD_eq_getElem?_getD, List.getElem?_eq_getElem hi, e] at this
        exact this
      · intro h i hi
        rw [List.getD_eq_getElem?_getD, List.getElem?_eq_getElem hi]
        exact h _ (List.getElem_mem hi)
    rw [e]
    exact ⟨.bl (bs.all id), H, I.kept fun b o e => hk b o (by simp; exact Nat.ne_of_lt (Heap.lt_size e)) (Heap.get?_push_of_some _ e), rfl, q⟩
end

section
variable {κ : Type} [DecidableEq κ]
def valV (kvs : List (κ × V)) (k : κ) : Option V := (kvs.find? fun kv => decide (kv.1 = k)).map (·.2)
def putK (kvs : List (κ × V)) (k : κ) (v : V) : List (κ × V) :=
  if (kvs.any fun kv => decide (kv.1 = k)) = true then kvs.map (fun kv => if kv.1 = k then (kv.1, v) else kv) else kvs ++ [(k, v)]
def dropK (kvs : List (κ × V)) (k : κ) : List (κ × V) := kvs.filter fun kv => decide (kv.1 ≠ k)

theorem valV_nil {k : κ} : valV ([] : List (κ × V)) k = none := rfl
theorem valV_pos {p : κ × V} {r : List (κ × V)} {k : κ} (e : p.1 = k) : valV (p :: r) k = some p.2 := by simp [valV, List.find?_cons, e]
theorem valV_neg {p : κ × V} {r : List (κ × V)} {k : κ} (e : ¬ p.1 = k) : valV (p :: r) k = valV r k := by simp [valV, List.find?_cons, e]
theorem valV_any (k : κ) : ∀ kvs : List (κ × V), (kvs.any fun kv => decide (kv.1 = k)) = (valV kvs k).isSome
  | [] => rfl
  | p :: r => by
    rw [List.any_cons]
    by_cases e : p.1 = k
    · simp only [valV_pos e, decide_eq_true e, Bool.true_or, Option.isSome_some]
    · rw [valV_neg e, decide_eq_false e, Bool.false_or]; exact valV_any k r
theorem valV_map (k j : κ) (y : V) : ∀ kvs : List (κ × V), valV (kvs.map fun kv => if kv.1 = k then (kv.1, y) else kv) j = (valV kvs j).map fun x => if j = k then y else x
  | [] => rfl
  | p :: r => by
    have ih := valV_map k j y r
    rw [List.map_cons]
    by_cases h : p.1 = k
    · rw [if_pos h]
      by_cases e : p.1 = j
      · rw [valV_pos (p := (p.1, y)) e, valV_pos e, Option.map_some, if_pos (e.symm.trans h)]
      · rw [valV_neg (p := (p.1, y)) e, valV_neg e, ih]
    · rw [if_neg h]
      by_cases e : p.1 = j
      · rw [valV_pos (p := p) e, valV_pos e, Option.map_some, if_neg (fun z => h (e.trans z))]
      · rw [valV_neg (p := p) e, valV_neg e, ih]
theorem valV_snoc (k j : κ) (y : V) : ∀ kvs : List (κ × V), valV kvs k = none → valV (kvs ++ [(k, y)]) j = if j = k then some y else valV kvs j
  | [], _ => by
    by_cases e : k = j
    · rw [if_pos e.symm]; exact valV_pos (p := (k, y)) e
    · rw [if_neg (fun z => e z.symm)]; exact valV_neg (p := (k, y)) e
  | p :: r, hn => by
    rw [List.cons_append]
    have hk : ¬ p.1 = k := fun z => by rw [valV_pos z] at hn; cases hn
    rw [valV_neg hk] at hn
    have ih := valV_snoc k j y r hn
    by_cases e : p.1 = j
    · rw [valV_pos e, valV_pos e, if_neg (fun z => hk (e.trans z))]
    · rw [valV_neg e, valV_neg e, ih]
theorem valV_put (kvs : List (κ × V)) (k j : κ) (y : V) : valV (putK kvs k y) j = if j = k then some y else valV kvs j := by
  unfold putK
  by_cases a : (kvs.any fun kv => decide (kv.1 = k)) = true
  · rw [if_pos a, valV_map]
    rw [valV_any] at a
    by_cases e : j = k
    · obtain ⟨x, hx⟩ := Option.isSome_iff_exists.mp a
      rw [if_pos e, e, hx, Option.map_some, if_pos rfl]
    · rw [if_neg e]
      cases valV kvs j with
      | none => rfl
      | some x => rw [Option.map_some, if_neg e]
  · rw [if_neg a]
    refine valV_snoc k j y kvs ?_
    rw [valV_any] at a
    cases q : valV kvs k with
    | none => rfl
    | some x => rw [q] at a; exact (a rfl).elim
theorem length_putK (kvs : List (κ × V)) (k : κ) (v : V) : (putK kvs k v).length ≤ kvs.length + 1 := by
  unfold putK
  split
  · rw [List.length_map]; omega
  · rw [List.length_append, List.length_cons, List.length_nil]; omega
theorem RelO.isSome_eq {o : Option V} {u : Option Value} (r : RelO o u) : o.isSome = u.isSome := by
  cases o with
  | none => cases u with
    | none => rfl
    | some _ => exact (show False from r).elim
  | some _ => cases u with
    | none => exact (show False from r).elim
    | some _ => rfl
theorem RelO.getD {o : Option V} {u : Option Value} {d : V} {d' : Value} (r : RelO o u) (rd : RelV d d') : RelV (o.getD d) (u.getD d') := by
  cases o with
  | none => cases u with
    | none => exact rd
    | some _ => exact (show False from r).elim
  | some _ => cases u with
    | none => exact (show False from r).elim
    | some _ => exact r

theorem KV.val {kvs : List (κ × V)} {vs : List (κ × Value)} (r : KV kvs vs) (k : κ) : RelO (valV kvs k) (valueAt vs k) := by
  unfold KV at r
  induction r with
  | nil => exact True.intro
  | @cons p q ps qs h t ih =>
    obtain ⟨h1, h2⟩ := h
    by_cases e : p.1 = k
    · have e' : q.1 = k := h1.symm.trans e
      have b : valueAt (q :: qs) k = some q.2 := by simp [valueAt, List.find?_cons, e']
      rw [valV_pos e, b]; exact h2
    · have e' : ¬ q.1 = k := fun z => e (h1.trans z)
      have b : valueAt (q :: qs) k = valueAt qs k := by simp [valueAt, List.find?_cons, e']
      rw [valV_neg e, b]; exact ih
theorem KV.any {kvs : List (κ × V)} {vs : List (κ × Value)} (r : KV kvs vs) (k : κ) : (kvs.any fun kv => decide (kv.1 = k)) = vs.any fun kv => decide (kv.1 = k) := by
  unfold KV at r
  induction r with
  | nil => rfl
  | cons h t ih => rw [List.any_cons, List.any_cons, ih, h.1]
theorem KV.repl {kvs : List (κ × V)} {vs : List (κ × Value)} (r : KV kvs vs) (k : κ) {y : V} {u : Value} (ry : RelV y u) :
    KV (kvs.map fun kv => if kv.1 = k then (kv.1, y) else kv) (vs.map fun kv => if kv.1 = k then (kv.1, u) else kv) := by
  unfold KV at r ⊢
  induction r with
  | nil => exact .nil
  | @cons p q ps qs h t ih =>
    rw [List.map_cons, List.map_cons]
    refine .cons ?_ ih
    obtain ⟨h1, h2⟩ := h
    by_cases e : p.1 = k
    · rw [if_pos e, if_pos (h1.symm.trans e)]; exact ⟨h1, ry⟩
    · rw [if_neg e, if_neg (fun z => e (h1.trans z))]; exact ⟨h1, h2⟩
theorem KV.put {kvs : List (κ × V)} {vs : List (κ × Value)} (r : KV kvs vs) (k : κ) {y : V} {u : Value} (ry : RelV y u) : KV (putK kvs k y) (stored vs k u) := by
  unfold putK stored
  rw [r.any k]
  by_cases e : (vs.any fun kv => decide (kv.1 = k)) = true
  · rw [if_pos e, if_pos e]; exact r.repl k ry
  · rw [if_neg e, if_neg e]; exact Paired.snoc r ⟨rfl, ry⟩
theorem KV.drop {kvs : List (κ × V)} {vs : List (κ × Value)} (r : KV kvs vs) (k : κ) : KV (dropK kvs k) (without vs k) := by
  unfold KV at r ⊢
  unfold dropK without
  induction r with
  | nil => exact .nil
  | @cons p q ps qs h t ih =>
    obtain ⟨h1, h2⟩ := h
    rw [List.filter_cons, List.filter_cons]
    by_cases e : p.1 = k
    · have a : ¬ decide (p.1 ≠ k) = true := by simp [e]
      have b : ¬ decide (q.1 ≠ k) = true := by simp [h1.symm.trans e]
      rw [if_neg a, if_neg b]; exact ih
    · have e' : ¬ q.1 = k := fun z => e (h1.trans z)
      have a : decide (p.1 ≠ k) = true := by simp [e]
      have b : decide (q.1 ≠ k) = true := by simp [e']
      rw [if_pos a, if_pos b]; exact .cons ⟨h1, h2⟩ ih
theorem KV.length {kvs : List (κ × V)} {vs : List (κ × Value)} (r : KV kvs vs) : kvs.length = vs.length := Paired.length r
theorem dropK_le (kvs : List (κ × V)) (k : κ) : (dropK kvs k).length ≤ kvs.length := List.length_filter_le _ _
end


theorem kV_is {P : Program} {w : World} {k : Key} {u : Value} (r : RelV (kV k) u) : (mixKind P w).is k u = true := by
  cases k with
  | inl i => obtain ⟨t, e⟩ := (show ∃ t, u = Value.int i t from r); subst e; exact mixKind_int P w i t
  | inr x => obtain ⟨t, e⟩ := (show ∃ t, u = Value.str x t from r); subst e; exact mixKind_str P w x t
theorem items_are {P : Program} {w : World} : ∀ {ks : List Key} {us : List Value}, Vals (ks.map kV) us → ItemsAre (mixKind P w) ks us
  | [], _, r => by rw [List.map_nil] at r; cases r; exact .nil
  | k :: ks, _, r => by
    rw [List.map_cons] at r
    cases r with
    | cons h t => exact .cons (kV_is h) (items_are t)

abbrev KT (H : Hp) : List (List Key × V) → List (List Key × Addr × Value) → Prop := Paired fun p q => p.1 = q.1 ∧ H q.2.1 = some (.tup (p.1.map kV)) ∧ RelV p.2 q.2.2
theorem KT.val {H : Hp} {kvs : List (List Key × V)} {xs : List (List Key × Addr × Value)} (r : KT H kvs xs) (k : List Key) : RelO (valV kvs k) ((atKey xs k).map (·.2)) := by
  induction r with
  | nil => exact True.intro
  | @cons p q ps qs h t ih =>
    obtain ⟨h1, _, h2⟩ := h
    by_cases e : p.1 = k
    · have e' : q.1 = k := h1.symm.trans e
      have b : atKey (q :: qs) k = some q.2 := by simp [atKey, List.find?_cons, e']
      rw [valV_pos e, b]; exact h2
    · have e' : ¬ q.1 = k := fun z => e (h1.trans z)
      have b : atKey (q :: qs) k = atKey qs k := by simp [atKey, List.find?_cons, e']
      rw [valV_neg e, b]; exact ih
theorem KT.repl {H : Hp} {kvs : List (List Key × V)} {xs : List (List Key × Addr × Value)} (r : KT H kvs xs) (k : List Key) {y : V} {u : Value} (ry : RelV y u) :
    KT H (kvs.map fun kv => if kv.1 = k then (kv.1, y) else kv) (xs.map (putAt k u)) := by
  induction r with
  | nil => exact .nil
  | @cons p q ps qs h t ih =>
    rw [List.map_cons, List.map_cons]
    refine .cons ?_ ih
    obtain ⟨h1, h2, h3⟩ := h
    unfold putAt
    by_cases e : p.1 = k
    · rw [if_pos e, if_pos (h1.symm.trans e)]; exact ⟨h1, h2, ry⟩
    · rw [if_neg e, if_neg (fun z => e (h1.trans z))]; exact ⟨h1, h2, h3⟩
theorem KT.put {H : Hp} {kvs : List (List Key × V)} {xs : List (List Key × Addr × Value)} (r : KT H kvs xs) (k : List Key) {b : Addr} {y : V} {u : Value} (hb : H b = some (.tup (k.map kV))) (ry : RelV y u) :
    KT H (putK kvs k y) (storedH xs k b u) := by
  have e : (kvs.any fun kv => decide (kv.1 = k)) = (atKey xs k).isSome := by
    rw [valV_any, (r.val k).isSome_eq, Option.isSome_map]
  unfold putK storedH
  rw [e]
  by_cases q : (atKey xs k).isSome = true
  · rw [if_pos q, if_pos q]; exact r.repl k ry
  · rw [if_neg q, if_neg q]; exact Paired.snoc r ⟨rfl, hb, ry⟩
theorem KT.keeps {H H' : Hp} {kvs : List (List Key × V)} {xs : List (List Key × Addr × Value)} (r : KT H kvs xs) (ht : ∀ b ys, H b = some (.tup ys) → H' b = some (.tup ys)) : KT H' kvs xs :=
  Paired.mapP r fun _ _ z => ⟨z.1, ht _ _ z.2.1, z.2.2⟩

section
variable {P : Program} {w : World} {H : Hp} {h : Heap} {a : Addr}
theorem rd_of {u : HO} (ok : HOk P w H h) (e : Rd H a u) : ObjOk P w H h a u := e.ok ok
theorem dk_rd {kvs : List (Key × V)} (ok : HOk P w H h) (e : Rd H a (.dK kvs)) : kvs.length ≤ sizeLine ∧ (a == sysModules) = false ∧ ∃ vs, KV kvs vs ∧ h.DictOf (mixKind P w) a vs :=
  show ObjOk P w H h a (.dK kvs) from rd_of ok e
theorem dk_of {kvs : List (Key × V)} (ok : HOk P w H h) (e : H a = some (.dK kvs)) : kvs.length ≤ sizeLine ∧ (a == sysModules) = false ∧ ∃ vs, KV kvs vs ∧ h.DictOf (mixKind P w) a vs := dk_rd ok (.inl e)
theorem key_of {ks : List Key} (ok : HOk P w H h) (e : H a = some (.tup (ks.map kV))) : (tupleKind (mixKind P w)).is h ks a := by
  obtain ⟨_, its, r, o, h1, h2, n, h3⟩ := (show ObjOk P w H h a (.tup (ks.map kV)) from ok a _ e)
  exact ⟨o, its.toArray, n, h1, h2, h3, by simpa using items_are r⟩
theorem dt_rd {kvs : List (List Key × V)} (ok : HOk P w H h) (e : Rd H a (.dT kvs)) : kvs.length ≤ sizeLine ∧ (a == sysModules) = false ∧
    ∃ xs, KT H kvs xs ∧ h.DictOfH (tupleKind (mixKind P w)) a xs := by
  obtain ⟨z, y, xs, r, o, es, ep, h1, h2, h3, h4, h5⟩ := (show ObjOk P w H h a (.dT kvs) from rd_of ok e)
  refine ⟨z, y, xs, r, o, es, ep, h1, h2, h3, h4, fun x hx => ?_, h5⟩
  have all : ∀ {l : List (List Key × V)} {m : List (List Key × Addr × Value)}, KT H l m → ∀ x ∈ m, (tupleKind (mixKind P w)).is h x.1 x.2.1 := by
    intro l m q
    induction q with
    | nil => intro x hx; exact nomatch hx
    | @cons p q ps qs hq t ih =>
      intro x hx
      rcases List.mem_cons.mp hx with e | hx
      · subst e
        exact key_of ok (by rw [← hq.1]; exact hq.2.1)
      · exact ih x hx
  exact all r x hx
theorem dt_of {kvs : List (List Key × V)} (ok : HOk P w H h) (e : H a = some (.dT kvs)) : kvs.length ≤ sizeLine ∧ (a == sysModules) = false ∧
    ∃ xs, KT H kvs xs ∧ h.DictOfH (tupleKind (mixKind P w)) a xs := dt_rd ok (.inl e)
end

def DGet (H : Hp) (a : Addr) (y : V) (r : Option V) : Prop :=
  (∃ kvs k, Rd H a (.dK kvs) ∧ y = kV k ∧ r = valV kvs k) ∨ ∃ kvs k b, Rd H a (.dT kvs) ∧ y = .ref b ∧ H b = some (.tup (k.map kV)) ∧ r = valV kvs k
def DPut (H : Hp) (a : Addr) (y v : V) (H' : Hp) : Prop :=
  (∃ kvs k, H a = some (.dK kvs) ∧ y = kV k ∧ kvs.length < sizeLine ∧ H' = upd H a (.dK (putK kvs k v))) ∨
  ∃ kvs k b, H a = some (.dT kvs) ∧ y = .ref b ∧ H b = some (.tup (k.map kV)) ∧ kvs.length < sizeLine ∧ H' = upd H a (.dT (putK kvs k v))
theorem DGet.k {H : Hp} {a : Addr} {kvs : List (Key × V)} {k : Key} (e : H a = some (.dK kvs)) : DGet H a (kV k) (valV kvs k) := .inl ⟨kvs, k, .inl e, rfl, rfl⟩
theorem DPut.k {H : Hp} {a : Addr} {kvs : List (Key × V)} {k : Key} {v : V} (e : H a = some (.dK kvs)) (hl : kvs.length < sizeLine) : DPut H a (kV k) v (upd H a (.dK (putK kvs k v))) := .inl ⟨kvs, k, e, rfl, hl, rfl⟩
section
variable {X : Cx} {pins : List (Addr × Obj)} {σ : St} {H : Hp} {s : Shared} {a : Addr} {y v : V} {u r : Value} {o : Option V} {A : Around} {E : Value → Shared → Prop}

theorem Inv.big (I : Inv X pins σ H s) : sysModules < s.heap.objs.size := by
  have h : mainGlobals < s.heap.objs.size := (I.mod.glob.keeps I.bk).lt
  exact Nat.lt_trans (by decide) h

theorem d_write {h' : Heap} {t' : Nat} {ob : HO} (I : Inv X pins σ H s) (mu : Mut (H a)) (hs : Heap.SameBut a s.heap h') (he : ∃ q, h'.get? a = some q) (new : ObjOk X.prog X.w (upd H a ob) h' a ob) :
    Inv X pins σ (upd H a ob) { s with heap := h', toks := t' } :=
  I.write (x := a) (e := a) mu (.inl rfl) (fun b q hb z => (hs.2 b hb).trans z) he new
theorem dk_new {P : Program} {w : World} {H' : Hp} {h' : Heap} {kvs : List (Key × V)} {vs : List (Key × Value)} (z : kvs.length ≤ sizeLine) (hd : (a == sysModules) = false) (rel : KV kvs vs) (dd : h'.DictOf (mixKind P w) a vs) :
    ObjOk P w H' h' a (.dK kvs) := ⟨z, hd, vs, rel, dd⟩
theorem d_setItem {H' : Hp} {Q : Unit → Shared → Prop} (hu : A.units + 1 < cLine) (I : Inv X pins σ H s) (g : DPut H a y v H') (ry : RelV y u) (rv : RelV v r) (h : ∀ s', Inv X pins σ H' s' → Q () s') :
    wpAny (model X.prog X.w) A (setItem (.ref a) u r) Q E s := by
  rcases g with ⟨kvs, k, e, ey, l, eH⟩ | ⟨kvs, k, b, e, ey, eb, l, eH⟩
  · subst ey eH
    obtain ⟨z, hd, vs, rel, dd⟩ := dk_of I.hok e
    have hz : vs.length ≤ sizeLine := by rw [← rel.length]; exact z
    have hl : (putK kvs k v).length ≤ sizeLine := by have := length_putK kvs k v; omega
    refine wpAny_setItem_pairs (hsz := hz) (kV_is ry) dd fun h' dd' hs => h _ ?_
    have he : ∃ q, h'.get? a = some q := let ⟨q, _, _, hq, _⟩ := dd'; ⟨q, hq⟩
    exact d_write I (by rw [e]; exact True.intro) hs he (dk_new hl hd (rel.put k rv) dd')
  · subst ey eH
    cases (show u = Value.ref b from ry)
    obtain ⟨z, hd, xs, rel, dd⟩ := dt_of I.hok e
    have hz : xs.length ≤ sizeLine := by rw [← Paired.length rel]; exact z
    have hl : (putK kvs k v).length ≤ sizeLine := by have := length_putK kvs k v; omega
    refine wpAny_setItem_heap (hsz := hz) (tupleKind_room_in1 hu) (key_of I.hok eb) dd fun h' dd' hs => h _ ?_
    obtain ⟨q, es, ep, hq, h2, h3, h4, _, h5⟩ := dd'
    refine d_write I (by rw [e]; exact True.intro) hs ⟨q, hq⟩ ⟨hl, hd, _, (rel.put k eb rv).keeps fun c ys ec => ?_, q, es, ep, hq, h2, h3, h4, h5⟩
    rw [upd_ne (ne_of ec e (fun z => nomatch z))]
    exact ec
end

section
variable {X : Cx} {pins : List (Addr × Obj)} {σ : St} {H : Hp} {s : Shared} {a : Addr} {kvs : List (Key × V)} {k : Key} {u : Value} {A : Around} {E : Value → Shared → Prop}
theorem d_pop {v : V} {more : List Value} {Q : Value → Shared → Prop} (I : Inv X pins σ H s) (e : H a = some (.dK kvs)) (ry : RelV (kV k) u) (l : valV kvs k = some v) (hm : more = [] ∨ ∃ x, more = [x])
    (h : ∀ w' s', Inv X pins σ (upd H a (.dK (dropK kvs k))) s' → RelV v w' → Q w' s') : wpAny (model X.prog X.w) A (call (.builtin "dict.pop") (.ref a :: u :: more)) Q E s := by
  obtain ⟨z, hd, vs, rel, dd⟩ := dk_of I.hok e
  obtain ⟨w', hw, rw'⟩ := RelO.some_of (v := v) (o := valueAt vs k) (by rw [← l]; exact rel.val k)
  have hp : (keyPart u).isSome = true := by
    cases k with
    | inl i => obtain ⟨t, q⟩ := (show ∃ t, u = Value.int i t from ry); subst q; rfl
    | inr x => obtain ⟨t, q⟩ := (show ∃ t, u = Value.str x t from ry); subst q; rfl
  have ha : argsOk "dict.pop" ⟨.ref a :: u :: more, []⟩ := by
    rcases hm with q | ⟨x, q⟩
    · subst q; exact PySem.F.args_dict_pop_2 _ _
    · subst q; exact PySem.F.args_dict_pop_3 _ _ _
  refine call_meetsIn PySem.F.slot_dict_pop dd.typeIs PySem.F.entry_dict_pop ha (meets_dict_pop_there (mixKind X.prog X.w) a (kV_is ry) more hm hp)
    ⟨vs, w', dd, by rw [← rel.length]; exact z, hw, fun h' dd' hs => h w' _ ?_ rw'⟩
  have he : ∃ q, h'.get? a = some q := let ⟨q, _, _, hq, _⟩ := dd'; ⟨q, hq⟩
  exact d_write I (by rw [e]; exact True.intro) hs he (dk_new (Nat.le_trans (dropK_le kvs k) z) hd (rel.drop k) dd')
theorem d_popD {r : Value} {Q : Value → Shared → Prop} (I : Inv X pins σ H s) (e : H a = some (.dK kvs)) (ry : RelV (kV k) u) (l : valV kvs k = none) (h : ∀ s', Inv X pins σ H s' → Q r s') :
    wpAny (model X.prog X.w) A (call (.builtin "dict.pop") [.ref a, u, r]) Q E s := by
  obtain ⟨z, hd, vs, rel, dd⟩ := dk_of I.hok e
  have hn : valueAt vs k = none := RelO.none_of (by rw [← l]; exact rel.val k)
  have hp : (keyPart u).isSome = true := by
    cases k with
    | inl i => obtain ⟨t, q⟩ := (show ∃ t, u = Value.int i t from ry); subst q; rfl
    | inr x => obtain ⟨t, q⟩ := (show ∃ t, u = Value.str x t from ry); subst q; rfl
  exact call_meetsIn PySem.F.slot_dict_pop dd.typeIs PySem.F.entry_dict_pop (PySem.F.args_dict_pop_3 _ _ _) (meets_dict_pop_default (mixKind X.prog X.w) a (kV_is ry) hd hp r) ⟨vs, dd, hn, h _ (I.tok _)⟩
end


def sDPut (td ty tv : TE) : TS := fun D σ H => tv σ H fun v H1 => td σ H1 fun x H2 => ty σ H2 fun y H3 => ∃ a H4, x = .ref a ∧ DPut H3 a y v H4 ∧ D.nx σ H4
section
variable {X : Cx} {o i e value : Expr} {pos pos' tpos : Pos} {td ty tv : TE}
theorem ps_dput (hu : X.A.units + 1 < cLine) (ho : PE X o td) (hi : PE X i ty) (hv : PE X value tv) (hs : swapsWith value (some (.Subscript o i pos')) pos.line X.env = pure false) :
    PS X (.Assign [.Subscript o i pos'] value pos) (sDPut td ty tv) := by
  intro pins s σ H D I h
  refine wpAny_Assign_Subscript (thn (hv pins s σ H _ I h) fun r s1 ⟨v, H1, I1, rv, q1⟩ => thn (ho pins s1 σ H1 _ I1 q1) fun u s2 ⟨x, H2, I2, rx, q2⟩ => thn (hi pins s2 σ H2 _ I2 q2) fun iv s3 ⟨y, H3, I3, ry, a, H4, ex, g, q3⟩ => ?_) hs
  subst ex
  obtain rfl : u = Value.ref a := rx
  exact d_setItem hu I3 g ry rv fun s4 I4 => ⟨σ, H4, I4, q3⟩
end


theorem dk_empty {P : Program} {w : World} {H : Hp} (h : Heap) (hb : sysModules < h.objs.size) : ObjOk P w H (h.push { cls := .type "dict", data := .dict #[] }) h.objs.size (.dK []) :=
  ⟨Nat.zero_le _, beq_eq_false_iff_ne.mpr (Ne.symm (Nat.ne_of_lt hb)), [], .nil, Heap.DictOf.new h⟩
def tDNewK : TE := fun _ H Q => ∀ p, H p = none → Q (.ref p) (upd H p (.dK []))
section
variable {X : Cx} {pos : Pos}
theorem pe_dnewK : PE X (.Dict [] [] pos) tDNewK := fun pins s σ H Q I h =>
  wpAny_Dict_empty ⟨.ref s.heap.objs.size, _, I.laid (a := s.heap.objs.size) (o := .dK []) (t' := s.toks) (fun _ _ q => Heap.get?_push_of_some _ q) (Nat.le_refl _) (dk_empty s.heap I.big), rfl, h _ (I.hok.fresh (Nat.le_refl _))⟩
end

structure M2 (X : Cx) (o : Expr) (m : Str) (apos : Pos) (e f : Expr) (cpos : Pos) : Prop where
  base : attributeBase o m X.env (eval o X.env) = eval o X.env
  few : ((backTo cpos (starEach [e, f] X.env)).all (fun x => !x.1) && (backToKw cpos (keywordEach [] X.env)).all (fun x => x.1.isSome)
    && decide (([e, f] : List Expr).length + ([] : List Keyword).length + (if ([] : List Keyword).isEmpty then 0 else 1) < 30)) = true
  line : (apos.endLine == cpos.line) = true
  trees : backTo cpos (starEach [e, f] X.env) = [(false, eval e X.env), (false, eval f X.env)]

def IsD (H : Hp) (a : Addr) : Prop := (∃ kvs, Rd H a (.dK kvs)) ∨ ∃ kvs, Rd H a (.dT kvs)
theorem isD_at {X : Cx} {pins : List (Addr × Obj)} {σ : St} {H : Hp} {s : Shared} {a : Addr} (I : Inv X pins σ H s) (d : IsD H a) :
    s.TypeIs (.ref a) "dict" ∧ (∀ b, Value.ref a = .ref b → ∃ ob, s.heap.get? b = some ob ∧ ob.dict = none) ∧ (a == sysModules) = false := by
  rcases d with ⟨kvs, e⟩ | ⟨kvs, e⟩
  · obtain ⟨_, hd, vs, _, dd⟩ := dk_rd I.hok e
    refine ⟨dd.typeIs, fun b q => ?_, hd⟩
    cases q
    obtain ⟨ob, _, _, h1, h2, _⟩ := dd
    exact ⟨ob, h1, h2.2.1⟩
  · obtain ⟨_, hd, xs, _, dd⟩ := dt_rd I.hok e
    refine ⟨dd.typeIs, fun b q => ?_, hd⟩
    cases q
    obtain ⟨ob, _, _, h1, h2, _⟩ := dd
    exact ⟨ob, h1, h2.2.1⟩

section
variable {X : Cx} {pins : List (Addr × Obj)} {σ : St} {H : Hp} {s : Shared} {a : Addr} {y d : V} {u r : Value} {o : Option V} {A : Around} {E : Value → Shared → Prop}
theorem d_get2 {Q : Value → Shared → Prop} (hu : A.units + 1 < cLine) (I : Inv X pins σ H s) (g : DGet H a y o) (ry : RelV y u) (rd : RelV d r) (h : ∀ w' s', Inv X pins σ H s' → RelV (o.getD d) w' → Q w' s') :
    wpAny (model X.prog X.w) A (call (.builtin "dict.get") [.ref a, u, r]) Q E s := by
  rcases g with ⟨kvs, k, e, ey, l⟩ | ⟨kvs, k, b, e, ey, eb, l⟩
  · subst ey
    obtain ⟨z, hd, vs, rel, dd⟩ := dk_rd I.hok e
    refine call_meetsIn PySem.F.slot_dict_get dd.typeIs PySem.F.entry_dict_get (PySem.F.args_dict_get_3 _ _ _) (meets_dict_get_default (mixKind X.prog X.w) a (kV_is ry) hd r) ⟨_, dd.mapOf, h _ _ (I.tok _) ?_⟩
    rw [l]
    exact (rel.val k).getD rd
  · subst ey
    cases (show u = Value.ref b from ry)
    obtain ⟨z, hd, xs, rel, dd⟩ := dt_rd I.hok e
    refine call_meetsIn PySem.F.slot_dict_get dd.typeIs PySem.F.entry_dict_get (PySem.F.args_dict_get_3 _ _ _) (meetsH_dict_get_default (tupleKind (mixKind X.prog X.w)) a b hd r) ⟨tupleKind_room_in1 hu, k, xs, key_of I.hok eb, dd, h _ _ (I.tok _) ?_⟩
    rw [l]
    exact (rel.val k).getD rd
end

def tDGet2 (td ty tx : TE) : TE := fun σ H Q => td σ H fun x H1 => ∃ a, x = .ref a ∧ IsD H1 a ∧ ty σ H1 fun y H2 => tx σ H2 fun z H3 => ∃ o, DGet H3 a y o ∧ Q (o.getD z) H3
section
variable {X : Cx} {o e f : Expr} {apos cpos : Pos} {td ty tx : TE}
theorem pe_dget2 (hu : X.A.units + 1 < cLine) (ho : PE X o td) (he : PE X e ty) (hf : PE X f tx) (m : M2 X o "get" apos e f cpos) : PE X (.Call (.Attribute o "get" apos) [e, f] [] cpos) (tDGet2 td ty tx) := by
  intro pins s σ H Q I h
  refine wpAny_Call_method m.base m.few m.line PySem.F.plainAttrs_dict PySem.F.slot_dict_get PySem.F.type_dict_get (thn (ho pins s σ H _ I h) fun u s1 ⟨x, H1, I1, rx, a, ex, d, q1⟩ => ?_)
  subst ex
  obtain rfl : u = Value.ref a := rx
  obtain ⟨t1, t2, _⟩ := isD_at I1 d
  refine ⟨t1, t2, ?_⟩
  rw [m.trees]
  refine Calls.callWith_builtin rfl (Calls.evalArgs_plain (Calls.spliced_cons (thn (he pins s1 σ H1 _ I1 q1) fun iv s2 ⟨y, H2, I2, ry, q2⟩ =>
    Calls.spliced_cons (thn (hf pins s2 σ H2 _ I2 q2) fun fv s3 ⟨z, H3, I3, rz, ov, g, q3⟩ => Calls.spliced_nil ?_))))
  exact d_get2 hu I3 g ry rz fun w' s4 I4 rw' => ⟨_, H3, I4, rw', q3⟩
end

section
variable {X : Cx} {pins : List (Addr × Obj)} {σ : St} {H : Hp} {s : Shared} {a : Addr} {kvs : List (Key × V)} {A : Around} {E : Value → Shared → Prop}
end


section
variable {X : Cx} {pins : List (Addr × Obj)} {σ : St} {H : Hp} {s : Shared} {a : Addr} {y : V} {u : Value} {A : Around} {E : Value → Shared → Prop}
end
section
variable {X : Cx}
end
section
variable {κ : Type} [DecidableEq κ]
end
open PySem PySem.Spec PyProof.Rows PySem.SeqAt
mutual
inductive RdD (K : PySem.W.Frag) (H : Hp) : V → PyData → Prop
  | non : RdD K H .non .none
  | bl (b : Bool) : RdD K H (.bl b) (.bool b)
  | int (i : Int) : RdD K H (.int i) (.int i)
  | str (x : Str) : RdD K H (.str x) (.str x)
  | lst {a : Addr} {xs : List V} {ds : List PyData} : SqL K H a xs → RdDs K H xs ds → RdD K H (.ref a) (.list ds)
  | tup {a : Addr} {xs : List V} {ds : List PyData} : SqT K H a xs → RdDs K H xs ds → RdD K H (.ref a) (.tuple ds)
inductive RdDs (K : PySem.W.Frag) (H : Hp) : List V → List PyData → Prop
  | nil : RdDs K H [] []
  | cons {x : V} {d : PyData} {xs : List V} {ds : List PyData} : RdD K H x d → RdDs K H xs ds → RdDs K H (x :: xs) (d :: ds)
end
section
variable {X : Cx} {pins : List (Addr × Obj)} {σ : St} {H : Hp} {s : Shared}
mutual
theorem RdD.reads (I : Inv X pins σ H s) : ∀ {x : V} {d : PyData} {u : Value}, RdD X.K H x d → RelV x u → ∃ as, Reads s.heap u d as
  | _, _, _, .non, r => by cases r; exact ⟨_, .none⟩
  | _, _, _, .bl b, r => by cases r; exact ⟨_, .bool b⟩
  | _, _, _, .int i, r => by obtain ⟨t, rfl⟩ := r; exact ⟨_, .int i t⟩
  | _, _, _, .str x, r => by obtain ⟨t, rfl⟩ := r; exact ⟨_, .str x t⟩
  | _, _, _, .lst hq hs, r => by
    cases r
    obtain ⟨its, rv, pl, hz⟩ := I.list hq
    obtain ⟨as, ra⟩ := RdDs.reads I hs rv
    obtain ⟨o, n, e, hc, hd, dd⟩ := pl
    exact ⟨_, .list e hc dd (by simpa using ra)⟩
  | _, _, _, .tup hq hs, r => by
    cases r
    obtain ⟨its, rv, pl, hz⟩ := I.tuple hq
    obtain ⟨as, ra⟩ := RdDs.reads I hs rv
    obtain ⟨o, e, hc, n, dd⟩ := pl
    exact ⟨_, .tuple e hc dd (by simpa using ra)⟩
theorem RdDs.reads (I : Inv X pins σ H s) : ∀ {xs : List V} {ds : List PyData} {us : List Value}, RdDs X.K H xs ds → Vals xs us → ∃ as, ReadsAll s.heap us ds as
  | _, _, _, .nil, .nil => ⟨_, .nil⟩
  | _, _, _, .cons h hs, .cons r rs => by
    obtain ⟨as, ra⟩ := RdD.reads I h r
    obtain ⟨bs, rb⟩ := RdDs.reads I hs rs
    exact ⟨_, .cons ra rb⟩
end
end
section
variable {X : Cx}
def rEqD (K : PySem.W.Frag) (neg : Bool) : R2 := fun x y H Q => ∃ dx dy, RdD K H x dx ∧ RdD K H y dy ∧ shaped dx = true ∧ shaped dy = true ∧ Q (.bl (if neg then !PyData.eqv dx dy else PyData.eqv dx dy)) H
theorem op_neD (hu : X.A.units + 64 < cLine) : OpR X (compareOp .NotEq) (rEqD X.K true) := by
  intro pins s σ H x y v u Q I rx ry h
  obtain ⟨dx, dy, hx, hy, sx, sy, q⟩ := h
  obtain ⟨as, ra⟩ := hx.reads I rx
  obtain ⟨bs, rb⟩ := hy.reads I ry
  exact ne_dataH ra rb sx sy hu (fin_bl I q rfl)
end
section
variable {X : Cx}
end
structure FnAt (P : Program) (w : World) (K : PySem.W.Frag) (mg : Str → Option Value) (base : Heap) (x : Str) (k : Nat) (ps : List Str) (sp : Sp) : Prop where
  ex : ∃ (f : Addr) (fd : FuncData), FnOk P w K mg base CX0 k f fd ps sp ∧ mg x = some (.ref f) ∧ PySem.W.keepIn K (.ref f) = true ∧ Binds K fd ps []
theorem pe_fn {X : Cx} {x : Str} {ps : List Str} {sp : Sp} {k j : Nat} {p pos : Pos} {e : Expr} {es : List Expr} {t : TA} (F : FnAt X.prog X.w X.K X.mg X.base x k ps sp) (hr : Room j X.A) (hj : k ≤ j) (hg : Gl X x) (ha : PA X (e :: es) t)
    (hdb : (x == ("__debug__" : Str)) = false := by decide) (he : starEach (e :: es) X.env = (false, eval e X.env) :: starEach es X.env := by rfl) (hpl : (backTo pos (starEach es X.env)).any (·.1) = false := by rfl) :
    PE X (.Call (.Name x p) (e :: es) [] pos) (tCall sp [] E0 t) := by
  obtain ⟨f, fd, G, hm, hk, hb⟩ := F.ex
  exact pe_call G (hr.mono hj) hg hm hk hb .nil pass0 ha hdb he hpl
structure TopFn (K : PySem.W.Frag) (mg : Str → Option Value) (x : Str) (st : Stmt) (ps : List Str) : Prop where
  ex : ∃ (f : Addr) (fd : FuncData), Fun K x x st f fd ∧ mg x = some (.ref f) ∧ ∀ us : List Value, us.length = ps.length → bindArgs fd ⟨us, []⟩ = pure (ps.zip us)
theorem topFn_mk {K : PySem.W.Frag} {mg : Str → Option Value} {h : Heap} {x : Str} {st : Stmt} {ps : List Str} {f : Addr} {oc : Value} {od an : Option Addr} {osl : Array (Option Value)} {kV doc pm cdv ct : Value} (X : K.In h) (G : h.Ns mainGlobals mg)
    (hb : ∀ (kV doc pm : Value) (an : Option Addr) (cdv ct : Value) (us : List Value), us.length = ps.length → bindArgs (PySem.W.fnOf x x (defArgs st) (defBody st) (defScope st) .none kV doc pm an cdv ct) ⟨us, []⟩ = pure (ps.zip us))
    (a : PySem.W.nsIn K mainGlobals x = some (some (.ref f))) (l : K.lookup f = some ⟨oc, od, .func (PySem.W.fnOf x x (defArgs st) (defBody st) (defScope st) .none kV doc pm an cdv ct), osl⟩)
    (c : PySem.W.codeIn K cdv x = true) (k : PySem.W.keepIn K (.ref f) = true) : TopFn K mg x st ps :=
  ⟨f, _, fun_mk l c k, PySem.W.mg_of X G a, fun us => hb kV doc pm an cdv ct us⟩
theorem topFn_of {K : PySem.W.Frag} {mg : Str → Option Value} {h : Heap} {x : Str} {st : Stmt} {ps : List Str} {f : Addr} {oc : Value} {od an : Option Addr} {osl : Array (Option Value)} {kV doc pm cdv ct : Value} (X : K.In h) (G : h.Ns mainGlobals mg)
    (hb : ∀ (kV doc pm : Value) (an : Option Addr) (cdv ct : Value) (us : List Value), us.length = ps.length → bindArgs (PySem.W.fnOf x x (defArgs st) (defBody st) (defScope st) .none kV doc pm an cdv ct) ⟨us, []⟩ = pure (ps.zip us))
    (a : PySem.W.nsIn K mainGlobals x = some (some (.ref f))) (l : K.lookup f = some ⟨oc, od, .func (PySem.W.fnOf x x (defArgs st) (defBody st) (defScope st) .none kV doc pm an cdv ct), osl⟩)
    (c : PySem.W.codeIn K cdv x = true) (k : PySem.W.keepIn K (.ref f) = true) : TopFn (KOf X) mg x st ps := topFn_mk X G hb a l c k
section
variable {P : Program} {w : World} {K : PySem.W.Frag} {mg : Str → Option Value} {base : Heap}
theorem TopFn.at {x : Str} {st : Stmt} {N ps : List Str} {k : Nat} {sp : Sp} (T : TopFn K mg x st ps) (S : FnScope N ps (defScope st)) (len : ∀ vs H Q E, sp vs H Q E → vs.length = ps.length)
    (hbody : ∀ (f : Addr) (cdv : Value) (A : Around) (outer : List Env) (s : Shared) (H : Hp) (vs : List V) (Q : VK) (E : XK), Room k (A.deeper (envOfC x (defScope st) s.heap.objs.size f cdv)) → sp vs H Q E →
      ∃ t, PSs (cxOf CX0 P w K mg base N x (defScope st) f cdv A outer s H E).nox (defBody st) t ∧ t { nx := fun _ H' => Q .non H', rt := Q } (start N vs) H) : FnAt P w K mg base x (k + 1) ps sp := by
  obtain ⟨f, fd, F, hm, hb⟩ := T.ex
  exact ⟨f, fd, F.ok S len fun cdv A outer s H vs Q E hr h => hbody f cdv A outer s H vs Q E hr h, hm, F.kp, .all hb⟩
end
theorem hu64 {A : Around} {k : Nat} (hr : Room k A) : A.units + 64 < cLine := hr.units
def Box (H : Hp) (b : Addr) : Prop := ∃ x y z : Int, H b = some (.lst [.int x, .int y, .int z])
structure Oth (b : Addr) (H H' : Hp) : Prop where
  box : Box H' b
  oth : ∀ c o, H c = some o → c ≠ b → H' c = some o
theorem Oth.refl {b : Addr} {H : Hp} (h : Box H b) : Oth b H H := ⟨h, fun _ _ h _ => h⟩
theorem Oth.trans {b : Addr} {H H1 H2 : Hp} (a : Oth b H H1) (c : Oth b H1 H2) : Oth b H H2 := ⟨c.box, fun d o h n => c.oth d o (a.oth d o h n) n⟩
theorem Oth.free {b c : Addr} {H H' : Hp} (a : Oth b H H') (h : H' c = none) : H c = none := by
  cases e : H c with
  | none => rfl
  | some o =>
    by_cases hb : c = b
    · subst hb
      obtain ⟨x, y, z, q⟩ := a.box
      rw [q] at h; cases h
    · rw [a.oth c o e hb] at h; cases h
theorem Box.ne {H : Hp} {b c : Addr} (h : Box H b) (n : H c = none) : c ≠ b := fun e => by
  subst e
  obtain ⟨x, y, z, q⟩ := h
  rw [q] at n; cases n
theorem Oth.new {b p : Addr} {H H1 : Hp} {o : HO} (a : Oth b H H1) (h : H1 p = none) : Oth b H (upd H1 p o) := by
  have hb := a.box.ne h
  refine ⟨?_, fun c u e n => ?_⟩
  · obtain ⟨x, y, z, q⟩ := a.box
    exact ⟨x, y, z, by rw [upd_ne (Ne.symm hb)]; exact q⟩
  · rw [upd_ne (ne_of_none (a.oth c u e n) h)]
    exact a.oth c u e n
theorem Same.new {H : Hp} {p : Addr} {o : HO} (h : H p = none) : Same H (upd H p o) := fun b u e => by
  rw [upd_ne (ne_of_none e h)]
  exact e
def bigLine : Int := 10000000000000000000000000000000000000000
def spCell (K : PySem.W.Frag) : Sp := fun vs H Q _ => ∃ (a : Addr) (ns : List Int) (k : Nat), vs = [.ref a, .int k] ∧ SqL K H a (ns.map V.int) ∧ ∀ c : Int, Q (.int c) H
def spMixed : Sp := fun vs H Q _ => ∃ a k : Int, vs = [.int a, .int k] ∧ ∀ r : Int, Q (.int r) H
def spBox : Sp := fun vs H Q _ => ∃ c : Int, vs = [.int c] ∧ ∀ (b : Addr) (x y z : Int), H b = none → Q (.ref b) (upd H b (.lst [.int x, .int y, .int z]))
def spTake : Sp := fun vs H Q _ => ∃ (b : Addr) (n : Int), vs = [.ref b, .int n] ∧ Box H b ∧ 0 < n ∧ n < bigLine ∧ ∀ (r : Int) (H' : Hp), 0 ≤ r → r < n → Oth b H H' → Q (.int r) H'
section
variable {X : Cx} {x : Str} {pos : Pos}
theorem pe_globS {z : Str} (hg : Gl X x) (h : ∃ t, X.mg x = some (.str z t)) (hd : (x == ("__debug__" : Str)) = false := by decide) : PE X (.Name x pos) (tC (.str z)) := by
  obtain ⟨t, e⟩ := h
  exact pe_glob hg e ⟨t, rfl⟩ hd
theorem pe_globI {i : Int} (hg : Gl X x) (h : ∃ t, X.mg x = some (.int i t)) (hd : (x == ("__debug__" : Str)) = false := by decide) : PE X (.Name x pos) (tC (.int i)) := by
  obtain ⟨t, e⟩ := h
  exact pe_glob hg e ⟨t, rfl⟩ hd
end
def spLaw (K : PySem.W.Frag) : Sp := fun vs H Q _ => ∃ (a : Addr) (ns : List Int), vs = [.ref a] ∧ SqL K H a (ns.map V.int) ∧ ns.length ≤ 63 ∧ ∀ H', Q (.bl true) H'
theorem law_len {K : PySem.W.Frag} {x : Str} : ∀ vs H Q E, spLaw K vs H Q E → vs.length = [x].length := fun vs H Q E h => by
  obtain ⟨a, ns, rfl, _⟩ := h
  rfl
theorem law_mk {P : Program} {w : World} {K : PySem.W.Frag} {mg : Str → Option Value} {fa : Addr} {st : Stmt} {x : Str} {N : List Str} {k : Nat} (T : TopFn K mg "law" st [x]) (hfa : mg "law" = some (.ref fa)) (S : FnScope N [x] (defScope st))
    (body : ∀ (base : Heap), K.In base → base.Ns mainGlobals mg → ∀ (f : Addr) (cdv : Value) (A : Around) (outer : List Env) (s : Shared) (H : Hp) (vs : List V) (Q : VK) (E : XK), Room k (A.deeper (envOfC "law" (defScope st) s.heap.objs.size f cdv)) → spLaw K vs H Q E →
      ∃ t, PSs (cxOf CX0 P w K mg base N "law" (defScope st) f cdv A outer s H E).nox (defBody st) t ∧ t { nx := fun _ H' => Q .non H', rt := Q } (start N vs) H) :
    ∃ fd : FuncData, (∀ (s : Shared) (v : Value), BindsTo s fd ⟨[v], []⟩ [(x, v)]) ∧ ∀ base : Heap, K.In base → base.Ns mainGlobals mg → FnOk P w K mg base CX0 (k + 1) fa fd [x] (spLaw K) := by
  obtain ⟨f, fd, F, hm, hb⟩ := T.ex
  rw [hfa] at hm
  cases hm
  exact ⟨fd, fun s v => .of_eq (hb [v] rfl), fun base h1 h2 => F.ok S law_len fun cdv A outer s H vs Q E hr h => body base h1 h2 fa cdv A outer s H vs Q E hr h⟩
theorem law_walk {l : PySem.W.OpenLaw} {q : Program} {loose : List Str} {XP : (Str → Option Value) → Heap → Prop} {YP : World → Heap → Prop} {d : DefRec} {K : Params → PySem.W.Frag} {x : Str} {k : Nat} (hn : l.most = some 63) (hdf : d.params.defaults = []) (hk : Room k callerA)
    (hY : ∀ (w : World) (h : Heap), YP w h → (K w.params).In h)
    (F : ∀ (w : World) (mg : Str → Option Value) (fa : Addr) (h : Heap), (K w.params).In h → h.Ns mainGlobals mg → mg d.name = some (.ref fa) →
      ∃ fd : FuncData, (∀ (s : Shared) (u : Value), BindsTo s fd ⟨[u], []⟩ [(x, u)]) ∧ ∀ base : Heap, (K w.params).In base → base.Ns mainGlobals mg → FnOk l.prog w (K w.params) mg base CX0 k fa fd [x] (spLaw (K w.params))) :
    PySem.W.WalkO q loose XP YP l.row.toRowW d [] (fun f vs => PySem.call f vs) :=
  L2.walk_of (n := 63) (k := k) (x := x) (CX := fun _ => CX0) (sp := fun w => spLaw (K w.params)) hn (by decide) hdf hk hY F (fun _ _ a ns hl _ hS => ⟨a, ns, rfl, hS, hl, fun _ => rfl⟩) fun _ _ _ _ _ z => z
theorem glob_I {K : PySem.W.Frag} {h : Heap} {mg : Str → Option Value} {n : Str} {v : Value} {i : Int} (X : K.In h) (G : h.Ns mainGlobals mg) (e : PySem.W.nsIn K mainGlobals n = some (some v)) (hv : ∃ t, v = .int i t) : ∃ t, mg n = some (.int i t) := by
  obtain ⟨t, rfl⟩ := hv
  exact ⟨t, PySem.W.mg_of X G e⟩
theorem glob_S {K : PySem.W.Frag} {h : Heap} {mg : Str → Option Value} {n : Str} {x z : Str} {t : Tok} (X : K.In h) (G : h.Ns mainGlobals mg) (e : PySem.W.nsIn K mainGlobals n = some (some (.str x t))) (hv : x = z) : ∃ t, mg n = some (.str z t) := by
  subst hv
  exact ⟨t, PySem.W.mg_of X G e⟩
open PySem PySem.Spec PyProof.Rows PySem.W
open Builtin Builtin.ObjectAttr

section
variable {prog : Program} {w : World} {A : Around} {E : Value → Shared → Prop} {K : Frag} {C f : Addr} {R : Result → Shared → Prop} {h : Heap} {g : Array GenState} {d : Drawn} {t : Nat} {os : OsState}
end
section
variable {prog : Program} {w : World} {A : Around} {E : Value → Shared → Prop} {K : Frag} {C e : Addr} {R : Result → Shared → Prop} {h : Heap} {g : Array GenState} {d : Drawn} {t : Nat} {os : OsState}
end
section
variable {prog : Program} {w : World} {A : Around} {E : Value → Shared → Prop} {K : Frag} {C x : Addr} {R : Result → Shared → Prop} {s : Shared}
end
section
variable {prog : Program} {w : World} {A : Around} {E : Value → Shared → Prop} {K : Frag} {C x : Addr} {R : Result → Shared → Prop} {s : Shared} {name : Str}
end
section
variable {X : Cx} {pins : List (Addr × Obj)} {σ : St} {H : Hp} {s : Shared} {A : Around} {E : Value → Shared → Prop}
end
section
variable {X : Cx} {o e value : Expr} {f : Str} {pos pos' tpos : Pos} {ta tv : TE}
end
section
variable {X : Cx} {k : Nat} {f C : Addr} {fd : FuncData} {ps : List Str} {x n : Str} {p pos : Pos} {a : Expr} {t : TA}
end
section
variable {X : Cx}
theorem strsAre_of : ∀ {ys : List Str} {us : List Value}, Vals (ys.map V.str) us → StrsAre us ys
  | [], _, .nil => .nil
  | y :: r, _, .cons h t => by
    obtain ⟨k, rfl⟩ := h
    exact .cons y k (strsAre_of t)
theorem mt_join : MtR X "str.join" (fun x xs H Q => ∃ z a ys, x = .str z ∧ xs = [.ref a] ∧ SqL X.K H a (ys.map V.str) ∧ (ys.map (·.length)).sum + ys.length * z.length ≤ 16777216 ∧ Q (.str (Txt.join z ys)) H) := by
  intro pins s σ H x xs v us Q I rx rs h
  obtain ⟨z, a, ys, rfl, rfl, hq, hz, q⟩ := h
  obtain ⟨t, rfl⟩ := rx
  obtain ⟨u, rfl, ru⟩ := vals1 rs
  cases ru
  obtain ⟨its, rv, pl, _⟩ := I.list hq
  exact join_list pl.isList (by simpa using strsAre_of rv) hz fun t' k => ⟨.str _, H, I.tok _, ⟨_, rfl⟩, q⟩
def Ite (K : PySem.W.Frag) (a : Addr) : It :=
  ⟨fun i H => ∃ xs x, SqL K H a xs ∧ xs[i]? = some x, fun i H v H' => ∃ p x, v = .ref p ∧ H p = none ∧ (∀ xs, SqL K H a xs → xs[i]? = some x) ∧ H' = upd H p (.tup [.int i, x]), fun i H => ∃ xs, SqL K H a xs ∧ xs.length ≤ i⟩
theorem turn_enum {P : Program} {w : World} {K : PySem.W.Frag} {es : List Expr} {x1} {tp : Pos} (a e it : Addr) (hne : e ≠ it) : Turn P w K (.Tuple es x1 tp) (Ite K a) [e, it] e (fun i h => (∃ old, IsEnum h e it i old) ∧ h.IsListIter it a i) where
  mem := by simp
  obj := fun i h st b hb => by
    obtain ⟨⟨old, st1⟩, st2⟩ := st
    rcases List.mem_cons.mp hb with z | z
    · subst z
      exact ⟨_, st1, fun v z => by
        have z' : Data.fields _ = Data.cell v := z
        cases z'⟩
    · have z : b = it := by simpa using z
      subst z
      obtain ⟨o, e, c, d⟩ := st2
      exact ⟨o, e, fun v z => by rw [d] at z; cases z⟩
  keep := fun i h h' st k => by
    obtain ⟨⟨old, st1⟩, st2⟩ := st
    exact ⟨⟨old, k e (by simp) _ st1⟩, st2.at fun o q => k it (by simp) o q⟩
  item := by
    intro X hP hw hK hc i pins s σ H E I hf st hg
    subst hP hw hK
    obtain ⟨xs, x, hq, hx⟩ := hg
    obtain ⟨⟨old, st1⟩, st2⟩ := st
    obtain ⟨its, rv, p, hz⟩ := I.list hq
    obtain ⟨u, hu, ru⟩ := rv.get hx
    obtain ⟨f0, f1, f2, f3, f4, f5⟩ := hf e (by simp)
    obtain ⟨g0, g1, g2, g3, g4, g5⟩ := hf it (by simp)
    have hfp : H s.heap.objs.size = none := I.hok.fresh (Nat.le_refl _)
    refine wpAny_pyNext_enum_item st1 st2 p.isList (x := u) (by simpa using hu) hne fun h' eo it' tp' sz kk => ⟨_, rfl, ?_⟩
    refine wpAny_letOwnedTupleGo_enum (s := { s with heap := h', toks := s.toks + 1 }) eo fun h2 e2 sb => ?_
    have eP : e ≠ s.heap.objs.size := Nat.ne_of_lt (Heap.lt_size st1)
    have iP : it ≠ s.heap.objs.size := by obtain ⟨o, q, _⟩ := st2; exact Nat.ne_of_lt (Heap.lt_size q)
    have k2 : ∀ b o, b ≠ e → b ≠ it → s.heap.get? b = some o → h2.get? b = some o := fun b o h1 h3 q => (sb.2 b h1).trans (kk b o h1 h3 q)
    have tp2 : h2.get? s.heap.objs.size = some { cls := .type "tuple", data := .seq #[.int i s.toks, u] } := (sb.2 _ (Ne.symm eP)).trans tp'
    have it2 : h2.IsListIter it a (i + 1) := it'.at fun o q => (sb.2 _ (Ne.symm hne)).trans q
    have nin : ∀ b o, b ∉ [e, it] → s.heap.get? b = some o → h2.get? b = some o := fun b o hb q => k2 b o (fun z => hb (by simp [z])) (fun z => hb (by simp [z])) q
    refine ⟨.ref s.heap.objs.size, upd H s.heap.objs.size (.tup [.int i, x]), ?_, rfl, ⟨_, x, rfl, hfp, fun ys hy => by rw [I.list_inj hy hq]; exact hx, rfl⟩, ⟨⟨_, e2⟩, it2⟩, fun b hb => ?_⟩
    · show Inv X pins σ (upd H s.heap.objs.size (.tup [.int i, x])) { s with heap := h2, gens := s.gens, drawn := s.drawn, toks := s.toks + 1 }
      refine I.step (h' := h2) (t' := s.toks + 1) (g' := s.gens) (d' := s.drawn) (ch := [e, it]) (fun b hb => ?_) (fun b o _ _ hb q _ => nin b o hb q) (fun b o _ _ hb q _ => ⟨o.slots, nin b o hb q⟩) (fun b o hb q n => ?_) (fun b o hb q => ⟨o, nin b o hb q⟩)
        (fun b xs q => ?_) (fun b o' u' q => ?_) (fun b ps q => ?_) (fun m hm => ?_) (fun b o q => ?_) I.bare
      · rcases List.mem_cons.mp hb with z | z
        · subst z; exact ⟨f3, f1, f4, f5⟩
        · have z : b = it := by simpa using z
          subst z; exact ⟨g3, g1, g4, g5⟩
      · rw [upd_ne (Nat.ne_of_lt (Heap.lt_size q))]; exact n
      · rw [upd_ne (ne_of_none q hfp)]; exact q
      · rw [upd_ne (ne_of_none q hfp)]; exact q
      · exact ⟨#[], by rw [upd_ne (ne_of_none q hfp), q]; simp⟩
      · obtain ⟨o, es', ep', ho, r⟩ := hm
        exact ⟨o, es', ep', nin _ o (by simp [Ne.symm f1, Ne.symm g1]) ho, r⟩
      · by_cases hb : b = s.heap.objs.size
        · subst hb
          rw [upd_same] at q
          cases q
          refine ⟨by rw [sizeLine_eq]; simp, [.int i s.toks, u], .cons ⟨_, rfl⟩ (.cons ru .nil), ?_⟩
          exact ⟨_, tp2, rfl, _, rfl⟩
        · rw [upd_ne hb] at q
          refine (I.hok b o q).stay (fun c v hc r => nin c v (fun z => ?_) r) (fun c z => by rw [upd_ne (ne_of_none z hfp)]; exact z) fun c xs z => by rw [upd_ne (ne_of_none z hfp)]; exact z
          have hcn : H c ≠ none := by
            rcases hc with z2 | z2
            · rw [z2, q]; simp
            · rw [z2]; simp
          rcases List.mem_cons.mp z with z | z
          · rw [z, f0] at hcn; exact hcn rfl
          · have z : c = it := by simpa using z
            rw [z, g0] at hcn; exact hcn rfl
    · rcases List.mem_cons.mp hb with z | z
      · subst z; rw [upd_ne eP]; exact f0
      · have z : b = it := by simpa using z
        subst z; rw [upd_ne iP]; exact g0
  done := by
    intro X hP hw hK hc i pins s σ H E I hf st hg
    subst hP hw hK
    obtain ⟨xs, hq, hx⟩ := hg
    obtain ⟨⟨old, st1⟩, st2⟩ := st
    obtain ⟨its, rv, p, hz⟩ := I.list hq
    obtain ⟨g0, g1, g2, g3, g4, g5⟩ := hf it (by simp)
    have hl := rv.length
    exact wpAny_pyNext_enum_end (I.ok.hd hc) st1 st2 p.isList (by simp; omega) fun h' eb => ⟨rfl, I.turned (t' := s.toks) (fun b o hb e => eb b o hb e) g0 g1 g3 g4 g5⟩
  self := fun A i s Q E st h => by
    obtain ⟨⟨old, st1⟩, st2⟩ := st
    exact wpAny_pyIter_enum st1 h
def iEnum (K : PySem.W.Frag) (t : TA) : TI := fun σ H R => t σ H fun vs H1 => ∃ a, vs = [.ref a] ∧ (∃ xs, SqL K H1 a xs) ∧ R (Ite K a) H1
theorem pi_enum {a : Expr} {ta : TA} {p pos : Pos} {es : List Expr} {x1} {tp : Pos} (hg : Gl X "enumerate") (hm : X.mg "enumerate" = none) (ha : PA X [a] ta) (hs : starEach [a] X.env = [(false, eval a X.env)] := by rfl) : PI X (.Tuple es x1 tp) (.Call (.Name "enumerate" p) [a] [] pos) (iEnum X.K ta) := by
  intro pins s σ H R I h
  refine Call_ (ld_blt I hg hm boot_enumerate (PyProof.Rows.callWith_type1 (thn (ha pos pins s σ H _ I h) fun us s1 ⟨vs, H1, I1, r1, q1⟩ => ?_) hs rfl))
  obtain ⟨l, e, ⟨xs, hq⟩, q⟩ := q1
  subst e
  obtain ⟨u, rfl, ru⟩ := vals1 r1
  cases ru
  obtain ⟨its, rv, pl, hz⟩ := I1.list hq
  refine call_enumerate_list pl.isList fun h' he hi hsz hk => ?_
  refine wpAny_pyIter_enum (s := { s1 with heap := h' }) he ?_
  refine ⟨s1.heap.objs.size + 1, [s1.heap.objs.size + 1, s1.heap.objs.size], _, _, H1, rfl, I1.kept (t' := s1.toks) hk, turn_enum l _ _ (Nat.succ_ne_self _), ⟨⟨_, he⟩, hi⟩, fun b hb => ?_, q⟩
  rcases List.mem_cons.mp hb with z | z
  · subst z; exact I1.fpOk (Nat.le_succ _) (I1.hok.fresh (Nat.le_succ _))
  · have z : b = s1.heap.objs.size := by simpa using z
    subst z; exact I1.fpOk (Nat.le_refl _) (I1.hok.fresh (Nat.le_refl _))
end
theorem for_enum {K : PySem.W.Frag} {a : Addr} {xs : List V} {g : TG} {tb : TS} {D : Ends} {σ : St} {H : Hp} (Pv : Nat → St → Hp → Prop) (h0 : Pv 0 σ H) (hl : ∀ i σ H, i ≤ xs.length → Pv i σ H → SqL K H a xs)
    (hs : ∀ i x p σ H, xs[i]? = some x → Pv i σ H → H p = none → g (.ref p) σ (upd H p (.tup [.int i, x])) fun σ2 H2 => tb { D with nx := Pv (i + 1), ct := Pv (i + 1), bk := D.nx } σ2 H2) (hd : ∀ σ H, Pv xs.length σ H → D.nx σ H) :
    ∃ W : Nat → Nat → St → Hp → Prop, (∃ m, W 0 m σ H) ∧ ∀ i m σ H, W i m σ H →
      ((Ite K a).stop i H ∧ D.nx σ H) ∨ ((Ite K a).go i H ∧ ∃ N : St → Hp → Prop, (∀ σ' H', N σ' H' → ∃ m', m' < m ∧ W (i + 1) m' σ' H') ∧ ∀ x H', (Ite K a).yld i H x H' → g x σ H' fun σ2 H2 => tb { D with nx := N, ct := N, bk := D.nx } σ2 H2) := by
  refine ⟨fun i m σ H => m = xs.length - i ∧ i ≤ xs.length ∧ Pv i σ H, ⟨xs.length, by simp, Nat.zero_le _, h0⟩, ?_⟩
  rintro i m σ H ⟨rfl, hi, p⟩
  have q := hl i σ H hi p
  by_cases hlt : i < xs.length
  · refine .inr ⟨⟨xs, xs[i], q, by simp [hlt]⟩, Pv (i + 1), fun σ' H' p' => ⟨xs.length - (i + 1), by omega, rfl, hlt, p'⟩, fun v H' y => ?_⟩
    obtain ⟨b, x, rfl, hn, y, rfl⟩ := y
    exact hs i x b σ _ (y xs q) p hn
  · have e : i = xs.length := by omega
    subst e
    exact .inl ⟨⟨xs, q, Nat.le_refl _⟩, hd σ H p⟩
section
variable {X : Cx}
end
end L2
namespace L2
open PySem PySem.Spec PyProof.Rows
section
variable {M : Model} {A : Around} {E : Value → Shared → Prop} {s : Shared} {base : Heap} {env : Env} {outer : List Env} {L e : Addr} {oe : Obj} {vs : Array Value} {Q : Unit → Shared → Prop}
end
section
variable {X : Cx} {pins : List (Addr × Obj)} {σ : St} {H : Hp} {s : Shared}
end
section
variable {P : Program} {w : World} {K : PySem.W.Frag} {mg : Str → Option Value} {base : Heap} {N : List Str} {qual : Str} {scope : Scope} {f : Addr} {cdv : Value} {A : Around} {outer : List Env} {s₀ : Shared} {H₀ : Hp} {E : XK} {pins : List (Addr × Obj)} {σ : St} {H : Hp} {s : Shared}
end
section
variable {M : Model} {A : Around} {E : Value → Shared → Prop} {s : Shared} {env : Env}
end
section
variable {X : Cx} {E : XK} {e : Expr} {te : TE} {pos : Pos}
end
section
variable {P : Program} {w : World} {K : PySem.W.Frag} {mg : Str → Option Value} {base : Heap}
variable {N : List Str} {qual : Str} {scope : Scope} {f : Addr} {cdv : Value} {A : Around} {outer : List Env} {s₀ : Shared} {H₀ : Hp} {E E1 : XK}
end
section
variable {X : Cx} {pins : List (Addr × Obj)} {σ : St} {H : Hp} {s s' : Shared} {M : Model} {A : Around} {E : Value → Shared → Prop}
end
abbrev Cx.hdl (X : Cx) (a : Addr) : Cx := { X with A := X.A.mark (some (.ref a)), calm := false, xe := fun _ _ => False }
abbrev Cx.tr (X : Cx) (pn : List (Addr × Obj)) (E' : Value → Shared → Prop) : Cx := { X with pn := pn, xe := E' }
section
variable {X : Cx} {pins : List (Addr × Obj)} {σ : St} {H : Hp} {s : Shared} {a : Addr} {E' : Value → Shared → Prop}
end
section
variable {X : Cx}
end
section
variable {X : Cx}
end
section
variable {X : Cx}
theorem vals_strs : ∀ (l : List (Str × Tok)), Vals ((l.map (·.1)).map V.str) (strValues l)
  | [] => .nil
  | p :: r => .cons ⟨p.2, rfl⟩ (vals_strs r)
theorem mt_split : MtR X "str.split" (fun x xs H Q => ∃ z y, x = .str z ∧ xs = [.str y] ∧ (y.length == 0) = false ∧ z.length + 2 ≤ sizeLine ∧ ∀ p, H p = none → Q (.ref p) (upd H p (.lst ((Txt.split z y).map V.str)))) := by
  intro pins s σ H x xs v us Q I rx rs h
  obtain ⟨z, y, rfl, rfl, hy, hz, q⟩ := h
  obtain ⟨t, rfl⟩ := rx
  obtain ⟨u, rfl, ru⟩ := vals1 rs
  obtain ⟨t', rfl⟩ := ru
  have hn : H s.heap.objs.size = none := I.hok.fresh (Nat.le_refl _)
  have len : (Txt.split z y).length ≤ sizeLine := by
    unfold Txt.split
    have e1 := StrLaws.occ_length_le z y 0 z.length (z.length + 1)
    split
    · show 1 ≤ sizeLine; omega
    · split
      · show 1 ≤ sizeLine; omega
      · rw [length_partsBetween]; omega
  have lay : ∀ (l : List (Str × Tok)) (h' : Heap) (k : Nat), l.map (·.1) = Txt.split z y → (∀ b o, s.heap.get? b = some o → h'.get? b = some o) → h'.get? s.heap.objs.size = some { cls := .type "list", data := .seq (strValues l).toArray } →
      EP X pins σ Q (.ref s.heap.objs.size) { s with heap := h', toks := k } := fun l h' k e kk g => by
    refine ⟨.ref s.heap.objs.size, _, I.laid (t' := k) kk (Nat.le_refl _) ?_, rfl, q _ hn⟩
    refine ⟨by rw [List.length_map]; exact len, strValues l, 0, ?_, g⟩
    rw [← e]
    exact vals_strs l
  have new : ∀ (l : List (Str × Tok)) (k : Nat), l.map (·.1) = Txt.split z y → EP X pins σ Q (.ref s.heap.objs.size) { s with heap := s.heap.push { cls := .type "list", data := .seq (strValues l).toArray }, toks := k } := fun l k e =>
    lay l _ k e (fun b o eb => Heap.get?_push_of_some _ eb) (Heap.get?_push_size s.heap rfl)
  have sp : Txt.split z y = if (decide (z.length < y.length) || decide (Builtin.Str.strKind z < Builtin.Str.strKind y)) = true then [z] else if (Builtin.Str.occurrences z y 0 z.length (z.length + 1)).isEmpty = true then [z] else Builtin.Str.partsBetween z (Builtin.Str.occurrences z y 0 z.length (z.length + 1)) y.length := rfl
  by_cases c1 : (decide (z.length < y.length) || decide (Builtin.Str.strKind z < Builtin.Str.strKind y)) = true
  · refine call_meets PySem.F.slot_str_split (typeIs_str _ _ _) PySem.F.entry_str_split (PySem.F.args_str_split_2 _ _) (meets_str_split_cannot_occur z y t t' c1) ?_
    exact new [(z, t)] s.toks (by rw [sp, if_pos c1]; rfl)
  · have c1' := Bool.eq_false_iff.mpr c1
    by_cases c2 : (Builtin.Str.occurrences z y 0 z.length (z.length + 1)).isEmpty = true
    · refine call_meets PySem.F.slot_str_split (typeIs_str _ _ _) PySem.F.entry_str_split (PySem.F.args_str_split_2 _ _) (meets_str_split_not_found z y t t' c1' hy c2) ?_
      exact new [(z, t)] s.toks (by rw [sp, if_neg c1, if_pos c2]; rfl)
    · have c2' := Bool.eq_false_iff.mpr c2
      have e3 : Txt.split z y = Builtin.Str.partsBetween z (Builtin.Str.occurrences z y 0 z.length (z.length + 1)) y.length := by rw [sp, if_neg c1, if_neg c2]
      rw [e3] at len
      refine call_meets PySem.F.slot_str_split (typeIs_str _ _ _) PySem.F.entry_str_split (PySem.F.args_str_split_2 _ _) (meets_str_split_sep z y t t' c1' hy c2' (by omega) len) ?_
      have z4 := new (numbered s.toks (Builtin.Str.partsBetween z (Builtin.Str.occurrences z y 0 z.length (z.length + 1)) y.length)) (s.toks + (Builtin.Str.partsBetween z (Builtin.Str.occurrences z y 0 z.length (z.length + 1)) y.length).length) ((numbered_texts _ _).trans e3.symm)
      rw [← strsFrom_eq] at z4
      exact z4
theorem op_neNil (hu : X.A.units < cLine) : OpR X (compareOp .NotEq) (fun x y H Q => ∃ a b xs, x = .ref a ∧ y = .ref b ∧ SqL X.K H a xs ∧ SqL X.K H b [] ∧ Q (.bl (!xs.isEmpty)) H) := by
  intro pins s σ H x y v u Q I rx ry h
  obtain ⟨a, b, xs, rfl, rfl, ha, hb, q⟩ := h
  cases rx
  cases ry
  obtain ⟨its, rv, pl, _⟩ := I.list ha
  obtain ⟨its', rv', pl', _⟩ := I.list hb
  have l1 := rv.length
  cases rv'
  cases xs with
  | nil =>
    cases rv
    exact SeqAt.RcNeAt.lists (e := fun _ => true) pl.isList pl'.isList rfl hu (fun j h1 h2 => absurd h2 (by simp)) _ _ _ _ (fin_bl I q (by simp))
  | cons x r =>
    exact SeqAt.RcNeAt.lists_lengths pl.isList pl'.isList (by simp at l1; simp [← l1]) hu _ _ _ _ (fin_bl I q (by simp))
end
section
variable {X : Cx}
def rSlS : V → Option Int → Option Int → Hp → VK → Prop := fun x lo hi H Q => ∃ z, x = .str z ∧ z.length ≤ sizeLine ∧ Q (.str (Txt.slice z lo hi)) H
theorem sl_str : SlR X rSlS := by
  intro pins s σ H x v vl vu lo hi sl Q I rx hs pl pu h
  obtain ⟨z, rfl, hz, q⟩ := h
  obtain ⟨t, rfl⟩ := rx
  refine ⟨"str", _, PySem.F.slot_str_getitem.lookup, typeIs_str _ _ _, ?_⟩
  have fin : ∀ t' k, EP X pins σ Q (.str (Txt.slice z lo hi) t') { s with toks := k } := fun t' k => ⟨.str _, H, I.tok _, ⟨_, rfl⟩, q⟩
  cases pl with
  | none => cases pu with
    | none => exact wpAny_getItem_str_slice (l := none) (u := none) (st := none) hs rfl (post_val_or_str ⟨Nat.le_trans (Txt.slice_le z _ _) hz, fin⟩)
    | int j uj => exact wpAny_getItem_str_slice (l := none) (u := some (j, uj)) (st := none) hs rfl (post_val_or_str ⟨Nat.le_trans (Txt.slice_le z _ _) hz, fin⟩)
  | int i ui => cases pu with
    | none => exact wpAny_getItem_str_slice (l := some (i, ui)) (u := none) (st := none) hs rfl (post_val_or_str ⟨Nat.le_trans (Txt.slice_le z _ _) hz, fin⟩)
    | int j uj => exact wpAny_getItem_str_slice (l := some (i, ui)) (u := some (j, uj)) (st := none) hs rfl (post_val_or_str ⟨Nat.le_trans (Txt.slice_le z _ _) hz, fin⟩)
def tF3 (ta tb : TE) (y : Str) : TE := fun σ H Q => ta σ H fun x H1 => ∃ z, x = .str z ∧ z.length + y.length ≤ sizeLine ∧ tb σ H1 fun v H2 => ∃ n, v = .int n ∧ n.natAbs.log2 < 1920 ∧ (z ++ y ++ Str.ofString (toString n)).length ≤ sizeLine ∧ Q (.str (z ++ y ++ Str.ofString (toString n))) H2
theorem pe_f3 {a b : Expr} {ta tb : TE} {y : Str} {k : Nat} {p1 p2 p3 pos : Pos} (ha : PE X a ta) (hb : PE X b tb) : PE X (.JoinedStr [.FormattedValue a (-1) none p1, .Constant (.str y) k p2, .FormattedValue b (-1) none p3] pos) (tF3 ta tb y) := by
  intro pins s σ H Q I h
  refine wpAny_JoinedStr ?_
  show wpAny _ _ (eval (.FormattedValue a (-1) none p1) X.env) _ _ _
  refine wpAny_FormattedValue_plain (thn (ha pins s σ H _ I h) fun u s1 ⟨x, H1, I1, rx, z, ex, hz, q⟩ => ?_)
  subst ex
  obtain ⟨t, rfl⟩ := rx
  have e0 : Str.empty ++ z = z := by
    show (⟨#[] ++ z.cps⟩ : Str) = z
    rw [Array.empty_append]
  have lz : ∀ a b : Str, (a ++ b).length = a.length + b.length := fun a b => by
    show (a.cps ++ b.cps).size = _
    rw [Array.size_append]
    rfl
  refine formatField_str (fun t' tk => ⟨z, t', rfl, by rw [e0]; omega, ?_⟩) (by omega)
  rw [e0]
  show wpAny _ _ (eval (.Constant (.str y) k p2) X.env) _ _ _
  refine Calls.Constant_str ⟨y, _, rfl, by rw [lz]; omega, ?_⟩
  show wpAny _ _ (eval (.FormattedValue b (-1) none p3) X.env) _ _ _
  refine wpAny_FormattedValue_plain (thn (hb pins _ σ H1 _ ((I1.tok tk).tok _) q) fun u s2 ⟨x, H2, I2, rx, n, ex, hn, hl, q2⟩ => ?_)
  subst ex
  obtain ⟨t2, rfl⟩ := rx
  refine wpAny_formatField_int hn ⟨_, _, rfl, hl, hl, ?_⟩
  exact ⟨.str _, H2, (I2.tok _).tok _, ⟨_, rfl⟩, q2⟩
end
section
variable {X : Cx} {pins : List (Addr × Obj)} {σ : St} {H : Hp} {s : Shared}
theorem in1_room {A : Around} (hu : A.units + 2 < cLine) : A.in1.units < cLine := Nat.lt_of_le_of_lt (show A.in1.units ≤ A.units + 1 by first | exact Nat.le_refl _ | exact Nat.le_succ _ | simp [Around.in1]) (by omega)
end
structure New0 (K : PySem.W.Frag) (mg : Str → Option Value) (x : Str) (C : Addr) : Prop where
  mg : mg x = some (.ref C)
  makes : PySem.W.makesIn K C = true
  init : PySem.W.findIn K (.ref C) "__init__" = some (some (.builtin "object.__init__"))
  kp : PySem.W.keepIn K (.ref C) = true
def tNew0 (C : Addr) : TE := fun _ H Q => ∀ x dx, H x = none → H dx = none → dx ≠ x → Q (.ref x) (upd (upd H dx (.own x)) x (.ins C dx []))
section
variable {X : Cx} {C : Addr} {x m : Str} {p pos apos : Pos} {o : Expr} {ta : TE}
theorem pe_new0 (D : New0 X.K X.mg x C) (hg : Gl X x) (hdb : (x == ("__debug__" : Str)) = false := by decide) : PE X (.Call (.Name x p) [] [] pos) (tNew0 C) := by
  intro pins s σ H Q I h
  refine wpAny_Call_Name_kw (ld_glob I hg D.mg ?_ hdb)
  refine PySem.W.callWith_K0 I.kIn D.kp ?_
  have hq := h (s.heap.objs.size + 1) s.heap.objs.size (I.hok.fresh (Nat.le_succ _)) (I.hok.fresh (Nat.le_refl _)) (Nat.ne_of_lt (Nat.lt_succ_self _))
  have I2 := Inv.made (C := C) I
  refine wpAny_call (make_map0 I.kIn D.makes D.init (fun self => PySem.W.Looks.of_pure (PySem.W.oi_bind self)) ?_)
  have Y := PySem.W.makes_of (M := model X.prog X.w) I.kIn D.makes
  have hx : ((s.heap.push PySem.W.emptyDict).push (PySem.W.instObj C s.heap.objs.size)).get? (s.heap.objs.size + 1) = some (PySem.W.instObj C s.heap.objs.size) := by
    have := Heap.get?_push_size (s.heap.push PySem.W.emptyDict) (o := PySem.W.instObj C s.heap.objs.size) rfl
    rwa [Heap.size_push] at this
  have t1 : PySem.W.Looks (model X.prog X.w) ((s.heap.push PySem.W.emptyDict).push (PySem.W.instObj C s.heap.objs.size)) (typeOf (.ref (s.heap.objs.size + 1))) (.ref C) := (PySem.W.Looks.ld hx).andThen .now
  have t2 : PySem.W.Looks (model X.prog X.w) ((s.heap.push PySem.W.emptyDict).push (PySem.W.instObj C s.heap.objs.size)) (isInstance (.ref (s.heap.objs.size + 1)) (.type "object")) true :=
    t1.andThen (Y.top.keeps fun b o e => Heap.get?_push_of_some _ (Heap.get?_push_of_some _ e))
  refine codeAny_call_builtin PySem.W.oi_plain PySem.W.entry_oi (@PySem.W.check_slot (model X.prog X.w) _ _ _ "object.__init__" "object" "__init__" (.ref (s.heap.objs.size + 1)) [] [] _ PySem.W.oi_kind PySem.W.oi_split t2 (PySem.W.oi_args (.ref (s.heap.objs.size + 1))) ?_)
  rw [PySem.W.oi_run]
  exact wpAny_pure (And.intro rfl ⟨V.ref (s.heap.objs.size + 1), _, I2, rfl, hq⟩)
structure MethD (P : Program) (w : World) (K : PySem.W.Frag) (mg : Str → Option Value) (base : Heap) (CX : CXT) (k : Nat) (C : Addr) (m : Str) (ps : List Str) (sp : Sp) : Prop where
  out : ∃ (f : Addr) (fd : FuncData), Cls K C ∧ Meth K C m f ∧ FnOk P w K mg base CX k f fd ps sp ∧ Binds K fd ps []
def tMethD (D : Addr → Sp → Prop) (m : Str) (E : XK) (ta : TE) : TE := fun σ H Q => ta σ H fun x H1 => ∃ a C dx fs sp, x = .ref a ∧ H1 a = some (.ins C dx fs) ∧ fs.lookup m = none ∧ D C sp ∧ sp [x] H1 Q E
theorem pe_methD {CX : CXT} {k : Nat} {D : Addr → Sp → Prop} {E : XK} {pl : Sem Bool} (he : PE X o ta) (hD : ∀ C sp, D C sp → MethD X.prog X.w X.K X.mg X.base CX k C m ["self"] sp) (hr : Room k X.A) (hx : Passes CX X E)
    (ht : eval (.Call (.Attribute o m apos) [] [] pos) X.env = (do
      let ov ← eval o X.env
      standAt apos.atName
      let (f, first) ← holding [ov] (getMethod ov m pl)
      callWith pos f first (backTo pos (starEach [] X.env)) (backToKw pos (keywordEach [] X.env))) := by rfl) :
    PE X (.Call (.Attribute o m apos) [] [] pos) (tMethD D m E ta) := by
  intro pins s σ H Q I h
  refine PySem.W.methodCall_KW (pl := pl) (thn (he pins s σ H _ I h) fun u s1 ⟨x, H1, I1, rx, a, C, dx, fs, sp, ex, ea, l, d, q⟩ => ?_) ht
  subst ex
  obtain rfl : u = Value.ref a := rx
  obtain ⟨f, fd, c, hm, F, hb⟩ := (hD C sp d).out
  refine getmeth_ok I1 ea c hm l ?_
  exact PySem.W.callWith_K0 (first := [.ref a]) I1.kIn hm.kp (run_fn (us := [.ref a]) (vs := [.ref a]) F hr hb .nil hx I1 (.cons rfl .nil) q)
end
end L2
namespace PySem
namespace SeqAt
open AutoSeq1 (wpAny_loadPart')
open PySem.Spec PyProof.Rows
end SeqAt
end PySem
namespace L2
open PySem PySem.Spec PyProof.Rows
section
variable {X : Cx}
end
structure FunD (K : PySem.W.Frag) (x qual : Str) (st : Stmt) (f : Addr) (fd : FuncData) : Prop where
  ex : ∃ (oc : Value) (od : Option Addr) (dV kV doc pm : Value) (an : Option Addr) (cdv ct : Value) (osl : Array (Option Value)),
    fd = PySem.W.fnOf x qual (defArgs st) (defBody st) (defScope st) dV kV doc pm an cdv ct ∧ K.lookup f = some ⟨oc, od, .func fd, osl⟩ ∧ PySem.W.codeIn K cdv qual = true
  kp : PySem.W.keepIn K (.ref f) = true
section
variable {P : Program} {w : World} {K : PySem.W.Frag} {mg : Str → Option Value} {base : Heap}
theorem FunD.ok {x qual : Str} {st : Stmt} {f : Addr} {fd : FuncData} {N ps : List Str} {k : Nat} {sp : Sp} (F : FunD K x qual st f fd) (S : FnScope N ps (defScope st)) (len : ∀ vs H Q E, sp vs H Q E → vs.length = ps.length)
    (hbody : ∀ (cdv : Value) (A : Around) (outer : List Env) (s : Shared) (H : Hp) (vs : List V) (Q : VK) (E : XK), Room k (A.deeper (envOfC qual (defScope st) s.heap.objs.size f cdv)) → sp vs H Q E →
      ∃ t, PSs (cxOf CX0 P w K mg base N qual (defScope st) f cdv A outer s H E).nox (defBody st) t ∧ t { nx := fun _ H' => Q .non H', rt := Q } (start N vs) H) : FnOk P w K mg base CX0 (k + 1) f fd ps sp := by
  obtain ⟨oc, od, dV, kV, doc, pm, an, cdv, ct, osl, rfl, lk, hcd⟩ := F.ex
  refine fn_of lk hcd S len fun A outer s H vs Q E hr hsp => ?_
  obtain ⟨t, h, q⟩ := hbody cdv A outer s H vs Q E hr hsp
  exact ⟨t, h.nox, q⟩
end
section
variable {X : Cx}
def tMethA (D : Addr → Sp → Prop) (m : Str) (E : XK) (ta : TE) (t : TA) : TE := fun σ H Q => ta σ H fun x H1 => ∃ a C dx fs sp, x = .ref a ∧ H1 a = some (.ins C dx fs) ∧ fs.lookup m = none ∧ D C sp ∧ t σ H1 fun vs H2 => sp (x :: vs) H2 Q E
theorem pe_methA {m : Str} {pos apos : Pos} {o e : Expr} {es : List Expr} {ta : TE} {t : TA} {CX : CXT} {k : Nat} {ps : List Str} {D : Addr → Sp → Prop} {E : XK} {pl : Sem Bool} (he : PE X o ta) (hD : ∀ C sp, D C sp → MethD X.prog X.w X.K X.mg X.base CX k C m ps sp) (hr : Room k X.A) (hx : Passes CX X E) (ha : PA X (e :: es) t)
    (hst : starEach (e :: es) X.env = (false, eval e X.env) :: starEach es X.env := by rfl) (hpl : (backTo pos (starEach es X.env)).any (·.1) = false := by rfl)
    (ht : eval (.Call (.Attribute o m apos) (e :: es) [] pos) X.env = (do
      let ov ← eval o X.env
      standAt apos.atName
      let (f, first) ← holding [ov] (getMethod ov m pl)
      callWith pos f first (backTo pos (starEach (e :: es) X.env)) (backToKw pos (keywordEach [] X.env))) := by rfl) :
    PE X (.Call (.Attribute o m apos) (e :: es) [] pos) (tMethA D m E ta t) := by
  intro pins s σ H Q I h
  refine PySem.W.methodCall_KW (pl := pl) (thn (he pins s σ H _ I h) fun u s1 ⟨x, H1, I1, rx, a, C, dx, fs, sp, ex, ea, l, d, q⟩ => ?_) ht
  subst ex
  obtain rfl : u = Value.ref a := rx
  obtain ⟨f, fd, c, hm, F, hb⟩ := (hD C sp d).out
  refine getmeth_ok I1 ea c hm l ?_
  refine PySem.W.callWith_K (first := [.ref a]) (h₀ := X.base) I.ok.mod.kin hm.kp (thn (ha pos pins s1 σ H1 _ I1 q) fun us s2 ⟨vs, H2, I2, r, q2⟩ => ⟨I2.kIn, ?_⟩) hst hpl
  exact run_fn (us := .ref a :: us) (vs := .ref a :: vs) F hr hb .nil hx I2 (.cons rfl r) (by simpa using q2)
end
end L2
namespace L2
open PySem PySem.Spec PyProof.Rows
section
variable {X : Cx}
end
open Builtin.SmallTypes (nextOf)
section
variable {P : Program} {w : World}
end
open Builtin.SmallTypes (nextOf ownedTupleIsFree ownedTupleHandOut)
section
variable {P : Program} {w : World} {A : Around} {E : Value → Shared → Prop} {s : Shared} {z TI TO i1 i2 l1 l2 : Addr} {us vs : Array Value} {S1 S2 : Nat → Heap → Prop}
end
end L2
namespace L2
open PySem PySem.Spec PyProof.Rows
section
variable {X : Cx}
end
section
variable {X : Cx} {k : Nat} {f C : Addr} {fd : FuncData} {ps : List Str} {sp : Sp} {dvs : List V} {ds : List Value} {E : XK} {x m : Str} {p pos apos : Pos} {e : Expr} {es : List Expr} {t : TA} {RX : St → Addr → Hp → Prop}
end
section
variable {P : Program} {w : World} {K : PySem.W.Frag} {mg : Str → Option Value} {base : Heap}
end
end L2
namespace PySem
open Sem (wp)
open Builtin
end PySem
namespace L2
open PySem PySem.Spec PyProof.Rows
section
variable {P : Program} {w : World} {K : PySem.W.Frag} {mg : Str → Option Value} {base : Heap}
end
theorem ix_tupK {X : Cx} (K : PySem.W.Frag) (hK : X.K = K) : IxR X (rIxT K) := by
  subst hK
  exact ix_tup
theorem call_lenK {X : Cx} (K : PySem.W.Frag) (hK : X.K = K) : CallR X (.builtin "len") (fun xs H Q => ∃ x n, xs = [x] ∧ LenV K x H n ∧ Q (.int n) H) := by
  subst hK
  exact call_len
section
variable {X : Cx} {pins : List (Addr × Obj)} {σ : St} {H : Hp} {s : Shared}
end
section
variable {X : Cx}
end
def KeyIn (H : Hp) (xs : List Addr) (w : Str) (n : Int) : Prop := ∃ a ∈ xs, H a = some (.tup [.str w, .int n])
theorem vals_refs : ∀ {xs : List Addr} {us : List Value}, Vals (xs.map V.ref) us → us = xs.map Value.ref
  | [], _, .nil => rfl
  | x :: r, _, .cons h t => by
    cases h
    rw [vals_refs t]
    rfl
theorem key_eqAt {X : Cx} {pins : List (Addr × Obj)} {σ : St} {H : Hp} {s : Shared} {A : Around} (I : Inv X pins σ H s) (hu : A.units < cLine) {a q : Addr} {w w' : Str} {n n' : Int} (hab : a ≠ q) (ha : H a = some (.tup [.str w', .int n'])) (hq : H q = some (.tup [.str w, .int n])) {b : Bool} (hb : b = true ↔ w' = w ∧ n' = n) : SeqAt.EqAt A s (.ref a) (.ref q) b := by
  obtain ⟨its, rv, pl, _⟩ := I.tuple (SqT.of (K := X.K) ha)
  obtain ⟨its', rv', pl', _⟩ := I.tuple (SqT.of (K := X.K) hq)
  obtain ⟨u1, u2, rfl, r1, r2⟩ := vals2 rv
  obtain ⟨v1, v2, rfl, t1, t2⟩ := vals2 rv'
  have := SeqAt.RcAt.tuples (A := A) (e := fun j => if j = 0 then eqV (.str w') (.str w) else eqV (.int n') (.int n)) pl pl' hu (fun j h1 h2 => by
    have hj : j < 2 := by simpa using h1
    match j, hj with
    | 0, _ => exact eqAt_V r1 t1 rfl rfl
    | 1, _ => exact eqAt_V r2 t2 rfl rfl)
  refine SeqAt.EqAt.of_refs hab ?_
  have e : ((List.range (min [u1, u2].toArray.size [v1, v2].toArray.size)).all (fun j => if j = 0 then eqV (.str w') (.str w) else eqV (.int n') (.int n)) && [u1, u2].toArray.size == [v1, v2].toArray.size) = b := by
    rw [Bool.eq_iff_iff, hb]
    simp [List.range_succ, eqV]
  rw [e] at this
  exact this
section
variable {P : Program} {w : World} {A : Around} {E : Value → Shared → Prop} {s : Shared} {it d : Addr} {ob : Obj} {es : Array DictEntry} {ep i : Nat}
end
section
variable {X : Cx} {pins : List (Addr × Obj)} {σ : St} {H : Hp} {s : Shared} {a : Addr} {kvs : List (List Key × V)}
end
section
variable {X : Cx}
end
section
variable {X : Cx}
end
def rNotInK (K : PySem.W.Frag) : R2 := fun x y H Q => ∃ p q xs w n, x = .ref q ∧ y = .ref p ∧ SqL K H p (xs.map V.ref) ∧ H q = some (.tup [.str w, .int n]) ∧ (∀ a ∈ xs, ∃ w n, H a = some (.tup [.str w, .int n])) ∧ ∀ b : Bool, (b = true ↔ KeyIn H xs w n) → Q (.bl (!b)) H
open Classical in
theorem op_notin_keys {X : Cx} (hu : X.A.units + 2 < cLine) : OpR X (compareOp .NotIn) (rNotInK X.K) := by
  intro pins s σ H x y v u Q I rx ry h
  obtain ⟨p, q, xs, w, n, rfl, rfl, hp, hq, hx, h⟩ := h
  cases rx
  cases ry
  obtain ⟨its, r, pl, hz⟩ := I.list hp
  obtain rfl := vals_refs r
  refine SeqAt.notIn_listAt (fun v => match v with | .ref a => decide (H a = some (.tup [.str w, .int n])) | _ => false) pl.isList (fun u hu' => ?_) ⟨.bl _, H, I, rfl, h _ ?_⟩
  · have hu' : u ∈ xs.map Value.ref := by simpa using hu'
    obtain ⟨a, ha, rfl⟩ := List.mem_map.mp hu'
    by_cases haq : a = q
    · subst haq
      show SeqAt.EqAt _ _ _ _ (decide (H a = some (.tup [.str w, .int n])))
      rw [decide_eq_true hq]
      exact SeqAt.EqAt.same _
    · obtain ⟨w', n', ea⟩ := hx a ha
      refine key_eqAt I (in1_room hu) haq ea hq ?_
      show decide (H a = some (.tup [.str w, .int n])) = true ↔ _
      rw [ea]
      simp
  · rw [List.any_toArray, List.any_eq_true]
    constructor
    · rintro ⟨u, hu', e⟩
      obtain ⟨a, ha, rfl⟩ := List.mem_map.mp hu'
      exact ⟨a, ha, of_decide_eq_true e⟩
    · rintro ⟨a, ha, e⟩
      exact ⟨.ref a, List.mem_map.mpr ⟨a, ha, rfl⟩, decide_eq_true e⟩
end L2
namespace PySem
namespace SeqAt
open AutoSeq1 (wpAny_loadPart')
open PySem.Spec PyProof.Rows
end SeqAt
end PySem
namespace L2
open PySem PySem.Spec PyProof.Rows
def eqI (y v : V) : Bool := if flatV v then eqV y v else false
def eT (w : Str) (n : Int) (vs : List V) (j : Nat) : Bool := match vs[j]? with
  | some v => if j = 0 then eqI (.str w) v else eqI (.int n) v
  | none => false
section
variable {X : Cx} {pins : List (Addr × Obj)} {σ : St} {H : Hp} {s : Shared}
end
section
variable {X : Cx}
theorem len_app (a b : Str) : (a ++ b).length = a.length + b.length := by
  show (a.cps ++ b.cps).size = _
  rw [Array.size_append]
  rfl
theorem strs_flat (zs : List Str) : (zs.map V.str).all flatV = true := List.all_eq_true.mpr fun y hy => by
  obtain ⟨z, _, rfl⟩ := List.mem_map.mp hy
  rfl
end
section
variable {X : Cx}
end
section
variable {prog : Program} {w : World} {A : Around} {R : Result → Shared → Prop} {I : Addr} {fp wr : List Addr} {G : Array GenState → Array GenState → Prop} {n : Nat} {P : Nat → Value → Prop} {St : Nat → Shared → Prop}
end
section
variable {prog : Program} {w : World} {A : Around} {E : Value → Shared → Prop} {s : Shared}
end
theorem boot_set : bootBuiltins "set" = some (.type "set") := by decide +kernel
section
variable {X : Cx}
end
theorem atI_ex {α : Type} {xs : List α} {r : Int} (h0 : 0 ≤ r) (h1 : r < xs.length) : ∃ v, atI xs r = some v ∧ v ∈ xs := by
  obtain ⟨k, rfl⟩ : ∃ k : Nat, r = (k : Int) := ⟨r.toNat, by omega⟩
  have hk : k < xs.length := by omega
  exact ⟨xs[k], atI_nat (List.getElem?_eq_getElem hk), List.getElem_mem hk⟩
def isLow (c : Nat) : Bool := decide (97 ≤ c ∧ c ≤ 122)
theorem low_in (c : Nat) : (!(Builtin.Str.occurrences (Str.ofString "abcdefghijklmnopqrstuvwxyz") ⟨#[c]⟩ 0 (Str.ofString "abcdefghijklmnopqrstuvwxyz").length 1).isEmpty) = isLow c := by
  rw [PySem.StrLaws.found_one]
  have e : (Str.ofString "abcdefghijklmnopqrstuvwxyz").cps.toList = [97, 98, 99, 100, 101, 102, 103, 104, 105, 106, 107, 108, 109, 110, 111, 112, 113, 114, 115, 116, 117, 118, 119, 120, 121, 122] := by decide +kernel
  rw [e, Bool.eq_iff_iff]
  have h1 : ∀ c ∈ ([97, 98, 99, 100, 101, 102, 103, 104, 105, 106, 107, 108, 109, 110, 111, 112, 113, 114, 115, 116, 117, 118, 119, 120, 121, 122] : List Nat), isLow c = true := by decide +kernel
  have h2 : ∀ i : Fin 26, 97 + i.val ∈ ([97, 98, 99, 100, 101, 102, 103, 104, 105, 106, 107, 108, 109, 110, 111, 112, 113, 114, 115, 116, 117, 118, 119, 120, 121, 122] : List Nat) := by decide +kernel
  refine ⟨fun h => h1 c (of_decide_eq_true h), fun h => decide_eq_true ?_⟩
  unfold isLow at h
  have h := of_decide_eq_true h
  obtain ⟨d, rfl⟩ := Nat.exists_eq_add_of_le h.1
  exact h2 ⟨d, by omega⟩
def isWordZ (z : Str) : Bool := decide (1 ≤ z.length ∧ z.length ≤ 8) && z.cps.toList.all isLow
def wholeV : V → Bool
  | .int _ => true
  | _ => false
def wordV : V → Bool
  | .str z => isWordZ z
  | _ => false
def numV : V → Bool
  | .int i => decide (0 ≤ i ∧ i ≤ 99)
  | _ => false
def keyV (H : Hp) : V → Bool
  | .ref a => match H a with
    | some (.tup [x, y]) => wordV x && numV y
    | _ => false
  | _ => false
structure Tb1 (t : SetTable) (j1 : Nat) : Prop where
  mask : t.mask = 7
  place : t.place = #[j1]
  dum : t.dummies = #[]
theorem below0 (j : Nat) : SetTable.below #[] j = 0 := by
  unfold SetTable.below
  rfl
theorem below1 (j1 j : Nat) : SetTable.below #[j1] j = if j1 < j then 1 else 0 := by
  unfold SetTable.below
  show SetTable.below.go #[j1] j 1 0 1 = _
  rw [SetTable.below.go.eq_def]
  show (if 0 < 1 then (if j1 < j then SetTable.below.go #[j1] j 0 1 1 else SetTable.below.go #[j1] j 0 0 0) else 0) = _
  rw [if_pos (by decide)]
  by_cases h : j1 < j
  · rw [if_pos h, if_pos h]; rfl
  · rw [if_neg h, if_neg h]; rfl
theorem has0 (j : Nat) : SetTable.has #[] j = false := by
  unfold SetTable.has
  rw [below0]
  rfl
theorem slot0 {t : SetTable} (hp : t.place = #[]) (hd : t.dummies = #[]) (j : Nat) : t.slot j = .empty := by
  unfold SetTable.slot
  rw [hp, hd, below0, has0]
  rfl
theorem slot1 {t : SetTable} {j1 : Nat} (T : Tb1 t j1) (j : Nat) : t.slot j = if j = j1 then .live 0 else .empty := by
  unfold SetTable.slot
  rw [T.place, T.dum, below1, has0]
  by_cases h : j1 < j
  · simp [h, show ¬ j = j1 by omega]
  · by_cases e : j = j1
    · subst e; simp
    · simp [h, e, show ¬ j1 = j by omega]
structure Rd1 (p : SetTable.Probe) : Prop where
  lt : p.i < 8
  j : p.j = p.i
  more : p.more = 0
  dum : p.dummy = none
theorem adv1 {t : SetTable} {j1 : Nat} (T : Tb1 t j1) {p : SetTable.Probe} (R : Rd1 p) : Rd1 (t.advance p) ∧ (t.advance p).perturb = p.perturb / 32 ∧ (t.advance p).i = (p.i * 5 + 1 + p.perturb / 32) % 8 := by
  have hb : (p.i * 5 + 1 + p.perturb / 32) % 8 < 8 := Nat.mod_lt _ (by decide)
  have e : t.advance p = { j := (p.i * 5 + 1 + p.perturb / 32) % 8, more := 0, i := (p.i * 5 + 1 + p.perturb / 32) % 8, perturb := p.perturb / 32, dummy := none } := by
    unfold SetTable.advance SetTable.leap SetTable.runEnd
    rw [T.mask, R.more, R.dum]
    simp only [gt_iff_lt, Nat.lt_irrefl, if_false]
    rw [if_neg (by omega), Nat.sub_self]
  rw [e]
  exact ⟨⟨hb, rfl, rfl, rfl⟩, rfl, rfl⟩
theorem probe_free {t : SetTable} {j1 : Nat} (T : Tb1 t j1) {hashAt : Nat → Int} {h : Int} (hne : (hashAt 0 == h) = false) : ∀ (n F : Nat) (p : SetTable.Probe), Rd1 p → p.perturb < 32 ^ n → n + 2 ≤ F →
    ∃ j, j < 8 ∧ j ≠ j1 ∧ SetTable.probe.go t hashAt h F p = some (.empty j none)
  | n, 0, p, R, hp, hF => by omega
  | n, F + 1, p, R, hp, hF => by
    rw [SetTable.probe.go.eq_def]
    simp only [slot1 T]
    by_cases e : p.j = j1
    · simp only [e, if_true, hne, Bool.false_eq_true, if_false]
      obtain ⟨R2, p2, i2⟩ := adv1 T R
      cases n with
      | zero =>
        have h0 : p.perturb = 0 := by simpa using hp
        rw [h0] at p2 i2
        match F, hF with
        | F + 1, _ =>
          refine ⟨(t.advance p).j, by rw [R2.j]; exact R2.lt, ?_, ?_⟩
          · rw [R2.j, i2, ← e, R.j]; have := R.lt; omega
          · rw [SetTable.probe.go.eq_def]
            simp only [slot1 T]
            rw [if_neg (by rw [R2.j, i2, ← e, R.j]; have := R.lt; omega)]
            simp only [R2.dum]
      | succ n =>
        exact probe_free T hne n F _ R2 (by rw [p2]; rw [Nat.pow_succ] at hp; omega) (by omega)
    · simp only [e, if_false]
      exact ⟨p.j, by rw [R.j]; exact R.lt, e, by rw [R.dum]⟩
theorem start1 {t : SetTable} {j1 : Nat} (T : Tb1 t j1) (h : Int) : Rd1 (t.probeStart h) ∧ (t.probeStart h).perturb < 32 ^ 13 := by
  have hb : SetTable.bits h < 2 ^ 64 := by
    unfold SetTable.bits
    have := Int.emod_lt_of_pos h (show (0 : Int) < 2 ^ 64 by decide)
    have := Int.emod_nonneg h (show (2 ^ 64 : Int) ≠ 0 by decide)
    omega
  have hm : SetTable.bits h % 8 < 8 := Nat.mod_lt _ (by decide)
  have e : t.probeStart h = { j := SetTable.bits h % 8, more := 0, i := SetTable.bits h % 8, perturb := SetTable.bits h, dummy := none } := by
    unfold SetTable.probeStart SetTable.runEnd
    rw [T.mask]
    show SetTable.Probe.mk _ _ _ _ _ = _
    rw [if_neg (by omega), Nat.sub_self]
  rw [e]
  exact ⟨⟨hm, rfl, rfl, rfl⟩, Nat.lt_of_lt_of_le hb (by decide +kernel)⟩
theorem probe_one {t : SetTable} {j1 : Nat} (T : Tb1 t j1) {hashAt : Nat → Int} {h : Int} (he : (hashAt 0 == h) = true) {F : Nat} {p : SetTable.Probe} (R : Rd1 p) :
    SetTable.probe.go t hashAt h (F + 1) p = if p.j = j1 then some (.candidate j1 0 (t.advance p)) else some (.empty p.j none) := by
  rw [SetTable.probe.go.eq_def]
  simp only [slot1 T]
  by_cases e : p.j = j1
  · simp only [e, if_true, he]
  · simp only [e, if_false, R.dum]
theorem probe_cases {t : SetTable} {j1 : Nat} (T : Tb1 t j1) {f : Nat → Int} {h : Int} {p : SetTable.Probe} {r : Option SetTable.Met} (R : Rd1 p) (hp : p.perturb < 32 ^ 13) (e : SetTable.probe t f h p = r) :
    (∃ j, j < 8 ∧ j ≠ j1 ∧ r = some (.empty j none)) ∨ (p.j = j1 ∧ r = some (.candidate j1 0 (t.advance p))) := by
  have hF : 10 * SetTable.turns t.mask = 219 + 1 := by rw [T.mask]; rfl
  rw [SetTable.probe.eq_def, hF] at e
  cases he : f 0 == h with
  | false =>
    obtain ⟨j, h1, h2, h3⟩ := probe_free T he 13 (219 + 1) p R hp (by decide)
    exact .inl ⟨j, h1, h2, by rw [← e, h3]⟩
  | true =>
    rw [probe_one T he R] at e
    by_cases ej : p.j = j1
    · rw [if_pos ej] at e
      exact .inr ⟨ej, e.symm⟩
    · rw [if_neg ej] at e
      exact .inl ⟨p.j, by rw [R.j]; exact R.lt, ej, e.symm⟩
section
variable {prog : Program} {w : World} {A : Around} {E : Value → Shared → Prop} {s : Shared}
theorem items_plain : ∀ {ks : List Key} {us : List Value}, ItemsAre (mixKind prog w) ks us → ∀ u ∈ us, (∃ i t, u = .int i t) ∨ (∃ z t, u = .str z t)
  | _, _, .nil, u, h => by cases h
  | _, _, .cons hk h, u, hu => by
    rcases List.mem_cons.mp hu with rfl | hu
    · rcases keyIs_shape hk with ⟨i, t, _, e⟩ | ⟨z, t, _, e⟩
      · exact .inl ⟨i, t, e⟩
      · exact .inr ⟨z, t, e⟩
    · exact items_plain h u hu
theorem hbv {a : Addr} {ks : List Key} {Q : Bool → Shared → Prop} (hk : IsTupleKey (mixKind prog w) s.heap ks a) (q : ∀ b, Q b s) : wpAny (model prog w) A (hashByValue 8 (.ref a)) Q E s := by
  obtain ⟨o, items, n, ho, hc, hd, hi⟩ := hk
  have hT : s.TypeIs (.ref a) "tuple" := ⟨o, ho, hc⟩
  rw [hashByValue.eq_def]
  show wpAny _ _ (specialOf (.ref a) (Str.ofString "__hash__") >>= _) _ _ _
  refine wpAny_bind (wpAny_specialOf hT F.slot_tuple_hash.lookup ?_)
  show wpAny _ _ (seqItems? (.ref a) >>= _) _ _ _
  refine wpAny_bind (wpAny_seqItems ho hd ?_)
  show wpAny _ _ (forIn items _ _ >>= _) _ _ _
  refine wpAny_bind (wpAny_forIn_array' _ (fun l b s' => (∀ u ∈ l, (∃ i t, u = Value.int i t) ∨ (∃ z t, u = Value.str z t)) ∧ s' = s) _ ?_ ?_ items _ ⟨fun u hu => items_plain hi u (by simpa using hu), rfl⟩)
  · rintro x rest b s' ⟨hl, rfl⟩
    rcases hl x (List.mem_cons_self) with ⟨i, t, rfl⟩ | ⟨z, t, rfl⟩
    · rw [hashByValue.eq_def]
      exact wpAny_pure ⟨fun u hu => hl u (List.mem_cons_of_mem _ hu), rfl⟩
    · rw [hashByValue.eq_def]
      exact wpAny_pure (wpAny_pure (q _))
  · rintro b s' ⟨_, rfl⟩
    obtain ⟨b1, b2⟩ := b
    cases b1 with
    | none => exact wpAny_pure (q _)
    | some r => exact wpAny_pure (q _)
theorem oac {a : Addr} {ks : List Key} {Q : Bool → Shared → Prop} (hk : IsTupleKey (mixKind prog w) s.heap ks a) (q : Q false s) : wpAny (model prog w) A (ofAClassStatement 8 (.ref a)) Q E s := by
  obtain ⟨o, items, n, ho, hc, hd, hi⟩ := hk
  rw [ofAClassStatement.eq_def]
  show wpAny _ _ (typeOf (.ref a) >>= _) _ _ _
  refine wpAny_bind (wpAny_typeOf_ref ho ?_)
  rw [hc]
  show wpAny _ _ (seqItems? (.ref a) >>= _) _ _ _
  refine wpAny_bind (wpAny_seqItems ho hd ?_)
  show wpAny _ _ (forIn items _ _ >>= _) _ _ _
  refine wpAny_bind (wpAny_forIn_array' _ (fun l b s' => (∀ u ∈ l, (∃ i t, u = Value.int i t) ∨ (∃ z t, u = Value.str z t)) ∧ b.1 = none ∧ s' = s) _ ?_ ?_ items _ ⟨fun u hu => items_plain hi u (by simpa using hu), rfl, rfl⟩)
  · rintro x rest b s' ⟨hl, _, rfl⟩
    rcases hl x (List.mem_cons_self) with ⟨i, t, rfl⟩ | ⟨z, t, rfl⟩
    · rw [ofAClassStatement.eq_def]
      exact wpAny_pure ⟨fun u hu => hl u (List.mem_cons_of_mem _ hu), rfl, rfl⟩
    · rw [ofAClassStatement.eq_def]
      exact wpAny_pure ⟨fun u hu => hl u (List.mem_cons_of_mem _ hu), rfl, rfl⟩
  · rintro b s' ⟨_, e, rfl⟩
    obtain ⟨b1, b2⟩ := b
    cases e
    exact wpAny_pure q
theorem seen {a : Addr} {ks : List Key} {Q : Bool → Shared → Prop} (hk : IsTupleKey (mixKind prog w) s.heap ks a) {l : List Value} (hl : ∀ y ∈ l, ∃ b ks', y = .ref b ∧ IsTupleKey (mixKind prog w) s.heap ks' b) (q : Q false s) :
    wpAny (model prog w) A (searchCouldBeSeen (.ref a) l) Q E s := by
  rw [searchCouldBeSeen.eq_def]
  refine wpAny_bind (wpAny_forIn_list _ (fun l b s' => (∀ y ∈ l, ∃ b ks', y = .ref b ∧ IsTupleKey (mixKind prog w) s.heap ks' b) ∧ b.1 = none ∧ s' = s) _ ?_ ?_ l _ ⟨hl, rfl, rfl⟩)
  · rintro x rest b s' ⟨hl, _, rfl⟩
    obtain ⟨c, ks', rfl, hc⟩ := hl x (List.mem_cons_self)
    have go : ∀ y ∈ rest, ∃ b ks', y = .ref b ∧ IsTupleKey (mixKind prog w) s'.heap ks' b := fun y hy => hl y (List.mem_cons_of_mem _ hy)
    show wpAny _ _ (if (a == c || false) = true then _ else _) _ _ _
    rw [Bool.or_false]
    by_cases e : (a == c) = true
    · rw [if_pos e]
      exact wpAny_pure ⟨go, rfl, rfl⟩
    · rw [if_neg e]
      refine wpAny_bind ((tupleKind (mixKind prog w)).quiet hk ?_)
      refine wpAny_bind ((tupleKind (mixKind prog w)).quiet hc ?_)
      refine wpAny_bind (oac hk ?_)
      refine wpAny_bind (oac hc ?_)
      exact wpAny_pure ⟨go, rfl, rfl⟩
  · rintro b s' ⟨_, e, rfl⟩
    obtain ⟨b1, b2⟩ := b
    cases e
    exact wpAny_pure q
theorem fits1 {t : SetTable} {j1 : Nat} (T : Tb1 t j1) : t.fits 1 = true := by
  unfold SetTable.fits SetTable.fill
  rw [T.place, T.dum, T.mask]
  rfl
theorem srch {S a b : Addr} {ka kb : List Key} {o : Obj} {ep : Nat} {t : SetTable} {h1 : Int} {j1 : Nat} (ho : s.heap.get? S = some o) (hd : o.data = .set #[(h1, .ref a)] ep t) (T : Tb1 t j1)
    (ha : IsTupleKey (mixKind prog w) s.heap ka a) (hb : IsTupleKey (mixKind prog w) s.heap kb b) (ne : ka ≠ kb) (hu : A.units < cLine) {h : Int} {Q : SetFound → Shared → Prop} (q : ∀ j, j < 8 → j ≠ j1 → Q (.free j false) s) :
    ∀ (F n : Nat) (stand : Option SetTable.Probe) (p : SetTable.Probe), stand.getD (t.probeStart h) = p → Rd1 p → p.perturb < 32 ^ n → n ≤ 13 → (n + 2 ≤ F ∨ (p.j ≠ j1 ∧ 1 ≤ F)) →
      wpAny (model prog w) A (setSearchFrom S (.ref b) h true F stand) Q E s
  | 0, n, stand, p, es, R, hp, hn, hF => by omega
  | F + 1, n, stand, p, es, R, hp, hn, hF => by
    have hp13 : p.perturb < 32 ^ 13 := Nat.lt_of_lt_of_le hp (Nat.pow_le_pow_right (by decide) hn)
    rw [setSearchFrom.eq_def]
    refine wpAny_bind (wpAny_setState_of ho hd (fits1 T) ?_)
    have hg : t.gaveWay = false := by unfold SetTable.gaveWay; rw [T.mask]; rfl
    show wpAny _ _ (if t.gaveWay = true then _ else _) _ _ _
    rw [hg, es]
    show wpAny _ _ (match SetTable.probe t _ h p with | some met => _ | _ => _) _ _ _
    split
    · rename_i met heq
      rcases probe_cases T R hp13 heq with ⟨j, hj8, hj1, e⟩ | ⟨ej, e⟩
      · cases e
        exact wpAny_pure (q j hj8 hj1)
      · cases e
        have R2 := adv1 T R
        have next : wpAny (model prog w) A (setSearchFrom S (.ref b) h true F (some (t.advance p))) Q E s := by
          rcases hF with hF | ⟨hF, _⟩
          · cases n with
            | zero =>
              have h0 : p.perturb = 0 := by simpa using hp
              refine srch ho hd T ha hb ne hu q F 0 (some (t.advance p)) (t.advance p) rfl R2.1 (by rw [R2.2.1, h0]; decide) (by decide) (.inr ⟨?_, by omega⟩)
              rw [R2.1.j, R2.2.2, h0, ← ej, R.j]
              have := R.lt
              omega
            | succ n => exact srch ho hd T ha hb ne hu q F n (some (t.advance p)) (t.advance p) rfl R2.1 (by rw [R2.2.1]; rw [Nat.pow_succ] at hp; omega) (by omega) (.inl (by omega))
          · exact absurd ej hF
        have hsm : t.sameMemory t.moves t.mask = some true := by unfold SetTable.sameMemory; rw [if_pos (by simp)]
        have hsl : t.slot j1 = .live 0 := by rw [slot1 T, if_pos rfl]
        show wpAny _ _ (if (!t.led) = true then _ else _) _ _ _
        cases hl : t.led with
        | true =>
          show wpAny _ _ (holding [Value.ref a] (eqBool (.ref a) (.ref b)) >>= _) _ _ _
          refine wpAny_bind (wpAny_holding ((tupleKind (mixKind prog w)).eqBool hu ha hb ?_))
          rw [decide_eq_false ne]
          refine wpAny_bind (wpAny_setState_of ho hd (fits1 T) ?_)
          show wpAny _ _ (match t.sameMemory t.moves t.mask with | some same => _ | _ => _) _ _ _
          rw [hsm]
          show wpAny _ _ (match (if true = true then t.slot j1 else .empty) with | .live i' => _ | _ => _) _ _ _
          rw [if_pos rfl, hsl]
          show wpAny _ _ (isSame (.ref a) (.ref a) >>= _) _ _ _
          refine wpAny_bind (wpAny_isSame_ref_self ?_)
          exact next
        | false =>
          show wpAny _ _ (searchCouldBeSeen (.ref b) _ >>= _) _ _ _
          refine wpAny_bind (seen hb ?_ ?_)
          · intro y hy
            obtain ⟨z, hz, rfl⟩ := List.mem_map.mp hy
            have := Array.mem_toList_iff.mp hz
            rw [Array.mem_filter] at this
            have := this.1
            simp only [List.mem_toArray, List.mem_cons, List.not_mem_nil, or_false] at this
            subst this
            exact ⟨a, ka, rfl, ha⟩
          show wpAny _ _ (holding [Value.ref a] (eqBool (.ref a) (.ref b)) >>= _) _ _ _
          refine wpAny_bind (wpAny_holding ((tupleKind (mixKind prog w)).eqBool hu ha hb ?_))
          rw [decide_eq_false ne]
          refine wpAny_bind (wpAny_setState_of ho hd (fits1 T) ?_)
          show wpAny _ _ (match t.sameMemory t.moves t.mask with | some same => _ | _ => _) _ _ _
          rw [hsm]
          show wpAny _ _ (match (if true = true then t.slot j1 else .empty) with | .live i' => _ | _ => _) _ _ _
          rw [if_pos rfl, hsl]
          show wpAny _ _ (isSame (.ref a) (.ref a) >>= _) _ _ _
          refine wpAny_bind (wpAny_isSame_ref_self ?_)
          exact next
    · rename_i hno
      rcases probe_cases T R hp13 rfl with ⟨j, _, _, e⟩ | ⟨_, e⟩
      · exact absurd e (hno _)
      · exact absurd e (hno _)
def tbP (b : Bool) (t : SetTable) : SetTable := if b = true then t else { t with plain := false }
theorem addH {S a : Addr} {ks : List Key} {o : Obj} {es : Array (Int × Value)} {ep : Nat} {t : SetTable} {h : Int} {F : Nat} {Q : Bool → Shared → Prop} (ho : s.heap.get? S = some o) (hd : o.data = .set es ep t) (hf : t.fits es.size = true)
    (ha : IsTupleKey (mixKind prog w) s.heap ks a) (C : Nat → Prop) (hs : ∀ Q' : SetFound → Shared → Prop, (∀ j, C j → Q' (.free j false) s) → wpAny (model prog w) A (setSearch S (.ref a) h true) Q' E s)
    (full : ∀ j b, C j → (tbP b (t.put j).1).tooFull = false) (hsz : ∀ j, C j → (SetTable.insertAt es (t.put j).2 (h, Value.ref a)).size ≤ sizeLine)
    (q : ∀ j b, C j → Q true { s with heap := s.heap.update S (Obj.putSet (SetTable.insertAt es (t.put j).2 (h, .ref a)) (tbP b (t.put j).1)) }) : wpAny (model prog w) A (setAddHashedIn S (.ref a) h (F + 1)) Q E s := by
  rw [setAddHashedIn.eq_def]
  refine wpAny_bind (wpAny_setState_of ho hd hf ?_)
  show wpAny _ _ (setSearch S (.ref a) h true >>= _) _ _ _
  refine wpAny_bind (hs _ fun j hj => ?_)
  refine wpAny_bind (wpAny_setState_of ho hd hf ?_)
  have jp : ∀ b, wpAny (model prog w) A (storeSet S (SetTable.insertAt es (t.put j).2 (h, .ref a)) (tbP b (t.put j).1) >>= fun _ => if (!false && (tbP b (t.put j).1).tooFull) = true then (do let r ← setRelay S (SetTable.grown (es.size + 1)); (fun _ => pure true) r) else pure true) Q E s := fun b => by
    refine wpAny_bind (wpAny_storeSet_of ho hd ?_ (hsz j hj))
    rw [full j b hj]
    exact wpAny_pure (q j b hj)
  show wpAny _ _ (if (t.put j).1.plain = true then _ else _) _ _ _
  cases (t.put j).1.plain with
  | true =>
    show wpAny _ _ (hashByValue 8 (.ref a) >>= _) _ _ _
    exact wpAny_bind (hbv ha fun b => jp b)
  | false => exact jp true
def St0 (h : Heap) (S : Addr) : Prop := ∃ o ep t, h.get? S = some o ∧ o.ExactSet ∧ o.data = .set #[] ep t ∧ t.mask = 7 ∧ t.place = #[] ∧ t.dummies = #[]
def St1 (h : Heap) (S a : Addr) : Prop := ∃ o ep t h1 j1, h.get? S = some o ∧ o.ExactSet ∧ o.data = .set #[(h1, .ref a)] ep t ∧ Tb1 t j1
def StN (h : Heap) (S : Addr) (n : Nat) : Prop := ∃ o es ep t, h.get? S = some o ∧ o.ExactSet ∧ o.data = .set es ep t ∧ t.fits es.size = true ∧ es.size = n
theorem St0.n {h : Heap} {S : Addr} (x : St0 h S) : StN h S 0 := by
  obtain ⟨o, ep, t, h1, h2, h3, h4, h5, h6⟩ := x
  refine ⟨o, #[], ep, t, h1, h2, h3, ?_, rfl⟩
  unfold SetTable.fits SetTable.fill
  rw [h4, h5, h6]
  rfl
theorem St1.n {h : Heap} {S a : Addr} (x : St1 h S a) : StN h S 1 := by
  obtain ⟨o, ep, t, h1, j1, h2, h3, h4, h5⟩ := x
  exact ⟨o, _, ep, t, h2, h3, h4, fits1 h5, rfl⟩
theorem put_same {h : Heap} {S : Addr} (es : Array (Int × Value)) (t : SetTable) : Heap.SameBut S h (h.update S (Obj.putSet es t)) := ⟨Heap.size_update _ _ _, fun b hb => Heap.get?_update_other _ _ (Ne.symm hb)⟩
theorem put_get {h : Heap} {S : Addr} {o : Obj} {es0 es : Array (Int × Value)} {ep : Nat} {t0 t : SetTable} (ho : h.get? S = some o) (hx : o.ExactSet) (hd : o.data = .set es0 ep t0) :
    ∃ o', (h.update S (Obj.putSet es t)).get? S = some o' ∧ o'.ExactSet ∧ o'.data = .set es (ep + 1) t := by
  obtain ⟨c, d, dt, sl⟩ := o
  obtain ⟨rfl, rfl, rfl⟩ := hx
  cases hd
  exact ⟨_, Heap.get?_update_self (Obj.putSet es t) ho rfl, ⟨rfl, rfl, rfl⟩, rfl⟩
theorem add0 {S a : Addr} {ks : List Key} {h : Int} {F : Nat} {Q : Bool → Shared → Prop} (hS : St0 s.heap S) (ha : IsTupleKey (mixKind prog w) s.heap ks a)
    (q : ∀ h', Heap.SameBut S s.heap h' → St1 h' S a → Q true { s with heap := h' }) : wpAny (model prog w) A (setAddHashedIn S (.ref a) h (F + 1)) Q E s := by
  obtain ⟨o, ep, t, ho, hx, hd, hm, hp, hdu⟩ := hS
  have put : ∀ j, t.put j = ({ t with place := #[j] }, 0) := fun j => by
    unfold SetTable.put
    rw [hp, hdu, below0, has0]
    show (_, _) = _
    rw [if_neg (by decide)]
    have : SetTable.insertAt (#[] : Array Nat) 0 j = #[j] := by simp [SetTable.insertAt]
    rw [this]
  refine addH ho hd ?_ ha (fun _ => True) ?_ ?_ ?_ ?_
  · unfold SetTable.fits SetTable.fill
    rw [hm, hp, hdu]
    rfl
  · intro Q' q'
    rw [setSearch.eq_def, setSearchFrom.eq_def]
    refine wpAny_bind (wpAny_setState_of ho hd ?_ ?_)
    · unfold SetTable.fits SetTable.fill
      rw [hm, hp, hdu]
      rfl
    have hg : t.gaveWay = false := by unfold SetTable.gaveWay; rw [hm]; rfl
    show wpAny _ _ (if t.gaveWay = true then _ else _) _ _ _
    rw [hg]
    show wpAny _ _ (match SetTable.probe t _ h (t.probeStart h) with | some met => _ | _ => _) _ _ _
    have pr : ∀ f, SetTable.probe t f h (t.probeStart h) = some (.empty (t.probeStart h).j none) := fun f => by
      have hF : 10 * SetTable.turns t.mask = 219 + 1 := by rw [hm]; rfl
      rw [SetTable.probe.eq_def, hF, SetTable.probe.go.eq_def]
      simp only [slot0 hp hdu]
      rfl
    rw [pr]
    exact wpAny_pure (q' _ trivial)
  · intro j b _
    rw [put]
    unfold SetTable.tooFull SetTable.fill tbP
    cases b <;> simp [hm, hdu]
  · intro j _
    rw [put]
    simp [SetTable.insertAt, sizeLine_eq]
  · intro j b _
    rw [put]
    refine q _ (put_same _ _) ?_
    obtain ⟨o', g1, g2, g3⟩ := put_get (es := SetTable.insertAt #[] 0 (h, .ref a)) (t := tbP b { t with place := #[j] }) ho hx hd
    have e1 : SetTable.insertAt (#[] : Array (Int × Value)) 0 (h, Value.ref a) = #[(h, .ref a)] := by simp [SetTable.insertAt]
    rw [e1] at g1 g3
    show St1 (s.heap.update S (Obj.putSet (SetTable.insertAt #[] 0 (h, Value.ref a)) (tbP b { t with place := #[j] }))) S a
    rw [e1]
    refine ⟨o', ep + 1, tbP b { t with place := #[j] }, h, j, g1, g2, g3, ?_⟩
    unfold tbP
    cases b
    · exact ⟨hm, rfl, hdu⟩
    · exact ⟨hm, rfl, hdu⟩
theorem add1 {S a b : Addr} {ka kb : List Key} {h : Int} {F : Nat} {Q : Bool → Shared → Prop} (hS : St1 s.heap S a) (ha : IsTupleKey (mixKind prog w) s.heap ka a) (hb : IsTupleKey (mixKind prog w) s.heap kb b) (ne : ka ≠ kb) (hu : A.units < cLine)
    (q : ∀ h', Heap.SameBut S s.heap h' → StN h' S 2 → Q true { s with heap := h' }) : wpAny (model prog w) A (setAddHashedIn S (.ref b) h (F + 1)) Q E s := by
  obtain ⟨o, ep, t, h1, j1, ho, hx, hd, T⟩ := hS
  have put : ∀ j, ∃ pl, pl.size = 2 ∧ t.put j = ({ t with place := pl }, if j1 < j then 1 else 0) := fun j => by
    refine ⟨SetTable.insertAt #[j1] (if j1 < j then 1 else 0) j, ?_, ?_⟩
    · by_cases e : j1 < j
      · rw [if_pos e]; simp [SetTable.insertAt]
      · rw [if_neg e]; simp [SetTable.insertAt]
    · unfold SetTable.put
      rw [T.place, T.dum, below1, has0]
      show (_, _) = _
      simp only [Bool.false_eq_true, if_false]
  have es2 : ∀ j, (SetTable.insertAt #[(h1, Value.ref a)] (if j1 < j then 1 else 0) (h, Value.ref b)).size = 2 := fun j => by
    by_cases e : j1 < j
    · rw [if_pos e]; simp [SetTable.insertAt]
    · rw [if_neg e]; simp [SetTable.insertAt]
  refine addH ho hd (fits1 T) hb (fun _ => True) ?_ ?_ ?_ ?_
  · intro Q' q'
    rw [setSearch.eq_def]
    obtain ⟨R, hp⟩ := start1 T h
    exact srch ho hd T ha hb ne hu (fun j _ _ => q' j trivial) 100000 13 none _ rfl R hp (Nat.le_refl _) (.inl (by decide))
  · intro j c _
    obtain ⟨pl, h2, e⟩ := put j
    rw [e]
    unfold SetTable.tooFull SetTable.fill tbP
    cases c <;> simp [T.mask, T.dum, h2]
  · intro j _
    obtain ⟨pl, h2, e⟩ := put j
    rw [e, es2, sizeLine_eq]
    decide
  · intro j c _
    obtain ⟨pl, h2, e⟩ := put j
    rw [e]
    refine q _ (put_same _ _) ?_
    obtain ⟨o', g1, g2, g3⟩ := put_get (es := SetTable.insertAt #[(h1, Value.ref a)] (if j1 < j then 1 else 0) (h, .ref b)) (t := tbP c { t with place := pl }) ho hx hd
    refine ⟨o', _, _, _, g1, g2, g3, ?_, es2 j⟩
    rw [es2]
    unfold SetTable.fits SetTable.fill tbP
    cases c <;> simp [T.mask, T.dum, h2]
end
section
variable {prog : Program} {w : World} {A : Around} {R : Result → Shared → Prop} {I : Addr} {fp wr : List Addr} {G : Array GenState → Array GenState → Prop} {n : Nat} {P : Nat → Value → Prop} {St : Nat → Shared → Prop}
theorem set_fillG (W : WalksS prog w A.in1 I fp wr G n P St) (S : Addr) (hS : S ∉ fp) (SP : Nat → Heap → Prop) (stay : ∀ i h h', SP i h → (∀ b o, b ∉ wr → h.get? b = some o → h'.get? b = some o) → SP i h')
    (add : ∀ i v (s : Shared) (Q : Bool → Shared → Prop) (E : Value → Shared → Prop), i < n → P i v → SP i s.heap → (∀ h' tk b, s.toks ≤ tk → Heap.SameBut S s.heap h' → SP (i + 1) h' → Q b { s with heap := h', toks := tk }) → wpAny (model prog w) A.in1 (setAdd S v) Q E s) :
    ∀ (k i : Nat) (s : Shared), n - i = k → i ≤ n → St i s → SP i s.heap → (∀ s', Moved (S :: wr) G s s' → SP n s'.heap → R (.ok (.ret .none)) s') →
      codeAny (model prog w) A (.builtin "set.update.loop" ⟨[.ref S, .ref I], []⟩) R s := by
  have up : ∀ b ∈ wr, b ∈ S :: wr := fun b hb => List.mem_cons_of_mem _ hb
  intro k
  induction k with
  | zero =>
    intro i s hk hi hst hs hR
    have : i = n := by omega
    subst this
    refine codeAny_builtin PyProof.Rows.F.entry_set_update_loop ?_
    rw [Around.under_plainId PyProof.Rows.F.plain_set_update_loop _]
    show wpAny _ A.in1 (pyNext (.ref I) >>= _) _ _ s
    refine wpAny_bind (W.done s _ _ hst fun s' hm => ?_)
    show wpAny _ A.in1 (ret Value.none) _ _ s'
    exact wpAny_pure (hR s' (hm.mono up) (stay _ _ _ hs hm.heap))
  | succ k ih =>
    intro i s hk hi hst hs hR
    have hlt : i < n := by omega
    refine codeAny_builtin PyProof.Rows.F.entry_set_update_loop ?_
    rw [Around.under_plainId PyProof.Rows.F.plain_set_update_loop _]
    show wpAny _ A.in1 (pyNext (.ref I) >>= _) _ _ s
    refine wpAny_bind (W.item i s _ _ hlt hst fun v s' hP hst' hm => ?_)
    have hs' := stay _ _ _ hs hm.heap
    show wpAny _ A.in1 (holding [v] (setAdd S v) >>= _) _ _ s'
    refine wpAny_bind (wpAny_holding ?_)
    refine add i v s' _ _ hlt hP hs' fun h' tk b htk hsb hS2 => ?_
    refine wpAny_pure ⟨plainId_quiet PyProof.Rows.F.plain_set_update_loop _, ih (i + 1) _ (by omega) hlt (W.frame _ s' _ _ hst' htk fun b hb o e => ?_) hS2 fun s'' hm'' hS'' => ?_⟩
    · rw [hsb.2 b (fun h : b = S => hS (by rw [← h]; exact hb))]; exact e
    · refine hR s'' (Moved.trans W.gtrans ((hm.mono up).then_heap htk fun b o hb e => ?_) hm'') hS''
      rw [hsb.2 b (fun h : b = S => hb (by rw [h]; exact List.mem_cons_self))]; exact e
end
section
variable {prog : Program} {w : World} {A : Around} {E : Value → Shared → Prop} {s : Shared}
def SPt (prog : Program) (w : World) (S : Addr) (xs : List (Addr × List Key)) (i : Nat) (h : Heap) : Prop := (∀ x ∈ xs, IsTupleKey (mixKind prog w) h x.2 x.1) ∧ (match i with | 0 => St0 h S | 1 => ∃ x, xs[0]? = some x ∧ St1 h S x.1 | n => StN h S n)
theorem key_kept {h h' : Heap} {ks : List Key} {a : Addr} (hk : IsTupleKey (mixKind prog w) h ks a) (e : ∀ o, h.get? a = some o → h'.get? a = some o) : IsTupleKey (mixKind prog w) h' ks a := by
  obtain ⟨o, it, n, ho, r⟩ := hk
  exact ⟨o, it, n, e o ho, r⟩
theorem SPt.stay {S : Addr} {xs : List (Addr × List Key)} {i : Nat} {h h' : Heap} {wr : List Addr} (hS : S ∉ wr) (hx : ∀ x ∈ xs, x.1 ∉ wr) (x : SPt prog w S xs i h) (e : ∀ b o, b ∉ wr → h.get? b = some o → h'.get? b = some o) : SPt prog w S xs i h' := by
  obtain ⟨h1, h2⟩ := x
  refine ⟨fun y hy => key_kept (h1 y hy) fun o ho => e _ _ (hx y hy) ho, ?_⟩
  match i, h2 with
  | 0, ⟨o, ep, t, ho, r⟩ => exact ⟨o, ep, t, e _ _ hS ho, r⟩
  | 1, ⟨x, e0, o, ep, t, h1, j1, ho, r⟩ => exact ⟨x, e0, o, ep, t, h1, j1, e _ _ hS ho, r⟩
  | n + 2, ⟨o, es, ep, t, ho, r⟩ => exact ⟨o, es, ep, t, e _ _ hS ho, r⟩
theorem SPt.add {S : Addr} {xs : List (Addr × List Key)} {i : Nat} {x : Addr × List Key} {Q : Bool → Shared → Prop} (hu : A.units < cLine) (h2 : xs.length ≤ 2) (nd : (xs.map (·.2)).Nodup) (hS : ∀ x ∈ xs, x.1 ≠ S) (hi : xs[i]? = some x) (sp : SPt prog w S xs i s.heap)
    (q : ∀ h' tk b, s.toks ≤ tk → Heap.SameBut S s.heap h' → SPt prog w S xs (i + 1) h' → Q b { s with heap := h', toks := tk }) : wpAny (model prog w) A (setAdd S (.ref x.1)) Q E s := by
  obtain ⟨h1, hst⟩ := sp
  have hx := h1 x (List.mem_of_getElem? hi)
  have kp : ∀ {h' : Heap}, Heap.SameBut S s.heap h' → ∀ x ∈ xs, IsTupleKey (mixKind prog w) h' x.2 x.1 := fun {h'} hs y hy => key_kept (h1 y hy) fun o ho => by rw [hs.2 _ (hS y hy)]; exact ho
  unfold setAdd
  refine wpAny_holding (wpAny_bind ((tupleKind (mixKind prog w)).pyHash hu hx ?_))
  unfold setAddHashed
  refine wpAny_holding ?_
  have hil := (List.getElem?_eq_some_iff.mp hi).1
  match i, hi, hst with
  | 0, hi, hst =>
    exact add0 (F := 99999) (s := { s with toks := s.toks + _ }) hst hx fun h' hs st => q h' _ true (Nat.le_add_right _ _) hs ⟨kp hs, x, hi, st⟩
  | 1, hi, ⟨y, e0, st⟩ =>
    have ne : y.2 ≠ x.2 := fun e => by
      obtain ⟨l0, g0⟩ := List.getElem?_eq_some_iff.mp e0
      obtain ⟨l1, g1⟩ := List.getElem?_eq_some_iff.mp hi
      have := (List.pairwise_iff_getElem.mp nd) 0 1 (by rw [List.length_map]; exact l0) (by rw [List.length_map]; exact l1) (by decide)
      rw [List.getElem_map, List.getElem_map, g0, g1] at this
      exact this e
    exact add1 (F := 99999) (s := { s with toks := s.toks + _ }) st (h1 y (List.mem_of_getElem? e0)) hx ne hu fun h' hs st => q h' _ true (Nat.le_add_right _ _) hs ⟨kp hs, st⟩
  | n + 2, hi, _ => omega
end
section
variable {prog : Program} {w : World} {A : Around} {E : Value → Shared → Prop} {s : Shared}
theorem call_set_keys {l : Addr} {items : Array Value} {xs : List (Addr × List Key)} {Q : Value → Shared → Prop} (hh : A.handled = none) (hu : A.units + 8 < cLine) (hl : s.heap.IsList l items) (hz : items.toList = xs.map fun x => Value.ref x.1) (hx2 : xs.length ≤ 2) (nd : (xs.map (·.2)).Nodup) (hk : ∀ x ∈ xs, IsTupleKey (mixKind prog w) s.heap x.2 x.1)
    (h : ∀ (h' : Heap) (tk : Nat), StN h' s.heap.objs.size xs.length → (∀ b o, b < s.heap.objs.size → s.heap.get? b = some o → h'.get? b = some o) → Q (.ref s.heap.objs.size) { s with heap := h', toks := tk }) :
    wpAny (model prog w) A (call (.type "set") [.ref l]) Q E s := by
  obtain ⟨c, tl, hmro⟩ := F.called_set.mro
  have hmade := F.called_set.made
  have hsub := F.called_set.sub
  refine wpAny_call (codeAny_of_tree ?_)
  show wpAny _ _ (callAny (.type "set") _) _ _ _
  refine wpAny_pure ⟨Code.quiet_builtin _ (by decide +kernel), codeAny_builtin F.entry_type_call ?_⟩
  rw [Around.under_plain (weight_type_call_type "set" [.ref l] []) rfl]
  have h1 := F.called_set.notType
  have h2 := F.called_set.canCreate
  have hct := F.typeCall_set_1 (.ref l)
  repeat (any_goals (first | assumption | wp_step))
  refine codeAny_mono (code_set_new_1 (.ref l) (E := E) (Q₁ := fun obj s₁ => ∃ led : Bool, obj = .ref s.heap.objs.size ∧ s₁ = { s with heap := s.heap.push { cls := .type "set", dict := none, data := .set #[] 0 (.fresh 0 0 led) } }) fun led => ⟨led, rfl, rfl⟩) fun r s₁ hr => ?_
  cases r with
  | error e => exact hr
  | ok fl =>
    cases fl with
    | ret obj =>
      obtain ⟨led, rfl, rfl⟩ := hr
      have hS : (s.heap.push { cls := .type "set", dict := none, data := .set #[] 0 (.fresh 0 0 led) }).get? s.heap.objs.size = some { cls := .type "set", dict := none, data := .set #[] 0 (.fresh 0 0 led) } := Heap.get?_push_size _ rfl
      have hT : Shared.TypeIs { s with heap := s.heap.push { cls := .type "set", dict := none, data := .set #[] 0 (.fresh 0 0 led) } } (.ref s.heap.objs.size) "set" := ⟨_, hS, rfl⟩
      have hli := F.called_set.init.lookup
      have hbi := F.called_set.init.bind (.ref s.heap.objs.size)
      repeat (any_goals (first | assumption | wp_step))
      refine codeAny_mono (codeAny_call_builtin (R := wants (fun r s₂ => r = .none ∧ ∃ h' tk, s₂ = { s with heap := h', toks := tk } ∧ StN h' s.heap.objs.size xs.length ∧
          (∀ b o, b < s.heap.objs.size → s.heap.get? b = some o → h'.get? b = some o)) E) F.called_set.init.plain F.entry_set_init (check_set_init_1 hT ?_)) fun r₂ s₂ hr₂ => ?_
      · obtain ⟨⟨ocls, odict, odata, oslots⟩, hol, hcl, nl, hdl⟩ := id hl
        simp only at hcl hdl
        subst hcl hdl
        have hol' : (s.heap.push { cls := .type "set", dict := none, data := .set #[] 0 (.fresh 0 0 led) }).get? l = some { cls := .type "list", dict := odict, data := .seq items nl, slots := oslots } := Heap.get?_push_of_some _ hol
        have hsls := F.sub_list_set
        have hslf := F.sub_list_frozenset
        have hne : (Value.type "list" == Value.type "dict") = false := by decide
        have hl1 : (s.heap.push { cls := .type "set", dict := none, data := .set #[] 0 (.fresh 0 0 led) }).IsList l items := ⟨_, hol', rfl, nl, rfl⟩
        unfold Builtin.«set.__init__» noKeywords Builtin.Frozenset.updateFrom
        generalize hPI : pyIter = PI
        wp_walk
        subst hPI
        refine wpAny_pyIter_list hl1 ?_
        refine wpAny_bind (wpAny_runValue ?_)
        have hlS : l < s.heap.objs.size := Heap.lt_size hol
        have hh3 : A.in1.in1.in1.handled = none := by simp [hh]
        have szp : (s.heap.push { cls := .type "set", dict := none, data := .set #[] 0 (.fresh 0 0 led) }).objs.size = s.heap.objs.size + 1 := Heap.size_push _ _
        have hneI : l ≠ (s.heap.push { cls := .type "set", dict := none, data := .set #[] 0 (.fresh 0 0 led) }).objs.size := by rw [szp]; exact Nat.ne_of_lt (Nat.lt_succ_of_lt hlS)
        have hSf : s.heap.objs.size ∉ [(s.heap.push { cls := .type "set", dict := none, data := .set #[] 0 (.fresh 0 0 led) }).objs.size, l] := by
          simp only [List.mem_cons, List.not_mem_nil, or_false, not_or]
          exact ⟨by rw [szp]; exact Nat.ne_of_lt (Nat.lt_succ_self _), Nat.ne_of_gt hlS⟩
        have hln : xs.length = items.size := by
          have := congrArg List.length hz
          simpa using this.symm
        have hval : ∀ (i : Nat) (v : Value), items[i]? = some v → ∃ x, xs[i]? = some x ∧ v = .ref x.1 := fun i v hv => by
          have hv : items.toList[i]? = some v := by rw [Array.getElem?_toList]; exact hv
          rw [hz, List.getElem?_map] at hv
          obtain ⟨x, h1, h2⟩ := Option.map_eq_some_iff.mp hv
          exact ⟨x, h1, h2.symm⟩
        have xlt : ∀ x ∈ xs, x.1 < s.heap.objs.size := fun x hx => by
          obtain ⟨o, _, _, ho, _⟩ := hk x hx
          exact Heap.lt_size ho
        refine set_fillG ((Walks.list hh3 _ l hneI items).toS) s.heap.objs.size hSf (SPt prog w s.heap.objs.size xs) (fun i h h' => SPt.stay ?a1 ?a2) (fun i v s1 Q1 E1 hi hP sp q1 => ?a3) (items.size - 0) 0 _ (by omega) (Nat.zero_le _) ⟨⟨_, Heap.get?_push_size _ rfl, rfl, rfl⟩, (hl1.push _)⟩ ?hS0 ?hR
        case a1 => rw [szp]; simp
        case a2 =>
          intro x hx
          rw [szp, List.mem_singleton]
          exact Nat.ne_of_lt (Nat.lt_succ_of_lt (xlt x hx))
        case a3 =>
          obtain ⟨x, hx, rfl⟩ := hval i v hP
          exact SPt.add (by simp [Around.in1]; omega) hx2 nd (fun x hx => Nat.ne_of_lt (xlt x hx)) hx sp q1
        case hS0 =>
          refine ⟨fun x hx => key_kept (hk x hx) fun o ho => Heap.get?_push_of_some _ (Heap.get?_push_of_some _ ho), ?_⟩
          exact ⟨_, 0, _, Heap.get?_push_of_some _ hS, ⟨rfl, rfl, rfl⟩, rfl, rfl, rfl, rfl⟩
        case hR =>
          intro s' hm hS'
          have hS' : StN s'.heap s.heap.objs.size xs.length := by
            have hS' := hS'.2
            rw [← hln] at hS'
            match hn : xs.length, hS', hx2 with
            | 0, hS', _ => exact hS'.n
            | 1, ⟨_, _, hS'⟩, _ => exact hS'.n
            | n + 2, hS', _ => exact hS'
          obtain ⟨h', g', d', tk', os'⟩ := s'
          have eg : g' = s.gens := hm.gens
          have ed : d' = s.drawn := hm.drawn
          have eo : os' = s.os := hm.os
          subst eg ed eo
          show wpAny _ _ _ _ _ _
          refine wpAny_pure ?_
          show wpAny _ _ (ret Value.none) _ _ _
          refine wpAny_pure ⟨rfl, h', tk', rfl, hS', fun b o hb e => ?_⟩
          refine hm.heap b o ?_ (Heap.get?_push_of_some _ (Heap.get?_push_of_some _ e))
          simp only [List.mem_cons, List.not_mem_nil, or_false, not_or]
          exact ⟨Nat.ne_of_lt hb, by rw [szp]; exact Nat.ne_of_lt (Nat.lt_succ_of_lt hb)⟩
      · cases r₂ with
        | error e => exact hr₂
        | ok fl₂ =>
          cases fl₂ with
          | ret r =>
            obtain ⟨rfl, h', tk, rfl, hS', hk'⟩ := hr₂
            repeat (any_goals (first | assumption | wp_step))
            exact h _ _ hS' hk'
          | _ => exact hr₂.elim
    | _ => exact hr.elim
end
theorem vals_refsK : ∀ {xs : List (Addr × List Key)} {us : List Value}, Vals (xs.map fun x => V.ref x.1) us → us = xs.map fun x => Value.ref x.1
  | [], _, r => by rw [List.map_nil] at r; cases r; rfl
  | x :: xs, _, r => by
    rw [List.map_cons] at r
    cases r with
    | cons h t => cases h; rw [vals_refsK t]; rfl
section
variable {X : Cx}
def tLenK (K : PySem.W.Frag) (te : TE) : TE := fun σ H Q => te σ H fun x H1 => ∃ (a : Addr) (xs : List (Addr × List Key)), x = .ref a ∧ SqL K H1 a (xs.map fun x => V.ref x.1) ∧ xs.length ≤ 2 ∧ (xs.map (·.2)).Nodup ∧ (∀ x ∈ xs, H1 x.1 = some (.tup (x.2.map kV))) ∧ Q (.int (xs.length : Nat)) H1
theorem pe_lenK {e : Expr} {te : TE} {p1 p2 p3 pos : Pos} (hh : X.A.handled = none) (hu : X.A.units + 64 < cLine) (g1 : Gl X "len") (m1 : X.mg "len" = none) (g2 : Gl X "set") (m2 : X.mg "set" = none) (he : PE X e te)
    (h1 : starEach [.Call (.Name "set" p2) [e] [] p3] X.env = [(false, eval (.Call (.Name "set" p2) [e] [] p3) X.env)] := by rfl) (h2 : starEach [e] X.env = [(false, eval e X.env)] := by rfl) :
    PE X (.Call (.Name "len" p1) [.Call (.Name "set" p2) [e] [] p3] [] pos) (tLenK X.K te) := by
  intro pins s σ H Q I h
  refine wpAny_Call_Name_kw (ld_blt I g1 m1 boot_len ?_ (by decide) (by decide))
  refine PyProof.Rows.callWith_builtin1 ?_ h1 rfl
  rw [h1]
  show wpAny _ _ (spliced ((false, eval (.Call (.Name "set" p2) [e] [] p3) X.env) :: backTo pos (starEach [] X.env))) _ _ s
  refine Calls.spliced_cons ?_
  refine wpAny_Call_Name_kw (ld_blt I g2 m2 boot_set ?_ (by decide) (by decide))
  refine PyProof.Rows.callWith_type1 ?_ h2 rfl
  rw [h2]
  show wpAny _ _ (spliced ((false, eval e X.env) :: backTo p3 (starEach [] X.env))) _ _ s
  refine Calls.spliced_cons (thn (he pins s σ H _ I h) fun u s1 ⟨x, H1, I1, r1, q1⟩ => ?_)
  obtain ⟨a, xs, rfl, hq, h2', nd, hk, q⟩ := q1
  cases r1
  refine Calls.spliced_nil ?_
  obtain ⟨its, rv, pl, _⟩ := I1.list hq
  refine call_set_keys (xs := xs) hh (by omega) pl.isList (by simpa using vals_refsK rv) h2' nd (fun x hx => key_of I1.hok (hk x hx)) fun h' tk hS hk => ?_
  refine Calls.spliced_nil ?_
  obtain ⟨o, es, ep, t, ho, hex, hd, hf, hn⟩ := hS
  refine call_len_set (s := { s1 with heap := h', toks := tk }) ho hex hd hf (by omega) ?_
  refine ⟨.int (xs.length : Nat), H1, (I1.kept (t' := tk + 1 + 1) fun b u e => hk b u (Heap.lt_size e) e), ⟨_, by rw [hn]⟩, q⟩
end
theorem kit_list_any {K : PySem.W.Frag} : PySem.W.kitAny K (.type "list") [.type "list", .type "tuple"] = some true := by
  show (match PySem.W.kitOne K (.type "list") (.type "list") with | some true => some true | some false => PySem.W.kitAny K (.type "list") [.type "tuple"] | none => none) = some true
  rw [kit_same]
theorem call_isLT {X : Cx} : CallR X (.builtin "isinstance") (fun xs H Q => ∃ (a : Addr) (ys : List V) (tp : Addr), xs = [.ref a, .ref tp] ∧ H a = some (.lst ys) ∧ SqT X.K H tp [.ty "list", .ty "tuple"] ∧ Q (.bl true) H) := by
  intro pins s σ H xs us Q I r h
  obtain ⟨a, ys, tp, rfl, ha, hq, q⟩ := h
  obtain ⟨u, w', rfl, rx, rc⟩ := vals2 r
  obtain rfl : u = Value.ref a := rx
  obtain rfl : w' = Value.ref tp := rc
  obtain ⟨_, _, n, _, h1⟩ := (show ObjOk X.prog X.w H s.heap a (.lst ys) from I.hok a _ ha)
  obtain ⟨its, rv, pl, _⟩ := I.tuple hq
  have ei : its = [.type "list", .type "tuple"] := by
    cases rv with
    | cons r1 r2 => cases r2 with
      | cons r3 r4 =>
        cases r4
        have r1 : _ = Value.type "list" := r1
        have r3 : _ = Value.type "tuple" := r3
        rw [r1, r3]
  obtain ⟨⟨oc, odd, odt, osl⟩, e1, hc, n1, dd⟩ := pl
  dsimp only at hc dd
  subst hc dd ei
  exact PySem.W.kia_tup PySem.W.kitx_list I.kIn ⟨_, h1, rfl⟩ e1 kit_list_any (fun z => nomatch z) fun tk => ⟨.bl true, H, I.tok _, rfl, q⟩
theorem kit_tuple_list {K : PySem.W.Frag} : PySem.W.kitOne K (.type "tuple") (.type "list") = some false := kit_ty (by decide +kernel) (by decide +kernel) (by decide +kernel)
theorem kit_tuple_any {K : PySem.W.Frag} : PySem.W.kitAny K (.type "tuple") [.type "list", .type "tuple"] = some true := by
  show (match PySem.W.kitOne K (.type "tuple") (.type "list") with | some true => some true | some false => PySem.W.kitAny K (.type "tuple") [.type "tuple"] | none => none) = some true
  rw [kit_tuple_list]
  show (match PySem.W.kitOne K (.type "tuple") (.type "tuple") with | some true => some true | some false => PySem.W.kitAny K (.type "tuple") [] | none => none) = some true
  rw [kit_same]
theorem call_isTT {X : Cx} : CallR X (.builtin "isinstance") (fun xs H Q => ∃ (a : Addr) (ys : List V) (tp : Addr), xs = [.ref a, .ref tp] ∧ H a = some (.tup ys) ∧ SqT X.K H tp [.ty "list", .ty "tuple"] ∧ Q (.bl true) H) := by
  intro pins s σ H xs us Q I r h
  obtain ⟨a, ys, tp, rfl, ha, hq, q⟩ := h
  obtain ⟨u, w', rfl, rx, rc⟩ := vals2 r
  obtain rfl : u = Value.ref a := rx
  obtain rfl : w' = Value.ref tp := rc
  obtain ⟨_, _, _, ob, h1, hcl, _⟩ := (show ObjOk X.prog X.w H s.heap a (.tup ys) from I.hok a _ ha)
  obtain ⟨its, rv, pl, _⟩ := I.tuple hq
  have ei : its = [.type "list", .type "tuple"] := by
    cases rv with
    | cons r1 r2 => cases r2 with
      | cons r3 r4 =>
        cases r4
        have r1 : _ = Value.type "list" := r1
        have r3 : _ = Value.type "tuple" := r3
        rw [r1, r3]
  obtain ⟨⟨oc, odd, odt, osl⟩, e1, hc, n1, dd⟩ := pl
  dsimp only at hc dd
  subst hc dd ei
  exact PySem.W.kia_tup PySem.W.kitx_tuple I.kIn ⟨_, h1, hcl⟩ e1 kit_tuple_any (fun z => nomatch z) fun tk => ⟨.bl true, H, I.tok _, rfl, q⟩
theorem pg_tupK {X : Cx} {pos : Pos} {es : List Expr} {k : Nat} {t : TGs} {n : Nat} (K : PySem.W.Frag) (hc : X.calm = true) (h : PGs X es t) (hK : X.K = K := by rfl) (hn : (assignEach es X.env).length = n := by rfl) (hst : (assignEach es X.env).findIdx? (·.1) = none := by rfl) : PG X (.Tuple es k pos) (gTup K n t) := by
  subst hK
  exact pg_tup hc h hn hst
open PySem PySem.Spec PyProof.Rows PySem.SeqAt
section
variable {X : Cx}
def rSameD (K : PySem.W.Frag) (b : Bool) : R2 := fun x y H Q => ∃ d, RdD K H x d ∧ RdD K H y d ∧ shaped d = true ∧ Q (.bl b) H
theorem op_neSD (hu : X.A.units + 64 < cLine) : OpR X (compareOp .NotEq) (rSameD X.K false) := by
  intro pins s σ H x y v u Q I rx ry ⟨d, hx, hy, sd, q⟩
  exact op_neD hu pins s σ H x y v u Q I rx ry ⟨d, d, hx, hy, sd, sd, by rw [PySem.SeqAt.eqv_refl d (canLay_of_shaped sd)]; exact q⟩
end
section
variable {X : Cx}
theorem call_maxL (hc : X.calm = true) : CallR X (.builtin "max") (fun xs H Q => ∃ (p : Addr) (ns : List Int), xs = [.ref p] ∧ SqL X.K H p (ns.map V.int) ∧ 0 < ns.length ∧ ∀ m ∈ ns, (∀ a ∈ ns, a ≤ m) → Q (.int m) H) := by
  intro pins s σ H xs us Q I r h
  obtain ⟨p, ns, rfl, hq, hn, q⟩ := h
  obtain ⟨u, rfl, ru⟩ := vals1 r
  cases ru
  obtain ⟨its, rv, pl, hz⟩ := I.list hq
  have hi := intsAre_of rv
  obtain ⟨xs, ex⟩ := hi.allInts.items
  have el : numsOf its = ns := hi.numsOf
  have hl := pl.isList
  rw [ex] at hl
  have nx : numsOf (intItems xs).toList = xs.toList.map (·.1) := nums_intItems xs
  have en : xs.toList.map (·.1) = ns := by rw [← nx, ← ex]; exact el
  have hsz : 0 < xs.size := by
    have : (xs.toList.map (·.1)).length = ns.length := by rw [en]
    rw [List.length_map, Array.length_toList] at this
    omega
  refine max_intList (I.ok.hd hc) hl hsz fun v h' tk hv hk => ?_
  obtain ⟨t, rfl⟩ := intItems_at hv
  have fe : (fun i j => decide (numAt xs i > numAt xs j)) = fun i j => decide ((fun k => - numAt xs k) i < (fun k => - numAt xs k) j) := by
    funext i j
    rw [decide_eq_decide]
    dsimp only
    omega
  obtain ⟨h1, h2⟩ := argBest_lt (fun k => - numAt xs k) (xs.size - 1)
  rw [← fe] at h1 h2
  refine ⟨.int _, H, I.kept (t' := tk) hk, ⟨t, rfl⟩, q _ ?_ fun a ha => ?_⟩
  · rw [← en, numAt_eq]; exact getD_mem (by rw [List.length_map, Array.length_toList]; omega)
  · rw [← en] at ha
    obtain ⟨j, hj, rfl⟩ := mem_getD ha
    rw [List.length_map, Array.length_toList] at hj
    rw [← numAt_eq]
    have := h2 j (by omega)
    omega
def repZ (n : Nat) (z : Str) : Str := ⟨((List.replicate n z.cps.toList).flatten).toArray⟩
theorem foldl_repZ : ∀ (n : Nat) (a acc : Array Nat), List.foldl (fun x1 x2 => x1 ++ x2) acc (List.replicate n a) = acc ++ ((List.replicate n a.toList).flatten).toArray
  | 0, a, acc => by simp
  | n + 1, a, acc => by
    rw [List.replicate_succ, List.foldl_cons, foldl_repZ n, List.replicate_succ, List.flatten_cons]
    apply Array.ext'
    simp
theorem rep_len (n : Nat) (z : Str) : (repZ n z).length = n * z.length := by
  show ((List.replicate n z.cps.toList).flatten).toArray.size = _
  rw [List.size_toArray]
  simp [Str.length]
theorem op_mulS : OpR X (binaryOp .Mult) (fun x y H Q => ∃ z n, x = .str z ∧ y = .int n ∧ 0 ≤ n ∧ n ≤ 100 ∧ z.length ≤ 100 ∧ Q (.str (repZ n.toNat z)) H) := by
  intro pins s σ H x y v u Q I rx ry h
  obtain ⟨z, n, rfl, rfl, h0, h1, hz, q⟩ := h
  obtain ⟨t, rfl⟩ := rx
  obtain ⟨t', rfl⟩ := ry
  have hs : sizeLine = 16777216 := sizeLine_eq
  have hm : z.length * n.toNat ≤ 100 * 100 := Nat.mul_le_mul hz (by omega)
  refine P.mul_str ?_ ?_ ?_ ?_
  · rw [Bool.or_eq_false_iff]
    exact ⟨decide_eq_false (by omega), decide_eq_false (by omega)⟩
  · intro g1 _ g3
    have e : ((z.length * n.toNat : Nat) : Int) = (z.length : Int) * n := by rw [Int.natCast_mul, Int.toNat_of_nonneg h0]
    have : (z.length : Int) ≤ (2 ^ 63 - 1) / n := Int.le_ediv_of_mul_le (by omega) (by rw [← e]; omega)
    omega
  · intro _ _
    exact decide_eq_false (by omega)
  · have fin : ∀ (y : Str) (tk : Nat), y = repZ n.toNat z → ∃ v H', Inv X pins σ H' { s with toks := tk } ∧ RelV v (Value.str y s.toks) ∧ Q v H' := fun y tk e => ⟨.str y, H, I.tok _, ⟨_, rfl⟩, by rw [e]; exact q⟩
    by_cases g : n < 1
    · rw [if_pos g]
      have : n = 0 := by omega
      subst this
      exact ⟨by show 0 ≤ sizeLine; omega, fin _ _ rfl⟩
    · rw [if_neg g]
      by_cases g2 : (n == 1 || z.length == 0) = true
      · rw [if_pos g2]
        have e : z = repZ n.toNat z := by
          rw [Bool.or_eq_true, beq_iff_eq, beq_iff_eq] at g2
          rcases g2 with rfl | g2
          · show z = ⟨((List.replicate 1 z.cps.toList).flatten).toArray⟩
            simp
          · have : z.cps = #[] := Array.eq_empty_of_size_eq_zero g2
            obtain ⟨c⟩ := z
            dsimp only at this
            subst this
            unfold repZ
            simp
        exact ⟨.str z, H, I, ⟨_, rfl⟩, by rw [← e] at q; exact q⟩
      · rw [if_neg g2]
        have e : (⟨List.foldl (fun x1 x2 => x1 ++ x2) #[] (List.replicate n.toNat z.cps)⟩ : Str) = repZ n.toNat z := by rw [foldl_repZ]; unfold repZ; simp
        refine ⟨?_, fin _ _ e⟩
        rw [e, rep_len, Nat.mul_comm]
        omega
end
open PySem PyProof.Rows
structure MTop (K : PySem.W.Frag) (C : Addr) (m qual : Str) (st : Stmt) (ps : List Str) : Prop where
  ex : ∃ (f : Addr) (fd : FuncData), Fun K m qual st f fd ∧ Meth K C m f ∧ Binds K fd ps []
theorem mtop_of {K : PySem.W.Frag} {h : Heap} {C f : Addr} {m qual : Str} {st : Stmt} {ps : List Str} {oc : Value} {od an : Option Addr} {osl : Array (Option Value)} {kV doc pm cdv ct : Value} (X : K.In h)
    (hb : ∀ (kV doc pm : Value) (an : Option Addr) (cdv ct : Value) (us : List Value), us.length = ps.length → bindArgs (PySem.W.fnOf m qual (defArgs st) (defBody st) (defScope st) .none kV doc pm an cdv ct) ⟨us, []⟩ = pure (ps.zip us))
    (a : PySem.W.findIn K (.ref C) m = some (some (.ref f))) (i : PySem.W.isFn K (.ref f) = true) (l : K.lookup f = some ⟨oc, od, .func (PySem.W.fnOf m qual (defArgs st) (defBody st) (defScope st) .none kV doc pm an cdv ct), osl⟩)
    (c : PySem.W.codeIn K cdv qual = true) (k : PySem.W.keepIn K (.ref f) = true) : MTop (KOf X) C m qual st ps :=
  ⟨f, _, fun_mk l c k, ⟨a, i, k⟩, .all fun us => hb kV doc pm an cdv ct us⟩
theorem methD_of {P : Program} {w : World} {K : PySem.W.Frag} {mg : Str → Option Value} {base : Heap} {C : Addr} {m qual : Str} {st : Stmt} {ps : List Str} {k : Nat} {sp : Sp} {CX : CXT} (c : Cls K C) (h : MTop K C m qual st ps) (ok : ∀ f fd, Fun K m qual st f fd → FnOk P w K mg base CX k f fd ps sp) : MethD P w K mg base CX k C m ps sp := by
  obtain ⟨f, fd, F, hm, hb⟩ := h.ex
  exact ⟨f, fd, c, hm, ok f fd F, hb⟩
end L2
namespace L2
open PySem PySem.Spec PyProof.Rows
section
variable {X : Cx}
end
section
variable {prog : Program} {w : World} {A : Around} {E : Value → Shared → Prop} {s : Shared}
theorem call_set_keysT {l : Addr} {items : Array Value} {xs : List (Addr × List Key)} {Q : Value → Shared → Prop} (hh : A.handled = none) (hu : A.units + 8 < cLine) (hl : s.heap.IsTuple l items) (hz : items.toList = xs.map fun x => Value.ref x.1) (hx2 : xs.length ≤ 2) (nd : (xs.map (·.2)).Nodup) (hk : ∀ x ∈ xs, IsTupleKey (mixKind prog w) s.heap x.2 x.1)
    (h : ∀ (h' : Heap) (tk : Nat), StN h' s.heap.objs.size xs.length → (∀ b o, b < s.heap.objs.size → s.heap.get? b = some o → h'.get? b = some o) → Q (.ref s.heap.objs.size) { s with heap := h', toks := tk }) :
    wpAny (model prog w) A (call (.type "set") [.ref l]) Q E s := by
  obtain ⟨c, tl, hmro⟩ := F.called_set.mro
  have hmade := F.called_set.made
  have hsub := F.called_set.sub
  refine wpAny_call (codeAny_of_tree ?_)
  show wpAny _ _ (callAny (.type "set") _) _ _ _
  refine wpAny_pure ⟨Code.quiet_builtin _ (by decide +kernel), codeAny_builtin F.entry_type_call ?_⟩
  rw [Around.under_plain (weight_type_call_type "set" [.ref l] []) rfl]
  have h1 := F.called_set.notType
  have h2 := F.called_set.canCreate
  have hct := F.typeCall_set_1 (.ref l)
  repeat (any_goals (first | assumption | wp_step))
  refine codeAny_mono (code_set_new_1 (.ref l) (E := E) (Q₁ := fun obj s₁ => ∃ led : Bool, obj = .ref s.heap.objs.size ∧ s₁ = { s with heap := s.heap.push { cls := .type "set", dict := none, data := .set #[] 0 (.fresh 0 0 led) } }) fun led => ⟨led, rfl, rfl⟩) fun r s₁ hr => ?_
  cases r with
  | error e => exact hr
  | ok fl =>
    cases fl with
    | ret obj =>
      obtain ⟨led, rfl, rfl⟩ := hr
      have hS : (s.heap.push { cls := .type "set", dict := none, data := .set #[] 0 (.fresh 0 0 led) }).get? s.heap.objs.size = some { cls := .type "set", dict := none, data := .set #[] 0 (.fresh 0 0 led) } := Heap.get?_push_size _ rfl
      have hT : Shared.TypeIs { s with heap := s.heap.push { cls := .type "set", dict := none, data := .set #[] 0 (.fresh 0 0 led) } } (.ref s.heap.objs.size) "set" := ⟨_, hS, rfl⟩
      have hli := F.called_set.init.lookup
      have hbi := F.called_set.init.bind (.ref s.heap.objs.size)
      repeat (any_goals (first | assumption | wp_step))
      refine codeAny_mono (codeAny_call_builtin (R := wants (fun r s₂ => r = .none ∧ ∃ h' tk, s₂ = { s with heap := h', toks := tk } ∧ StN h' s.heap.objs.size xs.length ∧
          (∀ b o, b < s.heap.objs.size → s.heap.get? b = some o → h'.get? b = some o)) E) F.called_set.init.plain F.entry_set_init (check_set_init_1 hT ?_)) fun r₂ s₂ hr₂ => ?_
      · obtain ⟨⟨ocls, odict, odata, oslots⟩, hol, hcl, nl, hdl⟩ := id hl
        simp only at hcl hdl
        subst hcl hdl
        have hol' : (s.heap.push { cls := .type "set", dict := none, data := .set #[] 0 (.fresh 0 0 led) }).get? l = some { cls := .type "tuple", dict := odict, data := .seq items nl, slots := oslots } := Heap.get?_push_of_some _ hol
        have hsls := F.sub_tuple_set
        have hslf := F.sub_tuple_frozenset
        have hne : (Value.type "tuple" == Value.type "dict") = false := by decide
        have hl1 : (s.heap.push { cls := .type "set", dict := none, data := .set #[] 0 (.fresh 0 0 led) }).IsTuple l items := ⟨_, hol', rfl, nl, rfl⟩
        unfold Builtin.«set.__init__» noKeywords Builtin.Frozenset.updateFrom
        generalize hPI : pyIter = PI
        wp_walk
        subst hPI
        refine wpAny_pyIter_tuple hl1 ?_
        refine wpAny_bind (wpAny_runValue ?_)
        have hlS : l < s.heap.objs.size := Heap.lt_size hol
        have hh3 : A.in1.in1.in1.handled = none := by simp [hh]
        have szp : (s.heap.push { cls := .type "set", dict := none, data := .set #[] 0 (.fresh 0 0 led) }).objs.size = s.heap.objs.size + 1 := Heap.size_push _ _
        have hneI : l ≠ (s.heap.push { cls := .type "set", dict := none, data := .set #[] 0 (.fresh 0 0 led) }).objs.size := by rw [szp]; exact Nat.ne_of_lt (Nat.lt_succ_of_lt hlS)
        have hSf : s.heap.objs.size ∉ [(s.heap.push { cls := .type "set", dict := none, data := .set #[] 0 (.fresh 0 0 led) }).objs.size, l] := by
          simp only [List.mem_cons, List.not_mem_nil, or_false, not_or]
          exact ⟨by rw [szp]; exact Nat.ne_of_lt (Nat.lt_succ_self _), Nat.ne_of_gt hlS⟩
        have hln : xs.length = items.size := by
          have := congrArg List.length hz
          simpa using this.symm
        have hval : ∀ (i : Nat) (v : Value), items[i]? = some v → ∃ x, xs[i]? = some x ∧ v = .ref x.1 := fun i v hv => by
          have hv : items.toList[i]? = some v := by rw [Array.getElem?_toList]; exact hv
          rw [hz, List.getElem?_map] at hv
          obtain ⟨x, h1, h2⟩ := Option.map_eq_some_iff.mp hv
          exact ⟨x, h1, h2.symm⟩
        have xlt : ∀ x ∈ xs, x.1 < s.heap.objs.size := fun x hx => by
          obtain ⟨o, _, _, ho, _⟩ := hk x hx
          exact Heap.lt_size ho
        refine set_fillG ((Walks.tuple hh3 _ l hneI items).toS) s.heap.objs.size hSf (SPt prog w s.heap.objs.size xs) (fun i h h' => SPt.stay ?a1 ?a2) (fun i v s1 Q1 E1 hi hP sp q1 => ?a3) (items.size - 0) 0 _ (by omega) (Nat.zero_le _) ⟨⟨_, Heap.get?_push_size _ rfl, rfl, rfl⟩, (hl1.push _)⟩ ?hS0 ?hR
        case a1 => rw [szp]; simp
        case a2 =>
          intro x hx
          rw [szp, List.mem_singleton]
          exact Nat.ne_of_lt (Nat.lt_succ_of_lt (xlt x hx))
        case a3 =>
          obtain ⟨x, hx, rfl⟩ := hval i v hP
          exact SPt.add (by simp [Around.in1]; omega) hx2 nd (fun x hx => Nat.ne_of_lt (xlt x hx)) hx sp q1
        case hS0 =>
          refine ⟨fun x hx => key_kept (hk x hx) fun o ho => Heap.get?_push_of_some _ (Heap.get?_push_of_some _ ho), ?_⟩
          exact ⟨_, 0, _, Heap.get?_push_of_some _ hS, ⟨rfl, rfl, rfl⟩, rfl, rfl, rfl, rfl⟩
        case hR =>
          intro s' hm hS'
          have hS' : StN s'.heap s.heap.objs.size xs.length := by
            have hS' := hS'.2
            rw [← hln] at hS'
            match hn : xs.length, hS', hx2 with
            | 0, hS', _ => exact hS'.n
            | 1, ⟨_, _, hS'⟩, _ => exact hS'.n
            | n + 2, hS', _ => exact hS'
          obtain ⟨h', g', d', tk', os'⟩ := s'
          have eg : g' = s.gens := hm.gens
          have ed : d' = s.drawn := hm.drawn
          have eo : os' = s.os := hm.os
          subst eg ed eo
          show wpAny _ _ _ _ _ _
          refine wpAny_pure ?_
          show wpAny _ _ (ret Value.none) _ _ _
          refine wpAny_pure ⟨rfl, h', tk', rfl, hS', fun b o hb e => ?_⟩
          refine hm.heap b o ?_ (Heap.get?_push_of_some _ (Heap.get?_push_of_some _ e))
          simp only [List.mem_cons, List.not_mem_nil, or_false, not_or]
          exact ⟨Nat.ne_of_lt hb, by rw [szp]; exact Nat.ne_of_lt (Nat.lt_succ_of_lt hb)⟩
      · cases r₂ with
        | error e => exact hr₂
        | ok fl₂ =>
          cases fl₂ with
          | ret r =>
            obtain ⟨rfl, h', tk, rfl, hS', hk'⟩ := hr₂
            repeat (any_goals (first | assumption | wp_step))
            exact h _ _ hS' hk'
          | _ => exact hr₂.elim
    | _ => exact hr.elim
end
section
variable {X : Cx}
def tLenKT (K : PySem.W.Frag) (te : TE) : TE := fun σ H Q => te σ H fun x H1 => ∃ (a : Addr) (xs : List (Addr × List Key)), x = .ref a ∧ SqT K H1 a (xs.map fun x => V.ref x.1) ∧ xs.length ≤ 2 ∧ (xs.map (·.2)).Nodup ∧ (∀ x ∈ xs, H1 x.1 = some (.tup (x.2.map kV))) ∧ Q (.int (xs.length : Nat)) H1
theorem pe_lenKT {e : Expr} {te : TE} {p1 p2 p3 pos : Pos} (hh : X.A.handled = none) (hu : X.A.units + 64 < cLine) (g1 : Gl X "len") (m1 : X.mg "len" = none) (g2 : Gl X "set") (m2 : X.mg "set" = none) (he : PE X e te)
    (h1 : starEach [.Call (.Name "set" p2) [e] [] p3] X.env = [(false, eval (.Call (.Name "set" p2) [e] [] p3) X.env)] := by rfl) (h2 : starEach [e] X.env = [(false, eval e X.env)] := by rfl) :
    PE X (.Call (.Name "len" p1) [.Call (.Name "set" p2) [e] [] p3] [] pos) (tLenKT X.K te) := by
  intro pins s σ H Q I h
  refine wpAny_Call_Name_kw (ld_blt I g1 m1 boot_len ?_ (by decide) (by decide))
  refine PyProof.Rows.callWith_builtin1 ?_ h1 rfl
  rw [h1]
  show wpAny _ _ (spliced ((false, eval (.Call (.Name "set" p2) [e] [] p3) X.env) :: backTo pos (starEach [] X.env))) _ _ s
  refine Calls.spliced_cons ?_
  refine wpAny_Call_Name_kw (ld_blt I g2 m2 boot_set ?_ (by decide) (by decide))
  refine PyProof.Rows.callWith_type1 ?_ h2 rfl
  rw [h2]
  show wpAny _ _ (spliced ((false, eval e X.env) :: backTo p3 (starEach [] X.env))) _ _ s
  refine Calls.spliced_cons (thn (he pins s σ H _ I h) fun u s1 ⟨x, H1, I1, r1, q1⟩ => ?_)
  obtain ⟨a, xs, rfl, hq, h2', nd, hk, q⟩ := q1
  cases r1
  refine Calls.spliced_nil ?_
  obtain ⟨its, rv, pl, _⟩ := I1.tuple hq
  refine call_set_keysT (xs := xs) hh (by omega) pl (by simpa using vals_refsK rv) h2' nd (fun x hx => key_of I1.hok (hk x hx)) fun h' tk hS hk => ?_
  refine Calls.spliced_nil ?_
  obtain ⟨o, es, ep, t, ho, hex, hd, hf, hn⟩ := hS
  refine call_len_set (s := { s1 with heap := h', toks := tk }) ho hex hd hf (by omega) ?_
  refine ⟨.int (xs.length : Nat), H1, (I1.kept (t' := tk + 1 + 1) fun b u e => hk b u (Heap.lt_size e) e), ⟨_, by rw [hn]⟩, q⟩
end
section
variable {P : Program} {w : World} {K : PySem.W.Frag} {s : Shared} {x C dx : Addr} {A : Around} {E : Value → Shared → Prop}
end
section
variable {X : Cx} {C : Addr}
end
section
variable {P : Program} {w : World} {A : Around} {E : Value → Shared → Prop} {s : Shared} {z TI TO i1 i2 i3 l1 l2 l3 : Addr} {us vs ws : Array Value} {S1 S2 S3 : Nat → Heap → Prop}
end
section
variable {X : Cx}
end
section
variable {X : Cx} {pins : List (Addr × Obj)} {σ : St} {H : Hp} {s2 : Shared} {scope sc : Scope} {N0 ys : List Str} {x0 : Str} {js : List Nat} {C D : Addr} {fp : List Addr} {h1 : Heap} {tk : Nat}
end
section
variable {X : Cx} {scope sc : Scope} {N0 ys : List Str} {x0 : Str} {js : List Nat} {elt tg iter : Expr} {ifs : List Expr} {pos : Pos} {wi : TI} {g : TG} {tc : TT} {te : TE}
end
def Itv (K : PySem.W.Frag) (a : Addr) (n : Nat) : It :=
  ⟨fun i H => ∃ xs x, SqL K H a xs ∧ xs.length = n ∧ i < n ∧ xs[n - 1 - i]? = some x, fun i H x H' => H' = H ∧ ∀ xs, SqL K H a xs → xs[n - 1 - i]? = some x, fun i _ => i = n⟩
theorem turn_rev {P : Program} {w : World} {K : PySem.W.Frag} {tg : Expr} (a it : Addr) (n : Nat) : Turn P w K tg (Itv K a n) [it] it (fun i h => h.IsRevIter it a ((n : Int) - 1 - i)) where
  mem := by simp
  obj := fun i h st b hb => by
    have e : b = it := by simpa using hb
    subst e
    obtain ⟨o, e, c, d⟩ := st
    exact ⟨o, e, fun v z => by rw [d] at z; cases z⟩
  keep := fun i h h' st k => st.at fun o e => k it (by simp) o e
  item := by
    intro X hP hw hK hc i pins s σ H E I hf st hg
    subst hP hw hK
    obtain ⟨xs, x, hq, hn, hi, hx⟩ := hg
    obtain ⟨its, rv, p, hz⟩ := I.list hq
    obtain ⟨u, hu, ru⟩ := rv.get hx
    obtain ⟨f0, f1, f2, f3, f4, f5⟩ := hf it (by simp)
    have e0 : ((n - 1 - i : Nat) : Int) = (n : Int) - 1 - i := by omega
    rw [← e0] at st
    refine wpAny_pyNext_rev_item st p.isList (x := u) (by simpa using hu) fun h' st' sb => ?_
    have e1 : ((n - 1 - i : Nat) : Int) - 1 = (n : Int) - 1 - ((i + 1 : Nat) : Int) := by omega
    rw [e1] at st'
    have I1 : Inv X pins σ H { s with heap := h' } := I.turned (t' := s.toks) (fun b o hb e => (sb.2 b hb).trans e) f0 f1 f3 f4 f5
    obtain ⟨o, e, c, d⟩ := id st'
    exact ⟨u, rfl, go_of (s := { s with heap := h' }) e c d (by decide) ⟨x, H, I1, ru, ⟨rfl, fun ys hy => by rw [I.list_inj hy hq]; exact hx⟩, st', fun b hb => (hf b hb).1⟩⟩
  done := by
    intro X hP hw hK hc i pins s σ H E I hf st hg
    subst hP hw hK
    have hg : i = n := hg
    subst hg
    obtain ⟨f0, f1, f2, f3, f4, f5⟩ := hf it (by simp)
    rw [show (i : Int) - 1 - i = -1 by omega] at st
    exact wpAny_pyNext_rev_end (I.ok.hd hc) st fun h' eb => ⟨rfl, I.turned (t' := s.toks) (fun b o hb e => eb b o hb e) f0 f1 f3 f4 f5⟩
  self := fun _ _ _ _ _ st h => wpAny_pyIter_revIter st h
def iRev (K : PySem.W.Frag) (t : TA) : TI := fun σ H R => t σ H fun vs H1 => ∃ a xs, vs = [.ref a] ∧ SqL K H1 a xs ∧ R (Itv K a xs.length) H1
theorem bootRev : bootBuiltins "reversed" = some (.type "reversed") := by decide +kernel
theorem pi_rev {X : Cx} {tg a : Expr} {ta : TA} {p pos : Pos} (hg : Gl X "reversed") (hm : X.mg "reversed" = none) (ha : PA X [a] ta) (hs : starEach [a] X.env = [(false, eval a X.env)] := by rfl) (hs2 : starEach [] X.env = [] := by rfl) :
    PI X tg (.Call (.Name "reversed" p) [a] [] pos) (iRev X.K ta) := by
  intro pins s σ H R I h
  refine Call_ (ld_blt I hg hm bootRev (PyProof.Rows.callWith_type1 (thn (ha pos pins s σ H _ I h) fun us s1 ⟨vs, H1, I1, r1, q1⟩ => ?_) (by rw [hs, hs2]) (by rw [hs2]; rfl)))
  obtain ⟨l, xs, e, hq, q⟩ := q1
  subst e
  obtain ⟨u, rfl, ru⟩ := vals1 r1
  obtain rfl : u = Value.ref l := ru
  obtain ⟨its, rv, pl, _⟩ := I1.list hq
  have hl := rv.length
  refine call_reversed_list pl.isList ?_
  have st : (s1.heap.push (revObj l ((its.toArray.size : Int) - 1))).IsRevIter s1.heap.objs.size l ((xs.length : Int) - 1 - (0 : Nat)) := ⟨_, Heap.get?_push_size _ rfl, rfl, by
    show Data.fields _ = Data.fields _
    rw [List.size_toArray, ← hl]
    simp⟩
  refine wpAny_pyIter_revIter (s := { s1 with heap := s1.heap.push (revObj l ((its.toArray.size : Int) - 1)) }) st ?_
  refine ⟨s1.heap.objs.size, [s1.heap.objs.size], _, _, H1, rfl, I1.kept (t' := s1.toks) fun b o e => Heap.get?_push_of_some _ e, turn_rev l _ xs.length, st, fun b hb => ?_, q⟩
  have e : b = s1.heap.objs.size := by simpa using hb
  subst e
  exact I1.fpOk (Nat.le_refl _) (I1.hok.fresh (Nat.le_refl _))
theorem for_rev {K : PySem.W.Frag} {a : Addr} {xs : List V} {g : TG} {tb : TS} {D : Ends} {σ : St} {H : Hp} (Pv : Nat → St → Hp → Prop) (h0 : Pv 0 σ H) (hl : ∀ i σ H, i ≤ xs.length → Pv i σ H → SqL K H a xs)
    (hs : ∀ i x σ H, i < xs.length → xs[xs.length - 1 - i]? = some x → Pv i σ H → g x σ H fun σ2 H2 => tb { D with nx := Pv (i + 1), ct := Pv (i + 1), bk := D.nx } σ2 H2) (hd : ∀ σ H, Pv xs.length σ H → D.nx σ H) :
    ∃ W : Nat → Nat → St → Hp → Prop, (∃ m, W 0 m σ H) ∧ ∀ i m σ H, W i m σ H →
      ((Itv K a xs.length).stop i H ∧ D.nx σ H) ∨ ((Itv K a xs.length).go i H ∧ ∃ N : St → Hp → Prop, (∀ σ' H', N σ' H' → ∃ m', m' < m ∧ W (i + 1) m' σ' H') ∧ ∀ x H', (Itv K a xs.length).yld i H x H' → g x σ H' fun σ2 H2 => tb { D with nx := N, ct := N, bk := D.nx } σ2 H2) := by
  refine ⟨fun i m σ H => m = xs.length - i ∧ i ≤ xs.length ∧ Pv i σ H, ⟨xs.length, by simp, Nat.zero_le _, h0⟩, ?_⟩
  rintro i m σ H ⟨rfl, hi, p⟩
  have q := hl i σ H hi p
  by_cases hlt : i < xs.length
  · have hj : xs.length - 1 - i < xs.length := by omega
    refine .inr ⟨⟨xs, xs[xs.length - 1 - i], q, rfl, hlt, List.getElem?_eq_getElem hj⟩, Pv (i + 1), fun σ' H' p' => ⟨xs.length - (i + 1), by omega, rfl, hlt, p'⟩, fun x H' y => ?_⟩
    obtain ⟨e, y⟩ := y
    subst e
    exact hs i x σ _ hlt (y xs q) p
  · have e : i = xs.length := by omega
    subst e
    exact .inl ⟨rfl, hd σ H p⟩
end L2
namespace K33
open PySem L2 PyProof.Rows
def top (i : Nat) : Stmt := PySem.Challenge.pw_grantweave_k33_works_written.main.body.getD i (.Pass ⟨0, 0, 0, 0⟩)
structure Txt (mg : Str → Option Value) : Prop where
  n_len : mg "len" = none
  n_isinstance : mg "isinstance" = none
  n_range : mg "range" = none
  n_int : mg "int" = none
  n_bool : mg "bool" = none
  n_str : mg "str" = none
  n_tuple : mg "tuple" = none
  n_list : mg "list" = none
  n_all : mg "all" = none
  n_zip : mg "zip" = none
  n_min : mg "min" = none
  n_max : mg "max" = none
  n_set : mg "set" = none
  n_sorted : mg "sorted" = none
  n_enumerate : mg "enumerate" = none
  g_LETTERS : ∃ t, mg "LETTERS" = some (.str "abcdefghijklmnopqrstuvwxyz" t)
  g_LONGEST_WORD : ∃ t, mg "LONGEST_WORD" = some (.int 8 t)
  g_GREATEST_NUMBER : ∃ t, mg "GREATEST_NUMBER" = some (.int 99 t)
  g_MOST_OFFERS : ∃ t, mg "MOST_OFFERS" = some (.int 2 t)
  g_MOST_BENEATH : ∃ t, mg "MOST_BENEATH" = some (.int 6 t)
  g_MOST_PARTS : ∃ t, mg "MOST_PARTS" = some (.int 30 t)
  g_MOST_DEEP : ∃ t, mg "MOST_DEEP" = some (.int 6 t)
section
variable {P : Program} {w : World} {K : PySem.W.Frag} {mg : Str → Option Value} {base : Heap}
abbrev s_law_cell : Stmt := top 62
theorem sc_law_cell : FnScope ["_law_script", "_law_k"] ["_law_script", "_law_k"] (defScope s_law_cell) := ⟨rfl, rfl, rfl, by decide +kernel, rfl, by decide +kernel, by decide +kernel⟩
theorem ok_cell (T : Txt mg) (F : TopFn K mg "_law_cell" s_law_cell ["_law_script", "_law_k"]) : FnAt P w K mg base "_law_cell" 1 ["_law_script", "_law_k"] (spCell K) := by
  refine F.at sc_law_cell (fun vs H Q E h => ?_) (fun f cdv A outer s H vs Q E hr h => ?_)
  · obtain ⟨a, ns, k, rfl, _⟩ := h
    rfl
  · obtain ⟨a, ns, k, rfl, hS, q⟩ := h
    refine ⟨_, (pss_cons (ps_if (pt_cmpR op_lt (pv 1) (pe_callB call_len rfl T.n_len boot_len (pa_cons (pv 0) pa_nil)) (nomark _)) (pss_one (ps_ret (pe_ix ix_list (pv 0) (pv 1) (fun _ _ => rfl)))) pss_nil)
      (pss_one (ps_ret (pe_op op_add (pe_op op_mul pe_int (pv 1)) pe_int)))), ?_⟩
    refine ⟨_, rfl, _, rfl, _, _, rfl, .inl ⟨_, hS, rfl⟩, _, _, rfl, rfl, _, rfl, ite2 (fun hlt => ?_) (fun _ => ?_)⟩
    · have hlt : (k : Int) < (((ns.map V.int).length : Nat) : Int) := of_decide_eq_true hlt
      have hk : k < ns.length := by rw [List.length_map] at hlt; omega
      refine ⟨_, rfl, _, rfl, a, _, _, V.int ns[k], rfl, rfl, hS, atI_nat (by rw [List.getElem?_map, List.getElem?_eq_getElem hk]; rfl), q _⟩
    · exact ⟨_, rfl, _, _, rfl, rfl, .inl ⟨by decide, by decide⟩, _, _, rfl, rfl, q _⟩
abbrev s_law_mixed : Stmt := top 63
theorem sc_law_mixed : FnScope ["_law_cell_here", "_law_k", "_law_number"] ["_law_cell_here", "_law_k"] (defScope s_law_mixed) := ⟨rfl, rfl, rfl, by decide +kernel, rfl, by decide +kernel, by decide +kernel⟩
theorem ok_mixed (F : TopFn K mg "_law_mixed" s_law_mixed ["_law_cell_here", "_law_k"]) : FnAt P w K mg base "_law_mixed" 1 ["_law_cell_here", "_law_k"] spMixed := by
  refine F.at sc_law_mixed (fun vs H Q E h => ?_) (fun f cdv A outer s H vs Q E hr h => ?_)
  · obtain ⟨a, k, rfl, _⟩ := h
    rfl
  · obtain ⟨a, k, rfl, q⟩ := h
    refine ⟨_, (pss_cons (ps_set (i := 2) sc_law_mixed.nd rfl (by first | exact Or.inl rfl | exact Or.inr rfl) (pe_op op_mod (pe_op op_add (pe_op op_add (pe_op op_mul (pe_op op_mod (pv 0) pe_int) pe_int) (pe_op op_mul pe_int (pv 1))) pe_int) pe_int))
      (pss_cons (ps_set (i := 2) sc_law_mixed.nd rfl (by first | exact Or.inl rfl | exact Or.inr rfl) (pe_op op_mod (pe_op op_add (pe_op op_add (pe_op op_mul (pv 2) (pv 2)) (pe_op op_mul pe_int (pv 1))) pe_int) pe_int))
      (pss_one (ps_ret (pe_op op_mod (pe_op op_mul (pv 2) (pv 2)) pe_int))))), ?_⟩
    have md : ∀ (x : Int) (y : Int), 0 < y → y < 4294967296 → -(2 ^ 64) < x % y ∧ x % y < 2 ^ 64 := fun x y h1 h2 => by
      have a1 := Int.emod_nonneg x (show y ≠ 0 by omega)
      have a2 := Int.emod_lt_of_pos x h1
      omega
    refine ⟨_, rfl, _, _, rfl, rfl, (by show (0 : Int) < _; decide), _, _, rfl, rfl, .inr ⟨by decide, by decide⟩, _, rfl, _, _, rfl, rfl, .inl ⟨by decide, by decide⟩, _, _, rfl, rfl, _, _, rfl, rfl, _, _, rfl, rfl, (by show (0 : Int) < _; decide), ?_⟩
    refine ⟨_, rfl, _, rfl, _, _, rfl, rfl, .inl (md _ _ (by decide) (by decide)), _, rfl, _, _, rfl, rfl, .inl ⟨by decide, by decide⟩, _, _, rfl, rfl, _, _, rfl, rfl, _, _, rfl, rfl, (by show (0 : Int) < _; decide), ?_⟩
    exact ⟨_, rfl, _, rfl, _, _, rfl, rfl, .inl (md _ _ (by decide) (by decide)), _, _, rfl, rfl, (by show (0 : Int) < _; decide), q _⟩
abbrev s_law_box : Stmt := top 64
theorem sc_law_box : FnScope ["_law_cell_here"] ["_law_cell_here"] (defScope s_law_box) := ⟨rfl, rfl, rfl, by decide +kernel, rfl, by decide +kernel, by decide +kernel⟩
theorem ok_box (F : TopFn K mg "_law_box" s_law_box ["_law_cell_here"]) : FnAt P w K mg base "_law_box" 1 ["_law_cell_here"] spBox := by
  refine F.at sc_law_box (fun vs H Q E h => ?_) (fun f cdv A outer s H vs Q E hr h => ?_)
  · obtain ⟨c, rfl, _⟩ := h
    rfl
  · obtain ⟨c, rfl, q⟩ := h
    refine ⟨_, (pss_cons (ps_if (pt_cmpR op_ge (pv 0) (pe_op op_pow pe_int pe_int) (nomark _)) (pss_one (ps_ret (pe_lst (pa_cons (pv 0) (pa_cons (pe_op op_mod (pv 0) pe_int) (pa_cons pe_int pa_nil)))))) pss_nil)
      (pss_one (ps_ret (pe_lst (pa_cons pe_int (pa_cons (pe_op op_mod (pv 0) pe_int) (pa_cons pe_int pa_nil))))))), ?_⟩
    refine ⟨_, rfl, _, _, rfl, rfl, ⟨by decide, by decide, by decide⟩, _, _, rfl, rfl, _, rfl, ite2 (fun _ => ?_) (fun _ => ?_)⟩
    · exact ⟨_, rfl, _, rfl, _, _, rfl, rfl, (by show (0 : Int) < _; decide), (by show 3 ≤ sizeLine; decide), fun p hp => q p _ _ _ hp⟩
    · exact ⟨_, rfl, _, _, rfl, rfl, (by show (0 : Int) < _; decide), (by show 3 ≤ sizeLine; decide), fun p hp => q p _ _ _ hp⟩
abbrev s_law_take : Stmt := top 65
theorem sc_law_take : FnScope ["_law_box_here", "_law_many", "_law_number"] ["_law_box_here", "_law_many"] (defScope s_law_take) := ⟨rfl, rfl, rfl, by decide +kernel, rfl, by decide +kernel, by decide +kernel⟩
theorem ok_take (F_mixed : FnAt P w K mg base "_law_mixed" 1 ["_law_cell_here", "_law_k"] spMixed) (F : TopFn K mg "_law_take" s_law_take ["_law_box_here", "_law_many"]) : FnAt P w K mg base "_law_take" 2 ["_law_box_here", "_law_many"] spTake := by
  refine F.at sc_law_take (fun vs H Q E h => ?_) (fun f cdv A outer s H vs Q E hr h => ?_)
  · obtain ⟨b, n, rfl, _⟩ := h
    rfl
  · obtain ⟨b, n, rfl, ⟨x, y, z, hb⟩, h0, h1, q⟩ := h
    refine ⟨_, (pss_cons (ps_if (pt_cmpR op_gt (pe_ix ix_list (pv 0) pe_int (fun _ _ => rfl)) pe_int (nomark _)) (pss_cons (ps_set (i := 2) sc_law_take.nd rfl (by first | exact Or.inl rfl | exact Or.inr rfl) (pe_op op_mod (pe_ix ix_list (pv 0) pe_int (fun _ _ => rfl)) (pv 1)))
      (pss_cons (ps_asg (pe_op op_fdivB (pe_ix ix_list (pv 0) pe_int (fun _ _ => rfl)) (pv 1)) (pg_sub (pv 0) pe_int set_list))
      (pss_one (ps_ret (pv 2))))) pss_nil)
      (pss_cons (ps_asg (pe_op op_add (pe_ix ix_list (pv 0) pe_int (fun _ _ => rfl)) pe_int) (pg_sub (pv 0) pe_int set_list))
      (pss_one (ps_ret (pe_op op_mod (pe_fn F_mixed hr (by decide) rfl (pa_cons (pe_ix ix_list (pv 0) pe_int (fun _ _ => rfl)) (pa_cons (pe_ix ix_list (pv 0) pe_int (fun _ _ => rfl)) pa_nil))) (pv 1)))))), ?_⟩
    have a1 : ∀ r : Int, 0 ≤ r % n := fun r => Int.emod_nonneg r (show n ≠ 0 by omega)
    have a2 : ∀ r : Int, r % n < n := fun r => Int.emod_lt_of_pos r h0
    have oth : ∀ x y z : Int, Oth b H (upd H b (.lst [.int x, .int y, .int z])) := fun x y z => ⟨⟨x, y, z, upd_same⟩, fun c o e nc => by rw [upd_ne nc]; exact e⟩
    refine ⟨_, rfl, b, _, _, V.int x, rfl, rfl, SqL.of hb, rfl, _, _, rfl, rfl, _, rfl, ite2 (fun _ => ?_) (fun _ => ?_)⟩
    · refine ⟨_, rfl, b, _, _, V.int x, rfl, rfl, SqL.of hb, rfl, _, rfl, _, _, rfl, rfl, h0, ?_⟩
      refine ⟨_, rfl, b, _, _, V.int x, rfl, rfl, SqL.of hb, rfl, _, rfl, _, _, rfl, rfl, ⟨h0, h1⟩, ?_⟩
      refine ⟨_, rfl, b, _, _, 0, rfl, rfl, hb, rfl, ?_⟩
      exact ⟨_, rfl, q _ _ (a1 _) (a2 _) (oth _ _ _)⟩
    · refine ⟨_, rfl, b, _, _, V.int z, rfl, rfl, SqL.of hb, rfl, _, _, rfl, rfl, ?_⟩
      refine ⟨_, rfl, b, _, _, 2, rfl, rfl, hb, rfl, ?_⟩
      refine ⟨_, rfl, b, _, _, V.int y, rfl, rfl, SqL.of upd_same, rfl, _, rfl, b, _, _, V.int (z + 1), rfl, rfl, SqL.of upd_same, rfl, _, _, rfl, fun r => ?_⟩
      exact ⟨_, rfl, _, _, rfl, rfl, h0, q _ _ (a1 _) (a2 _) (oth _ _ _)⟩
end

end K33
namespace K33
open PySem L2 PyProof.Rows
section
variable {P : Program} {w : World} {K : PySem.W.Frag} {mg : Str → Option Value} {base : Heap}
def Arg (K : PySem.W.Frag) (H : Hp) (x : V) : Prop := ∃ k, KdOf K H x k
def spWhole (K : PySem.W.Frag) : Sp := fun vs H Q _ => ∃ x, vs = [x] ∧ Arg K H x ∧ Q (.bl (wholeV x)) H
abbrev sis_whole : Stmt := top 18
theorem scis_whole : FnScope ["thing"] ["thing"] (defScope sis_whole) := ⟨rfl, rfl, rfl, by decide +kernel, rfl, by decide +kernel, by decide +kernel⟩
theorem whole_of {H : Hp} {x : V} {k : Kd} (h : KdOf K H x k) : (k.isA .int && !(k.isA .bl)) = wholeV x := by
  have h : TyOf K H x (.type k.nm) := h
  generalize hT : Value.type k.nm = T at h
  cases h <;> cases k <;> first | rfl | exact absurd (Value.type.inj hT) (by decide) | cases hT
theorem ok_whole (T : Txt mg) (F : TopFn K mg "is_whole" sis_whole ["thing"]) : FnAt P w K mg base "is_whole" 1 ["thing"] (spWhole K) := by
  refine F.at scis_whole (fun vs H Q E h => ?_) (fun f cdv A outer s H vs Q E hr h => ?_)
  · obtain ⟨x, rfl, _⟩ := h
    rfl
  · obtain ⟨x, rfl, ⟨k, hk⟩, q⟩ := h
    refine ⟨_, (pss_one (ps_ret (pe_and (pe_callB (call_isKd .int (by simp)) rfl T.n_isinstance boot_isinstance (pa_cons (pv 0) (pa_cons (pe_bltn (v := .ty "int") rfl T.n_int boot_int rfl) pa_nil))) (pe_one (pe_not (pe_callB (call_isKd .bl (by simp)) rfl T.n_isinstance boot_isinstance (pa_cons (pv 0) (pa_cons (pe_bltn (v := .ty "bool") rfl T.n_bool boot_bool rfl) pa_nil)))))))), ?_⟩
    rw [← whole_of hk] at q
    refine ⟨_, rfl, x, k, rfl, hk, _, rfl, ?_⟩
    cases e : k.isA .int with
    | true =>
      rw [e] at q
      exact iteT ⟨_, rfl, x, k, rfl, hk, _, rfl, q⟩
    | false =>
      rw [e] at q
      exact iteF q
theorem kd_str {H : Hp} {x : V} {k : Kd} (h : KdOf K H x k) (e : k.isA .str = true) : ∃ z, x = .str z := by
  have h : TyOf K H x (.type k.nm) := h
  generalize hT : Value.type k.nm = T at h
  cases h <;> cases k <;> first | exact ⟨_, rfl⟩ | exact absurd e (by decide) | exact absurd (Value.type.inj hT) (by decide) | cases hT
theorem kd_nostr {H : Hp} {x : V} {k : Kd} (h : KdOf K H x k) (e : k.isA .str = false) : wordV x = false := by
  have h : TyOf K H x (.type k.nm) := h
  generalize hT : Value.type k.nm = T at h
  cases h <;> cases k <;> first | rfl | exact absurd e (by decide) | exact absurd (Value.type.inj hT) (by decide) | cases hT
def spWord (K : PySem.W.Frag) : Sp := fun vs H Q _ => ∃ x, vs = [x] ∧ Arg K H x ∧ (∀ z, x = .str z → z.length ≤ 1000) ∧ ∀ H', Same H H' → Q (.bl (wordV x)) H'
abbrev sis_word : Stmt := top 19
theorem scis_word : FnScope ["thing"] ["thing"] (defScope sis_word) := ⟨rfl, rfl, rfl, by decide +kernel, rfl, by decide +kernel, by decide +kernel⟩
theorem take_map_snoc (z : Str) {i : Nat} (hi : i < z.cps.size) (g : Nat → V) : (z.cps.toList.take i).map g ++ [g (z.cps.getD i 0)] = (z.cps.toList.take (i + 1)).map g := by
  have e : z.cps.getD i 0 = z.cps.toList[i]'(by simpa using hi) := by
    rw [Array.getD_eq_getD_getElem?, Array.getElem?_eq_getElem hi]; simp
  rw [List.take_succ_eq_append_getElem (by simpa using hi), List.map_append, e]
  rfl
theorem ok_word (T : Txt mg) (F : TopFn K mg "is_word" sis_word ["thing"]) : FnAt P w K mg base "is_word" 1 ["thing"] (spWord K) := by
  refine F.at scis_word (fun vs H Q E h => ?_) (fun f cdv A outer s H vs Q E hr h => ?_)
  · obtain ⟨x, rfl, _⟩ := h
    rfl
  · obtain ⟨x, rfl, ⟨k, hk⟩, hl, q⟩ := h
    refine ⟨_, (pss_cons (ps_if (PW.pt (pw_or (pt_not (pt_val (pe_callB (call_isKd .str (by simp)) rfl T.n_isinstance boot_isinstance (pa_cons (pv 0) (pa_cons (pe_bltn (v := .ty "str") rfl T.n_str boot_str rfl) pa_nil))))) (pw_or1 (pt_not (pt_chain op_le op_le pe_int (pe_callB call_len rfl T.n_len boot_len (pa_cons (pv 0) pa_nil)) (pe_globI rfl T.g_LONGEST_WORD)))))) (pss_one (ps_ret pe_bl)) pss_nil)
      (pss_one (ps_ret (pe_callB (call_allB rfl) rfl T.n_all boot_all (pa_cons (pe_comp (sc := defScope sis_word) (N0 := ["thing"]) (xs := ["sign"]) (ys := []) (js := []) ⟨rfl, by decide +kernel, by decide +kernel, by decide +kernel, by decide +kernel⟩ rfl (pi_str (pv 0)) (fun _ _ _ _ => (pg_name (i := 0) (show (["sign"] : List Str).Nodup by decide +kernel) rfl (by first | exact Or.inl rfl | exact Or.inr rfl))) (fun _ _ _ _ => pq_nil) (fun _ _ _ _ => (pe_cmpR op_in_str (pv 0) (pe_globS rfl T.g_LETTERS) (by with_unfolding_all rfl)))) pa_nil))))), ?_⟩
    refine ⟨_, rfl, x, k, rfl, hk, _, rfl, ?_⟩
    cases e : k.isA .str with
    | false =>
      refine iteT (iteT ?_)
      have := q H (Same.refl H)
      rw [kd_nostr hk e] at this
      exact this
    | true =>
      refine iteF ?_
      obtain ⟨z, rfl⟩ := kd_str hk e
      have hz := hl z rfl
      have hs : sizeLine = 16777216 := sizeLine_eq
      refine ⟨_, rfl, _, _, rfl, ⟨by omega, rfl⟩, _, _, rfl, rfl, _, rfl, ?_⟩
      have no : ¬ (1 ≤ z.length ∧ z.length ≤ 8) → Q (.bl false) H := fun hn => by
        have := q H (Same.refl H)
        have e2 : wordV (.str z) = false := by
          show (decide (1 ≤ z.length ∧ z.length ≤ 8) && z.cps.toList.all isLow) = false
          rw [decide_eq_false hn]; rfl
        rw [e2] at this
        exact this
      refine ite2 (fun h1 => ?_) (fun h1 => ?_)
      · have h1 : (1 : Int) ≤ (z.length : Int) := of_decide_eq_true h1
        refine ⟨_, _, rfl, rfl, _, rfl, ?_⟩
        refine ite2 (fun h2 => ?_) (fun h2 => ?_)
        · have h2 : ¬ ((z.length : Int) ≤ 8) := by simpa using h2
          exact no (by omega)
        · have h2 : (z.length : Int) ≤ 8 := by simpa using h2
          refine ⟨_, rfl, z, rfl, comp_str (fun i ys H' => H' = H ∧ ys = (z.cps.toList.take i).map fun c => V.bl (isLow c)) ⟨rfl, rfl⟩ (by show z.length ≤ sizeLine; omega) ?_ ?_ ?_⟩
          · rintro i ys H' ⟨rfl, rfl⟩
            simp; omega
          · rintro i ys H' hi ⟨rfl, rfl⟩
            refine ⟨_, rfl, _, _, rfl, rfl, rfl, ?_⟩
            have e3 : (!(Builtin.Str.occurrences (Str.ofString "abcdefghijklmnopqrstuvwxyz") (sgn z i) 0 (Str.ofString "abcdefghijklmnopqrstuvwxyz").length 1).isEmpty) = isLow (z.cps.getD i 0) := low_in _
            rw [e3]
            exact take_map_snoc z hi fun c => V.bl (isLow c)
          · rintro ys H' ⟨rfl, rfl⟩ p hp
            refine ⟨p, z.cps.toList.map isLow, rfl, SqL.of (by rw [upd_same, List.take_of_length_le (by simp), List.map_map]; rfl), ?_⟩
            have e2 : wordV (.str z) = (z.cps.toList.map isLow).all id := by
              show (decide (1 ≤ z.length ∧ z.length ≤ 8) && z.cps.toList.all isLow) = _
              rw [decide_eq_true (by omega), List.all_map]
              rfl
            have := q _ (Same.new (o := .lst ((z.cps.toList.take z.cps.size).map fun c => V.bl (isLow c))) hp)
            rw [e2] at this
            exact this
      · have h1 : ¬ ((1 : Int) ≤ (z.length : Int)) := by simpa using h1
        exact ⟨_, rfl, iteT (no (by omega))⟩
theorem TyOf.same' {H H' : Hp} {x : V} {t : Value} (h : TyOf K H x t) (s : Same H H') : TyOf K H' x t := by
  cases h with
  | non => exact .non
  | bl b => exact .bl b
  | int i => exact .int i
  | str z => exact .str z
  | flt z => exact .flt z
  | lst e => exact .lst (s _ _ e)
  | frz e => exact .frz (s _ _ e)
  | tup e => exact .tup (s _ _ e)
  | dK e => exact .dK (s _ _ e)
  | dT e => exact .dT (s _ _ e)
  | ins e cl ha hn htk hm => exact .ins (s _ _ e) cl ha hn htk hm
theorem Arg.same {H H' : Hp} {x : V} (h : Arg K H x) (s : Same H H') : Arg K H' x := by
  obtain ⟨k, h⟩ := h
  exact ⟨k, TyOf.same' h s⟩
def Short (x : V) : Prop := ∀ z, x = .str z → z.length ≤ 1000
theorem kd_tup {H : Hp} {x : V} {k : Kd} (h : KdOf K H x k) (e : k.isA .tup = true) : ∃ a xs, x = .ref a ∧ H a = some (.tup xs) := by
  have h : TyOf K H x (.type k.nm) := h
  generalize hT : Value.type k.nm = T at h
  cases h <;> cases k <;> first | exact ⟨_, _, rfl, by assumption⟩ | exact absurd e (by decide) | exact absurd (Value.type.inj hT) (by decide) | cases hT
theorem kd_notup {H : Hp} {x : V} {k : Kd} (h : KdOf K H x k) (e : k.isA .tup = false) : keyV H x = false := by
  have h : TyOf K H x (.type k.nm) := h
  generalize hT : Value.type k.nm = T at h
  cases h with
  | lst ea => show (match H _ with | some (.tup [x, y]) => wordV x && numV y | _ => false) = false; rw [ea]
  | frz ea => show (match H _ with | some (.tup [x, y]) => wordV x && numV y | _ => false) = false; rw [ea]
  | dK ea => show (match H _ with | some (.tup [x, y]) => wordV x && numV y | _ => false) = false; rw [ea]
  | dT ea => show (match H _ with | some (.tup [x, y]) => wordV x && numV y | _ => false) = false; rw [ea]
  | tup ea => cases k <;> first | exact absurd e (by decide) | exact absurd (Value.type.inj hT) (by decide)
  | ins ea => cases hT
  | _ => rfl
def spKey (K : PySem.W.Frag) : Sp := fun vs H Q _ => ∃ x, vs = [x] ∧ Arg K H x ∧ (∀ a xs, x = .ref a → H a = some (.tup xs) → ∀ y ∈ xs, Arg K H y ∧ Short y) ∧ ∀ H', Same H H' → Q (.bl (keyV H x)) H'
abbrev sis_key : Stmt := top 20
theorem scis_key : FnScope ["thing"] ["thing"] (defScope sis_key) := ⟨rfl, rfl, rfl, by decide +kernel, rfl, by decide +kernel, by decide +kernel⟩
theorem ok_key (T : Txt mg) (F_is_word : FnAt P w K mg base "is_word" 1 ["thing"] (spWord K)) (F_is_whole : FnAt P w K mg base "is_whole" 1 ["thing"] (spWhole K)) (F : TopFn K mg "is_key" sis_key ["thing"]) : FnAt P w K mg base "is_key" 2 ["thing"] (spKey K) := by
  refine F.at scis_key (fun vs H Q E h => ?_) (fun f cdv A outer s H vs Q E hr h => ?_)
  · obtain ⟨x, rfl, _⟩ := h
    rfl
  · obtain ⟨x, rfl, ⟨k, hk⟩, hy, q⟩ := h
    refine ⟨_, (pss_cons (ps_if (PW.pt (pw_or (pt_not (pt_val (pe_callB (call_isKd .tup (by simp)) rfl T.n_isinstance boot_isinstance (pa_cons (pv 0) (pa_cons (pe_bltn (v := .ty "tuple") rfl T.n_tuple boot_tuple rfl) pa_nil))))) (pw_or1 (pt_cmpR op_ne (pe_callB call_len rfl T.n_len boot_len (pa_cons (pv 0) pa_nil)) pe_int (nomark _))))) (pss_one (ps_ret pe_bl)) pss_nil)
      (pss_one (ps_ret (pe_and (pe_fn F_is_word hr (by decide) rfl (pa_cons (pe_ix ix_tup (pv 0) pe_int (fun _ _ => rfl)) pa_nil)) (pe_and (pe_fn F_is_whole hr (by decide) rfl (pa_cons (pe_ix ix_tup (pv 0) pe_int (fun _ _ => rfl)) pa_nil)) (pe_one (pe_chain op_le op_le pe_int (pe_ix ix_tup (pv 0) pe_int (fun _ _ => rfl)) (pe_globI rfl T.g_GREATEST_NUMBER)))))))), ?_⟩
    refine ⟨_, rfl, x, k, rfl, hk, _, rfl, ?_⟩
    cases e : k.isA .tup with
    | false =>
      refine iteT (iteT ?_)
      have := q H (Same.refl H)
      rw [kd_notup hk e] at this
      exact this
    | true =>
      refine iteF ?_
      obtain ⟨a, xs, rfl, ha⟩ := kd_tup hk e
      refine ⟨_, rfl, _, _, rfl, .inr ⟨xs, SqT.of ha, rfl⟩, rfl, _, rfl, ite2 (fun h2 => ?_) (fun h2 => ?_)⟩
      · have h2 : ¬ ((xs.length : Int) = 2) := by simpa using h2
        have := q H (Same.refl H)
        have e2 : keyV H (.ref a) = false := by
          show (match H a with | some (.tup [x, y]) => wordV x && numV y | _ => false) = false
          rw [ha]
          match xs, h2 with
          | [], _ => rfl
          | [_], _ => rfl
          | [_, _], h2 => exact absurd rfl h2
          | _ :: _ :: _ :: _, _ => rfl
        rw [e2] at this
        exact this
      · have h2 : (xs.length : Int) = 2 := by simpa using h2
        match xs, h2, ha, hy with
        | [], h2, _, _ => exact absurd h2 (by decide)
        | [_], h2, _, _ => simp at h2
        | _ :: _ :: _ :: _, h2, _, _ => simp at h2; omega
        | [u, v], _, ha, hy =>
          have e2 : keyV H (.ref a) = (wordV u && numV v) := by
            show (match H a with | some (.tup [x, y]) => wordV x && numV y | _ => false) = _
            rw [ha]
          rw [e2] at q
          obtain ⟨au, lu⟩ := hy a _ rfl ha u (by simp)
          obtain ⟨av, lv⟩ := hy a _ rfl ha v (by simp)
          refine ⟨_, rfl, a, _, _, u, rfl, rfl, SqT.of ha, rfl, u, rfl, au, lu, fun H1 s1 => ⟨_, rfl, ?_⟩⟩
          have ha1 := s1 _ _ ha
          cases eu : wordV u with
          | false => rw [eu] at q; exact iteF (q _ s1)
          | true =>
            rw [eu, Bool.true_and] at q
            refine iteT ⟨_, rfl, a, _, _, v, rfl, rfl, SqT.of ha1, rfl, v, rfl, av.same s1, _, rfl, ?_⟩
            cases v with
            | int n =>
              refine iteT ⟨_, rfl, a, _, _, V.int n, rfl, rfl, SqT.of ha1, rfl, _, _, rfl, rfl, _, rfl, ite2 (fun h3 => ?_) (fun h3 => ?_)⟩
              · have h3 : 0 ≤ n := of_decide_eq_true h3
                refine ⟨_, _, rfl, rfl, ?_⟩
                have := q _ s1
                have e4 : numV (.int n) = decide (n ≤ 99) := by
                  show decide (0 ≤ n ∧ n ≤ 99) = _
                  rw [Bool.eq_iff_iff]; simp [h3]
                rw [e4] at this
                exact this
              · have h3 : ¬ (0 ≤ n) := by simpa using h3
                have := q _ s1
                have e4 : numV (.int n) = false := decide_eq_false (by omega)
                rw [e4] at this
                exact this
            | _ => exact iteF (q _ s1)
end
end K33
namespace L2
open PySem PyProof.Rows
theorem pe_fn0 {X : Cx} {x : Str} {sp : Sp} {k j : Nat} {p pos : Pos} (F : FnAt X.prog X.w X.K X.mg X.base x k [] sp) (hr : Room j X.A) (hj : k ≤ j) (hg : Gl X x)
    (hdb : (x == ("__debug__" : Str)) = false := by decide) : PE X (.Call (.Name x p) [] [] pos) (tCall sp [] E0 tNil) := by
  obtain ⟨f, fd, G, hm, hk, hb⟩ := F.ex
  exact pe_call0 G (hr.mono hj) hg hm hk hb .nil pass0 hdb
end L2
namespace K33
open PySem L2 PyProof.Rows
def nm : Nat → Str
  | 0 => "called"
  | 1 => "beside"
  | 2 => "joined"
  | _ => "changed"
structure Js where
  c0 : Addr
  c1 : Addr
  c2 : Addr
  c3 : Addr
def Js.c (J : Js) : Nat → Addr
  | 0 => J.c0
  | 1 => J.c1
  | 2 => J.c2
  | _ => J.c3
def JAt (J : Js) (H : Hp) (p : Addr) (j : Nat) : Prop := ∃ dx, H p = some (.ins (J.c j) dx [])
theorem JAt.same {J : Js} {H H' : Hp} {p : Addr} {j : Nat} (h : JAt J H p j) (s : Same H H') : JAt J H' p j := by
  obtain ⟨dx, h⟩ := h
  exact ⟨dx, s _ _ h⟩
theorem j4 {j : Nat} (h : j < 4) : j = 0 ∨ j = 1 ∨ j = 2 ∨ j = 3 := by omega
def spC (v : V) : Sp := fun vs H Q _ => (∃ a, vs = [.ref a]) ∧ Q v H
structure JHas (P : Program) (w : World) (K : PySem.W.Frag) (mg : Str → Option Value) (base : Heap) (J : Js) : Prop where
  n0 : New0 K mg "Called" J.c0
  n1 : New0 K mg "Beside" J.c1
  n2 : New0 K mg "Joined" J.c2
  n3 : New0 K mg "Changed" J.c3
  word : ∀ j, j < 4 → MethD P w K mg base CX0 1 (J.c j) "word" ["self"] (spC (.str (nm j)))
def DW (J : Js) : Addr → Sp → Prop := fun C sp => ∃ j, j < 4 ∧ C = J.c j ∧ sp = spC (.str (nm j))
section
variable {P : Program} {w : World} {K : PySem.W.Frag} {mg : Str → Option Value} {base : Heap} {J : Js}
theorem JHas.hDW (D : JHas P w K mg base J) : ∀ C sp, DW J C sp → MethD P w K mg base CX0 1 C "word" ["self"] sp := by
  rintro C sp ⟨j, hj, rfl, rfl⟩
  exact D.word j hj
theorem new_same {H : Hp} {C x dx : Addr} (hx : H x = none) (hd : H dx = none) : Same H (upd (upd H dx (.own x)) x (.ins C dx [])) := fun b o e => by rw [upd_ne (ne_of_none e hx), upd_ne (ne_of_none e hd)]; exact e
abbrev sCalled_word : Stmt := inClass (top 27) 0
theorem scCalled_word : FnScope ["self"] ["self"] (defScope sCalled_word) := ⟨rfl, rfl, rfl, by decide +kernel, rfl, by decide +kernel, by decide +kernel⟩
theorem ok_Called_word {f : Addr} {fd : FuncData} (F : Fun K "word" "Called.word" sCalled_word f fd) : FnOk P w K mg base CX0 1 f fd ["self"] (spC (.str (nm 0))) := by
  refine F.ok scCalled_word (fun vs H Q E h => ?_) (fun cdv A outer s H vs Q E hr h => ?_)
  · obtain ⟨⟨a, rfl⟩, _⟩ := h
    rfl
  · obtain ⟨⟨a, rfl⟩, q⟩ := h
    refine ⟨_, (pss_one (ps_ret pe_str)), ?_⟩
    exact q
abbrev sBeside_word : Stmt := inClass (top 28) 0
theorem scBeside_word : FnScope ["self"] ["self"] (defScope sBeside_word) := ⟨rfl, rfl, rfl, by decide +kernel, rfl, by decide +kernel, by decide +kernel⟩
theorem ok_Beside_word {f : Addr} {fd : FuncData} (F : Fun K "word" "Beside.word" sBeside_word f fd) : FnOk P w K mg base CX0 1 f fd ["self"] (spC (.str (nm 1))) := by
  refine F.ok scBeside_word (fun vs H Q E h => ?_) (fun cdv A outer s H vs Q E hr h => ?_)
  · obtain ⟨⟨a, rfl⟩, _⟩ := h
    rfl
  · obtain ⟨⟨a, rfl⟩, q⟩ := h
    refine ⟨_, (pss_one (ps_ret pe_str)), ?_⟩
    exact q
abbrev sJoined_word : Stmt := inClass (top 29) 0
theorem scJoined_word : FnScope ["self"] ["self"] (defScope sJoined_word) := ⟨rfl, rfl, rfl, by decide +kernel, rfl, by decide +kernel, by decide +kernel⟩
theorem ok_Joined_word {f : Addr} {fd : FuncData} (F : Fun K "word" "Joined.word" sJoined_word f fd) : FnOk P w K mg base CX0 1 f fd ["self"] (spC (.str (nm 2))) := by
  refine F.ok scJoined_word (fun vs H Q E h => ?_) (fun cdv A outer s H vs Q E hr h => ?_)
  · obtain ⟨⟨a, rfl⟩, _⟩ := h
    rfl
  · obtain ⟨⟨a, rfl⟩, q⟩ := h
    refine ⟨_, (pss_one (ps_ret pe_str)), ?_⟩
    exact q
abbrev sChanged_word : Stmt := inClass (top 30) 0
theorem scChanged_word : FnScope ["self"] ["self"] (defScope sChanged_word) := ⟨rfl, rfl, rfl, by decide +kernel, rfl, by decide +kernel, by decide +kernel⟩
theorem ok_Changed_word {f : Addr} {fd : FuncData} (F : Fun K "word" "Changed.word" sChanged_word f fd) : FnOk P w K mg base CX0 1 f fd ["self"] (spC (.str (nm 3))) := by
  refine F.ok scChanged_word (fun vs H Q E h => ?_) (fun cdv A outer s H vs Q E hr h => ?_)
  · obtain ⟨⟨a, rfl⟩, _⟩ := h
    rfl
  · obtain ⟨⟨a, rfl⟩, q⟩ := h
    refine ⟨_, (pss_one (ps_ret pe_str)), ?_⟩
    exact q
def spAll (J : Js) : Sp := fun vs H Q _ => vs = [] ∧ ∀ (l p0 p1 p2 p3 : Addr) (H' : Hp), Same H H' → H' l = some (.lst [.ref p0, .ref p1, .ref p2, .ref p3]) → JAt J H' p0 0 → JAt J H' p1 1 → JAt J H' p2 2 → JAt J H' p3 3 → Q (.ref l) H'
abbrev sall_joins : Stmt := top 31
theorem scall_joins : FnScope [] [] (defScope sall_joins) := ⟨rfl, rfl, rfl, by decide +kernel, rfl, by decide +kernel, by decide +kernel⟩
theorem ok_all (D : JHas P w K mg base J) (F : TopFn K mg "all_joins" sall_joins []) : FnAt P w K mg base "all_joins" 1 [] (spAll J) := by
  refine F.at scall_joins (fun vs H Q E h => ?_) (fun f cdv A outer s H vs Q E hr h => ?_)
  · obtain ⟨rfl, _⟩ := h
    rfl
  · obtain ⟨rfl, q⟩ := h
    refine ⟨_, (pss_one (ps_ret (pe_lst (pa_cons (pe_new0 D.n0 rfl) (pa_cons (pe_new0 D.n1 rfl) (pa_cons (pe_new0 D.n2 rfl) (pa_cons (pe_new0 D.n3 rfl) pa_nil))))))), ?_⟩
    intro p0 d0 x0 y0 _
    have s0 := new_same (C := J.c0) x0 y0
    have a0 : upd (upd H d0 (.own p0)) p0 (.ins J.c0 d0 []) p0 = some (.ins J.c0 d0 []) := upd_same
    generalize upd (upd H d0 (.own p0)) p0 (.ins J.c0 d0 []) = H0 at s0 a0 ⊢
    replace a0 : JAt J H0 p0 0 := ⟨_, a0⟩
    intro p1 d1 x1 y1 _
    have s1 := new_same (C := J.c1) x1 y1
    have a1 : upd (upd H0 d1 (.own p1)) p1 (.ins J.c1 d1 []) p1 = some (.ins J.c1 d1 []) := upd_same
    generalize upd (upd H0 d1 (.own p1)) p1 (.ins J.c1 d1 []) = H1 at s1 a1 ⊢
    replace a1 : JAt J H1 p1 1 := ⟨_, a1⟩
    intro p2 d2 x2 y2 _
    have s2 := new_same (C := J.c2) x2 y2
    have a2 : upd (upd H1 d2 (.own p2)) p2 (.ins J.c2 d2 []) p2 = some (.ins J.c2 d2 []) := upd_same
    generalize upd (upd H1 d2 (.own p2)) p2 (.ins J.c2 d2 []) = H2 at s2 a2 ⊢
    replace a2 : JAt J H2 p2 2 := ⟨_, a2⟩
    intro p3 d3 x3 y3 _
    have s3 := new_same (C := J.c3) x3 y3
    have a3 : upd (upd H2 d3 (.own p3)) p3 (.ins J.c3 d3 []) p3 = some (.ins J.c3 d3 []) := upd_same
    generalize upd (upd H2 d3 (.own p3)) p3 (.ins J.c3 d3 []) = H3 at s3 a3 ⊢
    replace a3 : JAt J H3 p3 3 := ⟨_, a3⟩
    refine ⟨(by show 4 ≤ sizeLine; decide), fun l hl => ?_⟩
    have s4 := Same.new (o := .lst [.ref p0, .ref p1, .ref p2, .ref p3]) hl
    have t3 := s3.trans s4
    have t2 := s2.trans t3
    have t1 := s1.trans t2
    exact q l p0 p1 p2 p3 _ (s0.trans t1) upd_same (a0.same t1) (a1.same t2) (a2.same t3) (a3.same s4)
theorem at4 {J : Js} {H1 : Hp} {p0 p1 p2 p3 : Addr} (a0 : JAt J H1 p0 0) (a1 : JAt J H1 p1 1) (a2 : JAt J H1 p2 2) (a3 : JAt J H1 p3 3) : ∀ i y, ([V.ref p0, V.ref p1, V.ref p2, V.ref p3] : List V)[i]? = some y → ∃ p dx, i < 4 ∧ y = V.ref p ∧ H1 p = some (.ins (J.c i) dx []) := by
  intro i y e
  match i, e with
  | 0, e => cases e; obtain ⟨dx, h⟩ := a0; exact ⟨_, dx, by decide, rfl, h⟩
  | 1, e => cases e; obtain ⟨dx, h⟩ := a1; exact ⟨_, dx, by decide, rfl, h⟩
  | 2, e => cases e; obtain ⟨dx, h⟩ := a2; exact ⟨_, dx, by decide, rfl, h⟩
  | 3, e => cases e; obtain ⟨dx, h⟩ := a3; exact ⟨_, dx, by decide, rfl, h⟩
  | n + 4, e => simp at e
def spJO (J : Js) : Sp := fun vs H Q _ => ∃ j : Nat, j < 4 ∧ vs = [.str (nm j)] ∧ ∀ (p : Addr) (H' : Hp), Same H H' → JAt J H' p j → Q (.ref p) H'
abbrev sjoin_of : Stmt := top 33
theorem scjoin_of : FnScope ["word", "join"] ["word"] (defScope sjoin_of) := ⟨rfl, rfl, rfl, by decide +kernel, rfl, by decide +kernel, by decide +kernel⟩
theorem nm_eq {i j : Nat} (hi : i < 4) (hj : j < 4) : decide (V.str (nm i) = V.str (nm j)) = decide (i = j) := by
  rcases j4 hi with rfl | rfl | rfl | rfl <;> rcases j4 hj with rfl | rfl | rfl | rfl <;> decide +kernel
theorem ok_join_of (D : JHas P w K mg base J) (F_all_joins : FnAt P w K mg base "all_joins" 1 [] (spAll J)) (F : TopFn K mg "join_of" sjoin_of ["word"]) : FnAt P w K mg base "join_of" 2 ["word"] (spJO J) := by
  refine F.at scjoin_of (fun vs H Q E h => ?_) (fun f cdv A outer s H vs Q E hr h => ?_)
  · obtain ⟨j, _, rfl, _⟩ := h
    rfl
  · obtain ⟨j, hj, rfl, q⟩ := h
    refine ⟨_, (pss_cons (ps_for PassesOwn.never rfl (pi_list (pe_fn0 F_all_joins hr (by decide) rfl)) (pg_name (i := 1) scjoin_of.nd rfl (by first | exact Or.inl rfl | exact Or.inr rfl)) (pss_one (ps_if (pt_cmpR op_eq (pe_methD (D := DW J) (pv 1) D.hDW (hr.mono (by decide)) pass0) (pv 0) (nomark _)) (pss_one (ps_ret (pv 1))) pss_nil)))
      (pss_one ps_never)), ?_⟩
    refine ⟨rfl, fun l p0 p1 p2 p3 H1 s1 el a0 a1 a2 a3 => ?_⟩
    refine ⟨l, rfl, ⟨_, SqL.of el⟩, for_list (K := K) (a := l) (xs := [V.ref p0, V.ref p1, V.ref p2, V.ref p3]) (fun i σ H' => ∃ u : Option V, σ = [some (.str (nm j)), u] ∧ H' = H1 ∧ i ≤ j) ⟨_, rfl, rfl, Nat.zero_le _⟩ (fun i σ H' _ ⟨_, _, e, _⟩ => by rw [e]; exact SqL.of el) ?_ ?_⟩
    · rintro i y σ H' hi ⟨u, rfl, rfl, hij⟩
      obtain ⟨p, dx, h4, rfl, hp⟩ := at4 a0 a1 a2 a3 i y hi
      refine ⟨_, rfl, p, J.c i, dx, [], spC (.str (nm i)), rfl, hp, rfl, ⟨i, h4, rfl, rfl⟩, ⟨p, rfl⟩, _, rfl, rfl, _, rfl, ?_⟩
      show if decide (V.str (nm i) = V.str (nm j)) = true then _ else _
      rw [nm_eq h4 hj]
      refine ite2 (fun e => ?_) (fun e => ?_)
      · have e : i = j := of_decide_eq_true e
        subst e
        exact ⟨_, rfl, q p _ s1 ⟨dx, hp⟩⟩
      · have e : ¬ i = j := fun z => e (decide_eq_true z)
        exact ⟨_, rfl, rfl, by omega⟩
    · rintro σ H' ⟨u, rfl, rfl, hij⟩
      have : (4 : Nat) ≤ j := hij
      omega
end
end K33
namespace K33
open PySem L2 PyProof.Rows PySem.SeqAt
def A2 {α β : Type} (R : α → β → Prop) (xs : List α) (ys : List β) : Prop := xs.length = ys.length ∧ ∀ (i : Nat) (x : α) (y : β), xs[i]? = some x → ys[i]? = some y → R x y
section
variable {α β γ δ : Type} {R S : α → β → Prop}
theorem A2.nil : A2 R [] [] := ⟨rfl, fun i x y h => by simp at h⟩
theorem A2.imp {xs : List α} {ys : List β} (h : A2 R xs ys) (f : ∀ x y, R x y → S x y) : A2 S xs ys := ⟨h.1, fun i x y e1 e2 => f _ _ (h.2 i x y e1 e2)⟩
theorem A2.cons {x : α} {y : β} {xs : List α} {ys : List β} (r : R x y) (h : A2 R xs ys) : A2 R (x :: xs) (y :: ys) := by
  refine ⟨by simp [h.1], fun i a b e1 e2 => ?_⟩
  cases i with
  | zero => simp only [List.getElem?_cons_zero, Option.some.injEq] at e1 e2; subst e1 e2; exact r
  | succ i => simp only [List.getElem?_cons_succ] at e1 e2; exact h.2 i a b e1 e2
theorem A2.inv {x : α} {y : β} {xs : List α} {ys : List β} (h : A2 R (x :: xs) (y :: ys)) : R x y ∧ A2 R xs ys := by
  refine ⟨h.2 0 x y rfl rfl, by have := h.1; simp at this; exact this, fun i a b e1 e2 => h.2 (i + 1) a b (by simpa using e1) (by simpa using e2)⟩
theorem A2.app {xs xs' : List α} {ys ys' : List β} (h : A2 R xs ys) (h' : A2 R xs' ys') : A2 R (xs ++ xs') (ys ++ ys') := by
  induction xs generalizing ys with
  | nil =>
    have : ys = [] := by have := h.1; simp at this; exact List.length_eq_zero_iff.mp this.symm
    subst this
    exact h'
  | cons x xs ih =>
    cases ys with
    | nil => have := h.1; simp at this
    | cons y ys => exact (h.inv.2 |> ih).cons h.inv.1
theorem A2.one {x : α} {y : β} (r : R x y) : A2 R [x] [y] := A2.nil.cons r
theorem A2.at {xs : List α} {ys : List β} {i : Nat} {x : α} (h : A2 R xs ys) (e : xs[i]? = some x) : ∃ y, ys[i]? = some y ∧ R x y := by
  have hi := (List.getElem?_eq_some_iff.mp e).1
  have hj : i < ys.length := by rw [← h.1]; exact hi
  exact ⟨ys[i], List.getElem?_eq_getElem hj, h.2 i x _ e (List.getElem?_eq_getElem hj)⟩
theorem A2.at' {xs : List α} {ys : List β} {i : Nat} {y : β} (h : A2 R xs ys) (e : ys[i]? = some y) : ∃ x, xs[i]? = some x ∧ R x y := by
  have hi := (List.getElem?_eq_some_iff.mp e).1
  have hj : i < xs.length := by rw [h.1]; exact hi
  exact ⟨xs[i], List.getElem?_eq_getElem hj, h.2 i _ y (List.getElem?_eq_getElem hj) e⟩
end
theorem take_snoc {α : Type} {xs : List α} {i : Nat} {x : α} (h : xs[i]? = some x) : xs.take (i + 1) = xs.take i ++ [x] := by
  obtain ⟨hi, e⟩ := List.getElem?_eq_some_iff.mp h
  rw [List.take_succ_eq_append_getElem hi, e]
inductive Fo where
  | nil
  | cons (j : Nat) (n : Str) (o : List (Str × Nat)) (ks : Fo) (r : Fo)
structure Nd where
  n : Str
  o : List (Str × Nat)
  ks : Fo
def Fo.ht : Fo → Nat
  | .nil => 0
  | .cons _ _ _ ks r => max (ks.ht + 1) r.ht
def Fo.size : Fo → Nat
  | .nil => 0
  | .cons _ _ _ ks r => ks.size + 1 + r.size
def Fo.items : Fo → List (Nat × Nd)
  | .nil => []
  | .cons j n o ks r => (j, ⟨n, o, ks⟩) :: r.items
abbrev KeyR (H : Hp) (p : Addr) (k : Str × Nat) : Prop := H p = some (.tup [.str k.1, .int k.2])
structure GoodO (o : List (Str × Nat)) : Prop where
  l2 : o.length ≤ 2
  nd : o.Nodup
  ok : ∀ k ∈ o, isWordZ k.1 = true ∧ k.2 < 100
def OfAt (H : Hp) (po : Addr) (o : List (Str × Nat)) : Prop := ∃ ps : List Addr, H po = some (.tup (ps.map V.ref)) ∧ A2 (KeyR H) ps o ∧ GoodO o
abbrev pF (n : Str) (po pb : Addr) : List (Str × V) := putF "beneath" (.ref pb) (putF "offers" (.ref po) (putF "name" (.str n) []))
theorem pF_name {n : Str} {po pb : Addr} : (pF n po pb).lookup ("name" : Str) = some (.str n) := by repeat (first | rw [lookup_putF, if_pos rfl] | rw [lookup_putF, if_neg (by decide +kernel)])
theorem pF_offers {n : Str} {po pb : Addr} : (pF n po pb).lookup ("offers" : Str) = some (.ref po) := by repeat (first | rw [lookup_putF, if_pos rfl] | rw [lookup_putF, if_neg (by decide +kernel)])
theorem pF_beneath {n : Str} {po pb : Addr} : (pF n po pb).lookup ("beneath" : Str) = some (.ref pb) := by repeat (first | rw [lookup_putF, if_pos rfl] | rw [lookup_putF, if_neg (by decide +kernel)])
def FAt (C : Addr) (H : Hp) : Fo → List V → Prop
  | .nil, its => its = []
  | .cons j n o ks r, its => ∃ (p a dx po pb : Addr) (kt tl : List V), its = .ref p :: tl ∧ H p = some (.tup [.str (nm j), .ref a]) ∧ j < 4 ∧ isWordZ n = true ∧ H a = some (.ins C dx (pF n po pb)) ∧ OfAt H po o ∧ H pb = some (.tup kt) ∧ FAt C H ks kt ∧ FAt C H r tl
def PAt (C : Addr) (H : Hp) (a : Addr) (d : Nd) : Prop := ∃ (dx po pb : Addr) (kt : List V), H a = some (.ins C dx (pF d.n po pb)) ∧ isWordZ d.n = true ∧ OfAt H po d.o ∧ H pb = some (.tup kt) ∧ FAt C H d.ks kt
def JPAt (C : Addr) (H : Hp) (v : V) (x : Nat × Nd) : Prop := ∃ p a, v = .ref p ∧ H p = some (.tup [.str (nm x.1), .ref a]) ∧ x.1 < 4 ∧ PAt C H a x.2
theorem FAt.items {C : Addr} {H : Hp} : ∀ {f : Fo} {its : List V}, FAt C H f its → A2 (JPAt C H) its f.items
  | .nil, its, h => by cases h; exact A2.nil
  | .cons j n o ks r, its, h => by
    obtain ⟨p, a, dx, po, pb, kt, tl, rfl, h1, h2, h3, h4, h5, h6, h7, h8⟩ := h
    exact h8.items.cons ⟨p, a, rfl, h1, h2, dx, po, pb, kt, h4, h3, h5, h6, h7⟩
theorem FAt.of {C : Addr} {H : Hp} : ∀ {f : Fo} {its : List V}, A2 (JPAt C H) its f.items → FAt C H f its
  | .nil, its, h => List.length_eq_zero_iff.mp h.1
  | .cons j n o ks r, [], h => by have := h.1; simp [Fo.items] at this
  | .cons j n o ks r, v :: tl, h => by
    obtain ⟨⟨p, a, rfl, h1, h2, dx, po, pb, kt, h4, h3, h5, h6, h7⟩, t⟩ := A2.inv h
    exact ⟨p, a, dx, po, pb, kt, tl, rfl, h1, h2, h3, h4, h5, h6, h7, FAt.of t⟩
def TpIn (H H' : Hp) : Prop := ∀ a o, H a = some o → ((∃ xs, o = .tup xs) ∨ (∃ C dx fs, o = .ins C dx fs)) → H' a = some o
theorem TpIn.of {H H' : Hp} (s : Same H H') : TpIn H H' := fun a o e _ => s a o e
theorem TpIn.tup {H H' : Hp} (t : TpIn H H') {a : Addr} {xs : List V} (h : H a = some (.tup xs)) : H' a = some (.tup xs) := t _ _ h (.inl ⟨_, rfl⟩)
theorem TpIn.ins {H H' : Hp} (t : TpIn H H') {a C dx : Addr} {fs : List (Str × V)} (h : H a = some (.ins C dx fs)) : H' a = some (.ins C dx fs) := t _ _ h (.inr ⟨_, _, _, rfl⟩)
theorem TpIn.upd {H : Hp} {l : Addr} {xs : List V} {o : HO} (h : H l = some (.lst xs)) : TpIn H (upd H l o) := fun a ob e k => by
  rw [upd_ne]
  · exact e
  · rintro rfl
    rw [h] at e
    cases e
    rcases k with ⟨_, z⟩ | ⟨_, _, _, z⟩ <;> cases z
theorem OfAt.t {H H' : Hp} {po : Addr} {o : List (Str × Nat)} (h : OfAt H po o) (t : TpIn H H') : OfAt H' po o := by
  obtain ⟨ps, h1, h2, h3⟩ := h
  exact ⟨ps, t.tup h1, h2.imp fun p k e => t.tup e, h3⟩
theorem FAt.t {C : Addr} {H H' : Hp} (t : TpIn H H') : ∀ {f : Fo} {its : List V}, FAt C H f its → FAt C H' f its
  | .nil, its, h => h
  | .cons j n o ks r, its, h => by
    obtain ⟨p, a, dx, po, pb, kt, tl, rfl, h1, h2, h3, h4, h5, h6, h7, h8⟩ := h
    exact ⟨p, a, dx, po, pb, kt, tl, rfl, t.tup h1, h2, h3, t.ins h4, h5.t t, t.tup h6, h7.t t, h8.t t⟩
theorem PAt.t {C : Addr} {H H' : Hp} {a : Addr} {d : Nd} (h : PAt C H a d) (t : TpIn H H') : PAt C H' a d := by
  obtain ⟨dx, po, pb, kt, h1, h2, h3, h4, h5⟩ := h
  exact ⟨dx, po, pb, kt, t.ins h1, h2, h3.t t, t.tup h4, h5.t t⟩
theorem PAt.same {C : Addr} {H H' : Hp} {a : Addr} {d : Nd} (h : PAt C H a d) (s : Same H H') : PAt C H' a d := h.t (.of s)
theorem JPAt.t {C : Addr} {H H' : Hp} {v : V} {x : Nat × Nd} (h : JPAt C H v x) (t : TpIn H H') : JPAt C H' v x := by
  obtain ⟨p, a, rfl, h1, h2, h3⟩ := h
  exact ⟨p, a, rfl, t.tup h1, h2, h3.t t⟩
structure PKit (K : PySem.W.Frag) (C : Addr) : Prop where
  cl : Cls K C
  name : NoAttr K C "name"
  offers : NoAttr K C "offers"
  beneath : NoAttr K C "beneath"
  ha : PySem.W.findIn K (.ref C) "__class__" = some (some (.builtin "object.__class__"))
  hn : PySem.W.specialIn K (.builtin "object.__class__") "__get__" = some (some (.builtin "getset_descriptor.__get__"))
  htk : PySem.W.takesIn K (.builtin "object.__class__") = some true
  hm : PySem.W.mroIn K C (.type "object") = some true
  kC : PySem.W.kitOne K (.ref C) (.ref C) = some true
theorem PKit.ty {K : PySem.W.Frag} {C a dx : Addr} {fs : List (Str × V)} {H : Hp} (i : PKit K C) (e : H a = some (.ins C dx fs)) : TyOf K H (.ref a) (.ref C) := .ins e i.cl i.ha i.hn i.htk i.hm
section
variable {P : Program} {w : World} {K : PySem.W.Frag} {mg : Str → Option Value} {base : Heap} {C : Addr}
theorem refs_keys {H : Hp} : ∀ {ps : List Addr} {o : List (Str × Nat)}, A2 (KeyR H) ps o → ∃ xs : List (Addr × List Key), xs.map (fun x => V.ref x.1) = ps.map V.ref ∧ xs.map (·.2) = o.map (fun k => [Sum.inr k.1, Sum.inl (k.2 : Int)]) ∧ (∀ x ∈ xs, H x.1 = some (.tup (x.2.map kV)))
  | [], [], _ => ⟨[], rfl, rfl, fun _ h => by cases h⟩
  | [], _ :: _, h => by have := h.1; simp at this
  | _ :: _, [], h => by have := h.1; simp at this
  | p :: ps, k :: o, h => by
    obtain ⟨e, t⟩ := A2.inv h
    obtain ⟨xs, h1, h2, h3⟩ := refs_keys t
    refine ⟨(p, [Sum.inr k.1, Sum.inl (k.2 : Int)]) :: xs, by simp [h1], by simp [h2], fun x hx => ?_⟩
    rcases List.mem_cons.mp hx with rfl | hx
    · exact e
    · exact h3 x hx
theorem keys_nodup {o : List (Str × Nat)} (h : o.Nodup) : (o.map (fun k => ([Sum.inr k.1, Sum.inl (k.2 : Int)] : List Key))).Nodup := by
  rw [List.Nodup, List.pairwise_map]
  refine List.Pairwise.imp ?_ h
  intro a b ne e
  apply ne
  simp only [List.cons.injEq, Sum.inr.injEq, Sum.inl.injEq, and_true] at e
  exact Prod.ext e.1 (by omega)
theorem word_short {z : Str} (h : isWordZ z = true) : z.length ≤ 8 := by
  unfold isWordZ at h
  simp only [Bool.and_eq_true, decide_eq_true_eq] at h
  omega
theorem key_true {H : Hp} {p : Addr} {k : Str × Nat} (h : KeyR H p k) (g : isWordZ k.1 = true ∧ k.2 < 100) : keyV H (.ref p) = true := by
  show (match H p with | some (.tup [x, y]) => wordV x && numV y | _ => false) = true
  rw [h]
  show (isWordZ k.1 && decide ((0 : Int) ≤ (k.2 : Int) ∧ (k.2 : Int) ≤ 99)) = true
  rw [g.1, Bool.true_and]
  exact decide_eq_true ⟨by omega, by have := g.2; omega⟩
theorem key_args {H : Hp} {p : Addr} {k : Str × Nat} (h : KeyR H p k) (g : isWordZ k.1 = true ∧ k.2 < 100) : ∀ a xs, V.ref p = .ref a → H a = some (.tup xs) → ∀ y ∈ xs, Arg K H y ∧ Short y := by
  intro a xs e h' y hy
  cases e
  rw [h] at h'
  cases h'
  simp only [List.mem_cons, List.not_mem_nil, or_false] at hy
  rcases hy with rfl | rfl
  · exact ⟨⟨.str, .str _⟩, fun z e => by cases e; have := word_short g.1; omega⟩
  · exact ⟨⟨.int, .int _⟩, fun z e => by cases e⟩
def spAO : Sp := fun vs H Q _ => ∃ (l : Addr) (ps : List Addr) (o : List (Str × Nat)), vs = [.ref l] ∧ H l = some (.lst (ps.map V.ref)) ∧ A2 (KeyR H) ps o ∧ GoodO o ∧ ∀ H', Same H H' → Q (.bl true) H'
abbrev sare_offers : Stmt := top 39
theorem scare_offers : FnScope ["thing"] ["thing"] (defScope sare_offers) := ⟨rfl, rfl, rfl, by decide +kernel, rfl, by decide +kernel, by decide +kernel⟩
theorem ok_ao (T : Txt mg) (F_is_key : FnAt P w K mg base "is_key" 2 ["thing"] (spKey K)) (F : TopFn K mg "are_offers" sare_offers ["thing"]) : FnAt P w K mg base "are_offers" 3 ["thing"] spAO := by
  refine F.at scare_offers (fun vs H Q E h => ?_) (fun f cdv A outer s H vs Q E hr h => ?_)
  · obtain ⟨l, ps, o, rfl, _⟩ := h
    rfl
  · obtain ⟨l, ps, o, rfl, hl, hk, g, q⟩ := h
    refine ⟨_, (pss_cons (ps_if (PW.pt (pw_or (pt_not (pt_val (pe_callB call_isLT rfl T.n_isinstance boot_isinstance (pa_cons (pv 0) (pa_cons (pe_tup (pa_cons (pe_bltn (v := .ty "list") rfl T.n_list boot_list rfl) (pa_cons (pe_bltn (v := .ty "tuple") rfl T.n_tuple boot_tuple rfl) pa_nil))) pa_nil))))) (pw_or1 (pt_cmpR op_gt (pe_callB call_len rfl T.n_len boot_len (pa_cons (pv 0) pa_nil)) (pe_globI rfl T.g_MOST_OFFERS) (nomark _))))) (pss_one (ps_ret pe_bl)) pss_nil)
      (pss_one (ps_ret (pe_and (pe_callB (call_allB rfl) rfl T.n_all boot_all (pa_cons (pe_comp (sc := defScope sare_offers) (N0 := ["thing"]) (xs := ["key"]) (ys := []) (js := []) ⟨rfl, by decide +kernel, by decide +kernel, by decide +kernel, by decide +kernel⟩ rfl (pi_list (pv 0)) (fun _ _ _ _ => (pg_name (i := 0) (show (["key"] : List Str).Nodup by decide +kernel) rfl (by first | exact Or.inl rfl | exact Or.inr rfl))) (fun _ _ _ _ => pq_nil) (fun _ _ _ _ => (pe_fn F_is_key hr (by decide) rfl (pa_cons (pv 0) pa_nil)))) pa_nil)) (pe_one (pe_cmpR op_eq (pe_lenK hr.hd (hu64 hr) rfl T.n_len rfl T.n_set (pv 0)) (pe_callB call_len rfl T.n_len boot_len (pa_cons (pv 0) pa_nil)) (nomark _))))))), ?_⟩
    have hs : sizeLine = 16777216 := sizeLine_eq
    have hlen := hk.1
    have g2 := g.l2
    refine ⟨_, rfl, (by show 2 ≤ sizeLine; decide), fun tp htp => ?_⟩
    have s1 := Same.new (o := .tup [.ty "list", .ty "tuple"]) htp
    have e1 : upd H tp (.tup [.ty "list", .ty "tuple"]) tp = some (.tup [.ty "list", .ty "tuple"]) := upd_same
    generalize upd H tp (.tup [.ty "list", .ty "tuple"]) = H1 at s1 e1 ⊢
    have l1 := s1 _ _ hl
    refine ⟨l, _, tp, rfl, l1, SqT.of e1, _, rfl, iteF ?_⟩
    refine ⟨_, rfl, _, _, rfl, .inl ⟨_, SqL.of l1, rfl⟩, _, _, rfl, rfl, _, rfl, ite2 (fun h2 => ?_) (fun _ => ?_)⟩
    · have h2 : (((ps.map V.ref).length : Nat) : Int) > (2 : Int) := of_decide_eq_true h2
      rw [List.length_map] at h2
      omega
    refine ⟨_, rfl, l, rfl, ⟨_, SqL.of l1⟩, comp_list (K := K) (a := l) (xs := ps.map V.ref) (fun i ys H' => ys = (List.replicate i true).map V.bl ∧ Same H H') ⟨rfl, s1⟩ (by rw [List.length_map]; omega) ?_ ?_ ?_ ?_⟩
    · rintro i ys H' ⟨rfl, _⟩
      rw [List.length_map, List.length_replicate]; exact Nat.le_refl _
    · rintro i ys H' _ ⟨_, s'⟩
      exact SqL.of (s' _ _ hl)
    · rintro i x ys H' hx ⟨rfl, s'⟩
      rw [List.getElem?_map] at hx
      obtain ⟨p, hp, rfl⟩ := Option.map_eq_some_iff.mp hx
      obtain ⟨k, hk1, hk2⟩ := hk.at hp
      have gk := g.ok k (List.mem_of_getElem? hk1)
      have hk2 := s' _ _ hk2
      refine ⟨_, rfl, .ref p, rfl, ⟨.tup, .tup hk2⟩, key_args hk2 gk, fun H2 s2 => ⟨?_, s'.trans s2⟩⟩
      rw [key_true hk2 gk, List.replicate_succ', List.map_append]
      rfl
    · rintro ys H' ⟨rfl, s'⟩ l2 hl2
      have s2 := s'.trans (Same.new (o := .lst ((List.replicate (ps.map V.ref).length true).map V.bl)) hl2)
      have e2 : upd H' l2 (.lst ((List.replicate (ps.map V.ref).length true).map V.bl)) l2 = some (.lst ((List.replicate (ps.map V.ref).length true).map V.bl)) := upd_same
      generalize upd H' l2 (.lst ((List.replicate (ps.map V.ref).length true).map V.bl)) = H2 at s2 e2 ⊢
      refine ⟨l2, _, rfl, SqL.of e2, ?_⟩
      have al : (List.replicate (ps.map V.ref).length true).all id = true := by simp
      rw [al]
      refine ⟨_, rfl, iteT ?_⟩
      obtain ⟨xs, h1, h2, h3⟩ := refs_keys hk
      have hxl : xs.length = ps.length := by have := congrArg List.length h1; simpa using this
      refine ⟨_, rfl, l, xs, rfl, by rw [h1]; exact SqL.of (s2 _ _ hl), by omega, by rw [h2]; exact keys_nodup g.nd, fun x hx => s2 _ _ (h3 x hx), ?_⟩
      refine ⟨_, rfl, _, _, rfl, .inl ⟨_, SqL.of (s2 _ _ hl), rfl⟩, rfl, ?_⟩
      rw [List.length_map, hxl, decide_eq_true (rfl : V.int ((ps.length : Nat) : Int) = V.int ((ps.length : Nat) : Int))]
      exact q _ s2
def spAOT : Sp := fun vs H Q _ => ∃ l : Addr, vs = [.ref l] ∧ H l = some (.tup []) ∧ ∀ H', Same H H' → Q (.bl true) H'
theorem ok_aoT (T : Txt mg) (F_is_key : FnAt P w K mg base "is_key" 2 ["thing"] (spKey K)) (F : TopFn K mg "are_offers" sare_offers ["thing"]) : FnAt P w K mg base "are_offers" 3 ["thing"] spAOT := by
  refine F.at scare_offers (fun vs H Q E h => ?_) (fun f cdv A outer s H vs Q E hr h => ?_)
  · obtain ⟨l, rfl, _⟩ := h
    rfl
  · obtain ⟨l, rfl, hl, q⟩ := h
    refine ⟨_, (pss_cons (ps_if (PW.pt (pw_or (pt_not (pt_val (pe_callB call_isTT rfl T.n_isinstance boot_isinstance (pa_cons (pv 0) (pa_cons (pe_tup (pa_cons (pe_bltn (v := .ty "list") rfl T.n_list boot_list rfl) (pa_cons (pe_bltn (v := .ty "tuple") rfl T.n_tuple boot_tuple rfl) pa_nil))) pa_nil))))) (pw_or1 (pt_cmpR op_gt (pe_callB call_len rfl T.n_len boot_len (pa_cons (pv 0) pa_nil)) (pe_globI rfl T.g_MOST_OFFERS) (nomark _))))) (pss_one (ps_ret pe_bl)) pss_nil)
      (pss_one (ps_ret (pe_and (pe_callB (call_allB rfl) rfl T.n_all boot_all (pa_cons (pe_comp (sc := defScope sare_offers) (N0 := ["thing"]) (xs := ["key"]) (ys := []) (js := []) ⟨rfl, by decide +kernel, by decide +kernel, by decide +kernel, by decide +kernel⟩ rfl (pi_tup (pv 0)) (fun _ _ _ _ => (pg_name (i := 0) (show (["key"] : List Str).Nodup by decide +kernel) rfl (by first | exact Or.inl rfl | exact Or.inr rfl))) (fun _ _ _ _ => pq_nil) (fun _ _ _ _ => (pe_fn F_is_key hr (by decide) rfl (pa_cons (pv 0) pa_nil)))) pa_nil)) (pe_one (pe_cmpR op_eq (pe_lenKT hr.hd (hu64 hr) rfl T.n_len rfl T.n_set (pv 0)) (pe_callB call_len rfl T.n_len boot_len (pa_cons (pv 0) pa_nil)) (nomark _))))))), ?_⟩
    refine ⟨_, rfl, (by show 2 ≤ sizeLine; decide), fun tp htp => ?_⟩
    have s1 := Same.new (o := .tup [.ty "list", .ty "tuple"]) htp
    have e1 : upd H tp (.tup [.ty "list", .ty "tuple"]) tp = some (.tup [.ty "list", .ty "tuple"]) := upd_same
    generalize upd H tp (.tup [.ty "list", .ty "tuple"]) = H1 at s1 e1 ⊢
    have l1 := s1 _ _ hl
    refine ⟨l, _, tp, rfl, l1, SqT.of e1, _, rfl, iteF ?_⟩
    refine ⟨_, rfl, _, _, rfl, .inr ⟨_, SqT.of l1, rfl⟩, _, _, rfl, rfl, _, rfl, iteF ?_⟩
    refine ⟨_, rfl, l, rfl, ⟨_, SqT.of l1⟩, comp_tup (K := K) (a := l) (xs := []) (fun i ys H' => ys = [] ∧ H' = H1) ⟨rfl, rfl⟩ (Nat.zero_le _) ?_ ?_ ?_ ?_⟩
    · rintro i ys H' ⟨rfl, _⟩
      exact Nat.zero_le _
    · rintro i ys H' _ ⟨_, rfl⟩
      exact SqT.of l1
    · rintro i x ys H' hx _
      simp at hx
    · rintro ys H' ⟨rfl, rfl⟩ l2 hl2
      have s2 := s1.trans (Same.new (o := .lst []) hl2)
      have e2 : upd H' l2 (.lst []) l2 = some (.lst []) := upd_same
      generalize upd H' l2 (.lst []) = H2 at s2 e2 ⊢
      refine ⟨l2, [], rfl, SqL.of e2, ?_⟩
      refine ⟨_, rfl, iteT ?_⟩
      refine ⟨_, rfl, l, [], rfl, SqT.of (s2 _ _ hl), by decide, List.nodup_nil, (fun x hx => by cases hx), ?_⟩
      exact ⟨_, rfl, _, _, rfl, .inr ⟨_, SqT.of (s2 _ _ hl), rfl⟩, rfl, q _ s2⟩
def OfArg (H : Hp) (v : V) (o : List (Str × Nat)) : Prop := (v = .non ∧ o = []) ∨ (∃ (l : Addr) (ps : List Addr), v = .ref l ∧ H l = some (.lst (ps.map V.ref)) ∧ A2 (KeyR H) ps o ∧ GoodO o) ∨ ∃ l : Addr, v = .ref l ∧ H l = some (.tup []) ∧ o = []
theorem OfArg.same {H H' : Hp} {v : V} {o : List (Str × Nat)} (h : OfArg H v o) (s : Same H H') : OfArg H' v o := by
  rcases h with h | ⟨l, ps, h1, h2, h3, h4⟩ | ⟨l, h1, h2, h3⟩
  · exact .inl h
  · exact .inr (.inl ⟨l, ps, h1, s _ _ h2, h3.imp fun _ _ e => s _ _ e, h4⟩)
  · exact .inr (.inr ⟨l, h1, s _ _ h2, h3⟩)
theorem goodNil : GoodO [] := ⟨by decide, List.nodup_nil, fun k h => by cases h⟩
def spKO : Sp := fun vs H Q _ => ∃ (v : V) (o : List (Str × Nat)), vs = [v] ∧ OfArg H v o ∧ ∀ (po : Addr) (H' : Hp), Same H H' → OfAt H' po o → Q (.ref po) H'
abbrev skept_offers : Stmt := top 40
theorem sckept_offers : FnScope ["offers"] ["offers"] (defScope skept_offers) := ⟨rfl, rfl, rfl, by decide +kernel, rfl, by decide +kernel, by decide +kernel⟩
theorem ok_ko (T : Txt mg) (F_are_offers : FnAt P w K mg base "are_offers" 3 ["thing"] spAO) (F_aoT : FnAt P w K mg base "are_offers" 3 ["thing"] spAOT) (F : TopFn K mg "kept_offers" skept_offers ["offers"]) : FnAt P w K mg base "kept_offers" 4 ["offers"] spKO := by
  refine F.at sckept_offers (fun vs H Q E h => ?_) (fun f cdv A outer s H vs Q E hr h => ?_)
  · obtain ⟨v, o, rfl, _⟩ := h
    rfl
  · obtain ⟨v, o, rfl, ⟨rfl, rfl⟩ | ⟨l, ps, rfl, hl, hk, g⟩ | ⟨l, rfl, hl, rfl⟩, q⟩ := h
    · refine ⟨_, (pss_cons (ps_if (pt_cmp (pc_isN (pv 0))) (pss_one (ps_ret (pe_tup pa_nil))) pss_nil)
        (pss_cons (ps_if (pt_not (pt_val (pe_fn F_are_offers hr (by decide) rfl (pa_cons (pv 0) pa_nil)))) (pss_one ps_never) pss_nil)
        (pss_one (ps_ret (pe_callTy call_tuple_of rfl T.n_tuple boot_tuple (pa_cons (pv 0) pa_nil)))))), ?_⟩
      refine ⟨_, rfl, _, rfl, iteT ⟨(by show 0 ≤ sizeLine; decide), fun p hp => q p _ (Same.new hp) ⟨[], upd_same, A2.nil, goodNil⟩⟩⟩
    · refine ⟨_, (pss_cons (ps_if (pt_cmp (pc_isN (pv 0))) (pss_one ps_never) pss_nil)
        (pss_cons (ps_if (pt_not (pt_val (pe_fn F_are_offers hr (by decide) rfl (pa_cons (pv 0) pa_nil)))) (pss_one ps_never) pss_nil)
        (pss_one (ps_ret (pe_callTy call_tuple_of rfl T.n_tuple boot_tuple (pa_cons (pv 0) pa_nil)))))), ?_⟩
      refine ⟨_, rfl, _, rfl, iteF ⟨_, rfl, l, ps, o, rfl, hl, hk, g, fun H1 s1 => ⟨_, rfl, iteF ?_⟩⟩⟩
      refine ⟨_, rfl, l, _, rfl, .inl ⟨SqL.of (s1 _ _ hl), fun p hp => ?_⟩⟩
      have s2 := s1.trans (Same.new (o := .tup (ps.map V.ref)) hp)
      exact q p _ s2 ⟨ps, upd_same, hk.imp fun p k e => s2 _ _ e, g⟩
    · refine ⟨_, (pss_cons (ps_if (pt_cmp (pc_isN (pv 0))) (pss_one ps_never) pss_nil)
        (pss_cons (ps_if (pt_not (pt_val (pe_fn F_aoT hr (by decide) rfl (pa_cons (pv 0) pa_nil)))) (pss_one ps_never) pss_nil)
        (pss_one (ps_ret (pe_callTy call_tuple_of rfl T.n_tuple boot_tuple (pa_cons (pv 0) pa_nil)))))), ?_⟩
      refine ⟨_, rfl, _, rfl, iteF ⟨_, rfl, l, rfl, hl, fun H1 s1 => ⟨_, rfl, iteF ?_⟩⟩⟩
      exact ⟨_, rfl, l, _, rfl, .inr ⟨SqT.of (s1 _ _ hl), q l _ s1 ⟨[], s1 _ _ hl, A2.nil, goodNil⟩⟩⟩
def spFew (m : Int) : Sp := fun vs H Q _ => ∃ n : Int, vs = [.int n] ∧ n ≤ m ∧ Q .non H
abbrev sneed_few_beneath : Stmt := top 41
theorem scneed_few_beneath : FnScope ["many"] ["many"] (defScope sneed_few_beneath) := ⟨rfl, rfl, rfl, by decide +kernel, rfl, by decide +kernel, by decide +kernel⟩
theorem ok_nfb (T : Txt mg) (F : TopFn K mg "need_few_beneath" sneed_few_beneath ["many"]) : FnAt P w K mg base "need_few_beneath" 1 ["many"] (spFew 6) := by
  refine F.at scneed_few_beneath (fun vs H Q E h => ?_) (fun f cdv A outer s H vs Q E hr h => ?_)
  · obtain ⟨n, rfl, _⟩ := h
    rfl
  · obtain ⟨n, rfl, hn, q⟩ := h
    refine ⟨_, (pss_one (ps_if (pt_cmpR op_gt (pv 0) (pe_globI rfl T.g_MOST_BENEATH) (nomark _)) (pss_one ps_never) pss_nil)), ?_⟩
    refine ⟨_, rfl, _, _, rfl, rfl, _, rfl, ite2 (fun h => ?_) (fun _ => q)⟩
    have h : n > (6 : Int) := of_decide_eq_true h
    omega
abbrev sneed_few_parts : Stmt := top 42
theorem scneed_few_parts : FnScope ["many"] ["many"] (defScope sneed_few_parts) := ⟨rfl, rfl, rfl, by decide +kernel, rfl, by decide +kernel, by decide +kernel⟩
theorem ok_nfp (T : Txt mg) (F : TopFn K mg "need_few_parts" sneed_few_parts ["many"]) : FnAt P w K mg base "need_few_parts" 1 ["many"] (spFew 30) := by
  refine F.at scneed_few_parts (fun vs H Q E h => ?_) (fun f cdv A outer s H vs Q E hr h => ?_)
  · obtain ⟨n, rfl, _⟩ := h
    rfl
  · obtain ⟨n, rfl, hn, q⟩ := h
    refine ⟨_, (pss_one (ps_if (pt_cmpR op_gt (pv 0) (pe_globI rfl T.g_MOST_PARTS) (nomark _)) (pss_one ps_never) pss_nil)), ?_⟩
    refine ⟨_, rfl, _, _, rfl, rfl, _, rfl, ite2 (fun h => ?_) (fun _ => q)⟩
    have h : n > (30 : Int) := of_decide_eq_true h
    omega
abbrev sneed_not_deep : Stmt := top 43
theorem scneed_not_deep : FnScope ["deep"] ["deep"] (defScope sneed_not_deep) := ⟨rfl, rfl, rfl, by decide +kernel, rfl, by decide +kernel, by decide +kernel⟩
theorem ok_nnd (T : Txt mg) (F : TopFn K mg "need_not_deep" sneed_not_deep ["deep"]) : FnAt P w K mg base "need_not_deep" 1 ["deep"] (spFew 6) := by
  refine F.at scneed_not_deep (fun vs H Q E h => ?_) (fun f cdv A outer s H vs Q E hr h => ?_)
  · obtain ⟨n, rfl, _⟩ := h
    rfl
  · obtain ⟨n, rfl, hn, q⟩ := h
    refine ⟨_, (pss_one (ps_if (pt_cmpR op_gt (pv 0) (pe_globI rfl T.g_MOST_DEEP) (nomark _)) (pss_one ps_never) pss_nil)), ?_⟩
    refine ⟨_, rfl, _, _, rfl, rfl, _, rfl, ite2 (fun h => ?_) (fun _ => q)⟩
    have h : n > (6 : Int) := of_decide_eq_true h
    omega
def spJP (C : Addr) : Sp := fun vs H Q _ => ∃ (v : V) (x : Nat × Nd), vs = [v] ∧ JPAt C H v x ∧ Q (.bl true) H
abbrev sis_joined_part : Stmt := top 44
theorem scis_joined_part : FnScope ["thing"] ["thing"] (defScope sis_joined_part) := ⟨rfl, rfl, rfl, by decide +kernel, rfl, by decide +kernel, by decide +kernel⟩
theorem ok_jp (T : Txt mg) (kit : PKit K C) (mC : mg "Part" = some (.ref C)) (F : TopFn K mg "is_joined_part" sis_joined_part ["thing"]) : FnAt P w K mg base "is_joined_part" 1 ["thing"] (spJP C) := by
  refine F.at scis_joined_part (fun vs H Q E h => ?_) (fun f cdv A outer s H vs Q E hr h => ?_)
  · obtain ⟨v, x, rfl, _⟩ := h
    rfl
  · obtain ⟨v, x, rfl, ⟨p, a, rfl, hp, _, dx, po, pb, kt, ha, _⟩, q⟩ := h
    refine ⟨_, (pss_one (ps_ret (pe_and (pe_callB (call_isKd .tup (by simp)) rfl T.n_isinstance boot_isinstance (pa_cons (pv 0) (pa_cons (pe_bltn (v := .ty "tuple") rfl T.n_tuple boot_tuple rfl) pa_nil))) (pe_and (pe_cmpR op_eq (pe_callB call_len rfl T.n_len boot_len (pa_cons (pv 0) pa_nil)) pe_int (nomark _)) (pe_one (pe_callB call_isinst rfl T.n_isinstance boot_isinstance (pa_cons (pe_ix ix_tup (pv 0) pe_int (fun _ _ => rfl)) (pa_cons (pe_glob (v := .ref C) rfl mC rfl) pa_nil)))))))), ?_⟩
    refine ⟨_, rfl, .ref p, .tup, rfl, .tup hp, _, rfl, iteT ?_⟩
    refine ⟨_, rfl, _, _, rfl, .inr ⟨_, SqT.of hp, rfl⟩, rfl, _, rfl, iteT ?_⟩
    exact ⟨_, rfl, p, _, _, _, rfl, rfl, SqT.of hp, rfl, _, _, .ref C, .ref C, true, rfl, rfl, kit.ty ha, kit.kC, q⟩
def BnArg (C : Addr) (H : Hp) (v : V) (f : Fo) (its : List V) : Prop := (v = .non ∧ f = .nil ∧ its = []) ∨ ∃ l : Addr, v = .ref l ∧ H l = some (.lst its) ∧ FAt C H f its ∧ its.length ≤ 6
def spKB (C : Addr) : Sp := fun vs H Q _ => ∃ (v : V) (f : Fo) (its : List V), vs = [v] ∧ BnArg C H v f its ∧ ∀ (pb : Addr) (H' : Hp), Same H H' → H' pb = some (.tup its) → Q (.ref pb) H'
abbrev skept_beneath : Stmt := top 45
theorem sckept_beneath : FnScope ["beneath", "row"] ["beneath"] (defScope skept_beneath) := ⟨rfl, rfl, rfl, by decide +kernel, rfl, by decide +kernel, by decide +kernel⟩
theorem ok_kb {J : Js} (T : Txt mg) (F_jp : FnAt P w K mg base "is_joined_part" 1 ["thing"] (spJP C)) (F_few : FnAt P w K mg base "need_few_beneath" 1 ["many"] (spFew 6)) (F_join_of : FnAt P w K mg base "join_of" 2 ["word"] (spJO J)) (F : TopFn K mg "kept_beneath" skept_beneath ["beneath"]) : FnAt P w K mg base "kept_beneath" 3 ["beneath"] (spKB C) := by
  refine F.at sckept_beneath (fun vs H Q E h => ?_) (fun f cdv A outer s H vs Q E hr h => ?_)
  · obtain ⟨v, f, its, rfl, _⟩ := h
    rfl
  · obtain ⟨v, fo, its, rfl, ⟨rfl, rfl, rfl⟩ | ⟨l, rfl, hl, hf, h6⟩, q⟩ := h
    · refine ⟨_, (pss_cons (ps_if (pt_cmp (pc_isN (pv 0))) (pss_one (ps_ret (pe_tup pa_nil))) pss_nil)
        (pss_cons (ps_if (PW.pt (pw_or (pt_not (pt_val (pe_callB call_isLT rfl T.n_isinstance boot_isinstance (pa_cons (pv 0) (pa_cons (pe_tup (pa_cons (pe_bltn (v := .ty "list") rfl T.n_list boot_list rfl) (pa_cons (pe_bltn (v := .ty "tuple") rfl T.n_tuple boot_tuple rfl) pa_nil))) pa_nil))))) (pw_or1 (pt_not (pt_val (pe_callB (call_allB rfl) rfl T.n_all boot_all (pa_cons (pe_comp (sc := defScope skept_beneath) (N0 := ["beneath", "row"]) (xs := ["thing"]) (ys := []) (js := []) ⟨rfl, by decide +kernel, by decide +kernel, by decide +kernel, by decide +kernel⟩ rfl (pi_list (pv 0)) (fun _ _ _ _ => (pg_name (i := 0) (show (["thing"] : List Str).Nodup by decide +kernel) rfl (by first | exact Or.inl rfl | exact Or.inr rfl))) (fun _ _ _ _ => pq_nil) (fun _ _ _ _ => (pe_fn F_jp hr (by decide) rfl (pa_cons (pv 0) pa_nil)))) pa_nil))))))) (pss_one ps_never) pss_nil)
        (pss_cons (ps_expr (pe_fn F_few hr (by decide) rfl (pa_cons (pe_callB call_len rfl T.n_len boot_len (pa_cons (pv 0) pa_nil)) pa_nil)))
        (pss_cons (ps_for PassesOwn.never rfl (pi_list (pv 0)) (pg_name (i := 1) sckept_beneath.nd rfl (by first | exact Or.inl rfl | exact Or.inr rfl)) (pss_one (ps_expr (pe_fn F_join_of hr (by decide) rfl (pa_cons (pe_ix ix_tup (pv 1) pe_int (fun _ _ => rfl)) pa_nil)))))
        (pss_one (ps_ret (pe_callTy call_tuple_of rfl T.n_tuple boot_tuple (pa_cons (pv 0) pa_nil)))))))), ?_⟩
      exact ⟨_, rfl, _, rfl, iteT ⟨(by show 0 ≤ sizeLine; decide), fun p hp => q p _ (Same.new hp) upd_same⟩⟩
    refine ⟨_, (pss_cons (ps_if (pt_cmp (pc_isN (pv 0))) (pss_one ps_never) pss_nil)
      (pss_cons (ps_if (PW.pt (pw_or (pt_not (pt_val (pe_callB call_isLT rfl T.n_isinstance boot_isinstance (pa_cons (pv 0) (pa_cons (pe_tup (pa_cons (pe_bltn (v := .ty "list") rfl T.n_list boot_list rfl) (pa_cons (pe_bltn (v := .ty "tuple") rfl T.n_tuple boot_tuple rfl) pa_nil))) pa_nil))))) (pw_or1 (pt_not (pt_val (pe_callB (call_allB rfl) rfl T.n_all boot_all (pa_cons (pe_comp (sc := defScope skept_beneath) (N0 := ["beneath", "row"]) (xs := ["thing"]) (ys := []) (js := []) ⟨rfl, by decide +kernel, by decide +kernel, by decide +kernel, by decide +kernel⟩ rfl (pi_list (pv 0)) (fun _ _ _ _ => (pg_name (i := 0) (show (["thing"] : List Str).Nodup by decide +kernel) rfl (by first | exact Or.inl rfl | exact Or.inr rfl))) (fun _ _ _ _ => pq_nil) (fun _ _ _ _ => (pe_fn F_jp hr (by decide) rfl (pa_cons (pv 0) pa_nil)))) pa_nil))))))) (pss_one ps_never) pss_nil)
      (pss_cons (ps_expr (pe_fn F_few hr (by decide) rfl (pa_cons (pe_callB call_len rfl T.n_len boot_len (pa_cons (pv 0) pa_nil)) pa_nil)))
      (pss_cons (ps_for PassesOwn.never rfl (pi_list (pv 0)) (pg_name (i := 1) sckept_beneath.nd rfl (by first | exact Or.inl rfl | exact Or.inr rfl)) (pss_one (ps_expr (pe_fn F_join_of hr (by decide) rfl (pa_cons (pe_ix ix_tup (pv 1) pe_int (fun _ _ => rfl)) pa_nil)))))
      (pss_one (ps_ret (pe_callTy call_tuple_of rfl T.n_tuple boot_tuple (pa_cons (pv 0) pa_nil)))))))), ?_⟩
    have hs : sizeLine = 16777216 := sizeLine_eq
    have hit := hf.items
    refine ⟨_, rfl, _, rfl, iteF ?_⟩
    refine ⟨_, rfl, (by show 2 ≤ sizeLine; decide), fun tp htp => ?_⟩
    have s1 := Same.new (o := .tup [.ty "list", .ty "tuple"]) htp
    have e1 : upd H tp (.tup [.ty "list", .ty "tuple"]) tp = some (.tup [.ty "list", .ty "tuple"]) := upd_same
    generalize upd H tp (.tup [.ty "list", .ty "tuple"]) = H1 at s1 e1 ⊢
    have l1 := s1 _ _ hl
    refine ⟨l, _, tp, rfl, l1, SqT.of e1, _, rfl, iteF ?_⟩
    refine ⟨_, rfl, l, rfl, ⟨_, SqL.of l1⟩, comp_list (K := K) (a := l) (xs := its) (fun i ys H' => ys = (List.replicate i true).map V.bl ∧ H' = H1) ⟨rfl, rfl⟩ (by omega) ?_ ?_ ?_ ?_⟩
    · rintro i ys H' ⟨rfl, _⟩
      rw [List.length_map, List.length_replicate]; exact Nat.le_refl _
    · rintro i ys H' _ ⟨_, rfl⟩
      exact SqL.of l1
    · rintro i x ys H' hx ⟨rfl, rfl⟩
      obtain ⟨y, hy1, hy2⟩ := hit.at hx
      refine ⟨_, rfl, x, y, rfl, hy2.t (.of s1), ?_, rfl⟩
      rw [List.replicate_succ', List.map_append]
      rfl
    · rintro ys H' ⟨rfl, rfl⟩ l2 hl2
      have s2 := s1.trans (Same.new (o := .lst ((List.replicate its.length true).map V.bl)) hl2)
      have e2 : upd H' l2 (.lst ((List.replicate its.length true).map V.bl)) l2 = some (.lst ((List.replicate its.length true).map V.bl)) := upd_same
      generalize upd H' l2 (.lst ((List.replicate its.length true).map V.bl)) = H2 at s2 e2 ⊢
      refine ⟨l2, _, rfl, SqL.of e2, ?_⟩
      have al : (List.replicate its.length true).all id = true := by simp
      rw [al]
      refine ⟨_, rfl, iteF ?_⟩
      refine ⟨_, rfl, _, _, rfl, .inl ⟨_, SqL.of (s2 _ _ hl), rfl⟩, _, rfl, by show ((its.length : Nat) : Int) ≤ 6; omega, ?_⟩
      refine ⟨_, rfl, l, rfl, ⟨_, SqL.of (s2 _ _ hl)⟩, for_list (K := K) (a := l) (xs := its) (fun i σ H' => ∃ u : Option V, σ = [some (.ref l), u] ∧ Same H H') ⟨_, rfl, s2⟩ (fun i σ H' _ ⟨_, _, s'⟩ => SqL.of (s' _ _ hl)) ?_ ?_⟩
      · rintro i x σ H3 hx ⟨u, rfl, s3⟩
        obtain ⟨y, hy1, p, a, rfl, hp, h4, _⟩ := hit.at hx
        refine ⟨_, rfl, p, _, _, _, rfl, rfl, SqT.of (s3 _ _ hp), rfl, y.1, h4, rfl, fun p2 H4 s4 _ => ?_⟩
        exact ⟨_, rfl, s3.trans s4⟩
      · rintro σ H3 ⟨u, rfl, s3⟩
        refine ⟨_, rfl, l, _, rfl, .inl ⟨SqL.of (s3 _ _ hl), fun p hp => ?_⟩⟩
        exact q p _ (s3.trans (Same.new hp)) upd_same
end
end K33
namespace K33
open PySem L2 PyProof.Rows PySem.SeqAt
def walkF : Fo → List (List (Nat × Str) × Nd)
  | .nil => []
  | .cons j n o ks r => (([], ⟨n, o, ks⟩) :: walkF ks).map (fun x => ((j, n) :: x.1, x.2)) ++ walkF r
def walkP (d : Nd) : List (List (Nat × Str) × Nd) := ([], d) :: walkF d.ks
def wUp (x : Nat × Nd) (y : List (Nat × Str) × Nd) : List (Nat × Str) × Nd := ((x.1, x.2.n) :: y.1, y.2)
def wStep (x : Nat × Nd) : List (List (Nat × Str) × Nd) := (walkP x.2).map (wUp x)
theorem walkF_items : ∀ f : Fo, walkF f = (f.items.map wStep).flatten
  | .nil => rfl
  | .cons j n o ks r => by
    show _ = wStep _ ++ (r.items.map wStep).flatten
    rw [← walkF_items r]
    rfl
theorem walkF_len : ∀ f : Fo, (walkF f).length = f.size
  | .nil => rfl
  | .cons j n o ks r => by
    rw [walkF, List.length_append, List.length_map, List.length_cons, walkF_len ks, walkF_len r, Fo.size]
theorem walkP_len (d : Nd) : (walkP d).length = d.ks.size + 1 := by rw [walkP, List.length_cons, walkF_len]
theorem items_ht : ∀ {f : Fo} {x : Nat × Nd}, x ∈ f.items → x.2.ks.ht < f.ht ∧ x.2.ks.size < f.size
  | .nil, x, h => by cases h
  | .cons j n o ks r, x, h => by
    rw [Fo.ht, Fo.size]
    rcases List.mem_cons.mp h with rfl | h
    · dsimp only; omega
    · have := items_ht h; omega
theorem road_le : ∀ {f : Fo} {y : List (Nat × Str) × Nd}, y ∈ walkF f → y.1.length ≤ f.ht
  | .nil, y, h => by cases h
  | .cons j n o ks r, y, h => by
    rw [Fo.ht]
    rcases List.mem_append.mp h with h | h
    · obtain ⟨z, hz, rfl⟩ := List.mem_map.mp h
      rcases List.mem_cons.mp hz with rfl | hz
      · show 0 + 1 ≤ _; omega
      · have := road_le hz
        show z.1.length + 1 ≤ _
        omega
    · have := road_le h; omega
theorem ht_size : ∀ f : Fo, f.ht ≤ f.size
  | .nil => Nat.le_refl _
  | .cons j n o ks r => by
    rw [Fo.ht, Fo.size]
    have := ht_size ks
    have := ht_size r
    omega
theorem roadP_le {d : Nd} {y : List (Nat × Str) × Nd} (h : y ∈ walkP d) : y.1.length ≤ d.ks.ht := by
  rcases List.mem_cons.mp h with rfl | h
  · exact Nat.zero_le _
  · exact road_le h
theorem road_max : ∀ f : Fo, 0 < f.ht → ∃ y ∈ walkF f, y.1.length = f.ht
  | .nil, h => by simp [Fo.ht] at h
  | .cons j n o ks r, h => by
    rw [Fo.ht] at h ⊢
    by_cases e : ks.ht + 1 ≤ r.ht
    · obtain ⟨y, hy, e2⟩ := road_max r (by omega)
      exact ⟨y, List.mem_append_right _ hy, by omega⟩
    · by_cases e0 : ks.ht = 0
      · exact ⟨([(j, n)], ⟨n, o, ks⟩), List.mem_append_left _ (List.mem_map.mpr ⟨_, List.mem_cons_self, rfl⟩), by show 1 = _; omega⟩
      · obtain ⟨y, hy, e2⟩ := road_max ks (by omega)
        exact ⟨((j, n) :: y.1, y.2), List.mem_append_left _ (List.mem_map.mpr ⟨_, List.mem_cons_of_mem _ hy, rfl⟩), by show y.1.length + 1 = _; omega⟩
theorem roadP_max (d : Nd) : ∃ y ∈ walkP d, y.1.length = d.ks.ht := by
  by_cases e : d.ks.ht = 0
  · exact ⟨_, List.mem_cons_self, e.symm⟩
  · obtain ⟨y, hy, e2⟩ := road_max d.ks (by omega)
    exact ⟨y, List.mem_cons_of_mem _ hy, e2⟩
def PrAt (H : Hp) (v : V) (x : Nat × Str) : Prop := x.1 < 4 ∧ ∃ p, v = .ref p ∧ H p = some (.tup [.str (nm x.1), .str x.2])
def RdAt (H : Hp) (l : Addr) (rd : List (Nat × Str)) : Prop := ∃ vs, H l = some (.lst vs) ∧ A2 (PrAt H) vs rd
def WRow (N : Addr → Prop) (C : Addr) (H : Hp) (v : V) (x : List (Nat × Str) × Nd) : Prop := ∃ p l a, v = .ref p ∧ N l ∧ H p = some (.tup [.ref l, .ref a]) ∧ RdAt H l x.1 ∧ PAt C H a x.2
theorem PrAt.t {H H' : Hp} {v : V} {x : Nat × Str} (h : PrAt H v x) (t : TpIn H H') : PrAt H' v x := by
  obtain ⟨h1, p, h2, h3⟩ := h
  exact ⟨h1, p, h2, t.tup h3⟩
theorem RdAt.same {H H' : Hp} {l : Addr} {rd : List (Nat × Str)} (h : RdAt H l rd) (s : Same H H') : RdAt H' l rd := by
  obtain ⟨vs, h1, h2⟩ := h
  exact ⟨vs, s _ _ h1, h2.imp fun _ _ e => e.t (.of s)⟩
theorem WRow.same {N : Addr → Prop} {C : Addr} {H H' : Hp} {v : V} {x : List (Nat × Str) × Nd} (h : WRow N C H v x) (s : Same H H') : WRow N C H' v x := by
  obtain ⟨p, l, a, h1, h2, h3, h4, h5⟩ := h
  exact ⟨p, l, a, h1, h2, s _ _ h3, h4.same s, h5.same s⟩
theorem WRow.upd {N : Addr → Prop} {C l0 : Addr} {H : Hp} {v : V} {x : List (Nat × Str) × Nd} {ys : List V} {o : HO} (h : WRow N C H v x) (hl : H l0 = some (.lst ys)) (hn : ∀ l, N l → l ≠ l0) : WRow N C (upd H l0 o) v x := by
  obtain ⟨p, l, a, h1, h2, h3, ⟨vs, h4, h6⟩, h5⟩ := h
  have t := TpIn.upd (o := o) hl
  exact ⟨p, l, a, h1, h2, t.tup h3, ⟨vs, by rw [upd_ne (hn l h2)]; exact h4, h6.imp fun _ _ e => e.t t⟩, h5.t t⟩
theorem WRow.imp {N M : Addr → Prop} {C : Addr} {H : Hp} {v : V} {x : List (Nat × Str) × Nd} (h : WRow N C H v x) (f : ∀ l, N l → M l) : WRow M C H v x := by
  obtain ⟨p, l, a, h1, h2, h3, h4, h5⟩ := h
  exact ⟨p, l, a, h1, f _ h2, h3, h4, h5⟩
def spWk (C : Addr) (n : Nat) : Sp := fun vs H Q _ => ∃ (a : Addr) (d : Nd), vs = [.ref a] ∧ PAt C H a d ∧ d.ks.ht < n ∧ d.ks.size ≤ 1000 ∧
  ∀ (l : Addr) (rows : List V) (H' : Hp), Same H H' → H l = none → H' l = some (.lst rows) → A2 (WRow (fun l => H l = none) C H') rows (walkP d) → Q (.ref l) H'
section
variable {P : Program} {w : World} {K : PySem.W.Frag} {mg : Str → Option Value} {base : Heap} {C : Addr}
theorem fn_none {x : Str} {st : Stmt} {ps : List Str} {sp : Sp} (F : TopFn K mg x st ps) (h : ∀ vs H Q E, ¬ sp vs H Q E) : FnAt P w K mg base x 0 ps sp := by
  obtain ⟨f, fd, F, hm, hb⟩ := F.ex
  exact ⟨f, fd, ⟨fun vs H Q E z => absurd z (h vs H Q E), fun A outer s H args us vs Q E _ _ _ _ z => absurd z (h vs H Q E)⟩, hm, F.kp, .all hb⟩
abbrev swalked : Stmt := top 46
theorem scwalked : FnScope ["work", "rows", "word", "part", "road", "deeper"] ["work"] (defScope swalked) := ⟨rfl, rfl, rfl, by decide +kernel, rfl, by decide +kernel, by decide +kernel⟩
theorem ok_wk (kit : PKit K C) (F : TopFn K mg "walked" swalked ["work"]) : ∀ n, FnAt P w K mg base "walked" n ["work"] (spWk C n)
  | 0 => fn_none F fun vs H Q E ⟨a, d, _, _, h, _⟩ => by omega
  | n + 1 => by
    have F_walked := ok_wk kit F n
    refine F.at scwalked (fun vs H Q E h => ?_) (fun f cdv A outer s H vs Q E hr h => ?_)
    · obtain ⟨a, d, rfl, _⟩ := h
      rfl
    · obtain ⟨a, d, rfl, hP, hh, hz, q⟩ := h
      refine ⟨_, (pss_cons (ps_set (i := 1) scwalked.nd rfl (by first | exact Or.inl rfl | exact Or.inr rfl) (pe_lst (pa_cons (pe_tup (pa_cons (pe_lst pa_nil) (pa_cons (pv 0) pa_nil))) pa_nil)))
        (pss_cons (ps_for PassesOwn.never rfl (pi_tup (pe_fld (pv 0) rfl)) (pg_tup rfl (pgs_cons (pg_name (i := 2) scwalked.nd rfl (by first | exact Or.inl rfl | exact Or.inr rfl)) (pgs_cons (pg_name (i := 3) scwalked.nd rfl (by first | exact Or.inl rfl | exact Or.inr rfl)) pgs_nil))) (pss_one (ps_for PassesOwn.never rfl (pi_list (pe_fn F_walked hr (Nat.le_refl _) rfl (pa_cons (pv 3) pa_nil))) (pg_tup rfl (pgs_cons (pg_name (i := 4) scwalked.nd rfl (by first | exact Or.inl rfl | exact Or.inr rfl)) (pgs_cons (pg_name (i := 5) scwalked.nd rfl (by first | exact Or.inl rfl | exact Or.inr rfl)) pgs_nil))) (pss_one (ps_expr (pe_bm PySem.F.plainAttrs_list PySem.F.slot_list_append PySem.F.type_list_append mt_append (pv 1) (pa_cons (pe_tup (pa_cons (pe_op op_cat (pe_lst (pa_cons (pe_tup (pa_cons (pv 2) (pa_cons (pe_fld (pv 3) rfl) pa_nil))) pa_nil)) (pv 4)) (pa_cons (pv 5) pa_nil))) pa_nil)))))))
        (pss_one (ps_ret (pv 1))))), ?_⟩
      have hs : sizeLine = 16777216 := sizeLine_eq
      refine ⟨(by show 0 ≤ sizeLine; decide), fun l0 hl0 => ?_⟩
      have s0 := Same.new (o := .lst []) hl0
      have e0 : upd H l0 (.lst []) l0 = some (.lst []) := upd_same
      generalize upd H l0 (.lst []) = H0 at s0 e0 ⊢
      refine ⟨_, rfl, (by show 2 ≤ sizeLine; decide), fun p0 hp0 => ?_⟩
      have s1 := Same.new (o := .tup [.ref l0, .ref a]) hp0
      have e1 : upd H0 p0 (.tup [.ref l0, .ref a]) p0 = some (.tup [.ref l0, .ref a]) := upd_same
      generalize upd H0 p0 (.tup [.ref l0, .ref a]) = H1 at s1 e1 ⊢
      refine ⟨(by show 1 ≤ sizeLine; decide), fun l hl => ?_⟩
      have s2 := Same.new (o := .lst [.ref p0]) hl
      have e2 : upd H1 l (.lst [.ref p0]) l = some (.lst [.ref p0]) := upd_same
      generalize upd H1 l (.lst [.ref p0]) = H2 at s2 e2 ⊢
      have S1 := s0.trans s1
      have S2 := S1.trans s2
      have hl' : H l = none := S1.free hl
      have n0 : l0 ≠ l := ne_of_none (s1 _ _ e0) hl
      obtain ⟨dx, po, pb, kt, hA, hw, hO, hB, hF⟩ := id hP
      have hit := hF.items
      have r0 : WRow (fun x => H x = none ∧ x ≠ l) C H2 (.ref p0) ([], d) := ⟨p0, l0, a, rfl, ⟨hl0, n0⟩, s2 _ _ e1, ⟨[], s2 _ _ (s1 _ _ e0), A2.nil⟩, hP.same S2⟩
      refine ⟨_, rfl, a, C, dx, _, _, rfl, S2 _ _ hA, kit.cl, kit.beneath, pF_beneath, pb, rfl, ⟨_, SqT.of (S2 _ _ hB)⟩, for_tup (K := K) (a := pb) (xs := kt) (fun i σ H' => ∃ (v2 v3 v4 v5 : Option V) (rows : List V), σ = [some (.ref a), some (.ref l), v2, v3, v4, v5] ∧ Same H H' ∧ H' l = some (.lst rows) ∧ A2 (WRow (fun x => H x = none ∧ x ≠ l) C H') rows (([], d) :: ((d.ks.items.take i).map wStep).flatten))
        ⟨_, _, _, _, [.ref p0], rfl, S2, e2, A2.one r0⟩ (fun i σ H' _ ⟨_, _, _, _, _, _, s', _⟩ => SqT.of (s' _ _ hB)) ?_ ?_⟩
      · rintro i v σ H3 hv ⟨v2, v3, v4, v5, rows, rfl, s3, e3, hrows⟩
        obtain ⟨x, hx, p, a1, rfl, hp, h4, hP1⟩ := hit.at hv
        have hm := items_ht (List.mem_of_getElem? hx)
        refine ⟨p, _, rfl, SqT.of (s3 _ _ hp), rfl, _, _, rfl, _, _, rfl, rfl, ?_⟩
        refine ⟨_, rfl, a1, x.2, rfl, hP1.same s3, by omega, by omega, fun l1 rows1 H4 s4 f4 e4 w4 => ?_⟩
        have hl4 := s4 _ _ e3
        have n1 : l1 ≠ l := fun z => by rw [z, e3] at f4; cases f4
        have nn : ∀ y, H3 y = none → y ≠ l := fun y hy z => by rw [z, e3] at hy; cases hy
        have hb : (([], d) :: ((d.ks.items.take (i + 1)).map wStep).flatten) = (([], d) :: ((d.ks.items.take i).map wStep).flatten) ++ wStep x := by
          rw [take_snoc hx, List.map_append, List.flatten_append]
          simp
        refine ⟨l1, rfl, ⟨_, SqL.of e4⟩, for_list (K := K) (a := l1) (xs := rows1) (fun k σ H' => ∃ (v4 v5 : Option V) (rows' : List V), σ = [some (.ref a), some (.ref l), some (.str (nm x.1)), some (.ref a1), v4, v5] ∧ Same H H' ∧ TpIn H4 H' ∧ H' l = some (.lst rows') ∧ H' l1 = some (.lst rows1) ∧ A2 (WRow (fun y => H3 y = none) C H') rows1 (walkP x.2) ∧ A2 (WRow (fun x => H x = none ∧ x ≠ l) C H') rows' ((([], d) :: ((d.ks.items.take i).map wStep).flatten) ++ ((walkP x.2).take k).map (wUp x)))
          ⟨_, _, rows, rfl, s3.trans s4, TpIn.of (fun _ _ e => e), hl4, e4, w4, by simpa using hrows.imp fun _ _ r => r.same s4⟩ (fun k σ H' _ ⟨_, _, _, _, _, _, _, e, _⟩ => SqL.of e) ?_ ?_⟩
        · rintro k v σ H5 hk ⟨v4, v5, rows', rfl, s5, t5, e5, e5', w5, r5⟩
          obtain ⟨y, hy, p1, lr, a2, rfl, fr, hp1, ⟨vs, hlr, hvs⟩, hP2⟩ := w5.at hk
          obtain ⟨dx1, po1, pb1, kt1, hA1, _⟩ := hP1.same s5
          have hk' := (List.getElem?_eq_some_iff.mp hk).1
          have wl : rows1.length ≤ 1001 := by rw [w5.1, walkP_len]; omega
          have rl : rows'.length ≤ 2002 := by
            rw [r5.1, List.length_append, List.length_map, List.length_take, List.length_cons]
            have : ((d.ks.items.take i).map wStep).flatten.length ≤ (walkF d.ks).length := by
              rw [walkF_items]
              conv => rhs; rw [← List.take_append_drop i d.ks.items, List.map_append, List.flatten_append, List.length_append]
              omega
            rw [walkF_len] at this
            rw [walkP_len]
            omega
          have vl : vs.length ≤ 1000 := by
            rw [hvs.1]
            have := roadP_le (List.mem_of_getElem? hy)
            have := ht_size x.2.ks
            omega
          refine ⟨p1, _, rfl, SqT.of hp1, rfl, _, _, rfl, _, _, rfl, rfl, ?_⟩
          refine ⟨_, rfl, .inl ⟨rfl, _, SqL.of e5⟩, _, rfl, _, rfl, a1, C, dx1, _, _, rfl, hA1, kit.cl, kit.name, pF_name, (by show 2 ≤ sizeLine; decide), fun pt hpt => ?_⟩
          have s6 := Same.new (o := .tup [.str (nm x.1), .str x.2.n]) hpt
          have e6 : upd H5 pt (.tup [.str (nm x.1), .str x.2.n]) pt = some (.tup [.str (nm x.1), .str x.2.n]) := upd_same
          generalize upd H5 pt (.tup [.str (nm x.1), .str x.2.n]) = H6 at s6 e6 ⊢
          refine ⟨(by show 1 ≤ sizeLine; decide), fun lp hlp => ?_⟩
          have s7 := Same.new (o := .lst [.ref pt]) hlp
          have e7 : upd H6 lp (.lst [.ref pt]) lp = some (.lst [.ref pt]) := upd_same
          generalize upd H6 lp (.lst [.ref pt]) = H7 at s7 e7 ⊢
          have t67 := s6.trans s7
          refine ⟨_, rfl, lp, lr, _, _, rfl, rfl, e7, t67 _ _ hlr, (by show 1 + vs.length ≤ sizeLine; omega), fun lc hlc => ?_⟩
          have s8 := Same.new (o := .lst ([.ref pt] ++ vs)) hlc
          have e8 : upd H7 lc (.lst ([.ref pt] ++ vs)) lc = some (.lst ([.ref pt] ++ vs)) := upd_same
          generalize upd H7 lc (.lst ([.ref pt] ++ vs)) = H8 at s8 e8 ⊢
          have t68 := t67.trans s8
          refine ⟨_, rfl, (by show 2 ≤ sizeLine; decide), fun pp hpp => ?_⟩
          have s9 := Same.new (o := .tup [.ref lc, .ref a2]) hpp
          have e9 : upd H8 pp (.tup [.ref lc, .ref a2]) pp = some (.tup [.ref lc, .ref a2]) := upd_same
          generalize upd H8 pp (.tup [.ref lc, .ref a2]) = H9 at s9 e9 ⊢
          have t69 := t68.trans s9
          have el9 := t69 _ _ e5
          have nlc : lc ≠ l := (ne_of_none (t67 _ _ e5) hlc).symm
          have hcn : H lc = none := (s5.trans t67).free hlc
          refine ⟨l, _, _, rfl, rfl, el9, (by omega), ?_⟩
          have tu := TpIn.upd (o := .lst (rows' ++ [.ref pp])) el9
          refine ⟨_, _, rows' ++ [.ref pp], rfl, fun b o e => ?_, fun b o e k => tu _ _ (t69 _ _ (t5 _ _ e k)) k, upd_same, by rw [upd_ne n1]; exact t69 _ _ e5', (w5.imp fun _ _ r => (r.same t69).upd el9 nn), ?_⟩
          · rw [upd_ne (ne_of_none e hl')]
            exact t69 _ _ (s5 _ _ e)
          · have row : WRow (fun x => H x = none ∧ x ≠ l) C H9 (.ref pp) (wUp x y) := ⟨pp, lc, a2, rfl, ⟨hcn, nlc⟩, e9, ⟨_, s9 _ _ e8, (hvs.imp fun _ _ r => r.t (.of t69)).cons ⟨h4, pt, rfl, s9 _ _ (s8 _ _ (s7 _ _ e6))⟩⟩, hP2.same t69⟩
            rw [take_snoc hy, List.map_append, ← List.append_assoc]
            exact (r5.imp fun _ _ r => (r.same t69).upd el9 fun _ h => h.2).app (A2.one (row.upd el9 fun _ h => h.2))
        · rintro σ H5 ⟨v4, v5, rows', rfl, s5, t5, e5, e5', w5, r5⟩
          rw [w5.1, List.take_length] at r5
          exact ⟨_, _, _, _, rows', rfl, s5, e5, by rw [hb]; exact r5⟩
      · rintro σ H3 ⟨v2, v3, v4, v5, rows, rfl, s3, e3, hrows⟩
        refine ⟨_, rfl, q l rows H3 s3 hl' e3 ?_⟩
        rw [hit.1, List.take_length, ← walkF_items] at hrows
        exact hrows.imp fun _ _ r => r.imp fun _ h => h.1
end
end K33
namespace K33
open PySem L2 PyProof.Rows PySem.SeqAt
theorem len_put (f : Str) (v : V) {fs : List (Str × V)} {n : Nat} (h : fs.length ≤ n) : (putF f v fs).length ≤ n + 1 := by
  have := length_putF f v fs
  omega
theorem inV_str (z : Str) : ∀ zs : List Str, inV (.str z) (zs.map V.str) = decide (z ∈ zs)
  | [] => rfl
  | y :: zs => by
    have ih := inV_str z zs
    unfold inV at ih ⊢
    rw [List.map_cons, List.any_cons, ih]
    show (y == z || decide (z ∈ zs)) = decide (z ∈ y :: zs)
    rw [Bool.eq_iff_iff, Bool.or_eq_true, beq_iff_eq, decide_eq_true_iff, decide_eq_true_iff, List.mem_cons]
    exact ⟨fun h => h.imp Eq.symm id, fun h => h.imp Eq.symm id⟩
section
variable {P : Program} {w : World} {K : PySem.W.Frag} {mg : Str → Option Value} {base : Heap} {C : Addr}
def spDp (C : Addr) : Sp := fun vs H Q _ => ∃ (a : Addr) (d : Nd), vs = [.ref a] ∧ PAt C H a d ∧ d.ks.ht < 7 ∧ d.ks.size ≤ 1000 ∧ ∀ H', Same H H' → Q (.int ((d.ks.ht + 1 : Nat) : Int)) H'
abbrev sdepth_of : Stmt := top 47
theorem scdepth_of : FnScope ["work"] ["work"] (defScope sdepth_of) := ⟨rfl, rfl, rfl, by decide +kernel, rfl, by decide +kernel, by decide +kernel⟩
theorem ok_dp (T : Txt mg) (F_walked : FnAt P w K mg base "walked" 7 ["work"] (spWk C 7)) (F : TopFn K mg "depth_of" sdepth_of ["work"]) : FnAt P w K mg base "depth_of" 8 ["work"] (spDp C) := by
  refine F.at scdepth_of (fun vs H Q E h => ?_) (fun f cdv A outer s H vs Q E hr h => ?_)
  · obtain ⟨a, d, rfl, _⟩ := h
    rfl
  · obtain ⟨a, d, rfl, hP, h7, hz, q⟩ := h
    refine ⟨_, (pss_one (ps_ret (pe_op op_add pe_int (pe_callB (call_maxL rfl) rfl T.n_max boot_max (pa_cons (pe_comp (sc := defScope sdepth_of) (N0 := ["work"]) (xs := ["road", "part"]) (ys := []) (js := []) ⟨rfl, by decide +kernel, by decide +kernel, by decide +kernel, by decide +kernel⟩ rfl (pi_list (pe_fn F_walked hr (by decide) rfl (pa_cons (pv 0) pa_nil))) (fun _ _ _ _ => (pg_tupK (n := 2) K rfl (pgs_cons (pg_name (i := 0) (show (["road", "part"] : List Str).Nodup by decide +kernel) rfl (by first | exact Or.inl rfl | exact Or.inr rfl)) (pgs_cons (pg_name (i := 1) (show (["road", "part"] : List Str).Nodup by decide +kernel) rfl (by first | exact Or.inl rfl | exact Or.inr rfl)) pgs_nil)))) (fun _ _ _ _ => pq_nil) (fun _ _ _ _ => (pe_callB (call_lenK K rfl) rfl T.n_len boot_len (pa_cons (pv 0) pa_nil)))) pa_nil))))), ?_⟩
    have hs : sizeLine = 16777216 := sizeLine_eq
    refine ⟨_, rfl, a, d, rfl, hP, h7, hz, fun l rows H1 s1 f1 e1 hrows => ?_⟩
    have rl : rows.length ≤ 1001 := by rw [hrows.1, walkP_len]; omega
    refine ⟨l, rfl, ⟨_, SqL.of e1⟩, comp_list (K := K) (a := l) (xs := rows) (fun i ys H' => ys = ((walkP d).take i).map (fun y => V.int ((y.1.length : Nat) : Int)) ∧ H' = H1) ⟨by simp, rfl⟩ (by omega) ?_ ?_ ?_ ?_⟩
    · rintro i ys H' ⟨rfl, _⟩
      rw [List.length_map, List.length_take]; omega
    · rintro i ys H' _ ⟨_, rfl⟩
      exact SqL.of e1
    · rintro i x ys H' hx ⟨rfl, rfl⟩
      obtain ⟨y, hy, p, lr, a1, rfl, _, hp, ⟨vs, hv, hvs⟩, _⟩ := hrows.at hx
      refine ⟨p, _, rfl, SqT.of hp, rfl, _, _, rfl, _, _, rfl, rfl, ?_⟩
      refine ⟨_, rfl, _, _, rfl, .inl ⟨_, SqL.of hv, rfl⟩, ?_, rfl⟩
      rw [take_snoc hy, List.map_append, hvs.1]
      rfl
    · rintro ys H' ⟨rfl, rfl⟩ l2 hl2
      have el : ((walkP d).take rows.length).map (fun y => V.int ((y.1.length : Nat) : Int)) = ((walkP d).map fun y => ((y.1.length : Nat) : Int)).map V.int := by rw [hrows.1, List.take_length, List.map_map]; rfl
      rw [el]
      have s2 := s1.trans (Same.new (o := .lst (((walkP d).map fun y => ((y.1.length : Nat) : Int)).map V.int)) hl2)
      have e2 : upd H' l2 (.lst (((walkP d).map fun y => ((y.1.length : Nat) : Int)).map V.int)) l2 = some (.lst (((walkP d).map fun y => ((y.1.length : Nat) : Int)).map V.int)) := upd_same
      generalize upd H' l2 (.lst (((walkP d).map fun y => ((y.1.length : Nat) : Int)).map V.int)) = H2 at s2 e2 ⊢
      refine ⟨l2, _, rfl, SqL.of e2, by rw [List.length_map, walkP_len]; omega, fun m hm hall => ?_⟩
      obtain ⟨y, hy, ey⟩ := roadP_max d
      have a1 := hall _ (List.mem_map.mpr ⟨y, hy, rfl⟩)
      obtain ⟨y', hy', rfl⟩ := List.mem_map.mp hm
      have a2 := roadP_le hy'
      have em : y'.1.length = d.ks.ht := by omega
      refine ⟨_, _, rfl, rfl, ?_⟩
      show Q (.int (1 + ((y'.1.length : Nat) : Int))) H2
      rw [em, show (1 : Int) + (d.ks.ht : Int) = ((d.ks.ht + 1 : Nat) : Int) by omega]
      exact q _ s2
def names (d : Nd) : List Str := (walkP d).map fun y => y.2.n
structure Bd (d : Nd) : Prop where
  nd : (names d).Nodup
  z : d.ks.size + 1 ≤ 30
  h : d.ks.ht + 1 ≤ 6
def spNB (C : Addr) : Sp := fun vs H Q _ => ∃ (a : Addr) (d : Nd), vs = [.ref a] ∧ PAt C H a d ∧ Bd d ∧ ∀ H', Same H H' → Q .non H'
abbrev sneed_bounds : Stmt := top 48
theorem scneed_bounds : FnScope ["work", "names", "road", "part"] ["work"] (defScope sneed_bounds) := ⟨rfl, rfl, rfl, by decide +kernel, rfl, by decide +kernel, by decide +kernel⟩
theorem ok_nb (T : Txt mg) (kit : PKit K C) (F_walked : FnAt P w K mg base "walked" 7 ["work"] (spWk C 7)) (F_nfp : FnAt P w K mg base "need_few_parts" 1 ["many"] (spFew 30)) (F_nnd : FnAt P w K mg base "need_not_deep" 1 ["deep"] (spFew 6)) (F_dp : FnAt P w K mg base "depth_of" 8 ["work"] (spDp C)) (F : TopFn K mg "need_bounds" sneed_bounds ["work"]) : FnAt P w K mg base "need_bounds" 9 ["work"] (spNB C) := by
  refine F.at scneed_bounds (fun vs H Q E h => ?_) (fun f cdv A outer s H vs Q E hr h => ?_)
  · obtain ⟨a, d, rfl, _⟩ := h
    rfl
  · obtain ⟨a, d, rfl, hP, bd, q⟩ := h
    refine ⟨_, (pss_cons (ps_set (i := 1) scneed_bounds.nd rfl (by first | exact Or.inl rfl | exact Or.inr rfl) (pe_lst pa_nil))
      (pss_cons (ps_for PassesOwn.never rfl (pi_list (pe_fn F_walked hr (by decide) rfl (pa_cons (pv 0) pa_nil))) (pg_tup rfl (pgs_cons (pg_name (i := 2) scneed_bounds.nd rfl (by first | exact Or.inl rfl | exact Or.inr rfl)) (pgs_cons (pg_name (i := 3) scneed_bounds.nd rfl (by first | exact Or.inl rfl | exact Or.inr rfl)) pgs_nil))) (pss_cons (ps_if (pt_cmpR op_in_seq (pe_fld (pv 3) rfl) (pv 1) (by with_unfolding_all rfl)) (pss_one ps_never) pss_nil)
      (pss_one (ps_expr (pe_bm PySem.F.plainAttrs_list PySem.F.slot_list_append PySem.F.type_list_append mt_append (pv 1) (pa_cons (pe_fld (pv 3) rfl) pa_nil))))))
      (pss_cons (ps_expr (pe_fn F_nfp hr (by decide) rfl (pa_cons (pe_callB call_len rfl T.n_len boot_len (pa_cons (pv 1) pa_nil)) pa_nil)))
      (pss_one (ps_expr (pe_fn F_nnd hr (by decide) rfl (pa_cons (pe_fn F_dp hr (by decide) rfl (pa_cons (pv 0) pa_nil)) pa_nil))))))), ?_⟩
    have hs : sizeLine = 16777216 := sizeLine_eq
    have bz := bd.z
    have bh := bd.h
    have nl : (names d).length = d.ks.size + 1 := by unfold names; rw [List.length_map, walkP_len]
    refine ⟨(by show 0 ≤ sizeLine; decide), fun ln hln => ?_⟩
    have s0 := Same.new (o := .lst []) hln
    have e0 : upd H ln (.lst []) ln = some (.lst []) := upd_same
    generalize upd H ln (.lst []) = H0 at s0 e0 ⊢
    refine ⟨_, rfl, a, d, rfl, hP.same s0, by omega, by omega, fun l rows H1 s1 f1 e1 hrows => ?_⟩
    have n1 : l ≠ ln := (ne_of_none e0 f1).symm
    have nn : ∀ y, H0 y = none → y ≠ ln := fun y hy z => by rw [z, e0] at hy; cases hy
    refine ⟨l, rfl, ⟨_, SqL.of e1⟩, for_list (K := K) (a := l) (xs := rows) (fun i σ H' => ∃ (v2 v3 : Option V), σ = [some (.ref a), some (.ref ln), v2, v3] ∧ Same H H' ∧ H' ln = some (.lst (((names d).take i).map V.str)) ∧ H' l = some (.lst rows) ∧ A2 (WRow (fun y => H0 y = none) C H') rows (walkP d))
      ⟨_, _, rfl, s0.trans s1, by simpa using s1 _ _ e0, e1, hrows⟩ (fun i σ H' _ ⟨_, _, _, _, _, e, _⟩ => SqL.of e) ?_ ?_⟩
    · rintro i v σ H2 hv ⟨v2, v3, rfl, s2, e2, e2', w2⟩
      obtain ⟨y, hy, p, lr, a1, rfl, _, hp, _, dx1, po1, pb1, kt1, hA1, _⟩ := w2.at hv
      have hn : (names d)[i]? = some y.2.n := by unfold names; rw [List.getElem?_map, hy]; rfl
      obtain ⟨hil, hne⟩ := List.getElem?_eq_some_iff.mp hn
      refine ⟨p, _, rfl, SqT.of hp, rfl, _, _, rfl, _, _, rfl, rfl, ?_⟩
      refine ⟨_, rfl, a1, C, dx1, _, _, rfl, hA1, kit.cl, kit.name, pF_name, _, rfl, ln, _, rfl, .inl (SqL.of e2), rfl, strs_flat _, _, rfl, ?_⟩
      have hnot : inV (.str y.2.n) (((names d).take i).map V.str) = false := by
        rw [inV_str]
        refine decide_eq_false fun m => ?_
        obtain ⟨j, hj, e⟩ := List.mem_iff_getElem.mp m
        rw [List.length_take] at hj
        rw [List.getElem_take] at e
        exact (List.pairwise_iff_getElem.mp bd.nd) j i (by omega) hil (by omega) (by rw [e, hne])
      show if inV (.str y.2.n) (((names d).take i).map V.str) = true then _ else _
      rw [hnot]
      refine iteF ?_
      refine ⟨_, rfl, .inl ⟨rfl, _, SqL.of e2⟩, _, rfl, a1, C, dx1, _, _, rfl, hA1, kit.cl, kit.name, pF_name, ln, _, _, rfl, rfl, e2, (by rw [List.length_map, List.length_take]; omega), ?_⟩
      refine ⟨_, _, rfl, fun b o e => ?_, ?_, ?_, w2.imp fun _ _ r => r.upd e2 nn⟩
      · rw [upd_ne (ne_of_none e hln)]; exact s2 _ _ e
      · rw [upd_same, take_snoc hn, List.map_append]; rfl
      · rw [upd_ne n1]; exact e2'
    · rintro σ H2 ⟨v2, v3, rfl, s2, e2, e2', w2⟩
      rw [hrows.1, walkP_len, ← nl, List.take_length] at e2
      refine ⟨_, rfl, _, _, rfl, .inl ⟨_, SqL.of e2, rfl⟩, _, rfl, by rw [List.length_map]; omega, ?_⟩
      refine ⟨_, rfl, a, d, rfl, hP.same s2, by omega, by omega, fun H3 s3 => ⟨_, rfl, by omega, ?_⟩⟩
      exact q _ (s2.trans s3)
theorem OfAt.ins {H : Hp} {po p C dx : Addr} {o : List (Str × Nat)} {fs : List (Str × V)} {ob : HO} (h : OfAt H po o) (hp : H p = some (.ins C dx fs)) : OfAt (upd H p ob) po o := by
  obtain ⟨ps, h1, h2, h3⟩ := h
  refine ⟨ps, by rw [upd_ne (ne_of h1 hp (by intro z; cases z))]; exact h1, h2.imp fun x k e => ?_, h3⟩
  show upd H p ob x = _
  rw [upd_ne (ne_of e hp (by intro z; cases z))]
  exact e
def spPI (C : Addr) : Sp := fun vs H Q _ => ∃ (p dx : Addr) (vo vb : V) (n : Str) (o : List (Str × Nat)) (f : Fo) (its : List V) (H0 : Hp), vs = [.ref p, .str n, vo, vb] ∧ H p = some (.ins C dx []) ∧ H0 p = none ∧ Same H0 H ∧ isWordZ n = true ∧
  OfArg H0 vo o ∧ BnArg C H0 vb f its ∧ Bd ⟨n, o, f⟩ ∧ ∀ H', Same H0 H' → PAt C H' p ⟨n, o, f⟩ → Q .non H'
abbrev psP : List Str := ["self", "name", "offers", "beneath"]
abbrev sPart_init : Stmt := inClass (top 50) 0
theorem scPart_init : FnScope psP psP (defScope sPart_init) := ⟨rfl, rfl, rfl, by decide +kernel, rfl, by decide +kernel, by decide +kernel⟩
theorem ok_pinit (kit : PKit K C) (F_is_word : FnAt P w K mg base "is_word" 1 ["thing"] (spWord K)) (F_ko : FnAt P w K mg base "kept_offers" 4 ["offers"] spKO) (F_kb : FnAt P w K mg base "kept_beneath" 3 ["beneath"] (spKB C)) (F_nb : FnAt P w K mg base "need_bounds" 9 ["work"] (spNB C))
    {f : Addr} {fd : FuncData} (F : FunD K "__init__" "Part.__init__" sPart_init f fd) : FnOk P w K mg base CX0 10 f fd psP (spPI C) := by
  refine F.ok scPart_init (fun vs H Q E h => ?_) (fun cdv A outer s H vs Q E hr h => ?_)
  · obtain ⟨p, dx, vo, vb, n, o, f, its, H0, rfl, _⟩ := h
    rfl
  · obtain ⟨p, dx, vo, vb, n, o, fo, its, H0, rfl, hp, hp0, s0, hw, hvo, hvb, bd, q⟩ := h
    have hF : FAt C H0 fo its := by
      rcases hvb with ⟨_, rfl, rfl⟩ | ⟨_, _, _, h, _⟩
      · rfl
      · exact h
    refine ⟨_, (pss_cons (ps_if (pt_not (pt_val (pe_fn F_is_word hr (by decide) rfl (pa_cons (pv 1) pa_nil)))) (pss_one ps_never) pss_nil)
      (pss_cons (ps_fld (pv 0) (pv 1) rfl)
      (pss_cons (ps_fld (pv 0) (pe_fn F_ko hr (by decide) rfl (pa_cons (pv 2) pa_nil)) rfl)
      (pss_cons (ps_fld (pv 0) (pe_fn F_kb hr (by decide) rfl (pa_cons (pv 3) pa_nil)) rfl)
      (pss_one (ps_expr (pe_fn F_nb hr (by decide) rfl (pa_cons (pv 0) pa_nil)))))))), ?_⟩
    have up : ∀ {H1 : Hp} {fs : List (Str × V)}, Same H0 H1 → Same H0 (upd H1 p (.ins C dx fs)) := fun s1 b o e => by rw [upd_ne (ne_of_none e hp0)]; exact s1 b o e
    refine ⟨_, rfl, .str n, rfl, ⟨.str, .str _⟩, (fun z e => by cases e; have := word_short hw; omega), fun H1 s1 => ⟨_, rfl, ?_⟩⟩
    have wv : wordV (.str n) = true := hw
    rw [wv]
    refine iteF ?_
    have p1 := s1 _ _ hp
    refine ⟨_, rfl, _, rfl, p, C, dx, [], rfl, p1, kit.cl, kit.name, (by show 0 < 1000; decide), ?_⟩
    have S2 : Same H0 (upd H1 p (.ins C dx (putF "name" (.str n) []))) := up (s0.trans s1)
    have p2 : upd H1 p (.ins C dx (putF "name" (.str n) [])) p = some (.ins C dx (putF "name" (.str n) [])) := upd_same
    generalize upd H1 p (.ins C dx (putF "name" (.str n) [])) = H2 at S2 p2 ⊢
    refine ⟨_, rfl, vo, o, rfl, hvo.same S2, fun po H3 s3 e3 => ?_⟩
    have p3 := s3 _ _ p2
    refine ⟨_, rfl, p, C, dx, _, rfl, p3, kit.cl, kit.offers, (Nat.lt_of_le_of_lt (len_put _ _ (n := 0) (Nat.le_refl _)) (by decide)), ?_⟩
    have S4 : Same H0 (upd H3 p (.ins C dx (putF "offers" (.ref po) (putF "name" (.str n) [])))) := up (S2.trans s3)
    have p4 : upd H3 p (.ins C dx (putF "offers" (.ref po) (putF "name" (.str n) []))) p = some (.ins C dx (putF "offers" (.ref po) (putF "name" (.str n) []))) := upd_same
    have e4 := e3.ins (ob := .ins C dx (putF "offers" (.ref po) (putF "name" (.str n) []))) p3
    generalize upd H3 p (.ins C dx (putF "offers" (.ref po) (putF "name" (.str n) []))) = H4 at S4 p4 e4 ⊢
    refine ⟨_, rfl, vb, fo, its, rfl, hvb.imp id (fun ⟨lb, h1, h2, h3, h4⟩ => ⟨lb, h1, S4 _ _ h2, h3.t (.of S4), h4⟩), fun pb H5 s5 e5 => ?_⟩
    have p5 := s5 _ _ p4
    refine ⟨_, rfl, p, C, dx, _, rfl, p5, kit.cl, kit.beneath, (Nat.lt_of_le_of_lt (len_put _ _ (len_put _ _ (n := 0) (Nat.le_refl _))) (by decide)), ?_⟩
    have S6 : Same H0 (upd H5 p (.ins C dx (pF n po pb))) := up (S4.trans s5)
    have hP : PAt C (upd H5 p (.ins C dx (pF n po pb))) p ⟨n, o, fo⟩ := ⟨dx, po, pb, its, upd_same, hw, (e4.t (.of s5)).ins p5, by rw [upd_ne (ne_of e5 p5 (by intro z; cases z))]; exact e5, hF.t (.of S6)⟩
    generalize upd H5 p (.ins C dx (pF n po pb)) = H6 at S6 hP ⊢
    exact ⟨_, rfl, p, _, rfl, hP, bd, fun H7 s7 => q H7 (S6.trans s7) (hP.same s7)⟩
end
end K33
namespace K33
open PySem L2 PyProof.Rows PySem.SeqAt
def RowOf (d : Nd) (z : Str) (y : List (Nat × Str) × Nd) : Prop := ∃ i, (walkP d)[i]? = some y ∧ y.2.n = z ∧ ∀ (j : Nat) (y' : List (Nat × Str) × Nd), j < i → (walkP d)[j]? = some y' → y'.2.n ≠ z
section
variable {P : Program} {w : World} {K : PySem.W.Frag} {mg : Str → Option Value} {base : Heap} {C : Addr} {J : Js}
def spRO (C : Addr) : Sp := fun vs H Q _ => ∃ (a : Addr) (d : Nd) (z : Str) (y : List (Nat × Str) × Nd), vs = [.ref a, .str z] ∧ PAt C H a d ∧ d.ks.ht < 7 ∧ d.ks.size ≤ 1000 ∧ RowOf d z y ∧ ∀ (v : V) (H' : Hp), Same H H' → WRow (fun l => H l = none) C H' v y → Q v H'
abbrev srow_of : Stmt := top 49
theorem scrow_of : FnScope ["work", "name", "row"] ["work", "name"] (defScope srow_of) := ⟨rfl, rfl, rfl, by decide +kernel, rfl, by decide +kernel, by decide +kernel⟩
theorem ok_ro (kit : PKit K C) (F_walked : FnAt P w K mg base "walked" 7 ["work"] (spWk C 7)) (F : TopFn K mg "row_of" srow_of ["work", "name"]) : FnAt P w K mg base "row_of" 8 ["work", "name"] (spRO C) := by
  refine F.at scrow_of (fun vs H Q E h => ?_) (fun f cdv A outer s H vs Q E hr h => ?_)
  · obtain ⟨a, d, z, y, rfl, _⟩ := h
    rfl
  · obtain ⟨a, d, z, y, rfl, hP, h7, hz, ⟨i0, hi0, hn0, hfst⟩, q⟩ := h
    refine ⟨_, (pss_cons (ps_for PassesOwn.never rfl (pi_list (pe_fn F_walked hr (by decide) rfl (pa_cons (pv 0) pa_nil))) (pg_name (i := 2) scrow_of.nd rfl (by first | exact Or.inl rfl | exact Or.inr rfl)) (pss_one (ps_if (pt_cmpR op_eq (pe_fld (pe_ix ix_tup (pv 2) pe_int (fun _ _ => rfl)) rfl) (pv 1) (nomark _)) (pss_one (ps_ret (pv 2))) pss_nil)))
      (pss_one ps_never)), ?_⟩
    refine ⟨_, rfl, a, d, rfl, hP, h7, hz, fun l rows H1 s1 f1 e1 hrows => ?_⟩
    refine ⟨l, rfl, ⟨_, SqL.of e1⟩, for_list (K := K) (a := l) (xs := rows) (fun i σ H' => ∃ u : Option V, σ = [some (.ref a), some (.str z), u] ∧ H' = H1 ∧ i ≤ i0) ⟨_, rfl, rfl, Nat.zero_le _⟩ (fun i σ H' _ ⟨_, _, e, _⟩ => by rw [e]; exact SqL.of e1) ?_ ?_⟩
    · rintro i v σ H' hi ⟨u, rfl, rfl, hle⟩
      obtain ⟨y', hy', hw⟩ := hrows.at hi
      obtain ⟨p, lr, a1, rfl, fr, hp, hrd, hP1⟩ := id hw
      obtain ⟨dx1, po1, pb1, kt1, hA1, _⟩ := id hP1
      refine ⟨_, rfl, p, _, _, _, rfl, rfl, SqT.of hp, rfl, a1, C, dx1, _, _, rfl, hA1, kit.cl, kit.name, pF_name, _, rfl, rfl, _, rfl, ite2 (fun e => ?_) (fun e => ?_)⟩
      · have e : y'.2.n = z := V.str.inj (of_decide_eq_true e)
        have : i = i0 := by
          by_cases h : i < i0
          · exact absurd e (hfst i y' h hy')
          · omega
        subst this
        rw [hi0] at hy'
        cases hy'
        exact ⟨_, rfl, q _ _ s1 hw⟩
      · have e : y'.2.n ≠ z := fun h => e (decide_eq_true (by rw [h]))
        refine ⟨_, rfl, rfl, ?_⟩
        by_cases h : i = i0
        · subst h
          rw [hi0] at hy'
          cases hy'
          exact absurd hn0 e
        · omega
    · rintro σ H' ⟨u, rfl, rfl, hle⟩
      have := (List.getElem?_eq_some_iff.mp hi0).1
      rw [hrows.1] at hle
      omega
end
end K33
namespace K33
open PySem L2 PyProof.Rows PySem.SeqAt
def keyD (k : Str × Nat) : PyData := .tuple [.str k.1, .int k.2]
def toldF : Fo → List PyData
  | .nil => []
  | .cons j n o ks r => .tuple [.str (nm j), .tuple [.str n, .tuple (o.map keyD), .tuple (toldF ks)]] :: toldF r
def toldD (d : Nd) : PyData := .tuple [.str d.n, .tuple (d.o.map keyD), .tuple (toldF d.ks)]
theorem toldF_items : ∀ f : Fo, toldF f = f.items.map fun x => .tuple [.str (nm x.1), toldD x.2]
  | .nil => rfl
  | .cons j n o ks r => by rw [toldF, Fo.items, List.map_cons, ← toldF_items r]; rfl
theorem word_ok {z : Str} (h : isWordZ z = true) : PyData.strOk z = true := by
  unfold isWordZ at h
  rw [Bool.and_eq_true] at h
  have h := h.2
  unfold PyData.strOk
  rw [← Array.all_toList, List.all_eq_true]
  intro c hc
  have := List.all_eq_true.mp h c hc
  unfold isLow at this
  simp only [Bool.and_eq_true, decide_eq_true_eq] at this ⊢
  omega
theorem nm_ok {j : Nat} (h : j < 4) : PyData.strOk (nm j) = true := by
  rcases j4 h with rfl | rfl | rfl | rfl <;> decide +kernel
theorem keys_lay : ∀ {o : List (Str × Nat)}, (∀ k ∈ o, isWordZ k.1 = true ∧ k.2 < 100) → PyData.canLayAll0 (o.map keyD) = true ∧ PyData.depthAll (o.map keyD) ≤ 1
  | [], _ => ⟨rfl, by simp [PyData.depthAll]⟩
  | k :: o, h => by
    obtain ⟨a, b⟩ := keys_lay fun x hx => h x (List.mem_cons_of_mem _ hx)
    have w := word_ok (h k List.mem_cons_self).1
    rw [List.map_cons]
    refine ⟨?_, ?_⟩
    · rw [PyData.canLayAll0, a]
      simp [keyD, PyData.canLay0, PyData.canLayAll0, w]
    · rw [PyData.depthAll]
      have : (keyD k).depth = 1 := by simp [keyD, PyData.depth, PyData.depthAll]
      omega
theorem told_lay {C : Addr} {H : Hp} : ∀ {f : Fo} {its : List V}, FAt C H f its → PyData.canLayAll0 (toldF f) = true ∧ PyData.depthAll (toldF f) ≤ 3 * f.ht + 3
  | .nil, its, h => ⟨rfl, by simp [toldF, PyData.depthAll]⟩
  | .cons j n o ks r, its, h => by
    obtain ⟨p, a, dx, po, pb, kt, tl, rfl, h1, h2, h3, h4, ⟨ps, _, _, g⟩, h6, h7, h8⟩ := h
    obtain ⟨a1, b1⟩ := told_lay h7
    obtain ⟨a2, b2⟩ := told_lay h8
    obtain ⟨a3, b3⟩ := keys_lay g.ok
    rw [toldF]
    refine ⟨?_, ?_⟩
    · rw [PyData.canLayAll0, a2]
      simp [PyData.canLay0, PyData.canLayAll0, a1, a3, nm_ok h2, word_ok h3]
    · rw [PyData.depthAll, Fo.ht]
      simp only [PyData.depth, PyData.depthAll]
      omega
theorem told_shaped {C : Addr} {H : Hp} {a : Addr} {d : Nd} (h : PAt C H a d) (h7 : d.ks.ht < 7) : shaped (toldD d) = true := by
  obtain ⟨dx, po, pb, kt, h1, h2, ⟨ps, _, _, g⟩, h4, h5⟩ := h
  obtain ⟨a1, b1⟩ := told_lay h5
  obtain ⟨a3, b3⟩ := keys_lay g.ok
  unfold shaped
  rw [Bool.and_eq_true, decide_eq_true_eq]
  refine ⟨by simp [toldD, PyData.canLay0, PyData.canLayAll0, a1, a3, word_ok h2], ?_⟩
  simp only [toldD, PyData.depth, PyData.depthAll]
  omega
mutual
inductive RdT (H : Hp) : V → PyData → Prop
  | str (z : Str) : RdT H (.str z) (.str z)
  | int (i : Int) : RdT H (.int i) (.int i)
  | tup {a : Addr} {xs : List V} {ds : List PyData} : H a = some (.tup xs) → RdTs H xs ds → RdT H (.ref a) (.tuple ds)
inductive RdTs (H : Hp) : List V → List PyData → Prop
  | nil : RdTs H [] []
  | cons {x : V} {d : PyData} {xs : List V} {ds : List PyData} : RdT H x d → RdTs H xs ds → RdTs H (x :: xs) (d :: ds)
end
mutual
theorem RdT.t {H H' : Hp} (t : TpIn H H') : ∀ {x : V} {d : PyData}, RdT H x d → RdT H' x d
  | _, _, .str z => .str z
  | _, _, .int i => .int i
  | _, _, .tup h r => .tup (t.tup h) (r.t t)
theorem RdTs.t {H H' : Hp} (t : TpIn H H') : ∀ {xs : List V} {ds : List PyData}, RdTs H xs ds → RdTs H' xs ds
  | _, _, .nil => .nil
  | _, _, .cons h r => .cons (h.t t) (r.t t)
end
mutual
theorem RdT.rd {K : PySem.W.Frag} {H : Hp} : ∀ {x : V} {d : PyData}, RdT H x d → RdD K H x d
  | _, _, .str z => .str z
  | _, _, .int i => .int i
  | _, _, .tup h r => .tup (SqT.of h) r.rd
theorem RdTs.rd {K : PySem.W.Frag} {H : Hp} : ∀ {xs : List V} {ds : List PyData}, RdTs H xs ds → RdDs K H xs ds
  | _, _, .nil => .nil
  | _, _, .cons h r => .cons h.rd r.rd
end
theorem rt_snoc {H : Hp} {v : V} {d : PyData} : ∀ {xs : List V} {ds : List PyData}, RdTs H xs ds → RdT H v d → RdTs H (xs ++ [v]) (ds ++ [d])
  | _, _, .nil, h => .cons h .nil
  | _, _, .cons x t, h => .cons x (rt_snoc t h)
theorem rt_len {H : Hp} : ∀ {xs : List V} {ds : List PyData}, RdTs H xs ds → xs.length = ds.length
  | _, _, .nil => rfl
  | _, _, .cons x t => by rw [List.length_cons, List.length_cons, rt_len t]
theorem rt_keys {H : Hp} : ∀ {ps : List Addr} {o : List (Str × Nat)}, A2 (KeyR H) ps o → RdTs H (ps.map V.ref) (o.map keyD)
  | [], [], _ => .nil
  | [], _ :: _, h => by have := h.1; simp at this
  | _ :: _, [], h => by have := h.1; simp at this
  | p :: ps, k :: o, h => by
    obtain ⟨e, t⟩ := A2.inv h
    exact .cons (.tup e (.cons (.str _) (.cons (.int _) .nil))) (rt_keys t)
section
variable {P : Program} {w : World} {K : PySem.W.Frag} {mg : Str → Option Value} {base : Heap} {C : Addr} {J : Js}
structure Sm (d : Nd) : Prop where
  h : d.ks.ht < 7
  z : d.ks.size ≤ 1000
def spAt (C : Addr) : Sp := fun vs H Q _ => ∃ (a : Addr) (d : Nd) (z : Str) (y : List (Nat × Str) × Nd), vs = [.ref a, .str z] ∧ PAt C H a d ∧ Sm d ∧ RowOf d z y ∧ ∀ (b : Addr) (H' : Hp), Same H H' → PAt C H' b y.2 → Q (.ref b) H'
def DAt (C : Addr) : Addr → Sp → Prop := fun C' sp => C' = C ∧ sp = spAt C
abbrev sPart_at : Stmt := inClass (top 50) 2
theorem scPart_at : FnScope ["self", "name"] ["self", "name"] (defScope sPart_at) := ⟨rfl, rfl, rfl, by decide +kernel, rfl, by decide +kernel, by decide +kernel⟩
theorem ok_at (F_row_of : FnAt P w K mg base "row_of" 8 ["work", "name"] (spRO C)) {f : Addr} {fd : FuncData} (F : Fun K "at" "Part.at" sPart_at f fd) : FnOk P w K mg base CX0 9 f fd ["self", "name"] (spAt C) := by
  refine F.ok scPart_at (fun vs H Q E h => ?_) (fun cdv A outer s H vs Q E hr h => ?_)
  · obtain ⟨a, d, z, y, rfl, _⟩ := h
    rfl
  · obtain ⟨a, d, z, y, rfl, hP, sm, hR, q⟩ := h
    refine ⟨_, (pss_one (ps_ret (pe_ix ix_tup (pe_fn F_row_of hr (by decide) rfl (pa_cons (pv 0) (pa_cons (pv 1) pa_nil))) pe_int (fun _ _ => rfl)))), ?_⟩
    refine ⟨_, rfl, _, rfl, a, d, z, y, rfl, hP, sm.h, sm.z, hR, fun v H' s' ⟨p, lr, b, e, _, hp, _, hPb⟩ => ?_⟩
    exact ⟨p, _, _, _, e, rfl, SqT.of hp, rfl, q b H' s' hPb⟩
theorem PAt.ins {H : Hp} {a : Addr} {d : Nd} (h : PAt C H a d) : ∃ dx fs, H a = some (.ins C dx fs) ∧ ∀ m : Str, m ≠ "name" → m ≠ "offers" → m ≠ "beneath" → fs.lookup m = none := by
  obtain ⟨dx, po, pb, kt, h1, _⟩ := h
  refine ⟨dx, _, h1, fun m n1 n2 n3 => ?_⟩
  rw [lookup_putF, if_neg n3, lookup_putF, if_neg n2, lookup_putF, if_neg n1]
  rfl
def spTd (K : PySem.W.Frag) (C : Addr) (n : Nat) : Sp := fun vs H Q _ => ∃ (a : Addr) (d : Nd), vs = [.ref a] ∧ PAt C H a d ∧ d.ks.ht < n ∧ d.ks.size ≤ 1000 ∧ ∀ (t : Addr) (H' : Hp), Same H H' → RdT H' (.ref t) (toldD d) → Q (.ref t) H'
def DTd (K : PySem.W.Frag) (C : Addr) (n : Nat) : Addr → Sp → Prop := fun C' sp => C' = C ∧ sp = spTd K C n
abbrev sPart_told : Stmt := inClass (top 50) 5
theorem scPart_told : FnScope ["self"] ["self"] (defScope sPart_told) := ⟨rfl, rfl, rfl, by decide +kernel, rfl, by decide +kernel, by decide +kernel⟩
theorem items_le : ∀ f : Fo, f.items.length ≤ f.size
  | .nil => Nat.le_refl _
  | .cons j n o ks r => by
    have := items_le r
    rw [Fo.items, Fo.size, List.length_cons]
    omega
theorem ok_td (T : Txt mg) (kit : PKit K C) (h : MTop K C "told" "Part.told" sPart_told ["self"]) : ∀ n C' sp, DTd K C n C' sp → MethD P w K mg base CX0 n C' "told" ["self"] sp
  | 0, _, _, ⟨rfl, rfl⟩ => methD_of kit.cl h fun f fd F => ⟨fun vs H Q E ⟨a, d, _, _, z, _⟩ => by omega, fun A outer s H args us vs Q E _ _ _ _ ⟨a, d, _, _, z, _⟩ => by omega⟩
  | n + 1, _, _, ⟨rfl, rfl⟩ => by
    have MTD := ok_td T kit h n
    refine methD_of kit.cl h fun f fd F => F.ok scPart_told (fun vs H Q E h => ?_) (fun cdv A outer s H vs Q E hr h => ?_)
    · obtain ⟨a, d, rfl, _⟩ := h
      rfl
    · obtain ⟨a, d, rfl, hP, hh, hz, q⟩ := h
      refine ⟨_, (pss_one (ps_ret (pe_tup (pa_cons (pe_fld (pv 0) rfl) (pa_cons (pe_fld (pv 0) rfl) (pa_cons (pe_callTy call_tuple_of rfl T.n_tuple boot_tuple (pa_cons (pe_comp (sc := defScope sPart_told) (N0 := ["self"]) (xs := ["word", "part"]) (ys := []) (js := []) ⟨rfl, by decide +kernel, by decide +kernel, by decide +kernel, by decide +kernel⟩ rfl (pi_tup (pe_fld (pv 0) rfl)) (fun _ _ _ _ => (pg_tupK (n := 2) K rfl (pgs_cons (pg_name (i := 0) (show (["word", "part"] : List Str).Nodup by decide +kernel) rfl (by first | exact Or.inl rfl | exact Or.inr rfl)) (pgs_cons (pg_name (i := 1) (show (["word", "part"] : List Str).Nodup by decide +kernel) rfl (by first | exact Or.inl rfl | exact Or.inr rfl)) pgs_nil)))) (fun _ _ _ _ => pq_nil) (fun _ _ _ _ => (pe_tup (pa_cons (pv 0) (pa_cons (pe_methD (D := DTd K C n) (pv 1) MTD hr pass0) pa_nil))))) pa_nil)) pa_nil)))))), ?_⟩
      have hs : sizeLine = 16777216 := sizeLine_eq
      obtain ⟨dx, po, pb, kt, hA, hw, ⟨ps, hO, hk, g⟩, hB, hF⟩ := id hP
      have hit := hF.items
      have kl : kt.length ≤ 1000 := by rw [hit.1]; have := items_le d.ks; omega
      refine ⟨_, rfl, a, C, dx, _, _, rfl, hA, kit.cl, kit.name, pF_name, _, rfl, a, C, dx, _, _, rfl, hA, kit.cl, kit.offers, pF_offers, _, rfl, a, C, dx, _, _, rfl, hA, kit.cl, kit.beneath, pF_beneath, pb, rfl, ⟨_, SqT.of hB⟩, ?_⟩
      refine comp_tup (K := K) (a := pb) (xs := kt) (fun i ys H' => Same H H' ∧ ys.length = i ∧ RdTs H' ys ((d.ks.items.take i).map fun x => .tuple [.str (nm x.1), toldD x.2])) ⟨Same.refl _, rfl, .nil⟩ (by omega) ?_ ?_ ?_ ?_
      · rintro i ys H' ⟨_, h, _⟩
        omega
      · rintro i ys H' _ ⟨s', _⟩
        exact SqT.of (s' _ _ hB)
      · rintro i v ys H' hv ⟨s', hy, hr'⟩
        obtain ⟨x, hx, p, a1, rfl, hp, h4, hP1⟩ := hit.at hv
        have hm := items_ht (List.mem_of_getElem? hx)
        have hP1' := hP1.same s'
        obtain ⟨dx1, fs1, hA1, hfs1⟩ := hP1'.ins
        refine ⟨p, _, rfl, SqT.of (s' _ _ hp), rfl, _, _, rfl, _, _, rfl, rfl, ?_⟩
        refine ⟨_, rfl, _, rfl, a1, C, dx1, fs1, spTd K C n, rfl, hA1, hfs1 _ (by decide +kernel) (by decide +kernel) (by decide +kernel), ⟨rfl, rfl⟩, a1, x.2, rfl, hP1', by omega, by omega, fun t H1 s1 ht => ?_⟩
        refine ⟨(by show 2 ≤ sizeLine; decide), fun t2 ht2 => ?_⟩
        have s2 := s1.trans (Same.new (o := .tup [.str (nm x.1), .ref t]) ht2)
        refine ⟨s'.trans s2, by rw [List.length_append, hy]; rfl, ?_⟩
        rw [take_snoc hx, List.map_append]
        exact rt_snoc (hr'.t (.of s2)) (.tup upd_same (.cons (.str _) (.cons (ht.t (.of (Same.new ht2))) .nil)))
      · rintro ys H' ⟨s', hy, hr'⟩ l2 hl2
        rw [hit.1, List.take_length, ← toldF_items] at hr'
        have s2 := Same.new (o := .lst ys) hl2
        have e2 : upd H' l2 (.lst ys) l2 = some (.lst ys) := upd_same
        have r2 := hr'.t (.of s2)
        generalize upd H' l2 (.lst ys) = H2 at s2 e2 r2 ⊢
        refine ⟨l2, _, rfl, .inl ⟨SqL.of e2, fun tp htp => ?_⟩⟩
        have s3 := Same.new (o := .tup ys) htp
        have e3 : upd H2 tp (.tup ys) tp = some (.tup ys) := upd_same
        have r3 := r2.t (.of s3)
        generalize upd H2 tp (.tup ys) = H3 at s3 e3 r3 ⊢
        have t3 := (s'.trans s2).trans s3
        refine ⟨(by show 3 ≤ sizeLine; decide), fun t4 ht4 => ?_⟩
        have s4 := Same.new (o := .tup [.str d.n, .ref po, .ref tp]) ht4
        have t4' := t3.trans s4
        exact q t4 _ t4' (.tup upd_same (.cons (.str _) (.cons (.tup (t4' _ _ hO) (rt_keys (hk.imp fun _ _ e => t4' _ _ e))) (.cons (.tup (s4 _ _ e3) (r3.t (.of s4))) .nil))))
end
end K33
namespace K33
open PySem L2 PyProof.Rows
theorem join_go : ∀ (zs : List Nat) (acc : Array Nat), (zs.map fun c => (⟨#[c]⟩ : Str)).foldl (fun acc p => acc ++ Str.empty.cps ++ p.cps) acc = acc ++ zs.toArray
  | [], acc => by simp
  | c :: r, acc => by
    rw [List.map_cons, List.foldl_cons, join_go r]
    show acc ++ #[] ++ #[c] ++ r.toArray = acc ++ (c :: r).toArray
    simp
theorem join_signs (zs : List Nat) (sep : Str) (hs : sep = Str.empty) : Txt.join sep (zs.map fun c => (⟨#[c]⟩ : Str)) = ⟨zs.toArray⟩ := by
  subst hs
  cases zs with
  | nil => rfl
  | cons c r =>
    show (⟨(r.map fun c => (⟨#[c]⟩ : Str)).foldl (fun acc p => acc ++ Str.empty.cps ++ p.cps) #[c]⟩ : Str) = _
    rw [join_go]
    simp
theorem slice_to {z : Str} {i : Nat} (h : i ≤ z.cps.toList.length) : Txt.slice z none (some (i : Int)) = ⟨(z.cps.toList.take i).toArray⟩ := by
  have := slice_closes_to (x := z) (j := i) ⟨by omega, by omega⟩
  have := beq_iff_eq.mp this
  rw [this]
  simp
theorem slice_from {z : Str} {i : Nat} (h : i ≤ z.cps.toList.length) : Txt.slice z (some (i : Int)) none = ⟨(z.cps.toList.drop i).toArray⟩ := by
  have hz : z.length = z.cps.toList.length := by simp [Str.length]
  rw [slice_from_eq (x := z) (i := i) (b := z.length) (by omega) (by omega) rfl]
  congr 2
  rw [List.take_of_length_le]
  · simp
  · rw [List.length_drop]
    have : z.cps.toList.length = z.length := hz.symm
    omega
theorem app_l (A B : List Nat) : (⟨A.toArray⟩ : Str) ++ (⟨B.toArray⟩ : Str) = ⟨(A ++ B).toArray⟩ := by
  show (⟨A.toArray ++ B.toArray⟩ : Str) = _
  simp
theorem word_l {L : List Nat} (h1 : 1 ≤ L.length) (h2 : L.length ≤ 8) (h3 : L.all isLow = true) : isWordZ ⟨L.toArray⟩ = true := by
  unfold isWordZ
  rw [Bool.and_eq_true, decide_eq_true_eq]
  refine ⟨?_, by simpa using h3⟩
  show 1 ≤ L.toArray.size ∧ L.toArray.size ≤ 8
  rw [List.size_toArray]
  exact ⟨h1, h2⟩
abbrev abc : Str := Str.ofString "abcdefghijklmnopqrstuvwxyz"
theorem abc_at {r : Int} (h0 : 0 ≤ r) (h1 : r < 26) : ∃ c, atI abc.cps.toList r = some c ∧ isLow c = true := by
  have el : abc.cps.toList = [97, 98, 99, 100, 101, 102, 103, 104, 105, 106, 107, 108, 109, 110, 111, 112, 113, 114, 115, 116, 117, 118, 119, 120, 121, 122] := by decide +kernel
  obtain ⟨c1, e1, m1⟩ := atI_ex (xs := abc.cps.toList) h0 (by rw [el]; exact h1)
  refine ⟨c1, e1, ?_⟩
  have hl : ∀ c ∈ abc.cps.toList, isLow c = true := by rw [el]; decide +kernel
  exact hl c1 m1
theorem abc_val : ∀ n : Fin 26, atI abc.cps.toList (n.val : Int) = some (97 + n.val) := by decide +kernel
theorem abc_inj {r r' : Int} (h0 : 0 ≤ r) (h1 : r < 26) (h0' : 0 ≤ r') (h1' : r' < 26) (e : atI abc.cps.toList r = atI abc.cps.toList r') : r = r' := by
  obtain ⟨n, rfl⟩ : ∃ n : Nat, r = (n : Int) := ⟨r.toNat, by omega⟩
  obtain ⟨n', rfl⟩ : ∃ n : Nat, r' = (n : Int) := ⟨r'.toNat, by omega⟩
  have a := abc_val ⟨n, by omega⟩
  have b := abc_val ⟨n', by omega⟩
  dsimp only at a b
  rw [a, b] at e
  have := Option.some.inj e
  omega
def Lett (pos : Nat) (first : Int) (L : Nat) (us : List Str) : Prop := ∀ (j : Nat) (z : Str), us[j]? = some z → (j < 26 → z.cps.toList[pos]? = atI abc.cps.toList ((first + 7 * (0 + (j : Int))) % 26) ∧ z.length ≠ L) ∧ (26 ≤ j → z.cps.toList[0]? = atI abc.cps.toList ((first + 7 * (0 + (j : Int))) % 26) ∧ z.length = L)
theorem Lett.snoc {pos L : Nat} {first : Int} {us : List Str} {z : Str} (h : Lett pos first L us) (e : us.length < 26 → z.cps.toList[pos]? = atI abc.cps.toList ((first + 7 * (0 + (us.length : Int))) % 26) ∧ z.length ≠ L) (e' : 26 ≤ us.length → z.cps.toList[0]? = atI abc.cps.toList ((first + 7 * (0 + (us.length : Int))) % 26) ∧ z.length = L) : Lett pos first L (us ++ [z]) := fun j y hy => by
  by_cases hj : j < us.length
  · rw [List.getElem?_append_left hj] at hy; exact h j y hy
  · have hj2 : j = us.length := by
      have := (List.getElem?_eq_some_iff.mp hy).1
      rw [List.length_append, List.length_singleton] at this
      omega
    subst hj2
    rw [List.getElem?_append_right (Nat.le_refl _), Nat.sub_self] at hy
    cases hy
    exact ⟨e, e'⟩
theorem Lett.nodup {pos L : Nat} {first : Int} {us : List Str} (h : Lett pos first L us) (hl : us.length ≤ 31) : us.Nodup := by
  rw [List.Nodup, List.pairwise_iff_getElem]
  intro i j hi hj hij e
  have a := h i us[i] (List.getElem?_eq_getElem hi)
  have b := h j us[j] (List.getElem?_eq_getElem hj)
  rw [e] at a
  by_cases h1 : i < 26
  · by_cases h2 : j < 26
    · have a := (a.1 h1).1
      rw [(b.1 h2).1] at a
      have := abc_inj (Int.emod_nonneg _ (by decide)) (Int.emod_lt_of_pos _ (by decide)) (Int.emod_nonneg _ (by decide)) (Int.emod_lt_of_pos _ (by decide)) a
      omega
    · exact (a.1 h1).2 (b.2 (by omega)).2
  · have a := (a.2 (by omega)).1
    rw [(b.2 (by omega)).1] at a
    have := abc_inj (Int.emod_nonneg _ (by decide)) (Int.emod_lt_of_pos _ (by decide)) (Int.emod_nonneg _ (by decide)) (Int.emod_lt_of_pos _ (by decide)) a
    omega
theorem qz3 : repZ 3 (Str.ofString "qz") = ⟨([113, 122, 113, 122, 113, 122] : List Nat).toArray⟩ := by decide +kernel
theorem x1 : repZ 1 (Str.ofString "x") = ⟨([120] : List Nat).toArray⟩ := by decide +kernel
theorem x0 : repZ 0 (Str.ofString "x") = ⟨([] : List Nat).toArray⟩ := by decide +kernel
theorem late {c : Nat} (low : isLow c = true) (k : Nat) (hk : k = 0 ∨ k = 1) : isWordZ (⟨#[c]⟩ ++ repZ 3 (Str.ofString "qz") ++ repZ k (Str.ofString "x") : Str) = true ∧ (⟨#[c]⟩ ++ repZ 3 (Str.ofString "qz") ++ repZ k (Str.ofString "x") : Str).length = 7 + k ∧ (⟨#[c]⟩ ++ repZ 3 (Str.ofString "qz") ++ repZ k (Str.ofString "x") : Str).cps.toList[0]? = some c := by
  rcases hk with rfl | rfl
  · rw [qz3, x0, show (⟨#[c]⟩ : Str) = ⟨([c] : List Nat).toArray⟩ from rfl, app_l, app_l]
    refine ⟨word_l (by simp) (by simp) (by simp [low]; decide), by rfl, by simp⟩
  · rw [qz3, x1, show (⟨#[c]⟩ : Str) = ⟨([c] : List Nat).toArray⟩ from rfl, app_l, app_l]
    refine ⟨word_l (by simp) (by simp) (by simp [low]; decide), by rfl, by simp⟩
theorem abc_len : abc.length ≤ sizeLine := by
  rw [show abc.length = 26 from by decide +kernel, sizeLine_eq]
  decide
theorem all_take {L : List Nat} {n : Nat} (h : L.all isLow = true) : (L.take n).all isLow = true := List.all_eq_true.mpr fun x hx => List.all_eq_true.mp h x (List.mem_of_mem_take hx)
theorem all_drop {L : List Nat} {n : Nat} (h : L.all isLow = true) : (L.drop n).all isLow = true := List.all_eq_true.mpr fun x hx => List.all_eq_true.mp h x (List.mem_of_mem_drop hx)
def spWords : Sp := fun vs H Q _ => ∃ (c : Int) (m : Nat), m ≤ 31 ∧ vs = [.int c, .int m] ∧ ∀ (l : Addr) (zs : List Str) (H' : Hp), Same H H' → H' l = some (.lst (zs.map V.str)) → zs.length = m → (∀ z ∈ zs, isWordZ z = true) → zs.Nodup → H l = none → Q (.ref l) H'
section
variable {P : Program} {w : World} {K : PySem.W.Frag} {mg : Str → Option Value} {base : Heap}
abbrev s_law_words : Stmt := top 66
abbrev nWords : List Str := ["_law_cell_here", "_law_many", "_law_letters", "_law_box_here", "_law_size", "_law_at", "_law_way", "_law_base", "_law_first", "_law_found", "_law_k", "_law_letter"]
theorem sc_law_words : FnScope nWords ["_law_cell_here", "_law_many"] (defScope s_law_words) := ⟨rfl, rfl, rfl, by decide +kernel, rfl, by decide +kernel, by decide +kernel⟩
theorem ok_words (T : Txt mg) (F__law_box : FnAt P w K mg base "_law_box" 1 ["_law_cell_here"] spBox) (F__law_take : FnAt P w K mg base "_law_take" 2 ["_law_box_here", "_law_many"] spTake) (F : TopFn K mg "_law_words" s_law_words ["_law_cell_here", "_law_many"]) : FnAt P w K mg base "_law_words" 3 ["_law_cell_here", "_law_many"] spWords := by
  refine F.at sc_law_words (fun vs H Q E h => ?_) (fun f cdv A outer s H vs Q E hr h => ?_)
  · obtain ⟨c, m, _, rfl, _⟩ := h
    rfl
  · obtain ⟨c, m, hm, rfl, q⟩ := h
    refine ⟨_, (pss_cons (ps_set (i := 2) sc_law_words.nd rfl (by first | exact Or.inl rfl | exact Or.inr rfl) pe_str)
      (pss_cons (ps_set (i := 3) sc_law_words.nd rfl (by first | exact Or.inl rfl | exact Or.inr rfl) (pe_fn F__law_box hr (by decide) rfl (pa_cons (pv 0) pa_nil)))
      (pss_cons (ps_set (i := 4) sc_law_words.nd rfl (by first | exact Or.inl rfl | exact Or.inr rfl) (pe_fn F__law_take hr (by decide) rfl (pa_cons (pv 3) (pa_cons pe_int pa_nil))))
      (pss_cons (ps_set (i := 5) sc_law_words.nd rfl (by first | exact Or.inl rfl | exact Or.inr rfl) (pe_fn F__law_take hr (by decide) rfl (pa_cons (pv 3) (pa_cons (pe_op op_add (pv 4) pe_int) pa_nil))))
      (pss_cons (ps_set (i := 6) sc_law_words.nd rfl (by first | exact Or.inl rfl | exact Or.inr rfl) (pe_fn F__law_take hr (by decide) rfl (pa_cons (pv 3) (pa_cons pe_int pa_nil))))
      (pss_cons (ps_set (i := 7) sc_law_words.nd rfl (by first | exact Or.inl rfl | exact Or.inr rfl) (pe_bm PySem.F.plainAttrs_str PySem.F.slot_str_join PySem.F.type_str_join mt_join pe_str (pa_cons (pe_comp (sc := defScope s_law_words) (N0 := nWords) (xs := ["_law_k"]) (ys := ["_law_letters", "_law_box_here"]) (js := [2, 3]) ⟨rfl, by decide +kernel, by decide +kernel, by decide +kernel, by decide +kernel⟩ rfl (pi_range1 rfl T.n_range (pa_cons (pv 4) pa_nil)) (fun _ _ _ _ => (pg_name (i := 0) (show (["_law_k", "_law_letters", "_law_box_here"] : List Str).Nodup by decide +kernel) rfl (by first | exact Or.inl rfl | exact Or.inr rfl))) (fun _ _ _ _ => pq_nil) (fun _ _ _ _ => (pe_ix ix_str (pv 1) (pe_fn F__law_take hr (by decide) rfl (pa_cons (pv 2) (pa_cons pe_int pa_nil))) (fun _ _ => rfl)))) pa_nil)))
      (pss_cons (ps_set (i := 8) sc_law_words.nd rfl (by first | exact Or.inl rfl | exact Or.inr rfl) (pe_fn F__law_take hr (by decide) rfl (pa_cons (pv 3) (pa_cons pe_int pa_nil))))
      (pss_cons (ps_set (i := 9) sc_law_words.nd rfl (by first | exact Or.inl rfl | exact Or.inr rfl) (pe_lst pa_nil))
      (pss_cons (ps_for PassesOwn.never rfl (pi_range1 rfl T.n_range (pa_cons (pv 1) pa_nil)) (pg_name (i := 10) sc_law_words.nd rfl (by first | exact Or.inl rfl | exact Or.inr rfl)) (pss_cons (ps_set (i := 11) sc_law_words.nd rfl (by first | exact Or.inl rfl | exact Or.inr rfl) (pe_ix ix_str (pv 2) (pe_op op_mod (pe_op op_add (pv 8) (pe_op op_mul pe_int (pv 10))) pe_int) (fun _ _ => rfl)))
      (pss_one (ps_if (pt_cmpR op_gt (pv 10) pe_int (nomark _)) (pss_one (ps_expr (pe_bm PySem.F.plainAttrs_list PySem.F.slot_list_append PySem.F.type_list_append mt_append (pv 9) (pa_cons (pe_op op_add_str (pe_op op_add_str (pv 11) (pe_op op_mulS pe_str pe_int)) (pe_op op_mulS pe_str (pe_ix ix_list (pe_lst (pa_cons pe_int (pa_cons pe_int pa_nil))) (pe_callTy call_int1 rfl T.n_int boot_int (pa_cons (pe_cmpR op_eq (pv 4) pe_int (nomark _)) pa_nil)) (fun _ _ => rfl)))) pa_nil)))) (pss_one (ps_if (pt_cmpR op_eq (pv 6) pe_int (nomark _)) (pss_one (ps_expr (pe_bm PySem.F.plainAttrs_list PySem.F.slot_list_append PySem.F.type_list_append mt_append (pv 9) (pa_cons (pe_op op_add_str (pe_op op_add_str (pe_slice sl_str (pv 7) po_none (po_some (pv 5))) (pv 11)) (pe_slice sl_str (pv 7) (po_some (pv 5)) po_none)) pa_nil)))) (pss_one (ps_expr (pe_bm PySem.F.plainAttrs_list PySem.F.slot_list_append PySem.F.type_list_append mt_append (pv 9) (pa_cons (pe_op op_add_str (pv 11) (pe_slice sl_str (pv 7) po_none (po_some (pe_fn F__law_take hr (by decide) rfl (pa_cons (pv 3) (pa_cons (pe_op op_add (pe_callB (call_min2 rfl) rfl T.n_min boot_min (pa_cons (pv 4) (pa_cons pe_int pa_nil))) pe_int) pa_nil)))))) pa_nil))))))))))
      (pss_one (ps_ret (pv 9)))))))))))), ?_⟩
    have hs : sizeLine = 16777216 := sizeLine_eq
    refine ⟨_, rfl, c, rfl, fun b x y z hb => ?_⟩
    have O1 : Oth b (upd H b (.lst [.int x, .int y, .int z])) (upd H b (.lst [.int x, .int y, .int z])) := Oth.refl ⟨x, y, z, upd_same⟩
    have S0 : ∀ {H' : Hp}, Oth b (upd H b (.lst [.int x, .int y, .int z])) H' → Same H H' := fun {H'} o d u e => o.oth d u (by rw [upd_ne (ne_of_none e hb)]; exact e) (ne_of_none e hb)
    generalize upd H b (.lst [.int x, .int y, .int z]) = H1 at O1 S0 ⊢
    refine ⟨_, rfl, b, 8, rfl, O1.box, (by decide), (by decide), fun size H2 s0 s1 o2 => ?_⟩
    refine ⟨_, rfl, _, rfl, _, _, rfl, rfl, b, size + 1, rfl, o2.box, (by omega), (by show size + 1 < 10000000000000000000000000000000000000000; omega), fun at_ H3 a0 a1 o3 => ?_⟩
    refine ⟨_, rfl, b, 2, rfl, o3.box, (by decide), (by decide), fun way H4 w0 w1 o4 => ?_⟩
    have O4 := (o2.trans o3).trans o4
    refine ⟨rfl, _, rfl, size, rfl, (by omega), (by omega), comp_range (n := size.toNat) (fun i ys H' => (∃ zs : List Nat, ys = zs.map (fun c => V.str ⟨#[c]⟩) ∧ zs.length = i ∧ zs.all isLow = true) ∧ Oth b H1 H') ⟨⟨[], rfl, rfl, rfl⟩, O4⟩ (by omega) ?_ ?_ ?_⟩
    · rintro i ys H' ⟨⟨zs, rfl, e, _⟩, _⟩
      rw [List.length_map, e]; exact Nat.le_refl _
    · rintro i ys H5 hi ⟨⟨zs, rfl, e, h1⟩, o5⟩
      refine ⟨_, rfl, _, rfl, b, 26, rfl, o5.box, (by decide), (by decide), fun r1 H6 r0 r2 o6 => ?_⟩
      obtain ⟨c1, e1, low⟩ := abc_at r0 r2
      refine ⟨_, _, c1, rfl, rfl, abc_len, e1, ?_⟩
      exact ⟨⟨zs ++ [c1], by simp, by simp [e], by rw [List.all_append, h1]; simp [low]⟩, o5.trans o6⟩
    · rintro ys H5 ⟨⟨zs, rfl, e, hlow⟩, o5⟩ p hp
      have O6 : Oth b H1 (upd H5 p (.lst (zs.map fun c => V.str ⟨#[c]⟩))) := o5.new hp
      have em : (zs.map fun c => V.str ⟨#[c]⟩) = (zs.map fun c => (⟨#[c]⟩ : Str)).map V.str := by rw [List.map_map]; rfl
      have hsum : ((zs.map fun c => (⟨#[c]⟩ : Str)).map (·.length)).sum = zs.length := by
        clear e O6 em hlow hp
        induction zs with
        | nil => rfl
        | cons c r ih => rw [List.map_cons, List.map_cons, List.sum_cons, ih]; show 1 + r.length = r.length + 1; omega
      refine ⟨_, p, zs.map fun c => ⟨#[c]⟩, rfl, rfl, SqL.of (by rw [← em]; exact upd_same), (by rw [hsum, List.length_map, e]; show _ + _ * 0 ≤ _; omega), ?_⟩
      rw [join_signs zs (Str.ofString "") (by decide +kernel)]
      have zl : zs.length = size.toNat := e
      have zlen : (⟨zs.toArray⟩ : Str).cps.toList = zs := by simp
      have zlen2 : (⟨zs.toArray⟩ : Str).length = zs.length := by show zs.toArray.size = _; rw [List.size_toArray]
      generalize upd H5 p (.lst (zs.map fun c => V.str ⟨#[c]⟩)) = H6 at O6 ⊢
      refine ⟨_, rfl, b, 26, rfl, O6.box, (by decide), (by decide), fun first H7 f0 f1 o7 => ?_⟩
      have O7 := O6.trans o7
      refine ⟨(by show 0 ≤ sizeLine; decide), fun l hl => ?_⟩
      have O8 := O7.new (o := .lst []) hl
      have e8 : upd H7 l (.lst []) l = some (.lst []) := upd_same
      have nl : l ≠ b := Box.ne O7.box hl
      have hl0 : H l = none := (S0 O7).free hl
      generalize upd H7 l (.lst []) = H8 at O8 e8 ⊢
      refine ⟨_, rfl, m, rfl, (by omega), (by omega), for_range (n := m) (fun i σ H' => ∃ (us : List Str) (v10 v11 : Option V), σ = [some (.int c), some (.int m), some (.str abc), some (.ref b), some (.int size), some (.int at_), some (.int way), some (.str ⟨zs.toArray⟩), some (.int first), some (.ref l), v10, v11] ∧ us.length = i ∧ (∀ z ∈ us, isWordZ z = true) ∧ H' l = some (.lst (us.map V.str)) ∧ Box H' b ∧ Same H H' ∧ Lett (if way = 0 then at_.toNat else 0) first (if size = 7 then 7 else 8) us)
        ⟨[], _, _, rfl, rfl, by simp, e8, O8.box, S0 O8, fun j z h => by simp at h⟩ ?_ ?_⟩
      · rintro i σ H9 hi ⟨us, v10, v11, rfl, hlen, hall, el, hbox, ss, lett⟩
        have m0 : 0 ≤ (first + 7 * (0 + (i : Int))) % 26 := Int.emod_nonneg _ (by decide)
        have m1 : (first + 7 * (0 + (i : Int))) % 26 < 26 := Int.emod_lt_of_pos _ (by decide)
        obtain ⟨c1, e1, low⟩ := abc_at m0 m1
        refine ⟨_, rfl, _, rfl, _, rfl, _, _, rfl, rfl, .inl ⟨by decide, by decide⟩, _, _, rfl, rfl, _, _, rfl, rfl, (by show (0 : Int) < 26; decide), _, _, c1, rfl, rfl, abc_len, e1, ?_⟩
        have same2 : ∀ (HA : Hp) (xs : List V), Same H HA → Same H (upd HA l (.lst xs)) := fun HA xs sA d u e => by rw [upd_ne (ne_of_none e hl0)]; exact sA d u e
        refine ⟨_, rfl, _, _, rfl, rfl, _, rfl, ite2 (fun hg => ?_) (fun hg => ?_)⟩
        · have hg : (25 : Int) < 0 + (i : Int) := of_decide_eq_true hg
          have ql : (repZ (3 : Int).toNat (Str.ofString "qz")).length = 6 := by show (repZ 3 (Str.ofString "qz")).length = 6; rw [qz3]; rfl
          have c1l : (⟨#[c1]⟩ : Str).length = 1 := rfl
          have aw : ∀ a b : Str, (a ++ b).length = a.length + b.length := len_app
          have fin : ∀ (k : Nat) (H' : Hp), (k = 0 ∨ k = 1) → 7 + k = (if size = 7 then 7 else 8) → Oth b H9 H' → H' l = some (.lst (us.map V.str)) → ∃ (us' : List Str) (v10 v11 : Option V), [some (V.int c), some (V.int m), some (V.str abc), some (V.ref b), some (V.int size), some (V.int at_), some (V.int way), some (V.str ⟨zs.toArray⟩), some (V.int first), some (V.ref l), some (V.int (0 + (i : Int))), some (V.str ⟨#[c1]⟩)] = [some (.int c), some (.int m), some (.str abc), some (.ref b), some (.int size), some (.int at_), some (.int way), some (.str ⟨zs.toArray⟩), some (.int first), some (.ref l), v10, v11] ∧ us'.length = i + 1 ∧ (∀ z ∈ us', isWordZ z = true) ∧ (upd H' l (.lst (us.map V.str ++ [.str (⟨#[c1]⟩ ++ repZ 3 (Str.ofString "qz") ++ repZ k (Str.ofString "x"))]))) l = some (.lst (us'.map V.str)) ∧ Box (upd H' l (.lst (us.map V.str ++ [.str (⟨#[c1]⟩ ++ repZ 3 (Str.ofString "qz") ++ repZ k (Str.ofString "x"))]))) b ∧ Same H (upd H' l (.lst (us.map V.str ++ [.str (⟨#[c1]⟩ ++ repZ 3 (Str.ofString "qz") ++ repZ k (Str.ofString "x"))]))) ∧ Lett (if way = 0 then at_.toNat else 0) first (if size = 7 then 7 else 8) us' := fun k H' hk hL oA elA => by
            obtain ⟨w1, w2, w3⟩ := late low k hk
            refine ⟨us ++ [⟨#[c1]⟩ ++ repZ 3 (Str.ofString "qz") ++ repZ k (Str.ofString "x")], _, _, rfl, by rw [List.length_append, hlen]; rfl, fun z hz => ?_, ?_, ?_, same2 _ _ (fun d u e => ?_), ?_⟩
            · rcases List.mem_append.mp hz with hz | hz
              · exact hall z hz
              · rw [List.mem_singleton] at hz; rw [hz]; exact w1
            · rw [upd_same, List.map_append]; rfl
            · obtain ⟨x1, y1, z1, hbx⟩ := oA.box
              exact ⟨x1, y1, z1, by rw [upd_ne (Ne.symm nl)]; exact hbx⟩
            · exact oA.oth d u (ss d u e) (ne_of_none e hb)
            · refine lett.snoc (fun h => by omega) (fun _ => ⟨?_, by rw [w2, hL]⟩)
              rw [hlen, e1, w3]
          refine ⟨_, rfl, .inl ⟨rfl, _, SqL.of el⟩, _, rfl, _, _, rfl, rfl, (by decide), (by decide), (by decide +kernel), _, _, rfl, rfl, (by show 1 + (repZ (3 : Int).toNat (Str.ofString "qz")).length ≤ sizeLine; omega), (by show 2 ≤ sizeLine; decide), fun lx hlx => ?_⟩
          have oX : Oth b H9 (upd H9 lx (.lst [.int 1, .int 0])) := (Oth.refl hbox).new hlx
          have elX : upd H9 lx (.lst [.int 1, .int 0]) l = some (.lst (us.map V.str)) := by rw [upd_ne (ne_of_none el hlx)]; exact el
          have exX : upd H9 lx (.lst [.int 1, .int 0]) lx = some (.lst [.int 1, .int 0]) := upd_same
          generalize upd H9 lx (.lst [.int 1, .int 0]) = HX at oX elX exX ⊢
          by_cases h7 : size = 7
          · have d7 : decide (V.int size = V.int 7) = true := decide_eq_true (by rw [h7])
            refine ⟨_, rfl, rfl, .inr ⟨_, rfl, ?_⟩⟩
            rw [d7]
            refine ⟨lx, _, _, V.int 0, rfl, rfl, SqL.of exX, rfl, _, _, rfl, rfl, (by decide), (by decide), (by decide +kernel), _, _, rfl, rfl, ?_, l, _, _, rfl, rfl, elX, (by rw [List.length_map]; omega), ?_⟩
            · rw [aw, ql, c1l]
              have : (repZ (0 : Int).toNat (Str.ofString "x")).length = 0 := by show (repZ 0 (Str.ofString "x")).length = 0; rw [x0]; rfl
              omega
            · exact fin 0 HX (.inl rfl) (by rw [if_pos h7]) oX elX
          · have d7 : decide (V.int size = V.int 7) = false := decide_eq_false (fun z => h7 (V.int.inj z))
            refine ⟨_, rfl, rfl, .inr ⟨_, rfl, ?_⟩⟩
            rw [d7]
            refine ⟨lx, _, _, V.int 1, rfl, rfl, SqL.of exX, rfl, _, _, rfl, rfl, (by decide), (by decide), (by decide +kernel), _, _, rfl, rfl, ?_, l, _, _, rfl, rfl, elX, (by rw [List.length_map]; omega), ?_⟩
            · rw [aw, ql, c1l]
              have : (repZ (1 : Int).toNat (Str.ofString "x")).length = 1 := by show (repZ 1 (Str.ofString "x")).length = 1; rw [x1]; rfl
              omega
            · exact fin 1 HX (.inr rfl) (by rw [if_neg h7]) oX elX
        have hng : ¬ ((25 : Int) < 0 + (i : Int)) := fun z => hg (decide_eq_true z)
        have hi26 : i < 26 := by omega
        refine ⟨_, rfl, rfl, _, rfl, ite2 (fun hw => ?_) (fun hw => ?_)⟩
        · have hw' : way = 0 := V.int.inj (of_decide_eq_true hw)
          obtain ⟨a, rfl⟩ : ∃ a : Nat, at_ = (a : Int) := ⟨at_.toNat, by omega⟩
          have ha : a ≤ (⟨zs.toArray⟩ : Str).cps.toList.length := by rw [zlen]; omega
          have t1 := slice_to ha
          have t2 := slice_from ha
          rw [zlen] at t1 t2
          have wd : (⟨(zs.take a).toArray⟩ : Str) ++ ⟨#[c1]⟩ ++ ⟨(zs.drop a).toArray⟩ = ⟨(zs.take a ++ [c1] ++ zs.drop a).toArray⟩ := by
            rw [show (⟨#[c1]⟩ : Str) = ⟨([c1] : List Nat).toArray⟩ from rfl, app_l, app_l]
          have ln : (zs.take a ++ [c1] ++ zs.drop a).length = zs.length + 1 := by
            rw [List.length_append, List.length_append, List.length_take, List.length_drop, List.length_singleton]
            rw [zlen] at ha
            omega
          have isw : isWordZ (⟨(zs.take a).toArray⟩ ++ ⟨#[c1]⟩ ++ ⟨(zs.drop a).toArray⟩ : Str) = true := by
            rw [wd]
            refine word_l (by omega) (by omega) ?_
            rw [List.all_append, List.all_append, all_take hlow, all_drop hlow]
            simp [low]
          have len1 : (⟨(zs.take a).toArray⟩ : Str).length ≤ 7 := by show (zs.take a).toArray.size ≤ 7; rw [List.size_toArray, List.length_take]; omega
          have len2 : (⟨(zs.drop a).toArray⟩ : Str).length ≤ 7 := by show (zs.drop a).toArray.size ≤ 7; rw [List.size_toArray, List.length_drop]; omega
          refine ⟨_, rfl, .inl ⟨rfl, _, SqL.of el⟩, _, rfl, _, rfl, _, rfl, ⟨zs.toArray⟩, rfl, (by omega), ?_⟩
          rw [t1]
          refine ⟨_, rfl, _, _, rfl, rfl, (by show _ + 1 ≤ sizeLine; omega), _, rfl, _, rfl, _, rfl, ⟨zs.toArray⟩, rfl, (by omega), ?_⟩
          rw [t2]
          refine ⟨_, _, rfl, rfl, ?_, l, _, _, rfl, rfl, el, (by rw [List.length_map]; omega), ?_⟩
          · have : ((⟨(zs.take a).toArray⟩ : Str) ++ (⟨#[c1]⟩ : Str)).length = (⟨(zs.take a).toArray⟩ : Str).length + 1 := by
              show ((zs.take a).toArray ++ #[c1]).size = _
              rw [Array.size_append]
              rfl
            omega
          · refine ⟨us ++ [⟨(zs.take a).toArray⟩ ++ ⟨#[c1]⟩ ++ ⟨(zs.drop a).toArray⟩], _, _, rfl, by rw [List.length_append, hlen]; rfl, fun z hz => ?_, ?_, ?_, same2 _ _ ss, ?_⟩
            · rcases List.mem_append.mp hz with hz | hz
              · exact hall z hz
              · rw [List.mem_singleton] at hz; rw [hz]; exact isw
            · rw [upd_same, List.map_append]; rfl
            · obtain ⟨x1, y1, z1, hbx⟩ := hbox
              exact ⟨x1, y1, z1, by rw [upd_ne (Ne.symm nl)]; exact hbx⟩
            · refine lett.snoc (fun _ => ⟨?_, ?_⟩) (fun h => by omega)
              rotate_left
              · rw [wd]
                show (zs.take a ++ [c1] ++ zs.drop a).toArray.size ≠ _
                rw [List.size_toArray, ln]
                split <;> omega
              rw [hlen, e1, if_pos hw', wd, Int.toNat_natCast]
              rw [zlen] at ha
              show ((zs.take a ++ [c1] ++ zs.drop a).toArray.toList)[a]? = some c1
              have hta : (zs.take a).length = a := by rw [List.length_take]; omega
              rw [List.toList_toArray, List.append_assoc, List.getElem?_append_right (by omega), hta, Nat.sub_self]
              rfl
        · have hw' : ¬ way = 0 := fun z => hw (by rw [z]; exact decide_eq_true rfl)
          refine ⟨_, rfl, .inl ⟨rfl, _, SqL.of el⟩, _, rfl, _, rfl, _, rfl, _, rfl, _, _, rfl, _, _, rfl, rfl, b, (if (5 : Int) < size then 5 else size) + 1, rfl, hbox, (by split <;> omega), (by show (if (5 : Int) < size then (5 : Int) else size) + 1 < 10000000000000000000000000000000000000000; split <;> omega), fun n HA n0 n1 oA => ?_⟩
          have elA : HA l = some (.lst (us.map V.str)) := oA.oth _ _ el nl
          obtain ⟨k, rfl⟩ : ∃ k : Nat, n = (k : Int) := ⟨n.toNat, by omega⟩
          have hk5 : k ≤ zs.length := by split at n1 <;> omega
          have ha : k ≤ (⟨zs.toArray⟩ : Str).cps.toList.length := by rw [zlen]; exact hk5
          have t1 := slice_to ha
          rw [zlen] at t1
          have wd : (⟨#[c1]⟩ : Str) ++ ⟨(zs.take k).toArray⟩ = ⟨([c1] ++ zs.take k).toArray⟩ := by
            rw [show (⟨#[c1]⟩ : Str) = ⟨([c1] : List Nat).toArray⟩ from rfl, app_l]
          have ln : ([c1] ++ zs.take k).length ≤ 8 ∧ 1 ≤ ([c1] ++ zs.take k).length := by
            rw [List.length_append, List.length_take, List.length_singleton]
            omega
          have isw : isWordZ (⟨#[c1]⟩ ++ ⟨(zs.take k).toArray⟩ : Str) = true := by
            rw [wd]
            refine word_l ln.2 ln.1 ?_
            rw [List.all_append, all_take hlow]
            simp [low]
          have len1 : (⟨(zs.take k).toArray⟩ : Str).length ≤ 7 := by show (zs.take k).toArray.size ≤ 7; rw [List.size_toArray, List.length_take]; omega
          refine ⟨_, rfl, ⟨zs.toArray⟩, rfl, (by omega), ?_⟩
          rw [t1]
          refine ⟨_, _, rfl, rfl, (by show 1 + _ ≤ sizeLine; omega), l, _, _, rfl, rfl, elA, (by rw [List.length_map]; omega), ?_⟩
          refine ⟨us ++ [⟨#[c1]⟩ ++ ⟨(zs.take k).toArray⟩], _, _, rfl, by rw [List.length_append, hlen]; rfl, fun z hz => ?_, ?_, ?_, same2 _ _ (fun d u e => ?_), ?_⟩
          · rcases List.mem_append.mp hz with hz | hz
            · exact hall z hz
            · rw [List.mem_singleton] at hz; rw [hz]; exact isw
          · rw [upd_same, List.map_append]; rfl
          · obtain ⟨x1, y1, z1, hbx⟩ := oA.box
            exact ⟨x1, y1, z1, by rw [upd_ne (Ne.symm nl)]; exact hbx⟩
          · exact oA.oth d u (ss d u e) (ne_of_none e hb)
          · refine lett.snoc (fun _ => ⟨?_, ?_⟩) (fun h => by omega)
            · rw [hlen, e1, if_neg hw', wd]
              rfl
            · rw [wd]
              show ([c1] ++ zs.take k).toArray.size ≠ _
              rw [List.size_toArray, List.length_append, List.length_take, List.length_singleton]
              split at n1 <;> split <;> omega
      · rintro σ H9 ⟨us, v10, v11, rfl, hlen, hall, el, hbox, ss, lett⟩
        exact ⟨_, rfl, q l us H9 ss el hlen hall (lett.nodup (by omega)) hl0⟩
end
end K33
namespace L2
open PySem PySem.Spec PyProof.Rows
def tMid (t : TS) : TS := fun D σ H => ∃ M : L2.St → Hp → Prop, t { D with nx := M } σ H ∧ ∀ σ' H', M σ' H' → D.nx σ' H'
theorem ps_mid {X : Cx} {st : Stmt} {t : TS} (h : PS X st t) : PS X st (tMid t) := by
  intro pins s σ H D I ⟨M, hM, k⟩
  refine thn (h pins s σ H { D with nx := M } I hM) fun f s' hf => ?_
  cases f with
  | next => obtain ⟨σ', H', I', q⟩ := hf; exact ⟨σ', H', I', k _ _ q⟩
  | brk => exact hf
  | cont => exact hf
  | ret u => exact hf
end L2
namespace K33
open PySem L2 PyProof.Rows
theorem nat_of {i : Int} {n : Nat} (h0 : 0 ≤ i) (h1 : i < n) : ∃ k : Nat, i = (k : Int) ∧ k < n := ⟨i.toNat, by omega, by omega⟩
def KeyAt (H : Hp) (p : Addr) : Prop := ∃ (w : Str) (n : Nat), isWordZ w = true ∧ n ≤ 99 ∧ H p = some (.tup [.str w, .int n])
theorem tup_oth {b : Addr} {H H' : Hp} {p : Addr} {xs : List V} (h : H p = some (.tup xs)) (hb : Box H b) (o : Oth b H H') : H' p = some (.tup xs) := by
  obtain ⟨x, y, z, hb⟩ := hb
  exact o.oth _ _ h (ne_of h hb (by intro z; cases z))
theorem KeyAt.oth {b : Addr} {H H' : Hp} {p : Addr} (h : KeyAt H p) (hb : Box H b) (o : Oth b H H') : KeyAt H' p := by
  obtain ⟨w, n, h1, h2, h3⟩ := h
  exact ⟨w, n, h1, h2, tup_oth h3 hb o⟩
theorem KeyAt.same {H H' : Hp} {p : Addr} (h : KeyAt H p) (s : Same H H') : KeyAt H' p := by
  obtain ⟨w, n, h1, h2, h3⟩ := h
  exact ⟨w, n, h1, h2, s _ _ h3⟩
theorem tup_upd {H : Hp} {p l : Addr} {xs ys : List V} {o : HO} (h : H p = some (.tup xs)) (hl : H l = some (.lst ys)) : (upd H l o) p = some (.tup xs) := by
  rw [upd_ne (ne_of h hl (by intro z; cases z))]
  exact h
theorem KeyAt.upd {H : Hp} {p l : Addr} {ys : List V} {o : HO} (h : KeyAt H p) (hl : H l = some (.lst ys)) : KeyAt (upd H l o) p := by
  obtain ⟨w, n, h1, h2, h3⟩ := h
  exact ⟨w, n, h1, h2, tup_upd h3 hl⟩
def Dist (H : Hp) (ps : List Addr) : Prop := ∀ (i j : Nat) (p q : Addr) (w w' : Str) (n : Int), ps[i]? = some p → ps[j]? = some q → H p = some (.tup [.str w, .int n]) → H q = some (.tup [.str w', .int n]) → i = j
def Nums (r1 : Int) (H : Hp) (ps : List Addr) : Prop := ∀ (i : Nat) (p : Addr), ps[i]? = some p → ∃ (w : Str) (n : Int), H p = some (.tup [.str w, .int n]) ∧ n / 8 = (5 * (0 + (i : Int)) + r1 % 12) % 12
theorem Nums.dist {r1 : Int} {H : Hp} {ps : List Addr} (h : Nums r1 H ps) (hl : ps.length ≤ 12) : Dist H ps := fun i j p q w w' n hi hj ep eq => by
  obtain ⟨w1, n1, e1, m1⟩ := h i p hi
  obtain ⟨w2, n2, e2, m2⟩ := h j q hj
  rw [ep] at e1
  rw [eq] at e2
  simp only [Option.some.injEq, HO.tup.injEq, List.cons.injEq, V.str.injEq, V.int.injEq, and_true] at e1 e2
  rw [← e1.2] at m1
  rw [← e2.2] at m2
  have := (List.getElem?_eq_some_iff.mp hi).1
  have := (List.getElem?_eq_some_iff.mp hj).1
  omega
def spKeys : Sp := fun vs H Q _ => ∃ (c : Int) (n : Nat), n ≤ 12 ∧ vs = [.int c, .int n] ∧ ∀ (l : Addr) (ps : List Addr) (H' : Hp), Same H H' → H' l = some (.lst (ps.map V.ref)) → ps.length = n → (∀ p ∈ ps, KeyAt H' p) → Dist H' ps → H l = none → Q (.ref l) H'
section
variable {P : Program} {w : World} {K : PySem.W.Frag} {mg : Str → Option Value} {base : Heap}
abbrev s_law_keys : Stmt := top 67
theorem sc_law_keys : FnScope ["_law_cell_here", "_law_many", "_law_words_here", "_law_shift", "_law_found", "_law_k", "_law_number"] ["_law_cell_here", "_law_many"] (defScope s_law_keys) := ⟨rfl, rfl, rfl, by decide +kernel, rfl, by decide +kernel, by decide +kernel⟩
theorem ok_keys (T : Txt mg) (F__law_mixed : FnAt P w K mg base "_law_mixed" 1 ["_law_cell_here", "_law_k"] spMixed) (F__law_words : FnAt P w K mg base "_law_words" 3 ["_law_cell_here", "_law_many"] spWords) (F : TopFn K mg "_law_keys" s_law_keys ["_law_cell_here", "_law_many"]) : FnAt P w K mg base "_law_keys" 4 ["_law_cell_here", "_law_many"] spKeys := by
  refine F.at sc_law_keys (fun vs H Q E h => ?_) (fun f cdv A outer s H vs Q E hr h => ?_)
  · obtain ⟨c, n, _, rfl, _⟩ := h
    rfl
  · obtain ⟨c, n, hn, rfl, q⟩ := h
    refine ⟨_, (pss_cons (ps_set (i := 2) sc_law_keys.nd rfl (by first | exact Or.inl rfl | exact Or.inr rfl) (pe_fn F__law_words hr (by decide) rfl (pa_cons (pv 0) (pa_cons pe_int pa_nil))))
      (pss_cons (ps_set (i := 3) sc_law_keys.nd rfl (by first | exact Or.inl rfl | exact Or.inr rfl) (pe_op op_mod (pe_fn F__law_mixed hr (by decide) rfl (pa_cons (pv 0) (pa_cons pe_int pa_nil))) pe_int))
      (pss_cons (ps_set (i := 4) sc_law_keys.nd rfl (by first | exact Or.inl rfl | exact Or.inr rfl) (pe_lst pa_nil))
      (pss_cons (ps_for PassesOwn.never rfl (pi_range1 rfl T.n_range (pa_cons (pv 1) pa_nil)) (pg_name (i := 5) sc_law_keys.nd rfl (by first | exact Or.inl rfl | exact Or.inr rfl)) (pss_cons (ps_set (i := 6) sc_law_keys.nd rfl (by first | exact Or.inl rfl | exact Or.inr rfl) (pe_op op_add (pe_op op_mul pe_int (pe_op op_mod (pe_op op_add (pe_op op_mul pe_int (pv 5)) (pv 3)) pe_int)) (pe_op op_mod (pe_fn F__law_mixed hr (by decide) rfl (pa_cons (pv 0) (pa_cons (pe_op op_add pe_int (pv 5)) pa_nil))) pe_int)))
      (pss_one (ps_expr (pe_bm PySem.F.plainAttrs_list PySem.F.slot_list_append PySem.F.type_list_append mt_append (pv 4) (pa_cons (pe_tup (pa_cons (pe_ix ix_list (pv 2) (pe_op op_mod (pe_fn F__law_mixed hr (by decide) rfl (pa_cons (pv 0) (pa_cons (pe_op op_add pe_int (pv 5)) pa_nil))) pe_int) (fun _ _ => rfl)) (pa_cons (pv 6) pa_nil))) pa_nil))))))
      (pss_one (ps_ret (pv 4))))))), ?_⟩
    have hs : sizeLine = 16777216 := sizeLine_eq
    refine ⟨_, rfl, c, 4, (by decide), rfl, fun l0 zs H1 s1 e1 hz4 hall _ _ => ?_⟩
    refine ⟨_, rfl, c, 899, rfl, fun r1 => ⟨_, _, rfl, rfl, (by show (0 : Int) < 12; decide), ?_⟩⟩
    refine ⟨(by show 0 ≤ sizeLine; decide), fun l hl => ?_⟩
    have s2 := Same.new (o := .lst []) hl
    have e2 : upd H1 l (.lst []) l = some (.lst []) := upd_same
    have fl1 : H1 l = none := hl
    have fl : H l = none := s1.free hl
    have nl0 : l0 ≠ l := ne_of_none e1 hl
    generalize upd H1 l (.lst []) = H2 at s2 e2 ⊢
    refine ⟨_, rfl, n, rfl, (by omega), (by omega), for_range (n := n) (fun i σ H' => ∃ (ps : List Addr) (v5 v6 : Option V), σ = [some (.int c), some (.int n), some (.ref l0), some (.int (r1 % 12)), some (.ref l), v5, v6] ∧ ps.length = i ∧ H' l = some (.lst (ps.map V.ref)) ∧ (∀ p ∈ ps, KeyAt H' p) ∧ Same H1 H' ∧ Nums r1 H' ps)
      ⟨[], _, _, rfl, rfl, e2, by simp, s2, fun i p h => by simp at h⟩ ?_ ?_⟩
    · rintro i σ H3 hi ⟨ps, v5, v6, rfl, hlen, el, hk, s3, nu⟩
      refine ⟨_, rfl, _, _, rfl, rfl, .inl ⟨by decide, by decide⟩, _, rfl, _, _, rfl, rfl, _, _, rfl, rfl, (by show (0 : Int) < 12; decide), _, _, rfl, rfl, .inl ⟨by decide, by decide⟩, _, rfl, _, rfl, _, _, rfl, rfl, c, _, rfl, fun r2 => ⟨_, _, rfl, rfl, (by show (0 : Int) < 8; decide), _, _, rfl, rfl, ?_⟩⟩
      refine ⟨_, rfl, .inl ⟨rfl, _, SqL.of el⟩, _, rfl, _, rfl, _, rfl, _, _, rfl, rfl, c, _, rfl, fun r3 => ⟨_, _, rfl, rfl, (by show (0 : Int) < 4; decide), ?_⟩⟩
      obtain ⟨v, ev, mv⟩ := atI_ex (xs := zs.map V.str) (r := r3 % 4) (Int.emod_nonneg _ (by decide)) (by rw [List.length_map, hz4]; exact Int.emod_lt_of_pos _ (by decide))
      obtain ⟨z, hz, rfl⟩ := List.mem_map.mp mv
      have m1 : 0 ≤ 8 * ((5 * (0 + (i : Int)) + r1 % 12) % 12) + r2 % 8 := by
        have := Int.emod_nonneg (5 * (0 + (i : Int)) + r1 % 12) (show (12 : Int) ≠ 0 by decide)
        have := Int.emod_nonneg r2 (show (8 : Int) ≠ 0 by decide)
        omega
      have m2 : 8 * ((5 * (0 + (i : Int)) + r1 % 12) % 12) + r2 % 8 < 100 := by
        have := Int.emod_lt_of_pos (5 * (0 + (i : Int)) + r1 % 12) (show (0 : Int) < 12 by decide)
        have := Int.emod_lt_of_pos r2 (show (0 : Int) < 8 by decide)
        omega
      obtain ⟨kn, ekn, hkn⟩ := nat_of (n := 100) m1 m2
      refine ⟨l0, _, _, V.str z, rfl, rfl, SqL.of (s3 _ _ e1), ev, _, rfl, (by show 2 ≤ sizeLine; decide), fun p hp => ?_⟩
      have s4 := Same.new (o := .tup [.str z, .int (8 * ((5 * (0 + (i : Int)) + r1 % 12) % 12) + r2 % 8)]) hp
      have e4 : upd H3 p (.tup [.str z, .int (8 * ((5 * (0 + (i : Int)) + r1 % 12) % 12) + r2 % 8)]) p = some (.tup [.str z, .int kn]) := by rw [upd_same, ekn]
      refine ⟨l, _, _, rfl, rfl, s4 _ _ el, (by rw [List.length_map]; omega), ?_⟩
      refine ⟨ps ++ [p], _, _, rfl, by rw [List.length_append, hlen]; rfl, by rw [upd_same, List.map_append]; rfl, fun p' hp' => ?_, fun d o e => ?_, fun j p' hj => ?_⟩
      · rcases List.mem_append.mp hp' with h | h
        · exact ((hk p' h).same s4).upd (s4 _ _ el)
        · rw [List.mem_singleton] at h
          subst h
          exact KeyAt.upd ⟨z, kn, hall z hz, by omega, e4⟩ (s4 _ _ el)
      · rw [upd_ne (ne_of_none e fl1)]
        exact s4 _ _ (s3 _ _ e)
      · have up : ∀ {a : Addr} {xs ys : List V}, upd H3 p (.tup [.str z, .int (8 * ((5 * (0 + (i : Int)) + r1 % 12) % 12) + r2 % 8)]) a = some (.tup xs) → upd (upd H3 p (.tup [.str z, .int (8 * ((5 * (0 + (i : Int)) + r1 % 12) % 12) + r2 % 8)])) l (.lst ys) a = some (.tup xs) := fun h => tup_upd h (s4 _ _ el)
        by_cases hji : j < ps.length
        · rw [List.getElem?_append_left hji] at hj
          obtain ⟨w1, n1, h1, h2⟩ := nu j p' hj
          exact ⟨w1, n1, up (s4 _ _ h1), h2⟩
        · have hj2 : j = ps.length := by
            have := (List.getElem?_eq_some_iff.mp hj).1
            rw [List.length_append, List.length_singleton] at this
            omega
          subst hj2
          rw [List.getElem?_append_right (Nat.le_refl _), Nat.sub_self] at hj
          cases hj
          refine ⟨z, _, up upd_same, ?_⟩
          have := Int.emod_nonneg r2 (show (8 : Int) ≠ 0 by decide)
          have := Int.emod_lt_of_pos r2 (show (0 : Int) < 8 by decide)
          rw [hlen]
          omega
    · rintro σ H3 ⟨ps, v5, v6, rfl, hlen, el, hk, s3, nu⟩
      exact ⟨_, rfl, q l ps H3 (s1.trans s3) el hlen hk (nu.dist (by omega)) fl⟩
end
end K33
namespace K33
open PySem L2 PyProof.Rows PySem.SeqAt
theorem refs_ne_box {H : Hp} {b l : Addr} {ks : List Addr} (hb : Box H b) (hl : H l = some (.lst (ks.map V.ref))) : l ≠ b := by
  obtain ⟨x, y, z, hb⟩ := hb
  rintro rfl
  rw [hb] at hl
  cases ks with
  | nil => cases hl
  | cons k ks => cases hl
def spOf : Sp := fun vs H Q _ => ∃ (b lk : Addr) (ks : List Addr), vs = [.ref b, .ref lk] ∧ Box H b ∧ H lk = some (.lst (ks.map V.ref)) ∧ (∀ p ∈ ks, KeyAt H p) ∧ 0 < ks.length ∧ ks.length ≤ 12 ∧ ∀ (po : Addr) (o : List (Str × Nat)) (H' : Hp), Oth b H H' → OfAt H' po o → Q (.ref po) H'
section
variable {P : Program} {w : World} {K : PySem.W.Frag} {mg : Str → Option Value} {base : Heap}
abbrev s_law_offers : Stmt := top 68
theorem sc_law_offers : FnScope ["_law_box_here", "_law_keys_here", "_law_found", "_law_k", "_law_key"] ["_law_box_here", "_law_keys_here"] (defScope s_law_offers) := ⟨rfl, rfl, rfl, by decide +kernel, rfl, by decide +kernel, by decide +kernel⟩
theorem ok_of (T : Txt mg) (F__law_take : FnAt P w K mg base "_law_take" 2 ["_law_box_here", "_law_many"] spTake) (F : TopFn K mg "_law_offers" s_law_offers ["_law_box_here", "_law_keys_here"]) : FnAt P w K mg base "_law_offers" 3 ["_law_box_here", "_law_keys_here"] spOf := by
  refine F.at sc_law_offers (fun vs H Q E h => ?_) (fun f cdv A outer s H vs Q E hr h => ?_)
  · obtain ⟨b, lk, ks, rfl, _⟩ := h
    rfl
  · obtain ⟨b, lk, ks, rfl, hb, hk, hka, k0, k12, q⟩ := h
    refine ⟨_, (pss_cons (ps_set (i := 2) sc_law_offers.nd rfl (by first | exact Or.inl rfl | exact Or.inr rfl) (pe_lst pa_nil))
      (pss_cons (ps_for PassesOwn.never rfl (pi_range1 rfl T.n_range (pa_cons (pe_ix ix_list (pe_lst (pa_cons pe_int (pa_cons pe_int (pa_cons pe_int (pa_cons pe_int (pa_cons pe_int (pa_cons pe_int pa_nil))))))) (pe_fn F__law_take hr (by decide) rfl (pa_cons (pv 0) (pa_cons pe_int pa_nil))) (fun _ _ => rfl)) pa_nil)) (pg_name (i := 3) sc_law_offers.nd rfl (by first | exact Or.inl rfl | exact Or.inr rfl)) (pss_one (ps_if (pt_cmpR (op_neNil hr.units0) (pv 1) (pe_lst pa_nil) (nomark _)) (pss_cons (ps_set (i := 4) sc_law_offers.nd rfl (by first | exact Or.inl rfl | exact Or.inr rfl) (pe_ix ix_list (pv 1) (pe_fn F__law_take hr (by decide) rfl (pa_cons (pv 0) (pa_cons (pe_callB call_len rfl T.n_len boot_len (pa_cons (pv 1) pa_nil)) pa_nil))) (fun _ _ => rfl)))
      (pss_one (ps_if (pt_cmpR (op_notin_keys (Nat.lt_of_le_of_lt (Nat.add_le_add_left (by decide) _) (hu64 hr))) (pv 4) (pv 2) (by with_unfolding_all rfl)) (pss_one (ps_expr (pe_bm PySem.F.plainAttrs_list PySem.F.slot_list_append PySem.F.type_list_append mt_append (pv 2) (pa_cons (pv 4) pa_nil)))) pss_nil))) pss_nil)))
      (pss_one (ps_ret (pe_callTy call_tuple_of rfl T.n_tuple boot_tuple (pa_cons (pv 2) pa_nil)))))), ?_⟩
    have hs : sizeLine = 16777216 := sizeLine_eq
    refine ⟨(by show 0 ≤ sizeLine; decide), fun lf hlf => ?_⟩
    have o0 : Oth b H (upd H lf (.lst [])) := (Oth.refl hb).new hlf
    have e0 : upd H lf (.lst []) lf = some (.lst []) := upd_same
    have nlf : lf ≠ b := Box.ne hb hlf
    generalize upd H lf (.lst []) = H0 at o0 e0 ⊢
    refine ⟨(by show 6 ≤ sizeLine; decide), fun lx hlx => ?_⟩
    have o1 : Oth b H (upd H0 lx (.lst [.int 0, .int 1, .int 1, .int 2, .int 2, .int 2])) := o0.new hlx
    have e1 : upd H0 lx (.lst [.int 0, .int 1, .int 1, .int 2, .int 2, .int 2]) lx = some (.lst [.int 0, .int 1, .int 1, .int 2, .int 2, .int 2]) := upd_same
    have e1' : upd H0 lx (.lst [.int 0, .int 1, .int 1, .int 2, .int 2, .int 2]) lf = some (.lst []) := by rw [upd_ne (ne_of_none e0 hlx)]; exact e0
    have nlx : lx ≠ b := Box.ne o0.box hlx
    generalize upd H0 lx (.lst [.int 0, .int 1, .int 1, .int 2, .int 2, .int 2]) = H1 at o1 e1 e1' ⊢
    refine ⟨_, rfl, b, 6, rfl, o1.box, (by decide), (by decide), fun r H2 r0 r6 o2 => ?_⟩
    obtain ⟨v, ev, mv⟩ := atI_ex (xs := ([.int 0, .int 1, .int 1, .int 2, .int 2, .int 2] : List V)) r0 r6
    obtain ⟨n, hn2, rfl⟩ : ∃ n : Nat, n ≤ 2 ∧ v = V.int n := by
      simp only [List.mem_cons, List.not_mem_nil, or_false] at mv
      rcases mv with rfl | rfl | rfl | rfl | rfl | rfl
      · exact ⟨0, by decide, rfl⟩
      · exact ⟨1, by decide, rfl⟩
      · exact ⟨1, by decide, rfl⟩
      · exact ⟨2, by decide, rfl⟩
      · exact ⟨2, by decide, rfl⟩
      · exact ⟨2, by decide, rfl⟩
    have O2 := o1.trans o2
    refine ⟨lx, _, _, V.int n, rfl, rfl, SqL.of (o2.oth _ _ e1 nlx), ev, n, rfl, (by omega), (by omega), for_range (n := n) (fun i σ H' => ∃ (v3 v4 : Option V) (ps : List Addr) (o : List (Str × Nat)), σ = [some (.ref b), some (.ref lk), some (.ref lf), v3, v4] ∧ Oth b H H' ∧ H' lf = some (.lst (ps.map V.ref)) ∧ A2 (KeyR H') ps o ∧ o.length ≤ i ∧ o.Nodup ∧ ∀ k ∈ o, isWordZ k.1 = true ∧ k.2 < 100)
      ⟨_, _, [], [], rfl, O2, o2.oth _ _ e1' nlf, A2.nil, Nat.le_refl _, List.nodup_nil, fun k h => by cases h⟩ ?_ ?_⟩
    · rintro i σ H3 hi ⟨v3, v4, ps, o, rfl, O3, e3, hp3, hl3, nd3, ok3⟩
      have hk3 := O3.oth _ _ hk (refs_ne_box hb hk)
      refine ⟨_, rfl, (by show 0 ≤ sizeLine; decide), fun le hle => ?_⟩
      have O4 : Oth b H (upd H3 le (.lst [])) := O3.new hle
      have s4 := Same.new (o := .lst []) hle
      have e4 : upd H3 le (.lst []) le = some (.lst []) := upd_same
      generalize upd H3 le (.lst []) = H4 at O4 s4 e4 ⊢
      have hk4 := s4 _ _ hk3
      refine ⟨lk, le, _, rfl, rfl, SqL.of hk4, SqL.of e4, _, rfl, ?_⟩
      have hne : (!(ks.map V.ref).isEmpty) = true := by
        cases ks with
        | nil => simp at k0
        | cons k ks => rfl
      rw [hne]
      refine iteT ?_
      refine ⟨_, rfl, _, rfl, _, rfl, _, _, rfl, .inl ⟨_, SqL.of hk4, rfl⟩, b, _, rfl, O4.box, (by rw [List.length_map]; omega), (by show ((ks.map V.ref).length : Int) < 10000000000000000000000000000000000000000; rw [List.length_map]; omega), fun r H5 r0 r1 o5 => ?_⟩
      have O5 := O4.trans o5
      have hk5 := O5.oth _ _ hk (refs_ne_box hb hk)
      obtain ⟨v, ev, mv⟩ := atI_ex r0 r1
      obtain ⟨p, hp, rfl⟩ := List.mem_map.mp mv
      have e5 := o5.oth _ _ (s4 _ _ e3) nlf
      obtain ⟨x4, y4, z4, hb4⟩ := O4.box
      have kr5 : A2 (KeyR H5) ps o := hp3.imp fun p k e => o5.oth _ _ (s4 _ _ e) (ne_of (s4 _ _ e) hb4 (by intro z; cases z))
      obtain ⟨kw, kn, g1, g2, hpk⟩ := (hka p hp).oth hb O5
      refine ⟨lk, _, _, V.ref p, rfl, rfl, SqL.of hk5, ev, ?_⟩
      refine ⟨_, rfl, _, rfl, lf, p, ps, kw, kn, rfl, rfl, SqL.of e5, hpk, fun a ha => ?_, fun b' hb' => ⟨_, rfl, ?_⟩⟩
      · obtain ⟨i', hi'⟩ := List.getElem?_of_mem ha
        obtain ⟨k, hk1, hk2⟩ := kr5.at hi'
        exact ⟨k.1, k.2, hk2⟩
      · cases b' with
        | true => exact ⟨_, _, ps, o, rfl, O5, e5, kr5, by omega, nd3, ok3⟩
        | false =>
          have hnot : (kw, kn) ∉ o := fun m => by
            obtain ⟨i', hi'⟩ := List.getElem?_of_mem m
            obtain ⟨a, ha1, ha2⟩ := kr5.at' hi'
            have : KeyIn H5 ps kw kn := ⟨a, List.mem_of_getElem? ha1, ha2⟩
            have := hb'.mpr this
            cases this
          refine ⟨_, rfl, .inl ⟨rfl, _, SqL.of e5⟩, _, rfl, lf, _, _, rfl, rfl, e5, (by rw [List.length_map, kr5.1]; omega), ?_⟩
          have tu := TpIn.upd (o := .lst (ps.map V.ref ++ [.ref p])) e5
          refine ⟨_, _, ps ++ [p], o ++ [(kw, kn)], rfl, ⟨?_, fun c oc hc nc => ?_⟩, by rw [upd_same, List.map_append]; rfl, (kr5.imp fun _ _ e => tu.tup e).app (A2.one (tu.tup hpk)), by rw [List.length_append, List.length_singleton]; omega, ?_, fun k hk => ?_⟩
          · obtain ⟨x5, y5, z5, hb5⟩ := O5.box
            exact ⟨x5, y5, z5, by rw [upd_ne nlf.symm]; exact hb5⟩
          · rw [upd_ne (ne_of_none hc hlf)]
            exact O5.oth _ _ hc nc
          · rw [List.nodup_append]
            refine ⟨nd3, by simp, fun a ha b hb e => ?_⟩
            rw [List.mem_singleton] at hb
            subst hb
            subst e
            exact hnot ha
          · rcases List.mem_append.mp hk with hk | hk
            · exact ok3 k hk
            · rw [List.mem_singleton] at hk
              subst hk
              exact ⟨g1, by show kn < 100; omega⟩
    · rintro σ H3 ⟨v3, v4, ps, o, rfl, O3, e3, hp3, hl3, nd3, ok3⟩
      refine ⟨_, rfl, lf, _, rfl, .inl ⟨SqL.of e3, fun po hpo => ?_⟩⟩
      have s4 := Same.new (o := .tup (ps.map V.ref)) hpo
      exact q po o _ (O3.new hpo) ⟨ps, upd_same, hp3.imp fun _ _ e => s4 _ _ e, ⟨by omega, nd3, ok3⟩⟩
end
end K33
namespace K33
open PySem L2 PyProof.Rows PySem.SeqAt
structure Rw where
  n : Str
  o : List (Str × Nat)
  ab : Int
  j : Nat
  dp : Nat
def Rw.js (r : Rw) : Str := if r.ab < 0 then Str.ofString "" else nm r.j
def RwAt (H : Hp) (q : Addr) (r : Rw) : Prop := ∃ po, H q = some (.tup [.str r.n, .ref po, .int r.ab, .str r.js, .int r.dp]) ∧ OfAt H po r.o
theorem RwAt.t {H H' : Hp} {q : Addr} {r : Rw} (h : RwAt H q r) (t : TpIn H H') : RwAt H' q r := by
  obtain ⟨po, h1, h2⟩ := h
  exact ⟨po, t.tup h1, h2.t t⟩
theorem TpIn.oth {H H' : Hp} {b : Addr} (hb : Box H b) (o : Oth b H H') : TpIn H H' := fun a ob e k => by
  obtain ⟨x, y, z, hb⟩ := hb
  refine o.oth _ _ e ?_
  rintro rfl
  rw [hb] at e
  cases e
  rcases k with ⟨_, z⟩ | ⟨_, _, _, z⟩ <;> cases z
structure TreeOk (rs : List Rw) : Prop where
  pos : 0 < rs.length
  ok : ∀ r ∈ rs, isWordZ r.n = true ∧ 1 ≤ r.dp ∧ r.dp ≤ 6
  root : ∀ r, rs[0]? = some r → r.ab = -1 ∧ r.dp = 1
  up : ∀ (i : Nat) (r : Rw), rs[i]? = some r → 0 < i → r.j < 4 ∧ ∃ (a : Nat) (ra : Rw), r.ab = a ∧ a < i ∧ rs[a]? = some ra ∧ r.dp = ra.dp + 1
  few : ∀ a : Nat, (rs.filter fun r => r.ab == (a : Int)).length ≤ 6
theorem TreeOk.snoc {rs : List Rw} (h : TreeOk rs) {r : Rw} {a : Nat} {ra : Rw} (w : isWordZ r.n = true) (ha : rs[a]? = some ra) (d6 : ra.dp < 6) (e1 : r.ab = a) (e2 : r.dp = ra.dp + 1) (hj : r.j < 4) (f6 : (rs.filter fun r => r.ab == (a : Int)).length < 6) : TreeOk (rs ++ [r]) := by
  have hal := (List.getElem?_eq_some_iff.mp ha).1
  refine ⟨by rw [List.length_append]; have := h.pos; omega, fun x hx => ?_, fun x hx => ?_, fun i x hx hi => ?_, fun b => ?_⟩
  · rcases List.mem_append.mp hx with hx | hx
    · exact h.ok x hx
    · rw [List.mem_singleton] at hx
      subst hx
      exact ⟨w, by omega, by omega⟩
  · rw [List.getElem?_append_left h.pos] at hx
    exact h.root x hx
  · by_cases hl : i < rs.length
    · rw [List.getElem?_append_left hl] at hx
      obtain ⟨g1, a', ra', g2, g3, g4, g5⟩ := h.up i x hx hi
      exact ⟨g1, a', ra', g2, g3, by rw [List.getElem?_append_left (by omega)]; exact g4, g5⟩
    · have e : i = rs.length := by
        have := (List.getElem?_eq_some_iff.mp hx).1
        rw [List.length_append, List.length_singleton] at this
        omega
      subst e
      rw [List.getElem?_append_right (Nat.le_refl _), Nat.sub_self] at hx
      cases hx
      exact ⟨hj, a, ra, e1, hal, by rw [List.getElem?_append_left hal]; exact ha, e2⟩
  · rw [List.filter_append, List.length_append]
    by_cases e : (b : Int) = a
    · have : b = a := by omega
      subst this
      have : (([r] : List Rw).filter fun r => r.ab == (b : Int)).length ≤ 1 := List.length_filter_le _ _
      omega
    · have : (([r] : List Rw).filter fun r => r.ab == (b : Int)) = [] := by
        rw [List.filter_cons, if_neg]
        · rfl
        · rw [beq_iff_eq, e1]; omega
      rw [this]
      exact h.few b
def spTr : Sp := fun vs H Q _ => ∃ (c : Int) (ln lk : Addr) (zs : List Str) (ks : List Addr), vs = [.int c, .ref ln, .ref lk] ∧ H ln = some (.lst (zs.map V.str)) ∧ (∀ z ∈ zs, isWordZ z = true) ∧ zs.Nodup ∧ 30 ≤ zs.length ∧ H lk = some (.lst (ks.map V.ref)) ∧ (∀ p ∈ ks, KeyAt H p) ∧ 0 < ks.length ∧ ks.length ≤ 12 ∧
  ∀ (l : Addr) (qs : List Addr) (rs : List Rw) (H' : Hp), Same H H' → H l = none → H' l = some (.lst (qs.map V.ref)) → A2 (RwAt H') qs rs → TreeOk rs → rs.length ≤ 30 → (rs.map (·.n)).Nodup → (rs.map (·.n)).Sublist (zs.take 30) → Q (.ref l) H'
section
variable {P : Program} {w : World} {K : PySem.W.Frag} {mg : Str → Option Value} {base : Heap}
abbrev s_law_tree : Stmt := top 69
abbrev nTree : List Str := ["_law_cell_here", "_law_names", "_law_keys_here", "_law_box_here", "_law_many", "_law_rows", "_law_k", "_law_above", "_law_beneath", "_law_join"]
theorem sc_law_tree : FnScope nTree ["_law_cell_here", "_law_names", "_law_keys_here"] (defScope s_law_tree) := ⟨rfl, rfl, rfl, by decide +kernel, rfl, by decide +kernel, by decide +kernel⟩
theorem ok_tr (T : Txt mg) (F__law_box : FnAt P w K mg base "_law_box" 1 ["_law_cell_here"] spBox) (F__law_take : FnAt P w K mg base "_law_take" 2 ["_law_box_here", "_law_many"] spTake) (F__law_offers : FnAt P w K mg base "_law_offers" 3 ["_law_box_here", "_law_keys_here"] spOf)
    (F : TopFn K mg "_law_tree" s_law_tree ["_law_cell_here", "_law_names", "_law_keys_here"]) : FnAt P w K mg base "_law_tree" 4 ["_law_cell_here", "_law_names", "_law_keys_here"] spTr := by
  refine F.at sc_law_tree (fun vs H Q E h => ?_) (fun f cdv A outer s H vs Q E hr h => ?_)
  · obtain ⟨c, ln, lk, zs, ks, rfl, _⟩ := h
    rfl
  · obtain ⟨c, ln, lk, zs, ks, rfl, hln, hw, hnd, h30, hlk, hka, k0, k12, q⟩ := h
    refine ⟨_, (pss_cons (ps_set (i := 3) sc_law_tree.nd rfl (by first | exact Or.inl rfl | exact Or.inr rfl) (pe_fn F__law_box hr (by decide) rfl (pa_cons (pv 0) pa_nil)))
      (pss_cons (ps_set (i := 4) sc_law_tree.nd rfl (by first | exact Or.inl rfl | exact Or.inr rfl) (pe_op op_add pe_int (pe_fn F__law_take hr (by decide) rfl (pa_cons (pv 3) (pa_cons pe_int pa_nil)))))
      (pss_cons (ps_mid (ps_if (pt_cmpR op_eq (pe_fn F__law_take hr (by decide) rfl (pa_cons (pv 3) (pa_cons pe_int pa_nil))) pe_int (nomark _)) (pss_one (ps_set (i := 4) sc_law_tree.nd rfl (by first | exact Or.inl rfl | exact Or.inr rfl) (pe_op op_add pe_int (pe_fn F__law_take hr (by decide) rfl (pa_cons (pv 3) (pa_cons pe_int pa_nil)))))) pss_nil))
      (pss_cons (ps_set (i := 5) sc_law_tree.nd rfl (by first | exact Or.inl rfl | exact Or.inr rfl) (pe_lst (pa_cons (pe_tup (pa_cons (pe_ix ix_list (pv 1) pe_int (fun _ _ => rfl)) (pa_cons (pe_fn F__law_offers hr (by decide) rfl (pa_cons (pv 3) (pa_cons (pv 2) pa_nil))) (pa_cons (pe_un un_neg pe_int) (pa_cons pe_str (pa_cons pe_int pa_nil)))))) pa_nil)))
      (pss_cons (ps_for PassesOwn.never rfl (pi_range2 rfl T.n_range (pa_cons pe_int (pa_cons (pv 4) pa_nil))) (pg_name (i := 6) sc_law_tree.nd rfl (by first | exact Or.inl rfl | exact Or.inr rfl)) (pss_cons (ps_set (i := 7) sc_law_tree.nd rfl (by first | exact Or.inl rfl | exact Or.inr rfl) (pe_fn F__law_take hr (by decide) rfl (pa_cons (pv 3) (pa_cons (pe_callB call_len rfl T.n_len boot_len (pa_cons (pv 5) pa_nil)) pa_nil))))
      (pss_cons (ps_set (i := 8) sc_law_tree.nd rfl (by first | exact Or.inl rfl | exact Or.inr rfl) (pe_callB call_len rfl T.n_len boot_len (pa_cons (pe_comp (sc := defScope s_law_tree) (N0 := nTree) (xs := ["_law_row"]) (ys := ["_law_above"]) (js := [7]) ⟨rfl, by decide +kernel, by decide +kernel, by decide +kernel, by decide +kernel⟩ rfl (pi_list (pv 5)) (fun _ _ _ _ => (pg_name (i := 0) (show (["_law_row", "_law_above"] : List Str).Nodup by decide +kernel) rfl (by first | exact Or.inl rfl | exact Or.inr rfl))) (fun _ _ _ _ => pq_one (pt_cmpR op_eq (pe_ix (ix_tupK K rfl) (pv 0) pe_int (fun _ _ => rfl)) (pv 1) (nomark _))) (fun _ _ _ _ => (pv 0))) pa_nil)))
      (pss_one (ps_if (PW.pt (pw_and (pt_cmpR op_lt (pv 8) pe_int (nomark _)) (pw_and1 (pt_cmpR op_lt (pe_ix ix_tup (pe_ix ix_list (pv 5) (pv 7) (fun _ _ => rfl)) pe_int (fun _ _ => rfl)) pe_int (nomark _))))) (pss_cons (ps_set (i := 9) sc_law_tree.nd rfl (by first | exact Or.inl rfl | exact Or.inr rfl) (pe_ix ix_list (pe_lst (pa_cons pe_str (pa_cons pe_str (pa_cons pe_str (pa_cons pe_str pa_nil))))) (pe_ix ix_list (pe_lst (pa_cons pe_int (pa_cons pe_int (pa_cons pe_int (pa_cons pe_int (pa_cons pe_int (pa_cons pe_int pa_nil))))))) (pe_fn F__law_take hr (by decide) rfl (pa_cons (pv 3) (pa_cons pe_int pa_nil))) (fun _ _ => rfl)) (fun _ _ => rfl)))
      (pss_one (ps_expr (pe_bm PySem.F.plainAttrs_list PySem.F.slot_list_append PySem.F.type_list_append mt_append (pv 5) (pa_cons (pe_tup (pa_cons (pe_ix ix_list (pv 1) (pv 6) (fun _ _ => rfl)) (pa_cons (pe_fn F__law_offers hr (by decide) rfl (pa_cons (pv 3) (pa_cons (pv 2) pa_nil))) (pa_cons (pv 7) (pa_cons (pv 9) (pa_cons (pe_op op_add (pe_ix ix_tup (pe_ix ix_list (pv 5) (pv 7) (fun _ _ => rfl)) pe_int (fun _ _ => rfl)) pe_int) pa_nil)))))) pa_nil))))) pss_nil)))))
      (pss_one (ps_ret (pv 5)))))))), ?_⟩
    have hs : sizeLine = 16777216 := sizeLine_eq
    refine ⟨_, rfl, c, rfl, fun b x y z hb => ?_⟩
    have O1 : Oth b (upd H b (.lst [.int x, .int y, .int z])) (upd H b (.lst [.int x, .int y, .int z])) := Oth.refl ⟨x, y, z, upd_same⟩
    have S0 : ∀ {H' : Hp}, Oth b (upd H b (.lst [.int x, .int y, .int z])) H' → Same H H' := fun {H'} o d u e => o.oth d u (by rw [upd_ne (ne_of_none e hb)]; exact e) (ne_of_none e hb)
    generalize upd H b (.lst [.int x, .int y, .int z]) = H1 at O1 S0 ⊢
    refine ⟨_, rfl, b, 8, rfl, O1.box, (by decide), (by decide), fun m H2 m0 m1 o2 => ⟨_, _, rfl, rfl, ?_⟩⟩
    obtain ⟨m, rfl, hm⟩ := nat_of m0 m1
    refine ⟨fun σ' H' => ∃ n : Nat, 1 ≤ n ∧ n ≤ 30 ∧ σ' = [some (.int c), some (.ref ln), some (.ref lk), some (.ref b), some (.int n), none, none, none, none, none] ∧ Oth b H1 H', ?_, ?_⟩
    · refine ⟨_, rfl, b, 8, rfl, o2.box, (by decide), (by decide), fun u H3 _ _ o3 => ⟨rfl, _, rfl, ite2 (fun _ => ?_) (fun _ => ?_)⟩⟩
      · refine ⟨_, rfl, b, 30, rfl, o3.box, (by decide), (by decide), fun t H4 t0 t1 o4 => ⟨_, _, rfl, rfl, ?_⟩⟩
        obtain ⟨t, rfl, ht⟩ := nat_of t0 t1
        exact ⟨1 + t, by omega, by omega, rfl, (o2.trans o3).trans o4⟩
      · exact ⟨1 + m, by omega, by omega, rfl, o2.trans o3⟩
    · rintro σ' H3 ⟨n, hn1, hn, rfl, O3⟩
      have S3 := S0 O3
      obtain ⟨z0, hz0⟩ : ∃ z0, zs[0]? = some z0 := ⟨zs[0]'(by omega), List.getElem?_eq_getElem (by omega)⟩
      refine ⟨_, rfl, ln, _, _, V.str z0, rfl, rfl, SqL.of (S3 _ _ hln), atI_nat (j := 0) (by rw [List.getElem?_map, hz0]; rfl), ?_⟩
      have b3 := O3.box
      refine ⟨_, rfl, _, rfl, b, lk, ks, rfl, b3, S3 _ _ hlk, fun p hp => (hka p hp).same S3, k0, k12, fun po o H4 o4 hO => ?_⟩
      have O4 := O3.trans o4
      refine ⟨_, rfl, (by show 5 ≤ sizeLine; decide), fun p0 hp0 => ?_⟩
      have s5 := Same.new (o := .tup [.str z0, .ref po, .int (-1), .str (Str.ofString ""), .int 1]) hp0
      have O5 := O4.new (o := .tup [.str z0, .ref po, .int (-1), .str (Str.ofString ""), .int 1]) hp0
      have e5 : upd H4 p0 (.tup [.str z0, .ref po, .int (-1), .str (Str.ofString ""), .int 1]) p0 = some (.tup [.str z0, .ref po, .int (-1), .str (Str.ofString ""), .int 1]) := upd_same
      generalize upd H4 p0 (.tup [.str z0, .ref po, .int (-1), .str (Str.ofString ""), .int 1]) = H5 at s5 O5 e5 ⊢
      refine ⟨(by show 1 ≤ sizeLine; decide), fun l hl => ?_⟩
      have s6 := Same.new (o := .lst [.ref p0]) hl
      have O6 := O5.new (o := .lst [.ref p0]) hl
      have e6 : upd H5 l (.lst [.ref p0]) l = some (.lst [.ref p0]) := upd_same
      have nl : l ≠ b := Box.ne O5.box hl
      have fl : H l = none := (S0 O5).free hl
      generalize upd H5 l (.lst [.ref p0]) = H6 at s6 O6 e6 ⊢
      have r0 : RwAt H6 p0 ⟨z0, o, -1, 0, 1⟩ := ⟨po, s6 _ _ e5, hO.t (.of (s5.trans s6))⟩
      have t0 : TreeOk [⟨z0, o, -1, 0, 1⟩] := by
        refine ⟨(by show 0 < 1; decide), fun r hr => ?_, fun r hr => ?_, fun i r hr hi => ?_, fun a => ?_⟩
        · rw [List.mem_singleton] at hr; subst hr; exact ⟨hw z0 (List.mem_of_getElem? hz0), (by show 1 ≤ 1; decide), (by show 1 ≤ 6; decide)⟩
        · cases hr; exact ⟨rfl, rfl⟩
        · have := (List.getElem?_eq_some_iff.mp hr).1; simp at this; omega
        · have : (([⟨z0, o, -1, 0, 1⟩] : List Rw).filter fun r => r.ab == (a : Int)).length ≤ 1 := List.length_filter_le _ _
          omega
      have sub0 : ([z0] : List Str).Sublist (zs.take 1) := by rw [show zs.take 1 = [z0] from by rw [take_snoc hz0]; rfl]; exact List.Sublist.refl _
      have fl1 : H1 l = none := O5.free hl
      refine ⟨_, rfl, 1, n, rfl, ⟨by decide, by decide, by omega, by omega⟩, for_range (n := _) (fun i σ H' => ∃ (v6 v7 v8 v9 : Option V) (qs : List Addr) (rs : List Rw), σ = [some (.int c), some (.ref ln), some (.ref lk), some (.ref b), some (.int n), some (.ref l), v6, v7, v8, v9] ∧ Oth b H1 H' ∧ H' l = some (.lst (qs.map V.ref)) ∧ A2 (RwAt H') qs rs ∧ TreeOk rs ∧ (rs.map (·.n)).Sublist (zs.take (1 + i)))
        ⟨_, _, _, _, [p0], [⟨z0, o, -1, 0, 1⟩], rfl, O6, e6, A2.one r0, t0, sub0⟩ ?_ ?_⟩
      · rintro i σ H7 hi ⟨v6, v7, v8, v9, qs, rs, rfl, O7, e7, hr7, tr, sub⟩
        have hin : 1 + i < n := by omega
        have rl : rs.length ≤ 1 + i := by
          have := sub.length_le
          rw [List.length_map, List.length_take] at this
          omega
        have rp := tr.pos
        refine ⟨_, rfl, _, rfl, _, _, rfl, .inl ⟨_, SqL.of e7, rfl⟩, b, _, rfl, O7.box, (by rw [List.length_map, hr7.1]; omega), (by show ((qs.map V.ref).length : Int) < 10000000000000000000000000000000000000000; rw [List.length_map, hr7.1]; omega), fun a H8 a0 a1 o8 => ?_⟩
        rw [List.length_map, hr7.1] at a1
        obtain ⟨a, rfl, ha⟩ := nat_of a0 a1
        have O8 := O7.trans o8
        have t8 := TpIn.oth O7.box o8
        have e8 := o8.oth _ _ e7 nl
        have hr8 : A2 (RwAt H8) qs rs := hr7.imp fun _ _ r => r.t t8
        have hql : qs.length ≤ 30 := by rw [hr7.1]; omega
        refine ⟨_, rfl, l, rfl, ⟨_, SqL.of e8⟩, comp_list (K := K) (a := l) (xs := qs.map V.ref) (fun k ys H' => ys.length = ((rs.take k).filter fun r => r.ab == (a : Int)).length ∧ H' = H8) ⟨rfl, rfl⟩ (by rw [List.length_map]; omega) ?_ ?_ ?_ ?_⟩
        · rintro k ys H' ⟨h, _⟩
          have := List.length_filter_le (fun r : Rw => r.ab == (a : Int)) (rs.take k)
          rw [List.length_take] at this
          omega
        · rintro k ys H' _ ⟨_, rfl⟩
          exact SqL.of e8
        · rintro k v ys H' hv ⟨hy, rfl⟩
          rw [List.getElem?_map] at hv
          obtain ⟨p, hp, rfl⟩ := Option.map_eq_some_iff.mp hv
          obtain ⟨r, hr, po', hp', _⟩ := hr8.at hp
          refine ⟨_, rfl, p, _, _, _, rfl, rfl, SqT.of hp', rfl, _, rfl, rfl, _, rfl, ?_⟩
          rw [take_snoc hr, List.filter_append, List.length_append]
          refine ite2 (fun e => ?_) (fun e => ?_)
          · have e : r.ab = a := V.int.inj (of_decide_eq_true e)
            refine ⟨_, rfl, ?_, rfl⟩
            rw [List.length_append, hy, List.filter_cons, if_pos (by rw [beq_iff_eq]; exact e)]
            rfl
          · have e : r.ab ≠ a := fun z => e (decide_eq_true (by rw [z]))
            refine ⟨?_, rfl⟩
            rw [hy, List.filter_cons, if_neg (by rw [beq_iff_eq]; exact e)]
            rfl
        · rintro ys H' ⟨hy, rfl⟩ l2 hl2
          rw [List.length_map, hr8.1, List.take_length] at hy
          have s9 := Same.new (o := .lst ys) hl2
          have O9 := O8.new (o := .lst ys) hl2
          have e9 : upd H' l2 (.lst ys) l2 = some (.lst ys) := upd_same
          generalize upd H' l2 (.lst ys) = H9 at s9 O9 e9 ⊢
          have el9 := s9 _ _ e8
          have hr9 : A2 (RwAt H9) qs rs := hr8.imp fun _ _ r => r.t (.of s9)
          have subs : (rs.map (·.n)).Sublist (zs.take (1 + (i + 1))) := sub.trans (by rw [show 1 + (i + 1) = (1 + i) + 1 from rfl]; exact (List.take_sublist_take_left (Nat.le_succ _)))
          obtain ⟨qa, hqa⟩ : ∃ qa, qs[a]? = some qa := ⟨qs[a]'(by rw [hr7.1]; exact ha), List.getElem?_eq_getElem _⟩
          obtain ⟨ra, hra, poa, hpa, hOa⟩ := hr9.at hqa
          have ata : atI (qs.map V.ref) (a : Int) = some (.ref qa) := atI_nat (by rw [List.getElem?_map, hqa]; rfl)
          refine ⟨_, _, rfl, .inl ⟨_, SqL.of e9, rfl⟩, ?_⟩
          refine ⟨_, rfl, _, _, rfl, rfl, _, rfl, ite2 (fun h6 => ?_) (fun _ => iteF ⟨_, _, _, _, qs, rs, rfl, O9, el9, hr9, tr, subs⟩)⟩
          have h6 : ((ys.length : Nat) : Int) < 6 := of_decide_eq_true h6
          refine ⟨_, rfl, _, rfl, l, _, _, _, rfl, rfl, SqL.of el9, ata, qa, _, _, _, rfl, rfl, SqT.of hpa, rfl, _, _, rfl, rfl, _, rfl, ite2 (fun hd => ?_) (fun _ => ⟨_, _, _, _, qs, rs, rfl, O9, el9, hr9, tr, subs⟩)⟩
          have hd : (ra.dp : Int) < 6 := of_decide_eq_true hd
          refine ⟨(by show 4 ≤ sizeLine; decide), fun lj hlj => ?_⟩
          have s10 := Same.new (o := .lst [.str (Str.ofString "called"), .str (Str.ofString "beside"), .str (Str.ofString "joined"), .str (Str.ofString "changed")]) hlj
          have O10 := O9.new (o := .lst [.str (Str.ofString "called"), .str (Str.ofString "beside"), .str (Str.ofString "joined"), .str (Str.ofString "changed")]) hlj
          have e10 : upd H9 lj (.lst [.str (Str.ofString "called"), .str (Str.ofString "beside"), .str (Str.ofString "joined"), .str (Str.ofString "changed")]) lj = some (.lst [.str (nm 0), .str (nm 1), .str (nm 2), .str (nm 3)]) := upd_same
          have nlj : lj ≠ b := Box.ne O9.box hlj
          generalize upd H9 lj (.lst [.str (Str.ofString "called"), .str (Str.ofString "beside"), .str (Str.ofString "joined"), .str (Str.ofString "changed")]) = H10 at s10 O10 e10 ⊢
          refine ⟨(by show 6 ≤ sizeLine; decide), fun lx hlx => ?_⟩
          have s11 := Same.new (o := .lst [.int 0, .int 1, .int 2, .int 3, .int 3, .int 2]) hlx
          have O11 := O10.new (o := .lst [.int 0, .int 1, .int 2, .int 3, .int 3, .int 2]) hlx
          have e11 : upd H10 lx (.lst [.int 0, .int 1, .int 2, .int 3, .int 3, .int 2]) lx = some (.lst [.int 0, .int 1, .int 2, .int 3, .int 3, .int 2]) := upd_same
          have nlx : lx ≠ b := Box.ne O10.box hlx
          generalize upd H10 lx (.lst [.int 0, .int 1, .int 2, .int 3, .int 3, .int 2]) = H11 at s11 O11 e11 ⊢
          refine ⟨_, rfl, b, 6, rfl, O11.box, (by decide), (by decide), fun r H12 r0 r6 o12 => ?_⟩
          have O12 := O11.trans o12
          obtain ⟨v, ev, mv⟩ := atI_ex (xs := ([.int 0, .int 1, .int 2, .int 3, .int 3, .int 2] : List V)) r0 r6
          obtain ⟨j, hj4, rfl⟩ : ∃ j : Nat, j < 4 ∧ v = V.int j := by
            simp only [List.mem_cons, List.not_mem_nil, or_false] at mv
            rcases mv with rfl | rfl | rfl | rfl | rfl | rfl
            · exact ⟨0, by decide, rfl⟩
            · exact ⟨1, by decide, rfl⟩
            · exact ⟨2, by decide, rfl⟩
            · exact ⟨3, by decide, rfl⟩
            · exact ⟨3, by decide, rfl⟩
            · exact ⟨2, by decide, rfl⟩
          have atj : atI ([.str (nm 0), .str (nm 1), .str (nm 2), .str (nm 3)] : List V) (j : Int) = some (.str (nm j)) := by rcases j4 hj4 with rfl | rfl | rfl | rfl <;> rfl
          have t12 : TpIn H9 H12 := fun x ob e k => TpIn.oth O11.box o12 _ _ (s11 _ _ (s10 _ _ e)) k
          have e12 := o12.oth _ _ (s11 _ _ e10) nlj
          have el12 := o12.oth _ _ (s11 _ _ (s10 _ _ el9)) nl
          refine ⟨lx, _, _, V.int j, rfl, rfl, SqL.of (o12.oth _ _ e11 nlx), ev, lj, _, _, V.str (nm j), rfl, rfl, SqL.of e12, atj, ?_⟩
          obtain ⟨zk, hzk⟩ : ∃ zk, zs[1 + i]? = some zk := ⟨zs[1 + i]'(by omega), List.getElem?_eq_getElem (by omega)⟩
          have S12 := S0 O12
          refine ⟨_, rfl, .inl ⟨rfl, _, SqL.of el12⟩, _, rfl, _, rfl, ln, _, _, V.str zk, rfl, rfl, SqL.of (S12 _ _ hln), (by rw [show (1 : Int) + (i : Int) = ((1 + i : Nat) : Int) by omega]; exact atI_nat (by rw [List.getElem?_map, hzk]; rfl)), ?_⟩
          refine ⟨_, rfl, _, rfl, b, lk, ks, rfl, O12.box, S12 _ _ hlk, fun p hp => (hka p hp).same S12, k0, k12, fun po2 oo H13 o13 hO13 => ?_⟩
          have O13 := O12.trans o13
          have t13 := TpIn.oth O12.box o13
          have el13 := o13.oth _ _ el12 nl
          have hpa13 := t13.tup (t12.tup hpa)
          refine ⟨_, rfl, _, rfl, _, rfl, _, rfl, l, _, _, _, rfl, rfl, SqL.of el13, ata, qa, _, _, _, rfl, rfl, SqT.of hpa13, rfl, _, _, rfl, rfl, (by show 5 ≤ sizeLine; decide), fun pn hpn => ?_⟩
          have s14 := Same.new (o := .tup [.str zk, .ref po2, .int a, .str (nm j), .int ((ra.dp : Int) + 1)]) hpn
          have O14 := O13.new (o := .tup [.str zk, .ref po2, .int a, .str (nm j), .int ((ra.dp : Int) + 1)]) hpn
          have e14 : upd H13 pn (.tup [.str zk, .ref po2, .int a, .str (nm j), .int ((ra.dp : Int) + 1)]) pn = some (.tup [.str zk, .ref po2, .int a, .str (nm j), .int ((ra.dp : Int) + 1)]) := upd_same
          generalize upd H13 pn (.tup [.str zk, .ref po2, .int a, .str (nm j), .int ((ra.dp : Int) + 1)]) = H14 at s14 O14 e14 ⊢
          have el14 := s14 _ _ el13
          refine ⟨l, _, _, rfl, rfl, el14, (by rw [List.length_map]; omega), ?_⟩
          have tu := TpIn.upd (o := .lst (qs.map V.ref ++ [.ref pn])) el14
          have t14 : TpIn H9 (upd H14 l (.lst (qs.map V.ref ++ [.ref pn]))) := fun x ob e k => tu _ _ (s14 _ _ (t13 _ _ (t12 _ _ e k) k)) k
          have rnew : RwAt (upd H14 l (.lst (qs.map V.ref ++ [.ref pn]))) pn ⟨zk, oo, a, j, ra.dp + 1⟩ := by
            refine ⟨po2, ?_, (hO13.t (.of s14)).t tu⟩
            have : (⟨zk, oo, a, j, ra.dp + 1⟩ : Rw).js = nm j := by unfold Rw.js; rw [if_neg (by show ¬ (a : Int) < 0; omega)]
            rw [this]
            exact tu.tup e14
          refine ⟨_, _, _, _, qs ++ [pn], rs ++ [⟨zk, oo, a, j, ra.dp + 1⟩], rfl, ⟨?_, fun x ob e nx => ?_⟩, by rw [upd_same, List.map_append]; rfl, (hr9.imp fun _ _ r => r.t t14).app (A2.one rnew), tr.snoc (hw zk (List.mem_of_getElem? hzk)) hra (by omega) rfl rfl hj4 (by omega), ?_⟩
          · obtain ⟨x5, y5, z5, hb5⟩ := O14.box
            exact ⟨x5, y5, z5, by rw [upd_ne nl.symm]; exact hb5⟩
          · rw [upd_ne (ne_of_none e fl1)]
            exact O14.oth _ _ e nx
          · rw [List.map_append, show 1 + (i + 1) = (1 + i) + 1 from rfl, take_snoc hzk]
            exact sub.append (List.Sublist.refl _)
      · rintro σ H7 ⟨v6, v7, v8, v9, qs, rs, rfl, O7, e7, hr7, tr, sub⟩
        have ndr : (rs.map (·.n)).Nodup := sub.nodup (hnd.sublist (List.take_sublist _ _))
        have rl : rs.length ≤ 30 := by
          have := sub.length_le
          rw [List.length_map, List.length_take] at this
          omega
        exact ⟨_, rfl, q l qs rs H7 (S0 O7) fl e7 hr7 tr rl ndr (sub.trans (List.take_sublist_take_left (by omega)))⟩
end
end K33
namespace K33
open PySem L2 PyProof.Rows PySem.SeqAt
def rw0 : Rw := ⟨Str.ofString "", [], 0, 0, 0⟩
def rwA (rs : List Rw) (i : Nat) : Rw := rs.getD i rw0
theorem rwA_of {rs : List Rw} {i : Nat} {r : Rw} (h : rs[i]? = some r) : rwA rs i = r := by
  unfold rwA
  rw [List.getD_eq_getElem?_getD, h]
  rfl
theorem rwA_at {rs : List Rw} {i : Nat} (h : i < rs.length) : rs[i]? = some (rwA rs i) := by
  rw [rwA_of (List.getElem?_eq_getElem h), List.getElem?_eq_getElem h]
def isKid (rs : List Rw) (k i : Nat) : Bool := (rwA rs i).ab == (k : Int)
def kidsTo (rs : List Rw) (k m : Nat) : List Nat := (List.range m).filter (isKid rs k)
def kids (rs : List Rw) (k : Nat) : List Nat := kidsTo rs k rs.length
theorem kidsTo_succ (rs : List Rw) (k m : Nat) : kidsTo rs k (m + 1) = kidsTo rs k m ++ (if isKid rs k m = true then [m] else []) := by
  unfold kidsTo
  rw [List.range_succ, List.filter_append]
  congr 1
  rw [List.filter_cons]
  split <;> rfl
theorem mem_kids {rs : List Rw} {k i : Nat} : i ∈ kids rs k ↔ i < rs.length ∧ (rwA rs i).ab = k := by
  unfold kids kidsTo isKid
  rw [List.mem_filter, List.mem_range, beq_iff_eq]
theorem kids_nodup (rs : List Rw) (k : Nat) : (kids rs k).Nodup := List.Pairwise.filter _ List.nodup_range
def foL (rs : List Rw) (g : Nat → Fo) : List Nat → Fo
  | [] => .nil
  | i :: is => .cons (rwA rs i).j (rwA rs i).n (rwA rs i).o (g i) (foL rs g is)
def fo (rs : List Rw) : Nat → Nat → Fo
  | 0, _ => .nil
  | f + 1, k => foL rs (fo rs f) (kids rs k)
def nodeF (rs : List Rw) (f k : Nat) : Nd := ⟨(rwA rs k).n, (rwA rs k).o, fo rs f k⟩
theorem foL_items (rs : List Rw) (f : Nat) : ∀ is : List Nat, (foL rs (fo rs f) is).items = is.map fun i => ((rwA rs i).j, nodeF rs f i)
  | [] => rfl
  | i :: is => by rw [foL, Fo.items, foL_items rs f is]; rfl
theorem foL_walk (rs : List Rw) (f : Nat) (is : List Nat) : walkF (foL rs (fo rs f) is) = (is.map fun i => wStep ((rwA rs i).j, nodeF rs f i)).flatten := by
  rw [walkF_items, foL_items, List.map_map]
  rfl
def ordI (rs : List Rw) : Nat → Nat → List Nat
  | 0, k => [k]
  | f + 1, k => k :: ((kids rs k).map (ordI rs f)).flatten
theorem walk_ord (rs : List Rw) : ∀ (f k : Nat), (walkP (nodeF rs f k)).map (fun y => y.2.n) = (ordI rs f k).map fun i => (rwA rs i).n
  | 0, k => rfl
  | f + 1, k => by
    have h : ∀ is : List Nat, ((is.map fun i => wStep ((rwA rs i).j, nodeF rs f i)).flatten).map (fun y => y.2.n) = ((is.map (ordI rs f)).flatten).map fun i => (rwA rs i).n := by
      intro is
      induction is with
      | nil => rfl
      | cons i is ih =>
        rw [List.map_cons, List.flatten_cons, List.map_append, ih, List.map_cons, List.flatten_cons, List.map_append, ← walk_ord rs f i]
        congr 1
        unfold wStep
        rw [List.map_map]
        rfl
    show ((nodeF rs (f + 1) k).n :: (walkF (foL rs (fo rs f) (kids rs k))).map (fun y => y.2.n)) = (rwA rs k).n :: _
    rw [foL_walk, h]
    rfl
theorem fo_ht (rs : List Rw) : ∀ (f k : Nat), (fo rs f k).ht ≤ f
  | 0, k => Nat.le_refl _
  | f + 1, k => by
    have h : ∀ is : List Nat, (foL rs (fo rs f) is).ht ≤ f + 1 := by
      intro is
      induction is with
      | nil => exact Nat.zero_le _
      | cons i is ih =>
        rw [foL, Fo.ht]
        have := fo_ht rs f i
        omega
    exact h _
def upI (rs : List Rw) (i : Nat) : Nat := (rwA rs i).ab.toNat
def upN (rs : List Rw) : Nat → Nat → Nat
  | 0, i => i
  | m + 1, i => upI rs (upN rs m i)
section
variable {rs : List Rw}
theorem TreeOk.kid (h : TreeOk rs) {k i : Nat} (hi : i ∈ kids rs k) : i < rs.length ∧ k < i ∧ (rwA rs i).dp = (rwA rs k).dp + 1 ∧ (rwA rs i).j < 4 ∧ upI rs i = k := by
  obtain ⟨h1, h2⟩ := mem_kids.mp hi
  have e := rwA_at h1
  have i0 : 0 < i := by
    cases i with
    | zero => have := (h.root _ e).1; rw [h2] at this; omega
    | succ i => omega
  obtain ⟨g1, a, ra, g2, g3, g4, g5⟩ := h.up i _ e i0
  rw [h2] at g2
  have : a = k := by omega
  subst this
  refine ⟨h1, g3, by rw [g5, rwA_of g4], g1, ?_⟩
  unfold upI
  rw [h2]
  rfl
theorem TreeOk.desc (h : TreeOk rs) : ∀ {f k i : Nat}, i ∈ ordI rs f k → ∃ m, upN rs m i = k ∧ (rwA rs i).dp = (rwA rs k).dp + m ∧ (i = k ∨ (i < rs.length ∧ 0 < m))
  | 0, k, i, hi => by
    rw [ordI, List.mem_singleton] at hi
    subst hi
    exact ⟨0, rfl, rfl, .inl rfl⟩
  | f + 1, k, i, hi => by
    rw [ordI, List.mem_cons] at hi
    rcases hi with rfl | hi
    · exact ⟨0, rfl, rfl, .inl rfl⟩
    · obtain ⟨l, hl, hi⟩ := List.mem_flatten.mp hi
      obtain ⟨c, hc, rfl⟩ := List.mem_map.mp hl
      obtain ⟨c1, c2, c3, c4, c5⟩ := h.kid hc
      obtain ⟨m, m1, m2, m3⟩ := TreeOk.desc h hi
      refine ⟨m + 1, by show upI rs (upN rs m i) = k; rw [m1, c5], by omega, .inr ⟨?_, by omega⟩⟩
      rcases m3 with rfl | m3
      · exact c1
      · exact m3.1
theorem nodup_fl {g : Nat → List Nat} : ∀ {is : List Nat}, is.Nodup → (∀ i ∈ is, (g i).Nodup) → (∀ i ∈ is, ∀ j ∈ is, i ≠ j → ∀ x, x ∈ g i → x ∉ g j) → ((is.map g).flatten).Nodup
  | [], _, _, _ => List.nodup_nil
  | i :: is, h1, h2, h3 => by
    rw [List.map_cons, List.flatten_cons, List.nodup_append]
    obtain ⟨n1, n2⟩ := List.nodup_cons.mp h1
    refine ⟨h2 i List.mem_cons_self, nodup_fl n2 (fun j hj => h2 j (List.mem_cons_of_mem _ hj)) (fun a ha b hb => h3 a (List.mem_cons_of_mem _ ha) b (List.mem_cons_of_mem _ hb)), fun x hx y hy e => ?_⟩
    subst e
    obtain ⟨l, hl, hy⟩ := List.mem_flatten.mp hy
    obtain ⟨j, hj, rfl⟩ := List.mem_map.mp hl
    exact h3 i List.mem_cons_self j (List.mem_cons_of_mem _ hj) (fun e => n1 (by rw [e]; exact hj)) x hx hy
theorem TreeOk.ordI_nodup (h : TreeOk rs) : ∀ (f k : Nat), (ordI rs f k).Nodup
  | 0, k => by rw [ordI]; simp
  | f + 1, k => by
    rw [ordI, List.nodup_cons]
    refine ⟨fun hk => ?_, nodup_fl (kids_nodup rs k) (fun i _ => TreeOk.ordI_nodup h f i) (fun i hi j hj ne x hx hx' => ?_)⟩
    · obtain ⟨l, hl, hi⟩ := List.mem_flatten.mp hk
      obtain ⟨c, hc, rfl⟩ := List.mem_map.mp hl
      obtain ⟨c1, c2, c3, c4, c5⟩ := h.kid hc
      obtain ⟨m, m1, m2, m3⟩ := h.desc hi
      omega
    · obtain ⟨c1, c2, c3, c4, c5⟩ := h.kid hi
      obtain ⟨d1, d2, d3, d4, d5⟩ := h.kid hj
      obtain ⟨m, m1, m2, m3⟩ := h.desc hx
      obtain ⟨m', m1', m2', m3'⟩ := h.desc hx'
      have : m = m' := by omega
      subst this
      exact ne (by rw [← m1, ← m1'])
theorem TreeOk.ordI_lt (h : TreeOk rs) {f k i : Nat} (hk : k < rs.length) (hi : i ∈ ordI rs f k) : i < rs.length := by
  obtain ⟨m, _, _, m3⟩ := h.desc hi
  rcases m3 with rfl | m3
  · exact hk
  · exact m3.1
end
theorem nodup_len : ∀ {n : Nat} {l : List Nat}, l.Nodup → (∀ i ∈ l, i < n) → l.length ≤ n := by
  intro n
  induction n with
  | zero =>
    intro l _ h2
    cases l with
    | nil => exact Nat.le_refl _
    | cons x l => have := h2 x List.mem_cons_self; omega
  | succ n ih =>
    intro l h1 h2
    by_cases hm : n ∈ l
    · have e := List.length_erase_of_mem hm
      have := ih (h1.erase n) fun i hi => by
        obtain ⟨g1, g2⟩ := h1.mem_erase_iff.mp hi
        have := h2 i g2
        omega
      omega
    · have := ih h1 fun i hi => by
        have := h2 i hi
        have : i ≠ n := fun e => hm (by rw [← e]; exact hi)
        omega
      omega
section
variable {rs : List Rw}
theorem rwA_mem {i : Nat} (h : i < rs.length) : rwA rs i ∈ rs := List.mem_of_getElem? (rwA_at h)
theorem name_inj (nd : (rs.map (·.n)).Nodup) {i j : Nat} (hi : i < rs.length) (hj : j < rs.length) (e : (rwA rs i).n = (rwA rs j).n) : i = j := by
  have a : (rs.map (·.n))[i]? = some (rwA rs i).n := by rw [List.getElem?_map, rwA_at hi]; rfl
  have b : (rs.map (·.n))[j]? = some (rwA rs i).n := by rw [List.getElem?_map, rwA_at hj, e]; rfl
  obtain ⟨li, ai⟩ := List.getElem?_eq_some_iff.mp a
  obtain ⟨lj, bj⟩ := List.getElem?_eq_some_iff.mp b
  by_cases h : i < j
  · exact absurd (ai.trans bj.symm) ((List.pairwise_iff_getElem.mp nd) i j li lj h)
  · by_cases h2 : j < i
    · exact absurd (bj.trans ai.symm) ((List.pairwise_iff_getElem.mp nd) j i lj li h2)
    · omega
theorem TreeOk.nodup_names (h : TreeOk rs) (nd : (rs.map (·.n)).Nodup) {f k : Nat} (hk : k < rs.length) : (names (nodeF rs f k)).Nodup := by
  unfold names
  rw [walk_ord, List.Nodup, List.pairwise_map]
  have hn := h.ordI_nodup f k
  refine List.Pairwise.imp_of_mem ?_ hn
  intro a b ha hb ne e
  exact ne (name_inj nd (h.ordI_lt hk ha) (h.ordI_lt hk hb) e)
theorem TreeOk.bd (h : TreeOk rs) (l30 : rs.length ≤ 30) (nd : (rs.map (·.n)).Nodup) {f k : Nat} (hk : k < rs.length) (hf : f ≤ 5) : Bd (nodeF rs f k) := by
  refine ⟨h.nodup_names nd hk, ?_, ?_⟩
  · have e : (walkP (nodeF rs f k)).length = (ordI rs f k).length := by
      have := congrArg List.length (walk_ord rs f k)
      rwa [List.length_map, List.length_map] at this
    rw [walkP_len] at e
    have := nodup_len (h.ordI_nodup f k) fun i hi => h.ordI_lt hk hi
    omega
  · have := fo_ht rs f k
    show (fo rs f k).ht + 1 ≤ 6
    omega
theorem TreeOk.dp6 (h : TreeOk rs) {k : Nat} (hk : k < rs.length) : 1 ≤ (rwA rs k).dp ∧ (rwA rs k).dp ≤ 6 := (h.ok _ (rwA_mem hk)).2
theorem TreeOk.closed (h : TreeOk rs) : ∀ {f k a i : Nat}, (rwA rs k).dp + f = 6 → a ∈ ordI rs f k → i ∈ kids rs a → i ∈ ordI rs f k
  | 0, k, a, i, hf, ha, hi => by
    rw [ordI, List.mem_singleton] at ha
    subst ha
    obtain ⟨c1, c2, c3, c4, c5⟩ := h.kid hi
    have := (h.dp6 c1).2
    omega
  | f + 1, k, a, i, hf, ha, hi => by
    rw [ordI, List.mem_cons] at ha
    rw [ordI]
    refine List.mem_cons_of_mem _ ?_
    rcases ha with rfl | ha
    · refine List.mem_flatten.mpr ⟨_, List.mem_map.mpr ⟨i, hi, rfl⟩, ?_⟩
      cases f with
      | zero => rw [ordI]; exact List.mem_singleton.mpr rfl
      | succ f => rw [ordI]; exact List.mem_cons_self
    · obtain ⟨l, hl, ha⟩ := List.mem_flatten.mp ha
      obtain ⟨c, hc, rfl⟩ := List.mem_map.mp hl
      obtain ⟨c1, c2, c3, c4, c5⟩ := h.kid hc
      exact List.mem_flatten.mpr ⟨_, List.mem_map.mpr ⟨c, hc, rfl⟩, TreeOk.closed h (by omega) ha hi⟩
theorem TreeOk.root1 (h : TreeOk rs) : (rwA rs 0).dp = 1 := (h.root _ (rwA_at h.pos)).2
theorem TreeOk.all_in (h : TreeOk rs) : ∀ i, i < rs.length → i ∈ ordI rs 5 0 := by
  intro i
  induction i using Nat.strongRecOn with
  | ind i ih =>
    intro hi
    by_cases i0 : i = 0
    · subst i0; rw [ordI]; exact List.mem_cons_self
    · obtain ⟨_, a, ra, g2, g3, g4, g5⟩ := h.up i _ (rwA_at hi) (by omega)
      exact h.closed (by rw [h.root1]) (ih a g3 (by omega)) (mem_kids.mpr ⟨hi, g2⟩)
end
theorem stretchF : ∀ {f : Fo} {i : Nat} {y : List (Nat × Str) × Nd}, (walkF f)[i]? = some y → ∀ (k : Nat) (x : List (Nat × Str) × Nd), (walkP y.2)[k]? = some x → (walkF f)[i + k]? = some (y.1 ++ x.1, x.2)
  | .nil, i, y, h, k, x, hx => by simp [walkF] at h
  | .cons j n o ks r, i, y, h, k, x, hx => by
    have hP : walkF (.cons j n o ks r) = (walkP ⟨n, o, ks⟩).map (wUp (j, ⟨n, o, ks⟩)) ++ walkF r := rfl
    rw [hP] at h ⊢
    by_cases hi : i < ((walkP ⟨n, o, ks⟩).map (wUp (j, ⟨n, o, ks⟩))).length
    · rw [List.getElem?_append_left hi, List.getElem?_map] at h
      obtain ⟨y', hy', rfl⟩ := Option.map_eq_some_iff.mp h
      have key : (walkP ⟨n, o, ks⟩)[i + k]? = some (y'.1 ++ x.1, x.2) := by
        cases i with
        | zero =>
          cases hy'
          rw [Nat.zero_add]
          exact hx
        | succ i =>
          have := stretchF (f := ks) (i := i) (y := y') hy' k x hx
          rw [show i + 1 + k = (i + k) + 1 by omega]
          exact this
      have hl := (List.getElem?_eq_some_iff.mp key).1
      rw [List.getElem?_append_left (by rw [List.length_map]; exact hl), List.getElem?_map, key]
      rfl
    · rw [List.getElem?_append_right (by omega)] at h
      have := stretchF h k x hx
      rw [List.getElem?_append_right (by omega), ← this]
      congr 1
      omega
theorem stretch {d : Nd} {i : Nat} {y : List (Nat × Str) × Nd} (h : (walkP d)[i]? = some y) (k : Nat) (x : List (Nat × Str) × Nd) (hx : (walkP y.2)[k]? = some x) : (walkP d)[i + k]? = some (y.1 ++ x.1, x.2) := by
  cases i with
  | zero =>
    cases h
    rw [Nat.zero_add]
    exact hx
  | succ i =>
    have := stretchF (f := d.ks) (i := i) h k x hx
    rw [show i + 1 + k = (i + k) + 1 by omega]
    exact this
theorem names_at {d : Nd} {i : Nat} {y : List (Nat × Str) × Nd} (h : (walkP d)[i]? = some y) : (names d)[i]? = some y.2.n := by
  unfold names; rw [List.getElem?_map, h]; rfl
theorem names_len (d : Nd) : (names d).length = (walkP d).length := by unfold names; rw [List.length_map]
theorem stretch_names {d : Nd} {i : Nat} {y : List (Nat × Str) × Nd} (h : (walkP d)[i]? = some y) : ((names d).drop i).take (names y.2).length = names y.2 := by
  apply List.ext_getElem?
  intro k
  by_cases hk : k < (names y.2).length
  · rw [List.getElem?_take_of_lt hk, List.getElem?_drop]
    rw [names_len] at hk
    have hx : (walkP y.2)[k]? = some ((walkP y.2)[k]'hk) := List.getElem?_eq_getElem _
    rw [names_at hx, names_at (stretch h k _ hx)]
  · rw [List.getElem?_eq_none (by rw [List.length_take]; omega), List.getElem?_eq_none (by omega)]
theorem sub_nodup {d : Nd} (nd : (names d).Nodup) {i : Nat} {y : List (Nat × Str) × Nd} (h : (walkP d)[i]? = some y) : (names y.2).Nodup := by
  rw [← stretch_names h]
  exact nd.sublist ((List.take_sublist _ _).trans (List.drop_sublist _ _))
theorem rowOf_of {d : Nd} (nd : (names d).Nodup) {i : Nat} {y : List (Nat × Str) × Nd} (h : (walkP d)[i]? = some y) : RowOf d y.2.n y := by
  refine ⟨i, h, rfl, fun j y' hj hy' e => ?_⟩
  obtain ⟨li, ai⟩ := List.getElem?_eq_some_iff.mp (names_at h)
  obtain ⟨lj, aj⟩ := List.getElem?_eq_some_iff.mp (names_at hy')
  exact (List.pairwise_iff_getElem.mp nd) j i lj li hj (by rw [aj, ai, e])
theorem walk_ht : ∀ {f : Fo} {y : List (Nat × Str) × Nd}, y ∈ walkF f → y.2.ks.ht ≤ f.ht ∧ y.2.ks.size ≤ f.size
  | .nil, y, h => by cases h
  | .cons j n o ks r, y, h => by
    rw [Fo.ht, Fo.size]
    rcases List.mem_append.mp h with h | h
    · obtain ⟨z, hz, rfl⟩ := List.mem_map.mp h
      rcases List.mem_cons.mp hz with rfl | hz
      · dsimp only; omega
      · have := walk_ht hz
        dsimp only; omega
    · have := walk_ht h; omega
end K33
namespace K33
open PySem L2 PyProof.Rows PySem.SeqAt
def LR (H : Hp) (l : Addr) (rs : List Rw) : Prop := (∃ qs : List Addr, H l = some (.lst (qs.map V.ref)) ∧ A2 (RwAt H) qs rs) ∧ TreeOk rs ∧ rs.length ≤ 30 ∧ (rs.map (·.n)).Nodup
theorem LR.same {H H' : Hp} {l : Addr} {rs : List Rw} (h : LR H l rs) (s : Same H H') : LR H' l rs := by
  obtain ⟨⟨qs, h1, h2⟩, h3⟩ := h
  exact ⟨⟨qs, s _ _ h1, h2.imp fun _ _ r => r.t (.of s)⟩, h3⟩
theorem rows_map (rs : List Rw) : rs = (List.range rs.length).map (rwA rs) := by
  apply List.ext_getElem?
  intro i
  rw [List.getElem?_map]
  by_cases hi : i < rs.length
  · rw [rwA_at hi, List.getElem?_eq_getElem (by rw [List.length_range]; exact hi), List.getElem_range]; rfl
  · rw [List.getElem?_eq_none (by omega), List.getElem?_eq_none (by rw [List.length_range]; omega)]; rfl
theorem kids_len (rs : List Rw) (k : Nat) : (kids rs k).length = (rs.filter fun r => r.ab == (k : Int)).length := by
  conv => rhs; rw [rows_map rs, List.filter_map, List.length_map]
  rfl
theorem fo_items {rs : List Rw} (h : TreeOk rs) {f k : Nat} (hf : (rwA rs k).dp + f = 6) : (fo rs f k).items = (kids rs k).map fun c => ((rwA rs c).j, nodeF rs (f - 1) c) := by
  cases f with
  | zero =>
    have : kids rs k = [] := List.eq_nil_iff_forall_not_mem.mpr fun c hc => by
      obtain ⟨c1, c2, c3, _⟩ := h.kid hc
      have := (h.dp6 c1).2
      omega
    rw [this]
    rfl
  | succ f => exact foL_items rs f _
structure PMk (P : Program) (w : World) (K : PySem.W.Frag) (mg : Str → Option Value) (base : Heap) (C fP : Addr) (dP : FuncData) : Prop where
  mP : mg "Part" = some (.ref C)
  kP : Mk K C fP
  oP : FnOk P w K mg base CX0 10 fP dP psP (spPI C)
  bP : Binds K dP psP []
def spMd (C : Addr) (n : Nat) : Sp := fun vs H Q _ => ∃ (l : Addr) (rs : List Rw) (k f : Nat), vs = [.ref l, .int k] ∧ LR H l rs ∧ k < rs.length ∧ (rwA rs k).dp + f = 6 ∧ f < n ∧ ∀ (a : Addr) (H' : Hp), Same H H' → PAt C H' a (nodeF rs f k) → Q (.ref a) H'
section
variable {P : Program} {w : World} {K : PySem.W.Frag} {mg : Str → Option Value} {base : Heap} {C fP : Addr} {dP : FuncData}
abbrev s_law_made : Stmt := top 71
theorem sc_law_made : FnScope ["_law_rows", "_law_at", "_law_beneath", "_law_k", "_law_row"] ["_law_rows", "_law_at"] (defScope s_law_made) := ⟨rfl, rfl, rfl, by decide +kernel, rfl, by decide +kernel, by decide +kernel⟩
theorem fn_none' {x : Str} {st : Stmt} {ps : List Str} {sp : Sp} {j : Nat} (F : TopFn K mg x st ps) (h : ∀ vs H Q E, ¬ sp vs H Q E) : FnAt P w K mg base x j ps sp := by
  obtain ⟨f, fd, F, hm, hb⟩ := F.ex
  exact ⟨f, fd, ⟨fun vs H Q E z => absurd z (h vs H Q E), fun A outer s H args us vs Q E _ _ _ _ z => absurd z (h vs H Q E)⟩, hm, F.kp, .all hb⟩
theorem ok_md (T : Txt mg) (M : PMk P w K mg base C fP dP) (F : TopFn K mg "_law_made" s_law_made ["_law_rows", "_law_at"]) : ∀ n, FnAt P w K mg base "_law_made" (n + 11) ["_law_rows", "_law_at"] (spMd C n)
  | 0 => fn_none' F fun vs H Q E ⟨l, rs, k, f, _, _, _, _, h, _⟩ => by omega
  | n + 1 => by
    have F_made := ok_md T M F n
    refine F.at sc_law_made (fun vs H Q E h => ?_) (fun f cdv A outer s H vs Q E hr h => ?_)
    · obtain ⟨l, rs, k, f, rfl, _⟩ := h
      rfl
    · obtain ⟨l, rs, k, f, rfl, hL, hk, hf, hfn, q⟩ := h
      refine ⟨_, (pss_cons (ps_set (i := 2) sc_law_made.nd rfl (by first | exact Or.inl rfl | exact Or.inr rfl) (pe_lst pa_nil))
        (pss_cons (ps_for PassesOwn.never rfl (pi_enum rfl T.n_enumerate (pa_cons (pv 0) pa_nil)) (pg_tup rfl (pgs_cons (pg_name (i := 3) sc_law_made.nd rfl (by first | exact Or.inl rfl | exact Or.inr rfl)) (pgs_cons (pg_name (i := 4) sc_law_made.nd rfl (by first | exact Or.inl rfl | exact Or.inr rfl)) pgs_nil))) (pss_one (ps_if (pt_cmpR op_eq (pe_ix ix_tup (pv 4) pe_int (fun _ _ => rfl)) (pv 1) (nomark _)) (pss_one (ps_expr (pe_bm PySem.F.plainAttrs_list PySem.F.slot_list_append PySem.F.type_list_append mt_append (pv 2) (pa_cons (pe_tup (pa_cons (pe_ix ix_tup (pv 4) pe_int (fun _ _ => rfl)) (pa_cons (pe_fn F_made hr (Nat.le_refl _) rfl (pa_cons (pv 0) (pa_cons (pv 3) pa_nil))) pa_nil))) pa_nil)))) pss_nil)))
        (pss_one (ps_ret (pe_make M.kP M.oP (hr.mono (by omega)) rfl M.mP M.bP .nil pass0 (pa_cons (pe_ix ix_tup (pe_ix ix_list (pv 0) (pv 1) (fun _ _ => rfl)) pe_int (fun _ _ => rfl)) (pa_cons (pe_callTy call_list_of rfl T.n_list boot_list (pa_cons (pe_ix ix_tup (pe_ix ix_list (pv 0) (pv 1) (fun _ _ => rfl)) pe_int (fun _ _ => rfl)) pa_nil)) (pa_cons (pv 2) pa_nil)))))))), ?_⟩
      have hs : sizeLine = 16777216 := sizeLine_eq
      obtain ⟨⟨qs, hl, hq⟩, tr, l30, ndn⟩ := id hL
      refine ⟨(by show 0 ≤ sizeLine; decide), fun lb hlb => ?_⟩
      have s0 := Same.new (o := .lst []) hlb
      have e0 : upd H lb (.lst []) lb = some (.lst []) := upd_same
      generalize upd H lb (.lst []) = H0 at s0 e0 ⊢
      refine ⟨_, rfl, l, rfl, ⟨_, SqL.of (s0 _ _ hl)⟩, for_enum (K := K) (a := l) (xs := qs.map V.ref) (fun i σ H' => ∃ (v3 v4 : Option V) (its : List V), σ = [some (.ref l), some (.int k), some (.ref lb), v3, v4] ∧ Same H H' ∧ H' lb = some (.lst its) ∧ A2 (JPAt C H') its ((kidsTo rs k i).map fun c => ((rwA rs c).j, nodeF rs (f - 1) c)))
        ⟨_, _, [], rfl, s0, e0, A2.nil⟩ (fun i σ H' _ ⟨_, _, _, _, s', _⟩ => SqL.of (s' _ _ hl)) ?_ ?_⟩
      · rintro i v t σ H1 hv ⟨v3, v4, its, rfl, s1, e1, hit⟩ ht
        rw [List.getElem?_map] at hv
        obtain ⟨p, hp, rfl⟩ := Option.map_eq_some_iff.mp hv
        have hi : i < rs.length := by rw [← hq.1]; exact (List.getElem?_eq_some_iff.mp hp).1
        obtain ⟨po, hpr, hO⟩ := hq.2 i p _ hp (rwA_at hi)
        have il : its.length ≤ 30 := by
          rw [hit.1, List.length_map]
          have : (kidsTo rs k i).length ≤ i := by
            have := List.length_filter_le (isKid rs k) (List.range i)
            rw [List.length_range] at this
            exact this
          omega
        have s2 := Same.new (o := .tup [.int i, .ref p]) ht
        have e2 : upd H1 t (.tup [.int i, .ref p]) t = some (.tup [.int i, .ref p]) := upd_same
        generalize upd H1 t (.tup [.int i, .ref p]) = H2 at s2 e2 ⊢
        have S2 := s1.trans s2
        refine ⟨t, _, rfl, SqT.of e2, rfl, _, _, rfl, _, _, rfl, rfl, ?_⟩
        refine ⟨_, rfl, p, _, _, _, rfl, rfl, SqT.of (S2 _ _ hpr), rfl, _, rfl, rfl, _, rfl, ite2 (fun e => ?_) (fun e => ?_)⟩
        · have e : (rwA rs i).ab = k := V.int.inj (of_decide_eq_true e)
          have hik : i ∈ kids rs k := mem_kids.mpr ⟨hi, e⟩
          obtain ⟨c1, c2, c3, c4, c5⟩ := tr.kid hik
          have d6 := (tr.dp6 c1).2
          have ejs : (rwA rs i).js = nm (rwA rs i).j := by unfold Rw.js; rw [if_neg (by rw [e]; omega)]
          refine ⟨_, rfl, .inl ⟨rfl, _, SqL.of (s2 _ _ e1)⟩, _, rfl, p, _, _, _, rfl, rfl, SqT.of (S2 _ _ hpr), rfl, _, rfl, _, rfl, l, rs, i, f - 1, rfl, hL.same S2, hi, by omega, by omega, fun a H3 s3 hPa => ?_⟩
          refine ⟨(by show 2 ≤ sizeLine; decide), fun pt hpt => ?_⟩
          have s4 := Same.new (o := .tup [.str (rwA rs i).js, .ref a]) hpt
          have e4 : upd H3 pt (.tup [.str (rwA rs i).js, .ref a]) pt = some (.tup [.str (nm (rwA rs i).j), .ref a]) := by rw [upd_same, ejs]
          generalize upd H3 pt (.tup [.str (rwA rs i).js, .ref a]) = H4 at s4 e4 ⊢
          have t24 := (s2.trans s3).trans s4
          have e14 := t24 _ _ e1
          refine ⟨lb, _, _, rfl, rfl, e14, (by omega), ?_⟩
          have tu := TpIn.upd (o := .lst (its ++ [.ref pt])) e14
          refine ⟨_, _, its ++ [.ref pt], rfl, fun b o eb => ?_, upd_same, ?_⟩
          · rw [upd_ne (ne_of_none eb hlb)]
            exact t24 _ _ (s1 _ _ eb)
          · rw [kidsTo_succ, if_pos (by unfold isKid; rw [beq_iff_eq]; exact e), List.map_append]
            exact (hit.imp fun _ _ r => (r.t (.of t24)).t tu).app (A2.one ⟨pt, a, rfl, tu.tup e4, c4, (hPa.same s4).t tu⟩)
        · have e : ¬ (rwA rs i).ab = k := fun z => e (decide_eq_true (by rw [z]))
          refine ⟨_, _, its, rfl, S2, s2 _ _ e1, ?_⟩
          rw [kidsTo_succ, if_neg (by unfold isKid; rw [beq_iff_eq]; exact e), List.append_nil]
          exact hit.imp fun _ _ r => r.t (.of s2)
      · rintro σ H1 ⟨v3, v4, its, rfl, s1, e1, hit⟩
        rw [List.length_map, hq.1] at hit
        have hit : A2 (JPAt C H1) its (fo rs f k).items := by rw [fo_items tr hf]; exact hit
        obtain ⟨qk, hqk⟩ : ∃ qk, qs[k]? = some qk := ⟨qs[k]'(by rw [hq.1]; exact hk), List.getElem?_eq_getElem _⟩
        obtain ⟨po, hpr, ⟨ps, hpo, hkr, go⟩⟩ := hq.2 k qk _ hqk (rwA_at hk)
        have atk : atI (qs.map V.ref) (k : Int) = some (.ref qk) := atI_nat (by rw [List.getElem?_map, hqk]; rfl)
        have hl1 := SqL.of (K := K) (s1 _ _ hl)
        have hp1 := SqT.of (K := K) (s1 _ _ hpr)
        refine ⟨_, rfl, _, rfl, l, _, _, _, rfl, rfl, hl1, atk, qk, _, _, _, rfl, rfl, hp1, rfl, _, rfl, _, rfl, l, _, _, _, rfl, rfl, hl1, atk, qk, _, _, _, rfl, rfl, hp1, rfl, po, _, rfl, .inr (SqT.of (s1 _ _ hpo)), fun lo hlo => ?_⟩
        have s2 := Same.new (o := .lst (ps.map V.ref)) hlo
        have e2 : upd H1 lo (.lst (ps.map V.ref)) lo = some (.lst (ps.map V.ref)) := upd_same
        generalize upd H1 lo (.lst (ps.map V.ref)) = H2 at s2 e2 ⊢
        have S2 := s1.trans s2
        refine ⟨_, rfl, fun x dx fx fd fne => ?_⟩
        have f5 : f ≤ 5 := by have := (tr.dp6 hk).1; omega
        have i6 : its.length ≤ 6 := by
          rw [hit.1, fo_items tr hf, List.length_map, kids_len]
          exact tr.few k
        refine ⟨x, dx, .ref lo, .ref lb, (rwA rs k).n, (rwA rs k).o, fo rs f k, its, H2, rfl, upd_same, fx, fun b o e => by rw [upd_ne (ne_of_none e fx), upd_ne (ne_of_none e fd)]; exact e, (tr.ok _ (rwA_mem hk)).1, .inr (.inl ⟨lo, ps, rfl, e2, hkr.imp fun _ _ e => S2 _ _ e, go⟩), .inr ⟨lb, rfl, s2 _ _ e1, FAt.of (hit.imp fun _ _ r => r.t (.of s2)), i6⟩, tr.bd l30 ndn hk f5, fun H3 s3 hP => ⟨rfl, ?_⟩⟩
        exact q x H3 (S2.trans s3) hP
end
def spNe (n : Nat) : Sp := fun vs H Q _ => ∃ (l : Addr) (rs : List Rw) (k f : Nat), vs = [.ref l, .int k] ∧ LR H l rs ∧ k < rs.length ∧ (rwA rs k).dp + f = 6 ∧ f < n ∧ ∀ (t : Addr) (H' : Hp), Same H H' → RdT H' (.ref t) (toldD (nodeF rs f k)) → Q (.ref t) H'
section
variable {P : Program} {w : World} {K : PySem.W.Frag} {mg : Str → Option Value} {base : Heap}
abbrev s_law_nested : Stmt := top 70
theorem sc_law_nested : FnScope ["_law_rows", "_law_at", "_law_beneath", "_law_k", "_law_row"] ["_law_rows", "_law_at"] (defScope s_law_nested) := ⟨rfl, rfl, rfl, by decide +kernel, rfl, by decide +kernel, by decide +kernel⟩
theorem ok_ne (T : Txt mg) (F : TopFn K mg "_law_nested" s_law_nested ["_law_rows", "_law_at"]) : ∀ n, FnAt P w K mg base "_law_nested" n ["_law_rows", "_law_at"] (spNe n)
  | 0 => fn_none F fun vs H Q E ⟨l, rs, k, f, _, _, _, _, h, _⟩ => by omega
  | n + 1 => by
    have F_nested := ok_ne T F n
    refine F.at sc_law_nested (fun vs H Q E h => ?_) (fun f cdv A outer s H vs Q E hr h => ?_)
    · obtain ⟨l, rs, k, f, rfl, _⟩ := h
      rfl
    · obtain ⟨l, rs, k, f, rfl, hL, hk, hf, hfn, q⟩ := h
      refine ⟨_, (pss_cons (ps_set (i := 2) sc_law_nested.nd rfl (by first | exact Or.inl rfl | exact Or.inr rfl) (pe_lst pa_nil))
        (pss_cons (ps_for PassesOwn.never rfl (pi_enum rfl T.n_enumerate (pa_cons (pv 0) pa_nil)) (pg_tup rfl (pgs_cons (pg_name (i := 3) sc_law_nested.nd rfl (by first | exact Or.inl rfl | exact Or.inr rfl)) (pgs_cons (pg_name (i := 4) sc_law_nested.nd rfl (by first | exact Or.inl rfl | exact Or.inr rfl)) pgs_nil))) (pss_one (ps_if (pt_cmpR op_eq (pe_ix ix_tup (pv 4) pe_int (fun _ _ => rfl)) (pv 1) (nomark _)) (pss_one (ps_expr (pe_bm PySem.F.plainAttrs_list PySem.F.slot_list_append PySem.F.type_list_append mt_append (pv 2) (pa_cons (pe_tup (pa_cons (pe_ix ix_tup (pv 4) pe_int (fun _ _ => rfl)) (pa_cons (pe_fn F_nested hr (Nat.le_refl _) rfl (pa_cons (pv 0) (pa_cons (pv 3) pa_nil))) pa_nil))) pa_nil)))) pss_nil)))
        (pss_one (ps_ret (pe_tup (pa_cons (pe_ix ix_tup (pe_ix ix_list (pv 0) (pv 1) (fun _ _ => rfl)) pe_int (fun _ _ => rfl)) (pa_cons (pe_ix ix_tup (pe_ix ix_list (pv 0) (pv 1) (fun _ _ => rfl)) pe_int (fun _ _ => rfl)) (pa_cons (pe_callTy call_tuple_of rfl T.n_tuple boot_tuple (pa_cons (pv 2) pa_nil)) pa_nil)))))))), ?_⟩
      have hs : sizeLine = 16777216 := sizeLine_eq
      obtain ⟨⟨qs, hl, hq⟩, tr, l30, ndn⟩ := id hL
      refine ⟨(by show 0 ≤ sizeLine; decide), fun lb hlb => ?_⟩
      have s0 := Same.new (o := .lst []) hlb
      have e0 : upd H lb (.lst []) lb = some (.lst []) := upd_same
      generalize upd H lb (.lst []) = H0 at s0 e0 ⊢
      refine ⟨_, rfl, l, rfl, ⟨_, SqL.of (s0 _ _ hl)⟩, for_enum (K := K) (a := l) (xs := qs.map V.ref) (fun i σ H' => ∃ (v3 v4 : Option V) (its : List V), σ = [some (.ref l), some (.int k), some (.ref lb), v3, v4] ∧ Same H H' ∧ H' lb = some (.lst its) ∧ RdTs H' its ((kidsTo rs k i).map fun c => .tuple [.str (nm (rwA rs c).j), toldD (nodeF rs (f - 1) c)]))
        ⟨_, _, [], rfl, s0, e0, .nil⟩ (fun i σ H' _ ⟨_, _, _, _, s', _⟩ => SqL.of (s' _ _ hl)) ?_ ?_⟩
      · rintro i v t σ H1 hv ⟨v3, v4, its, rfl, s1, e1, hit⟩ ht
        rw [List.getElem?_map] at hv
        obtain ⟨p, hp, rfl⟩ := Option.map_eq_some_iff.mp hv
        have hi : i < rs.length := by rw [← hq.1]; exact (List.getElem?_eq_some_iff.mp hp).1
        obtain ⟨po, hpr, hO⟩ := hq.2 i p _ hp (rwA_at hi)
        have il : its.length ≤ 30 := by
          rw [rt_len hit, List.length_map]
          have : (kidsTo rs k i).length ≤ i := by
            have := List.length_filter_le (isKid rs k) (List.range i)
            rw [List.length_range] at this
            exact this
          omega
        have s2 := Same.new (o := .tup [.int i, .ref p]) ht
        have e2 : upd H1 t (.tup [.int i, .ref p]) t = some (.tup [.int i, .ref p]) := upd_same
        generalize upd H1 t (.tup [.int i, .ref p]) = H2 at s2 e2 ⊢
        have S2 := s1.trans s2
        refine ⟨t, _, rfl, SqT.of e2, rfl, _, _, rfl, _, _, rfl, rfl, ?_⟩
        refine ⟨_, rfl, p, _, _, _, rfl, rfl, SqT.of (S2 _ _ hpr), rfl, _, rfl, rfl, _, rfl, ite2 (fun e => ?_) (fun e => ?_)⟩
        · have e : (rwA rs i).ab = k := V.int.inj (of_decide_eq_true e)
          have hik : i ∈ kids rs k := mem_kids.mpr ⟨hi, e⟩
          obtain ⟨c1, c2, c3, c4, c5⟩ := tr.kid hik
          have d6 := (tr.dp6 c1).2
          have ejs : (rwA rs i).js = nm (rwA rs i).j := by unfold Rw.js; rw [if_neg (by rw [e]; omega)]
          refine ⟨_, rfl, .inl ⟨rfl, _, SqL.of (s2 _ _ e1)⟩, _, rfl, p, _, _, _, rfl, rfl, SqT.of (S2 _ _ hpr), rfl, _, rfl, _, rfl, l, rs, i, f - 1, rfl, hL.same S2, hi, by omega, by omega, fun a H3 s3 hPa => ?_⟩
          refine ⟨(by show 2 ≤ sizeLine; decide), fun pt hpt => ?_⟩
          have s4 := Same.new (o := .tup [.str (rwA rs i).js, .ref a]) hpt
          have e4 : upd H3 pt (.tup [.str (rwA rs i).js, .ref a]) pt = some (.tup [.str (nm (rwA rs i).j), .ref a]) := by rw [upd_same, ejs]
          generalize upd H3 pt (.tup [.str (rwA rs i).js, .ref a]) = H4 at s4 e4 ⊢
          have t24 := (s2.trans s3).trans s4
          have e14 := t24 _ _ e1
          refine ⟨lb, _, _, rfl, rfl, e14, (by omega), ?_⟩
          have tu := TpIn.upd (o := .lst (its ++ [.ref pt])) e14
          refine ⟨_, _, its ++ [.ref pt], rfl, fun b o eb => ?_, upd_same, ?_⟩
          · rw [upd_ne (ne_of_none eb hlb)]
            exact t24 _ _ (s1 _ _ eb)
          · rw [kidsTo_succ, if_pos (by unfold isKid; rw [beq_iff_eq]; exact e), List.map_append]
            exact rt_snoc ((hit.t (.of t24)).t tu) (.tup (tu.tup e4) (.cons (.str _) (.cons ((hPa.t (.of s4)).t tu) .nil)))
        · have e : ¬ (rwA rs i).ab = k := fun z => e (decide_eq_true (by rw [z]))
          refine ⟨_, _, its, rfl, S2, s2 _ _ e1, ?_⟩
          rw [kidsTo_succ, if_neg (by unfold isKid; rw [beq_iff_eq]; exact e), List.append_nil]
          exact hit.t (.of s2)
      · rintro σ H1 ⟨v3, v4, its, rfl, s1, e1, hit⟩
        rw [List.length_map, hq.1] at hit
        have hit : RdTs H1 its (toldF (fo rs f k)) := by
          rw [toldF_items, fo_items tr hf, List.map_map]
          exact hit
        obtain ⟨qk, hqk⟩ : ∃ qk, qs[k]? = some qk := ⟨qs[k]'(by rw [hq.1]; exact hk), List.getElem?_eq_getElem _⟩
        obtain ⟨po, hpr, ⟨ps, hpo, hkr, go⟩⟩ := hq.2 k qk _ hqk (rwA_at hk)
        have atk : atI (qs.map V.ref) (k : Int) = some (.ref qk) := atI_nat (by rw [List.getElem?_map, hqk]; rfl)
        have hl1 := SqL.of (K := K) (s1 _ _ hl)
        have hp1 := SqT.of (K := K) (s1 _ _ hpr)
        refine ⟨_, rfl, _, rfl, l, _, _, _, rfl, rfl, hl1, atk, qk, _, _, _, rfl, rfl, hp1, rfl, _, rfl, _, rfl, l, _, _, _, rfl, rfl, hl1, atk, qk, _, _, _, rfl, rfl, hp1, rfl, _, rfl, lb, _, rfl, .inl ⟨SqL.of e1, fun tp htp => ?_⟩⟩
        have s2 := Same.new (o := .tup its) htp
        have e2 : upd H1 tp (.tup its) tp = some (.tup its) := upd_same
        generalize upd H1 tp (.tup its) = H2 at s2 e2 ⊢
        refine ⟨(by show 3 ≤ sizeLine; decide), fun tt htt => ?_⟩
        have s3 := Same.new (o := .tup [.str (rwA rs k).n, .ref po, .ref tp]) htt
        have S3 := (s1.trans s2).trans s3
        exact q tt _ S3 (.tup upd_same (.cons (.str _) (.cons (.tup (S3 _ _ hpo) (rt_keys (hkr.imp fun _ _ e => S3 _ _ e))) (.cons (.tup (s3 _ _ e2) (hit.t (.of (s2.trans s3)))) .nil))))
end
end K33
namespace K33
open PySem L2 PyProof.Rows PySem.SeqAt
def wiUp (rs : List Rw) (c : Nat) (y : List (Nat × Str) × Nat) : List (Nat × Str) × Nat := (((rwA rs c).j, (rwA rs c).n) :: y.1, y.2)
def walkI (rs : List Rw) : Nat → Nat → List (List (Nat × Str) × Nat)
  | 0, k => [([], k)]
  | f + 1, k => ([], k) :: ((kids rs k).map fun c => (walkI rs f c).map (wiUp rs c)).flatten
def ndI (rs : List Rw) (i : Nat) : Nd := nodeF rs (6 - (rwA rs i).dp) i
section
variable {rs : List Rw}
theorem walkI_ord (rs : List Rw) : ∀ f k : Nat, (walkI rs f k).map (·.2) = ordI rs f k
  | 0, k => rfl
  | f + 1, k => by
    show k :: (((kids rs k).map fun c => (walkI rs f c).map (wiUp rs c)).flatten).map (·.2) = k :: ((kids rs k).map (ordI rs f)).flatten
    congr 1
    rw [List.map_flatten, List.map_map]
    congr 1
    apply List.map_congr_left
    intro c _
    show ((walkI rs f c).map (wiUp rs c)).map (·.2) = ordI rs f c
    rw [List.map_map, ← walkI_ord rs f c]
    rfl
theorem TreeOk.walk (h : TreeOk rs) : ∀ {f k : Nat}, (rwA rs k).dp + f = 6 → walkP (nodeF rs f k) = (walkI rs f k).map fun y => (y.1, ndI rs y.2)
  | 0, k, hf => by
    show [([], nodeF rs 0 k)] = [([], ndI rs k)]
    unfold ndI
    rw [show 6 - (rwA rs k).dp = 0 by omega]
  | f + 1, k, hf => by
    have e0 : ndI rs k = nodeF rs (f + 1) k := by unfold ndI; rw [show 6 - (rwA rs k).dp = f + 1 by omega]
    show ([], nodeF rs (f + 1) k) :: walkF (foL rs (fo rs f) (kids rs k)) = ([], ndI rs k) :: (((kids rs k).map fun c => (walkI rs f c).map (wiUp rs c)).flatten).map fun y => (y.1, ndI rs y.2)
    rw [e0, foL_walk, List.map_flatten, List.map_map]
    congr 2
    apply List.map_congr_left
    intro c hc
    obtain ⟨c1, c2, c3, c4, c5⟩ := h.kid hc
    show (walkP (nodeF rs f c)).map (wUp ((rwA rs c).j, nodeF rs f c)) = ((walkI rs f c).map (wiUp rs c)).map fun y => (y.1, ndI rs y.2)
    rw [TreeOk.walk h (show (rwA rs c).dp + f = 6 by omega), List.map_map, List.map_map]
    rfl
theorem TreeOk.wdesc (h : TreeOk rs) {f k : Nat} {y : List (Nat × Str) × Nat} (hy : y ∈ walkI rs f k) : ∃ m, upN rs m y.2 = k ∧ (rwA rs y.2).dp = (rwA rs k).dp + m ∧ (y.2 = k ∨ (y.2 < rs.length ∧ 0 < m)) := h.desc (by rw [← walkI_ord]; exact List.mem_map.mpr ⟨y, hy, rfl⟩)
theorem TreeOk.wroot (h : TreeOk rs) {f k : Nat} {y : List (Nat × Str) × Nat} (hy : y ∈ walkI rs f k) (e : y.2 = k) : y.1 = [] := by
  cases f with
  | zero => rw [walkI, List.mem_singleton] at hy; subst hy; rfl
  | succ f =>
    rw [walkI, List.mem_cons] at hy
    rcases hy with rfl | hy
    · rfl
    · obtain ⟨l, hl, hy⟩ := List.mem_flatten.mp hy
      obtain ⟨c, hc, rfl⟩ := List.mem_map.mp hl
      obtain ⟨z, hz, rfl⟩ := List.mem_map.mp hy
      obtain ⟨c1, c2, c3, c4, c5⟩ := h.kid hc
      obtain ⟨m, m1, m2, _⟩ := h.wdesc hz
      have e : z.2 = k := e
      rw [e] at m2
      omega
theorem walkI_head (rs : List Rw) (f k : Nat) : ([], k) ∈ walkI rs f k := by
  cases f with
  | zero => rw [walkI]; exact List.mem_singleton.mpr rfl
  | succ f => rw [walkI]; exact List.mem_cons_self
theorem TreeOk.wup (h : TreeOk rs) : ∀ {f k : Nat} {y : List (Nat × Str) × Nat}, y ∈ walkI rs f k → y.2 ≠ k → ∃ rd p, y.1 = rd ++ [((rwA rs y.2).j, (rwA rs y.2).n)] ∧ (rd, p) ∈ walkI rs f k ∧ (rwA rs y.2).ab = (p : Int) ∧ (rwA rs y.2).dp = (rwA rs p).dp + 1 ∧ y.2 < rs.length
  | 0, k, y, hy, ne => by
    rw [walkI, List.mem_singleton] at hy
    subst hy
    exact absurd rfl ne
  | f + 1, k, y, hy, ne => by
    rw [walkI, List.mem_cons] at hy
    rcases hy with rfl | hy
    · exact absurd rfl ne
    · obtain ⟨l, hl, hy⟩ := List.mem_flatten.mp hy
      obtain ⟨c, hc, rfl⟩ := List.mem_map.mp hl
      obtain ⟨z, hz, rfl⟩ := List.mem_map.mp hy
      obtain ⟨c1, c2, c3, c4, c5⟩ := h.kid hc
      by_cases e : z.2 = c
      · have e0 := h.wroot hz e
        refine ⟨[], k, ?_, walkI_head _ _ _, ?_, ?_, ?_⟩
        · show ((rwA rs c).j, (rwA rs c).n) :: z.1 = [] ++ [((rwA rs z.2).j, (rwA rs z.2).n)]
          rw [e0, e]
          rfl
        · show (rwA rs z.2).ab = k
          rw [e]; exact (mem_kids.mp hc).2
        · show (rwA rs z.2).dp = _
          rw [e]; exact c3
        · show z.2 < _
          rw [e]; exact c1
      · obtain ⟨rd, p, r1, r2, r3, r4, r5⟩ := TreeOk.wup h hz e
        refine ⟨((rwA rs c).j, (rwA rs c).n) :: rd, p, ?_, ?_, r3, r4, r5⟩
        · show ((rwA rs c).j, (rwA rs c).n) :: z.1 = _
          rw [r1]
          rfl
        · rw [walkI]
          exact List.mem_cons_of_mem _ (List.mem_flatten.mpr ⟨_, List.mem_map.mpr ⟨c, hc, rfl⟩, List.mem_map.mpr ⟨(rd, p), r2, rfl⟩⟩)
theorem flat_le {g : Nat → List Nat} {b : Nat} : ∀ {is : List Nat}, (∀ i ∈ is, (g i).length ≤ b) → ((is.map g).flatten).length ≤ is.length * b
  | [], _ => by simp
  | i :: is, h => by
    rw [List.map_cons, List.flatten_cons, List.length_append, List.length_cons, Nat.add_mul, Nat.one_mul]
    have := h i List.mem_cons_self
    have := flat_le (b := b) (g := g) fun j hj => h j (List.mem_cons_of_mem i hj)
    omega
theorem ordI_eq (h : TreeOk rs) {f k : Nat} (hf : (rwA rs k).dp + f = 6) : ordI rs f k = k :: ((kids rs k).map (ordI rs (f - 1))).flatten := by
  cases f with
  | zero =>
    have : kids rs k = [] := List.eq_nil_iff_forall_not_mem.mpr fun c hc => by
      obtain ⟨c1, c2, c3, _⟩ := h.kid hc
      have := (h.dp6 c1).2
      omega
    rw [this]
    rfl
  | succ f => rfl
end
abbrev intsV (is : List Nat) : List V := is.map fun i => V.int (i : Nat)
def spOr (n : Nat) : Sp := fun vs H Q _ => ∃ (l : Addr) (rs : List Rw) (k f : Nat), vs = [.ref l, .int k] ∧ LR H l rs ∧ k < rs.length ∧ (rwA rs k).dp + f = 6 ∧ f < n ∧ ∀ (o : Addr) (H' : Hp), Same H H' → H o = none → H' o = some (.lst (intsV (ordI rs f k))) → Q (.ref o) H'
section
variable {P : Program} {w : World} {K : PySem.W.Frag} {mg : Str → Option Value} {base : Heap}
abbrev s_law_order : Stmt := top 72
theorem sc_law_order : FnScope ["_law_rows", "_law_at", "_law_found", "_law_k", "_law_row"] ["_law_rows", "_law_at"] (defScope s_law_order) := ⟨rfl, rfl, rfl, by decide +kernel, rfl, by decide +kernel, by decide +kernel⟩
theorem ok_or (T : Txt mg) (F : TopFn K mg "_law_order" s_law_order ["_law_rows", "_law_at"]) : ∀ n, FnAt P w K mg base "_law_order" n ["_law_rows", "_law_at"] (spOr n)
  | 0 => fn_none F fun vs H Q E ⟨l, rs, k, f, _, _, _, _, h, _⟩ => by omega
  | n + 1 => by
    have F_order := ok_or T F n
    refine F.at sc_law_order (fun vs H Q E h => ?_) (fun f cdv A outer s H vs Q E hr h => ?_)
    · obtain ⟨l, rs, k, f, rfl, _⟩ := h
      rfl
    · obtain ⟨l, rs, k, f, rfl, hL, hk, hf, hfn, q⟩ := h
      refine ⟨_, (pss_cons (ps_set (i := 2) sc_law_order.nd rfl (by first | exact Or.inl rfl | exact Or.inr rfl) (pe_lst (pa_cons (pv 1) pa_nil)))
        (pss_cons (ps_for PassesOwn.never rfl (pi_enum rfl T.n_enumerate (pa_cons (pv 0) pa_nil)) (pg_tup rfl (pgs_cons (pg_name (i := 3) sc_law_order.nd rfl (by first | exact Or.inl rfl | exact Or.inr rfl)) (pgs_cons (pg_name (i := 4) sc_law_order.nd rfl (by first | exact Or.inl rfl | exact Or.inr rfl)) pgs_nil))) (pss_one (ps_if (pt_cmpR op_eq (pe_ix ix_tup (pv 4) pe_int (fun _ _ => rfl)) (pv 1) (nomark _)) (pss_one (ps_expr (pe_bm PySem.F.plainAttrs_list PySem.F.slot_list_extend PySem.F.type_list_extend mt_extend (pv 2) (pa_cons (pe_fn F_order hr (Nat.le_refl _) rfl (pa_cons (pv 0) (pa_cons (pv 3) pa_nil))) pa_nil)))) pss_nil)))
        (pss_one (ps_ret (pv 2))))), ?_⟩
      have hs : sizeLine = 16777216 := sizeLine_eq
      obtain ⟨⟨qs, hl, hq⟩, tr, l30, ndn⟩ := id hL
      refine ⟨_, rfl, (by show 1 ≤ sizeLine; decide), fun lb hlb => ?_⟩
      have s0 := Same.new (o := .lst [.int k]) hlb
      have e0 : upd H lb (.lst [.int k]) lb = some (.lst [.int k]) := upd_same
      generalize upd H lb (.lst [.int k]) = H0 at s0 e0 ⊢
      refine ⟨_, rfl, l, rfl, ⟨_, SqL.of (s0 _ _ hl)⟩, for_enum (K := K) (a := l) (xs := qs.map V.ref) (fun i σ H' => ∃ (v3 v4 : Option V), σ = [some (.ref l), some (.int k), some (.ref lb), v3, v4] ∧ Same H H' ∧ H' lb = some (.lst (intsV (k :: ((kidsTo rs k i).map (ordI rs (f - 1))).flatten))))
        ⟨_, _, rfl, s0, e0⟩ (fun i σ H' _ ⟨_, _, _, s', _⟩ => SqL.of (s' _ _ hl)) ?_ ?_⟩
      · rintro i v t σ H1 hv ⟨v3, v4, rfl, s1, e1⟩ ht
        rw [List.getElem?_map] at hv
        obtain ⟨p, hp, rfl⟩ := Option.map_eq_some_iff.mp hv
        have hi : i < rs.length := by rw [← hq.1]; exact (List.getElem?_eq_some_iff.mp hp).1
        obtain ⟨po, hpr, hO⟩ := hq.2 i p _ hp (rwA_at hi)
        have s2 := Same.new (o := .tup [.int i, .ref p]) ht
        have e2 : upd H1 t (.tup [.int i, .ref p]) t = some (.tup [.int i, .ref p]) := upd_same
        generalize upd H1 t (.tup [.int i, .ref p]) = H2 at s2 e2 ⊢
        have S2 := s1.trans s2
        refine ⟨t, _, rfl, SqT.of e2, rfl, _, _, rfl, _, _, rfl, rfl, ?_⟩
        refine ⟨_, rfl, p, _, _, _, rfl, rfl, SqT.of (S2 _ _ hpr), rfl, _, rfl, rfl, _, rfl, ite2 (fun e => ?_) (fun e => ?_)⟩
        · have e : (rwA rs i).ab = k := V.int.inj (of_decide_eq_true e)
          have hik : i ∈ kids rs k := mem_kids.mpr ⟨hi, e⟩
          obtain ⟨c1, c2, c3, c4, c5⟩ := tr.kid hik
          have d6 := (tr.dp6 c1).2
          refine ⟨_, rfl, .inl ⟨rfl, _, SqL.of (s2 _ _ e1)⟩, _, rfl, _, rfl, l, rs, i, f - 1, rfl, hL.same S2, hi, by omega, by omega, fun o H3 s3 _ e3 => ?_⟩
          have e13 := s3 _ _ (s2 _ _ e1)
          have ln : (intsV (k :: ((kidsTo rs k i).map (ordI rs (f - 1))).flatten)).length + (intsV (ordI rs (f - 1) i)).length ≤ 1000 := by
            have l1 := nodup_len (tr.ordI_nodup (f - 1) i) fun x hx => tr.ordI_lt hi hx
            have l2 : ((kidsTo rs k i).map (ordI rs (f - 1))).flatten.length ≤ (kidsTo rs k i).length * 30 := flat_le fun c hc => by
              have hc' : c < rs.length := by
                unfold kidsTo at hc
                rw [List.mem_filter, List.mem_range] at hc
                omega
              have := nodup_len (tr.ordI_nodup (f - 1) c) fun x hx => tr.ordI_lt hc' hx
              omega
            have l3 : (kidsTo rs k i).length ≤ i := by
              have := List.length_filter_le (isKid rs k) (List.range i)
              rw [List.length_range] at this
              exact this
            rw [List.length_map, List.length_map, List.length_cons]
            omega
          refine ⟨lb, o, _, _, rfl, rfl, e13, e3, (by omega), ?_⟩
          refine ⟨_, _, rfl, fun b ob eb => ?_, ?_⟩
          · rw [upd_ne (ne_of_none eb hlb)]
            exact s3 _ _ (S2 _ _ eb)
          · rw [upd_same, kidsTo_succ, if_pos (by unfold isKid; rw [beq_iff_eq]; exact e)]
            simp [intsV]
        · have e : ¬ (rwA rs i).ab = k := fun z => e (decide_eq_true (by rw [z]))
          refine ⟨_, _, rfl, S2, ?_⟩
          rw [kidsTo_succ, if_neg (by unfold isKid; rw [beq_iff_eq]; exact e), List.append_nil]
          exact s2 _ _ e1
      · rintro σ H1 ⟨v3, v4, rfl, s1, e1⟩
        rw [List.length_map, hq.1] at e1
        exact ⟨_, rfl, q lb H1 s1 hlb (by rw [ordI_eq tr hf]; exact e1)⟩
def spRoad : Sp := fun vs H Q _ => ∃ (l : Addr) (rs : List Rw) (k f : Nat) (y : List (Nat × Str) × Nat), vs = [.ref l, .int k, .int y.2] ∧ LR H l rs ∧ k < rs.length ∧ y ∈ walkI rs f k ∧ ∀ (o : Addr) (H' : Hp), Same H H' → H o = none → RdAt H' o y.1 → Q (.ref o) H'
abbrev s_law_road : Stmt := top 73
theorem sc_law_road : FnScope ["_law_rows", "_law_top", "_law_at", "_law_road_here"] ["_law_rows", "_law_top", "_law_at"] (defScope s_law_road) := ⟨rfl, rfl, rfl, by decide +kernel, rfl, by decide +kernel, by decide +kernel⟩
theorem ok_road (F : TopFn K mg "_law_road" s_law_road ["_law_rows", "_law_top", "_law_at"]) : FnAt P w K mg base "_law_road" 1 ["_law_rows", "_law_top", "_law_at"] spRoad := by
  refine F.at sc_law_road (fun vs H Q E h => ?_) (fun f cdv A outer s H vs Q E hr h => ?_)
  · obtain ⟨l, rs, k, f, y, rfl, _⟩ := h
    rfl
  · obtain ⟨l, rs, k, f, y, rfl, hL, hk, hy, q⟩ := h
    refine ⟨_, (pss_cons (ps_set (i := 3) sc_law_road.nd rfl (by first | exact Or.inl rfl | exact Or.inr rfl) (pe_lst pa_nil))
      (pss_cons (ps_while PassesOwn.never (pt_cmpR op_ne (pv 2) (pv 1) (nomark _)) (pss_cons (ps_set (i := 3) sc_law_road.nd rfl (by first | exact Or.inl rfl | exact Or.inr rfl) (pe_op op_cat (pe_lst (pa_cons (pe_tup (pa_cons (pe_ix ix_tup (pe_ix ix_list (pv 0) (pv 2) (fun _ _ => rfl)) pe_int (fun _ _ => rfl)) (pa_cons (pe_ix ix_tup (pe_ix ix_list (pv 0) (pv 2) (fun _ _ => rfl)) pe_int (fun _ _ => rfl)) pa_nil))) pa_nil)) (pv 3)))
      (pss_one (ps_set (i := 2) sc_law_road.nd rfl (by first | exact Or.inl rfl | exact Or.inr rfl) (pe_ix ix_tup (pe_ix ix_list (pv 0) (pv 2) (fun _ _ => rfl)) pe_int (fun _ _ => rfl))))))
      (pss_one (ps_ret (pv 3))))), ?_⟩
    have hs : sizeLine = 16777216 := sizeLine_eq
    obtain ⟨⟨qs, hl, hq⟩, tr, l30, ndn⟩ := id hL
    refine ⟨(by show 0 ≤ sizeLine; decide), fun lo hlo => ?_⟩
    have s0 := Same.new (o := .lst []) hlo
    have e0 : upd H lo (.lst []) lo = some (.lst []) := upd_same
    generalize upd H lo (.lst []) = H0 at s0 e0 ⊢
    refine ⟨fun m σ H' => ∃ (z : List (Nat × Str) × Nat) (acc : List (Nat × Str)) (o : Addr), σ = [some (.ref l), some (.int k), some (.int z.2), some (.ref o)] ∧ z ∈ walkI rs f k ∧ y.1 = z.1 ++ acc ∧ Same H H' ∧ H o = none ∧ RdAt H' o acc ∧ acc.length + m ≤ 1000 ∧ m = (rwA rs z.2).dp - (rwA rs k).dp, ⟨_, y, [], lo, rfl, hy, by simp, s0, hlo, ⟨[], e0, A2.nil⟩, ?_, rfl⟩, ?_⟩
    · obtain ⟨mm, _, m2, m3⟩ := tr.wdesc hy
      have := (tr.dp6 hk)
      have hy2 : y.2 < rs.length := by rcases m3 with e | e; rw [e]; exact hk; exact e.1
      have := (tr.dp6 hy2)
      show 0 + _ ≤ 1000
      omega
    · rintro m σ H1 ⟨z, acc, o, rfl, hz, ey, s1, ho, hrd, hac, hm⟩
      refine ⟨_, rfl, _, rfl, rfl, _, rfl, ?_⟩
      by_cases e : z.2 = k
      · have er := tr.wroot hz e
        refine iteNS (by rw [e]) ?_
        refine ⟨_, rfl, q o H1 s1 ho ?_⟩
        rw [ey, er]
        exact hrd
      · have ed : (!decide (V.int (z.2 : Nat) = V.int (k : Nat))) = true := by
          rw [decide_eq_false (fun h => e (by have := V.int.inj h; omega))]
          rfl
        show if (!decide (V.int (z.2 : Nat) = V.int (k : Nat))) = true then _ else _
        rw [ed]
        refine iteT ?_
        obtain ⟨rd, p, r1, r2, r3, r4, r5⟩ := tr.wup hz e
        have hpl : (rwA rs k).dp ≤ (rwA rs p).dp := by
          obtain ⟨mm, _, m2, _⟩ := tr.wdesc r2
          have m2 : (rwA rs p).dp = _ := m2
          omega
        have hj4 : (rwA rs z.2).j < 4 := by
          have i0 : 0 < z.2 := by
            by_cases h0 : z.2 = 0
            · have := (tr.root _ (rwA_at tr.pos)).1
              rw [← h0, r3] at this
              omega
            · omega
          exact (tr.up z.2 _ (rwA_at r5) i0).1
        have wn := (tr.ok _ (rwA_mem r5)).1
        have ejs : (rwA rs z.2).js = nm (rwA rs z.2).j := by unfold Rw.js; rw [if_neg (by rw [r3]; omega)]
        obtain ⟨qk, hqk⟩ : ∃ qk, qs[z.2]? = some qk := ⟨qs[z.2]'(by rw [hq.1]; exact r5), List.getElem?_eq_getElem _⟩
        obtain ⟨po, hpr, _⟩ := hq.2 z.2 qk _ hqk (rwA_at r5)
        have atk : atI (qs.map V.ref) ((z.2 : Nat) : Int) = some (.ref qk) := atI_nat (by rw [List.getElem?_map, hqk]; rfl)
        obtain ⟨vs, hv, hvs⟩ := hrd
        refine ⟨fun σ' H' => ∃ o', σ' = [some (.ref l), some (.int k), some (.int p), some (.ref o')] ∧ Same H H' ∧ H o' = none ∧ RdAt H' o' (((rwA rs z.2).j, (rwA rs z.2).n) :: acc), fun σ' H' ⟨o', h1, h2, h3, h4⟩ => ⟨m - 1, by omega, (rd, p), ((rwA rs z.2).j, (rwA rs z.2).n) :: acc, o', h1, r2, by rw [ey, r1]; simp, h2, h3, h4, by rw [List.length_cons]; omega, by show m - 1 = (rwA rs p).dp - (rwA rs k).dp; omega⟩, ?_⟩
        have hl1 := SqL.of (K := K) (s1 _ _ hl)
        have hp1 := SqT.of (K := K) (s1 _ _ hpr)
        refine ⟨_, rfl, _, rfl, l, _, _, _, rfl, rfl, hl1, atk, qk, _, _, _, rfl, rfl, hp1, rfl, _, rfl, _, rfl, l, _, _, _, rfl, rfl, hl1, atk, qk, _, _, _, rfl, rfl, hp1, rfl, (by show 2 ≤ sizeLine; decide), fun pt hpt => ?_⟩
        have s2 := Same.new (o := .tup [.str (rwA rs z.2).js, .str (rwA rs z.2).n]) hpt
        have e2 : upd H1 pt (.tup [.str (rwA rs z.2).js, .str (rwA rs z.2).n]) pt = some (.tup [.str (nm (rwA rs z.2).j), .str (rwA rs z.2).n]) := by rw [upd_same, ejs]
        generalize upd H1 pt (.tup [.str (rwA rs z.2).js, .str (rwA rs z.2).n]) = H2 at s2 e2 ⊢
        refine ⟨(by show 1 ≤ sizeLine; decide), fun lp hlp => ?_⟩
        have s3 := Same.new (o := .lst [.ref pt]) hlp
        have e3 : upd H2 lp (.lst [.ref pt]) lp = some (.lst [.ref pt]) := upd_same
        generalize upd H2 lp (.lst [.ref pt]) = H3 at s3 e3 ⊢
        have t3 := s2.trans s3
        have vl : vs.length ≤ 1000 := by rw [hvs.1]; omega
        refine ⟨_, rfl, lp, o, _, _, rfl, rfl, e3, t3 _ _ hv, (by show 1 + vs.length ≤ sizeLine; omega), fun lc hlc => ?_⟩
        have s4 := Same.new (o := .lst ([.ref pt] ++ vs)) hlc
        have e4 : upd H3 lc (.lst ([.ref pt] ++ vs)) lc = some (.lst ([.ref pt] ++ vs)) := upd_same
        have fc : H lc = none := (s1.trans t3).free hlc
        generalize upd H3 lc (.lst ([.ref pt] ++ vs)) = H4 at s4 e4 ⊢
        have t4 := t3.trans s4
        refine ⟨_, rfl, _, rfl, l, _, _, _, rfl, rfl, SqL.of (t4 _ _ (s1 _ _ hl)), atk, qk, _, _, _, rfl, rfl, SqT.of (t4 _ _ (s1 _ _ hpr)), rfl, ?_⟩
        refine ⟨lc, ?_, s1.trans t4, fc, ⟨_, e4, (hvs.imp fun _ _ r => r.t (.of t4)).cons ⟨hj4, pt, rfl, s4 _ _ (s3 _ _ e2)⟩⟩⟩
        rw [← r3]
        rfl
end
end K33
namespace L2
open PySem PySem.Spec PyProof.Rows
theorem call_intT {X : Cx} : CallR X (.type "int") (fun xs H Q => ∃ z n, xs = [.str z] ∧ PySem.intText? z = some n ∧ z.length ≤ 640 ∧ Q (.int n) H) := by
  intro pins s σ H xs us Q I r h
  obtain ⟨z, n, rfl, hn, hl, q⟩ := h
  obtain ⟨u, rfl, ru⟩ := vals1 r
  obtain ⟨t, rfl⟩ := ru
  exact PySem.W.KIN.call_text hn hl ⟨.int n, H, I.tok _, ⟨_, rfl⟩, q⟩
end L2
namespace K33
open PySem L2 PyProof.Rows
structure Tx2 (mg : Str → Option Value) : Prop where
  g_FIGURES : ∃ t, mg "FIGURES" = some (.str "0123456789" t)
  n_reversed : mg "reversed" = none
def jl (c : Nat) : List (List Nat) → List Nat
  | [] => []
  | [x] => x
  | x :: y :: r => x ++ c :: jl c (y :: r)
theorem app_toList (a b : Str) : (a ++ b).cps.toList = a.cps.toList ++ b.cps.toList := by
  show (a.cps ++ b.cps).toList = _
  simp
theorem join_toList (c : Nat) : ∀ ws : List Str, (Str.join ⟨#[c]⟩ ws).cps.toList = jl c (ws.map (·.cps.toList))
  | [] => rfl
  | [x] => rfl
  | x :: y :: r => by
    show (x ++ ⟨#[c]⟩ ++ Str.join ⟨#[c]⟩ (y :: r)).cps.toList = x.cps.toList ++ c :: jl c ((y :: r).map (·.cps.toList))
    rw [app_toList, app_toList, join_toList c (y :: r)]
    simp
theorem cut_inj {c : Nat} : ∀ {x y a b : List Nat}, c ∉ x → c ∉ y → x ++ c :: a = y ++ c :: b → x = y ∧ a = b
  | [], [], a, b, _, _, h => ⟨rfl, by simpa using h⟩
  | [], d :: y, a, b, _, hy, h => by
    simp only [List.nil_append, List.cons_append, List.cons.injEq] at h
    exact absurd h.1 (fun e => hy (by rw [e]; exact List.mem_cons_self))
  | d :: x, [], a, b, hx, _, h => by
    simp only [List.nil_append, List.cons_append, List.cons.injEq] at h
    exact absurd h.1 (fun e => hx (by rw [← e]; exact List.mem_cons_self))
  | d :: x, e :: y, a, b, hx, hy, h => by
    simp only [List.cons_append, List.cons.injEq] at h
    obtain ⟨h1, h2⟩ := cut_inj (fun m => hx (List.mem_cons_of_mem _ m)) (fun m => hy (List.mem_cons_of_mem _ m)) h.2
    exact ⟨by rw [h.1, h1], h2⟩
theorem jl_inj {c : Nat} : ∀ {xs ys : List (List Nat)}, xs ≠ [] → ys ≠ [] → (∀ x ∈ xs, c ∉ x) → (∀ y ∈ ys, c ∉ y) → jl c xs = jl c ys → xs = ys
  | [], _, h, _, _, _, _ => absurd rfl h
  | _, [], _, h, _, _, _ => absurd rfl h
  | [x], [y], _, _, _, _, h => by rw [show x = y from h]
  | [x], y :: y' :: r, _, _, hx, _, h => by
    have h : x = y ++ c :: jl c (y' :: r) := h
    exact absurd (by rw [h]; simp) (hx x List.mem_cons_self)
  | x :: x' :: r, [y], _, _, _, hy, h => by
    have h : x ++ c :: jl c (x' :: r) = y := h
    exact absurd (by rw [← h]; simp) (hy y List.mem_cons_self)
  | x :: x' :: r, y :: y' :: r', _, _, hx, hy, h => by
    have h : x ++ c :: jl c (x' :: r) = y ++ c :: jl c (y' :: r') := h
    obtain ⟨h1, h2⟩ := cut_inj (hx x List.mem_cons_self) (hy y List.mem_cons_self) h
    rw [h1, jl_inj (by simp) (by simp) (fun z hz => hx z (List.mem_cons_of_mem _ hz)) (fun z hz => hy z (List.mem_cons_of_mem _ hz)) h2]
theorem str_inj : ∀ {a b : Str}, a.cps.toList = b.cps.toList → a = b
  | ⟨a⟩, ⟨b⟩, h => by rw [show a = b from Array.toList_inj.mp h]
theorem strs_inj : ∀ {a b : List Str}, a.map (·.cps.toList) = b.map (·.cps.toList) → a = b
  | [], [], _ => rfl
  | [], _ :: _, h => by cases h
  | _ :: _, [], h => by cases h
  | x :: a, y :: b, h => by
    simp only [List.map_cons, List.cons.injEq] at h
    rw [str_inj h.1, strs_inj h.2]
theorem split_join {c : Nat} {ws : List Str} (hne : ws ≠ []) (hf : ∀ z ∈ ws, c ∉ z.cps.toList) : Txt.split (Txt.join ⟨#[c]⟩ ws) ⟨#[c]⟩ = ws := by
  have e : Txt.join ⟨#[c]⟩ ws = Str.join ⟨#[c]⟩ ws := StrLaws.glued_eq_join _ _
  rw [e]
  have h := StrLaws.join_split (Str.join ⟨#[c]⟩ ws) ⟨#[c]⟩
  refine strs_inj (jl_inj (c := c) ?_ ?_ ?_ ?_ ?_)
  · intro z
    have := split_pos (Str.join ⟨#[c]⟩ ws) ⟨#[c]⟩
    rw [← List.length_map (f := fun z : Str => z.cps.toList), z] at this
    exact absurd this (by decide)
  · intro z
    exact hne (List.map_eq_nil_iff.mp z)
  · intro x hx
    obtain ⟨z, hz, rfl⟩ := List.mem_map.mp hx
    exact StrLaws.split_free _ _ z hz
  · intro x hx
    obtain ⟨z, hz, rfl⟩ := List.mem_map.mp hx
    exact hf z hz
  · rw [← join_toList, ← join_toList, h]
theorem tjoin (s : Str) (xs : List Str) : Txt.join s xs = Str.join s xs := StrLaws.glued_eq_join _ _
theorem sum_le : ∀ {zs : List Str} {k : Nat}, (∀ z ∈ zs, z.length ≤ k) → (zs.map (·.length)).sum ≤ zs.length * k
  | [], k, _ => by simp
  | z :: zs, k, h => by
    rw [List.map_cons, List.sum_cons, List.length_cons]
    have := sum_le (zs := zs) fun x hx => h x (List.mem_cons_of_mem _ hx)
    have := h z List.mem_cons_self
    rw [Nat.add_mul]
    omega
theorem join_ok {zs : List Str} {s : Str} {k n : Nat} (h : ∀ z ∈ zs, z.length ≤ k) (hn : zs.length ≤ n) (hs : n * k + n * s.length ≤ 16777216) : (zs.map (·.length)).sum + zs.length * s.length ≤ 16777216 := by
  have h1 := sum_le h
  have h2 := Nat.mul_le_mul_right k hn
  have h3 := Nat.mul_le_mul_right s.length hn
  omega
theorem len_join_le (s : Str) (zs : List Str) : (Txt.join s zs).length ≤ (zs.map (·.length)).sum + zs.length * s.length := by
  rw [tjoin]
  exact StrLaws.join_length_le s zs
def isFig (c : Nat) : Bool := decide (48 ≤ c ∧ c ≤ 57)
def nT (n : Nat) : Str := Str.ofString (toString (n : Int))
def figOk (n : Nat) : Bool := decide (1 ≤ (nT n).length ∧ (nT n).length ≤ 4) && !(decide ((nT n).cps.getD 0 0 = 48) && decide (1 < (nT n).length)) && (nT n).cps.toList.all isFig
theorem fig_all : ∀ a : Fin 100, figOk a.val = true := by decide +kernel
theorem fig_ok {n : Nat} (h : n < 100) : figOk n = true := fig_all ⟨n, h⟩
theorem word_len {z : Str} (h : isWordZ z = true) : z.length ≤ 8 := by
  unfold isWordZ at h
  rw [Bool.and_eq_true] at h
  exact (of_decide_eq_true h.1).2
def textZ (a : Str) (n : Int) : Str := a ++ Str.ofString "." ++ Str.ofString (toString n)
theorem small_text : ∀ n : Fin 100, (Str.ofString (toString (n.val : Int))).length ≤ 2 := by decide +kernel
theorem text_len {a : Str} {n : Int} (ha : isWordZ a = true) (h0 : 0 ≤ n) (h1 : n < 100) : (textZ a n).length ≤ 11 := by
  unfold textZ
  rw [len_app, len_app]
  have e : (Str.ofString ".").length = 1 := by decide +kernel
  have := small_text ⟨n.toNat, by omega⟩
  have e2 : ((n.toNat : Nat) : Int) = n := by omega
  simp only [e2] at this
  unfold isWordZ at ha
  simp only [Bool.and_eq_true, decide_eq_true_eq] at ha
  omega
theorem log_small {n : Int} (h0 : 0 ≤ n) (h1 : n < 10000) : n.natAbs.log2 < 1920 := by
  have : n.natAbs < 2 ^ 14 := by omega
  by_cases hz : n.natAbs = 0
  · rw [hz]; decide
  · have := (Nat.log2_lt hz).mpr this
    omega
theorem mp_rest2 {C R G : Prop} (r : C → R) (h : (C → R) → G) : G := h r
theorem fig_in (c : Nat) : (!(Builtin.Str.occurrences (Str.ofString "0123456789") ⟨#[c]⟩ 0 (Str.ofString "0123456789").length 1).isEmpty) = isFig c := by
  rw [PySem.StrLaws.found_one]
  have e : (Str.ofString "0123456789").cps.toList = [48, 49, 50, 51, 52, 53, 54, 55, 56, 57] := by decide +kernel
  rw [e, Bool.eq_iff_iff]
  have h1 : ∀ c ∈ ([48, 49, 50, 51, 52, 53, 54, 55, 56, 57] : List Nat), isFig c = true := by decide +kernel
  have h2 : ∀ i : Fin 10, 48 + i.val ∈ ([48, 49, 50, 51, 52, 53, 54, 55, 56, 57] : List Nat) := by decide +kernel
  refine ⟨fun h => h1 c (of_decide_eq_true h), fun h => decide_eq_true ?_⟩
  unfold isFig at h
  have h := of_decide_eq_true h
  obtain ⟨d, rfl⟩ := Nat.exists_eq_add_of_le h.1
  exact h2 ⟨d, by omega⟩
structure NumT (z : Str) (L : Nat) : Prop where
  h1 : 1 ≤ z.length
  h2 : z.length ≤ L
  h3 : ¬ (z.cps.getD 0 0 = 48 ∧ 1 < z.length)
  h4 : z.cps.toList.all isFig = true
theorem num4 {n : Nat} (h : n < 100) : NumT (nT n) 4 := by
  have := fig_ok h
  unfold figOk at this
  simp only [Bool.and_eq_true, decide_eq_true_eq, Bool.not_eq_true', Bool.and_eq_false_iff, decide_eq_false_iff_not] at this
  obtain ⟨⟨⟨a, b⟩, c⟩, d⟩ := this
  exact ⟨a, b, fun ⟨x, y⟩ => c.elim (fun f => f x) (fun f => f y), d⟩
theorem num2 {n : Nat} (h : n < 100) : NumT (nT n) 2 := by
  obtain ⟨a, b, c, d⟩ := num4 (n := n) (by omega)
  exact ⟨a, small_text ⟨n, h⟩, c, d⟩
def spNum : Sp := fun vs H Q _ => ∃ (z : Str) (L : Nat), vs = [.str z, .int L] ∧ NumT z L ∧ L ≤ 4 ∧ ∀ H', Same H H' → Q (.bl true) H'
theorem dot1 : ("." : Str) = ⟨#[46]⟩ := by decide +kernel
theorem word_no {z : Str} (h : isWordZ z = true) {c : Nat} (hc : ¬ (97 ≤ c ∧ c ≤ 122)) : c ∉ z.cps.toList := fun m => by
  unfold isWordZ at h
  rw [Bool.and_eq_true] at h
  have := List.all_eq_true.mp h.2 c m
  unfold isLow at this
  exact hc (of_decide_eq_true this)
theorem fig_no {z : Str} {L : Nat} (h : NumT z L) {c : Nat} (hc : ¬ (48 ≤ c ∧ c ≤ 57)) : c ∉ z.cps.toList := fun m => by
  have := List.all_eq_true.mp h.h4 c m
  unfold isFig at this
  exact hc (of_decide_eq_true this)
theorem split_key {a : Str} {n : Nat} (ha : isWordZ a = true) (hn : n < 100) : Txt.split (textZ a n) "." = [a, nT n] := by
  have e : textZ a n = Txt.join ⟨#[46]⟩ [a, nT n] := by
    rw [tjoin]
    show a ++ ("." : Str) ++ nT n = a ++ ⟨#[46]⟩ ++ nT n
    rw [dot1]
  rw [e, dot1]
  refine split_join (by simp) fun z hz => ?_
  simp only [List.mem_cons, List.not_mem_nil, or_false] at hz
  rcases hz with rfl | rfl
  · exact word_no ha (by decide)
  · exact fig_no (num2 hn) (by decide)
def spIKT : Sp := fun vs H Q _ => ∃ (a : Str) (n : Nat), vs = [.str (textZ a n)] ∧ isWordZ a = true ∧ n < 100 ∧ ∀ H', Same H H' → Q (.bl true) H'
def spKeO : Sp := fun vs H Q _ => ∃ (a : Str) (n : Nat), vs = [.str (textZ a n)] ∧ isWordZ a = true ∧ n < 100 ∧ ∀ (p : Addr) (H' : Hp), Same H H' → H' p = some (.tup [.str a, .int n]) → Q (.ref p) H'
section
variable {P : Program} {w : World} {K : PySem.W.Frag} {mg : Str → Option Value} {base : Heap} {J : Js}
abbrev skey_text : Stmt := top 21
theorem sckey_text : FnScope ["key", "word", "number"] ["key"] (defScope skey_text) := ⟨rfl, rfl, rfl, by decide +kernel, rfl, by decide +kernel, by decide +kernel⟩
def spKeyText (K : PySem.W.Frag) : Sp := fun vs H Q _ => ∃ t a n, vs = [.ref t] ∧ SqT K H t [.str a, .int n] ∧ isWordZ a = true ∧ 0 ≤ n ∧ n < 100 ∧ Q (.str (textZ a n)) H
theorem ok_key_text (F : TopFn K mg "key_text" skey_text ["key"]) : FnAt P w K mg base "key_text" 1 ["key"] (spKeyText K) := by
  refine F.at sckey_text (fun vs H Q E h => ?_) (fun f cdv A outer s H vs Q E hr h => ?_)
  · obtain ⟨t, a, n, rfl, _⟩ := h
    rfl
  · obtain ⟨t, a, n, rfl, ht, ha, h0, h1, q⟩ := h
    refine ⟨_, (pss_cons (ps_set (i := 1) sckey_text.nd rfl (by first | exact Or.inl rfl | exact Or.inr rfl) (pe_ix ix_tup (pv 0) pe_int (fun _ _ => rfl)))
      (pss_cons (ps_set (i := 2) sckey_text.nd rfl (by first | exact Or.inl rfl | exact Or.inr rfl) (pe_ix ix_tup (pv 0) pe_int (fun _ _ => rfl)))
      (pss_one (ps_ret (pe_f3 (pv 1) (pv 2)))))), ?_⟩
    have hs : sizeLine = 16777216 := sizeLine_eq
    have tl := text_len ha h0 h1
    have al : a.length ≤ 8 := by
      unfold isWordZ at ha
      simp only [Bool.and_eq_true, decide_eq_true_eq] at ha
      exact ha.1.2
    refine ⟨_, rfl, t, _, _, V.str a, rfl, rfl, ht, rfl, ?_⟩
    refine ⟨_, rfl, t, _, _, V.int n, rfl, rfl, ht, rfl, ?_⟩
    exact ⟨_, rfl, a, rfl, (by have e : (Str.ofString ".").length = 1 := by decide +kernel
                               omega), _, rfl, n, rfl, log_small h0 (by omega), (by show (textZ a n).length ≤ _; omega), q⟩
abbrev sis_number_text : Stmt := top 22
theorem scis_number_text : FnScope ["text", "longest"] ["text", "longest"] (defScope sis_number_text) := ⟨rfl, rfl, rfl, by decide +kernel, rfl, by decide +kernel, by decide +kernel⟩
theorem ok_num (T : Txt mg) (N : Tx2 mg) (F : TopFn K mg "is_number_text" sis_number_text ["text", "longest"]) : FnAt P w K mg base "is_number_text" 1 ["text", "longest"] spNum := by
  refine F.at scis_number_text (fun vs H Q E h => ?_) (fun f cdv A outer s H vs Q E hr h => ?_)
  · obtain ⟨z, L, rfl, _⟩ := h
    rfl
  · obtain ⟨z, L, rfl, ⟨h1, h2, h3, h4⟩, hL, q⟩ := h
    refine ⟨_, (pss_cons (ps_if (pt_not (pt_chain op_le op_le pe_int (pe_callB call_len rfl T.n_len boot_len (pa_cons (pv 0) pa_nil)) (pv 1))) (pss_one ps_never) pss_nil)
      (pss_cons (ps_if (PW.pt (pw_and (pt_cmpR op_eq (pe_ix ix_str (pv 0) pe_int (fun _ _ => rfl)) pe_str (nomark _)) (pw_and1 (pt_cmpR op_gt (pe_callB call_len rfl T.n_len boot_len (pa_cons (pv 0) pa_nil)) pe_int (nomark _))))) (pss_one ps_never) pss_nil)
      (pss_one (ps_ret (pe_callB (call_allB rfl) rfl T.n_all boot_all (pa_cons (pe_comp (sc := defScope sis_number_text) (N0 := ["text", "longest"]) (xs := ["sign"]) (ys := []) (js := []) ⟨rfl, by decide +kernel, by decide +kernel, by decide +kernel, by decide +kernel⟩ rfl (pi_str (pv 0)) (fun _ _ _ _ => (pg_name (i := 0) (show (["sign"] : List Str).Nodup by decide +kernel) rfl (by first | exact Or.inl rfl | exact Or.inr rfl))) (fun _ _ _ _ => pq_nil) (fun _ _ _ _ => (pe_cmpR op_in_str (pv 0) (pe_globS rfl N.g_FIGURES) (by with_unfolding_all rfl)))) pa_nil)))))), ?_⟩
    have hs : sizeLine = 16777216 := sizeLine_eq
    refine ⟨_, rfl, _, _, rfl, ⟨by omega, rfl⟩, _, _, rfl, rfl, _, rfl, ?_⟩
    refine ite2 (fun g1 => ?_) (fun g1 => absurd (decide_eq_true (show (1 : Int) ≤ (z.length : Int) by omega)) g1)
    refine ⟨_, rfl, _, _, rfl, rfl, _, rfl, ?_⟩
    refine ite2 (fun g2 => absurd g2 (by rw [decide_eq_true (show (z.length : Int) ≤ (L : Int) by omega)]; decide)) (fun g2 => ?_)
    have hsz : z.cps.size = z.length := rfl
    have h0 : 0 < z.cps.size := by omega
    refine' mp_rest2 (C := True) ?r ?b
    case b =>
      intro r
      refine ⟨_, rfl, z, 0, z.cps.getD 0 0, rfl, rfl, (by omega), atI_nat (j := 0) (by rw [Array.getD_eq_getD_getElem?, Array.getElem?_eq_getElem h0]; simp [h0]), rfl, _, rfl, ?_⟩
      refine ite2 (fun g3 => ?_) (fun g3 => iteF (r trivial))
      refine ⟨_, rfl, _, _, rfl, ⟨by omega, rfl⟩, _, _, rfl, rfl, _, rfl, ?_⟩
      refine ite2 (fun g4 => ?_) (fun g4 => r trivial)
      have g4 : (1 : Int) < (z.length : Int) := of_decide_eq_true g4
      have g3 : (⟨#[z.cps.getD 0 0]⟩ : Str) = Str.ofString "0" := V.str.inj (of_decide_eq_true g3)
      have h5 : z.cps.getD 0 0 = 48 := by
        have e : Str.ofString "0" = ⟨#[48]⟩ := by decide +kernel
        rw [e] at g3
        have := congrArg (fun x : Str => x.cps.getD 0 0) g3
        simpa using this
      exact absurd ⟨h5, by omega⟩ h3
    case r =>
      intro _
      refine ⟨_, rfl, z, rfl, comp_str (fun i ys H' => H' = H ∧ ys = (z.cps.toList.take i).map fun c => V.bl (isFig c)) ⟨rfl, rfl⟩ (by show z.length ≤ sizeLine; omega) ?_ ?_ ?_⟩
      · rintro i ys H' ⟨rfl, rfl⟩
        simp; omega
      · rintro i ys H' hi ⟨rfl, rfl⟩
        refine ⟨_, rfl, _, _, rfl, rfl, rfl, ?_⟩
        have e3 : (!(Builtin.Str.occurrences (Str.ofString "0123456789") (sgn z i) 0 (Str.ofString "0123456789").length 1).isEmpty) = isFig (z.cps.getD i 0) := fig_in _
        rw [e3]
        exact take_map_snoc z hi fun c => V.bl (isFig c)
      · rintro ys H' ⟨rfl, rfl⟩ p hp
        refine ⟨p, z.cps.toList.map isFig, rfl, SqL.of (by rw [upd_same, List.take_of_length_le (by simp), List.map_map]; rfl), ?_⟩
        have := q _ (Same.new (o := .lst ((z.cps.toList.take z.cps.size).map fun c => V.bl (isFig c))) hp)
        rw [show (z.cps.toList.map isFig).all id = true by rw [List.all_map]; exact h4]
        exact this
abbrev sis_key_text : Stmt := top 23
theorem scis_key_text : FnScope ["text", "halves"] ["text"] (defScope sis_key_text) := ⟨rfl, rfl, rfl, by decide +kernel, rfl, by decide +kernel, by decide +kernel⟩
theorem ok_ikt (T : Txt mg) (F_is_word : FnAt P w K mg base "is_word" 1 ["thing"] (spWord K)) (F_is_number_text : FnAt P w K mg base "is_number_text" 1 ["text", "longest"] spNum) (F : TopFn K mg "is_key_text" sis_key_text ["text"]) :
    FnAt P w K mg base "is_key_text" 2 ["text"] spIKT := by
  refine F.at scis_key_text (fun vs H Q E h => ?_) (fun f cdv A outer s H vs Q E hr h => ?_)
  · obtain ⟨a, n, rfl, _⟩ := h
    rfl
  · obtain ⟨a, n, rfl, ha, hn, q⟩ := h
    refine ⟨_, (pss_cons (ps_set (i := 1) scis_key_text.nd rfl (by first | exact Or.inl rfl | exact Or.inr rfl) (pe_bm PySem.F.plainAttrs_str PySem.F.slot_str_split PySem.F.type_str_split mt_split (pv 0) (pa_cons pe_str pa_nil)))
      (pss_one (ps_ret (pe_and (pe_cmpR op_eq (pe_callB call_len rfl T.n_len boot_len (pa_cons (pv 1) pa_nil)) pe_int (nomark _)) (pe_and (pe_fn F_is_word hr (by decide) rfl (pa_cons (pe_ix ix_list (pv 1) pe_int (fun _ _ => rfl)) pa_nil)) (pe_one (pe_fn F_is_number_text hr (by decide) rfl (pa_cons (pe_ix ix_list (pv 1) pe_int (fun _ _ => rfl)) (pa_cons pe_int pa_nil))))))))), ?_⟩
    have hs : sizeLine = 16777216 := sizeLine_eq
    have tl := text_len ha (n := (n : Int)) (by omega) (by omega)
    refine ⟨_, rfl, rfl, textZ a n, ".", rfl, rfl, (by decide +kernel), (by omega), fun p hp => ?_⟩
    rw [split_key ha hn]
    have s1 := Same.new (o := .lst (([a, nT n] : List Str).map V.str)) hp
    have l1 : upd H p (.lst (([a, nT n] : List Str).map V.str)) p = some (.lst [.str a, .str (nT n)]) := upd_same
    generalize upd H p (.lst (([a, nT n] : List Str).map V.str)) = H1 at s1 l1 ⊢
    refine ⟨_, rfl, _, _, rfl, .inl ⟨_, SqL.of l1, rfl⟩, rfl, _, rfl, iteT ?_⟩
    refine ⟨_, rfl, p, _, _, V.str a, rfl, rfl, SqL.of l1, rfl, .str a, rfl, ⟨.str, TyOf.str a⟩, (fun z' e => by cases e; have := word_len ha; omega), fun H2 s2 => ⟨_, rfl, ?_⟩⟩
    have l2 := s2 _ _ l1
    show if isWordZ a = true then _ else _
    rw [ha]
    refine iteT ⟨_, rfl, p, _, _, V.str (nT n), rfl, rfl, SqL.of l2, rfl, nT n, 2, rfl, num2 hn, (by decide), fun H3 s3 => q H3 ((s1.trans s2).trans s3)⟩
abbrev skey_of : Stmt := top 24
theorem sckey_of : FnScope ["text", "halves"] ["text"] (defScope skey_of) := ⟨rfl, rfl, rfl, by decide +kernel, rfl, by decide +kernel, by decide +kernel⟩
theorem ok_keo (T : Txt mg) (F_is_key_text : FnAt P w K mg base "is_key_text" 2 ["text"] spIKT) (F : TopFn K mg "key_of" skey_of ["text"]) :
    FnAt P w K mg base "key_of" 3 ["text"] spKeO := by
  refine F.at sckey_of (fun vs H Q E h => ?_) (fun f cdv A outer s H vs Q E hr h => ?_)
  · obtain ⟨a, n, rfl, _⟩ := h
    rfl
  · obtain ⟨a, n, rfl, ha, hn, q⟩ := h
    refine ⟨_, (pss_cons (ps_if (PW.pt (pw_or (pt_not (pt_val (pe_callB (call_isKd .str (by simp)) rfl T.n_isinstance boot_isinstance (pa_cons (pv 0) (pa_cons (pe_bltn (v := .ty "str") rfl T.n_str boot_str rfl) pa_nil))))) (pw_or1 (pt_not (pt_val (pe_fn F_is_key_text hr (by decide) rfl (pa_cons (pv 0) pa_nil))))))) (pss_one ps_never) pss_nil)
      (pss_cons (ps_set (i := 1) sckey_of.nd rfl (by first | exact Or.inl rfl | exact Or.inr rfl) (pe_bm PySem.F.plainAttrs_str PySem.F.slot_str_split PySem.F.type_str_split mt_split (pv 0) (pa_cons pe_str pa_nil)))
      (pss_one (ps_ret (pe_tup (pa_cons (pe_ix ix_list (pv 1) pe_int (fun _ _ => rfl)) (pa_cons (pe_callTy call_intT rfl T.n_int boot_int (pa_cons (pe_ix ix_list (pv 1) pe_int (fun _ _ => rfl)) pa_nil)) pa_nil))))))), ?_⟩
    have hs : sizeLine = 16777216 := sizeLine_eq
    have tl := text_len ha (n := (n : Int)) (by omega) (by omega)
    refine ⟨_, rfl, _, .str, rfl, TyOf.str _, _, rfl, iteF ?_⟩
    refine ⟨_, rfl, a, n, rfl, ha, hn, fun H0 s0 => ⟨_, rfl, iteF ?_⟩⟩
    refine ⟨_, rfl, rfl, textZ a n, ".", rfl, rfl, (by decide +kernel), (by omega), fun p hp => ?_⟩
    rw [split_key ha hn]
    have s1 := Same.new (o := .lst (([a, nT n] : List Str).map V.str)) hp
    have l1 : upd H0 p (.lst (([a, nT n] : List Str).map V.str)) p = some (.lst [.str a, .str (nT n)]) := upd_same
    generalize upd H0 p (.lst (([a, nT n] : List Str).map V.str)) = H1 at s1 l1 ⊢
    have il : PySem.intText? (nT n) = some (n : Int) := PySem.W.KIN.num_reads (by omega) (by omega)
    have nl := (num2 hn).h2
    refine ⟨_, rfl, p, _, _, V.str a, rfl, rfl, SqL.of l1, rfl, _, rfl, p, _, _, V.str (nT n), rfl, rfl, SqL.of l1, rfl, nT n, n, rfl, il, (by omega), (by show 2 ≤ sizeLine; decide), fun p2 hp2 => ?_⟩
    exact q p2 _ ((s0.trans s1).trans (Same.new hp2)) upd_same
def JW : List Str := [nm 0, nm 1, nm 2, nm 3]
def spJW : Sp := fun vs H Q _ => vs = [] ∧ ∀ (l : Addr) (H' : Hp), Same H H' → H l = none → H' l = some (.lst (JW.map V.str)) → Q (.ref l) H'
abbrev sjoin_words : Stmt := top 32
theorem scjoin_words : FnScope [] [] (defScope sjoin_words) := ⟨rfl, rfl, rfl, by decide +kernel, rfl, by decide +kernel, by decide +kernel⟩
theorem ok_jw (D : JHas P w K mg base J) (F_all_joins : FnAt P w K mg base "all_joins" 1 [] (spAll J)) (F : TopFn K mg "join_words" sjoin_words []) : FnAt P w K mg base "join_words" 2 [] spJW := by
  refine F.at scjoin_words (fun vs H Q E h => ?_) (fun f cdv A outer s H vs Q E hr h => ?_)
  · obtain ⟨rfl, _⟩ := h
    rfl
  · obtain ⟨rfl, q⟩ := h
    refine ⟨_, (pss_one (ps_ret (pe_comp (sc := defScope sjoin_words) (N0 := []) (xs := ["join"]) (ys := []) (js := []) ⟨rfl, by decide +kernel, by decide +kernel, by decide +kernel, by decide +kernel⟩ rfl (pi_list (pe_fn0 F_all_joins hr (by decide) rfl)) (fun _ _ _ _ => (pg_name (i := 0) (show (["join"] : List Str).Nodup by decide +kernel) rfl (by first | exact Or.inl rfl | exact Or.inr rfl))) (fun _ _ _ _ => pq_nil) (fun _ _ _ _ => (pe_methD (D := DW J) (pv 0) D.hDW (hr.mono (by decide)) pass0))))), ?_⟩
    refine ⟨rfl, fun l p0 p1 p2 p3 H1 s1 el a0 a1 a2 a3 => ?_⟩
    refine ⟨l, rfl, ⟨_, SqL.of el⟩, comp_list (K := K) (a := l) (xs := [V.ref p0, V.ref p1, V.ref p2, V.ref p3]) (fun j us H' => us = (JW.take j).map V.str ∧ H' = H1) ⟨rfl, rfl⟩ (by show 4 ≤ sizeLine; decide) ?_ ?_ ?_ ?_⟩
    · rintro j us H' ⟨rfl, _⟩
      rw [List.length_map, List.length_take]; omega
    · rintro j us H' _ ⟨_, rfl⟩
      exact SqL.of el
    · rintro j x us H' hx ⟨rfl, rfl⟩
      obtain ⟨p, dx, h4, rfl, hp⟩ := at4 a0 a1 a2 a3 j x hx
      refine ⟨_, rfl, p, J.c j, dx, [], spC (.str (nm j)), rfl, hp, rfl, ⟨j, h4, rfl, rfl⟩, ⟨p, rfl⟩, ?_, rfl⟩
      rcases j4 h4 with rfl | rfl | rfl | rfl <;> rfl
    · rintro us H' ⟨rfl, rfl⟩ l2 hl2
      exact q l2 _ (s1.trans (Same.new hl2)) (s1.free hl2) upd_same
end
end K33
namespace K33
open PySem L2 PyProof.Rows PySem.SeqAt
def keyT (k : Str × Nat) : Str := textZ k.1 (k.2 : Int)
def partW (d : Nd) : List Str := d.n :: d.o.map keyT
def strokes (n : Nat) : Str := repZ n (Str.ofString "-")
def rowW (y : List (Nat × Str) × Nd) : List Str := match y.1.getLast? with
  | none => partW y.2
  | some l => strokes y.1.length :: nm l.1 :: partW y.2
def rowT (y : List (Nat × Str) × Nd) : Str := Txt.join " " (rowW y)
def textW (d : Nd) : Str := Txt.join "\n" ((walkP d).map rowT)
theorem strokes_list (n : Nat) : (strokes n).cps.toList = List.replicate n 45 := by
  unfold strokes repZ
  have e : (Str.ofString "-").cps.toList = [45] := by decide +kernel
  rw [e]
  induction n with
  | zero => rfl
  | succ n ih => rw [List.replicate_succ, List.flatten_cons, List.replicate_succ]; simpa using ih
theorem strokes_len (n : Nat) : (strokes n).length = n := by
  show (strokes n).cps.size = n
  rw [← Array.length_toList, strokes_list, List.length_replicate]
theorem nm_len (j : Nat) : (nm j).length ≤ 7 := by
  match j with
  | 0 => decide +kernel
  | 1 => decide +kernel
  | 2 => decide +kernel
  | n + 3 => exact (by decide +kernel : (Str.ofString "changed").length ≤ 7)
theorem keyT_len {k : Str × Nat} (h : isWordZ k.1 = true ∧ k.2 < 100) : (keyT k).length ≤ 11 := text_len h.1 (by omega) (by omega)
structure NdOk (d : Nd) : Prop where
  n : isWordZ d.n = true
  o : GoodO d.o
theorem PAt.ok {C : Addr} {H : Hp} {a : Addr} {d : Nd} (h : PAt C H a d) : NdOk d := by
  obtain ⟨_, _, _, _, _, hw, ⟨_, _, _, g⟩, _⟩ := h
  exact ⟨hw, g⟩
theorem partW_len {d : Nd} (h : NdOk d) : (partW d).length ≤ 3 ∧ ∀ z ∈ partW d, z.length ≤ 11 := by
  refine ⟨?_, fun z hz => ?_⟩
  · show (d.o.map keyT).length + 1 ≤ 3
    rw [List.length_map]
    have := h.o.l2
    omega
  · rcases List.mem_cons.mp hz with rfl | hz
    · have := word_len h.n; omega
    · obtain ⟨k, hk, rfl⟩ := List.mem_map.mp hz
      exact keyT_len (h.o.ok k hk)
theorem rowW_len {y : List (Nat × Str) × Nd} (h : NdOk y.2) (hr : y.1.length ≤ 1000) : (rowW y).length ≤ 5 ∧ ∀ z ∈ rowW y, z.length ≤ 1000 := by
  obtain ⟨a, b⟩ := partW_len h
  unfold rowW
  split
  · exact ⟨by omega, fun z hz => by have := b z hz; omega⟩
  · rename_i l _
    refine ⟨by rw [List.length_cons, List.length_cons]; omega, fun z hz => ?_⟩
    rcases List.mem_cons.mp hz with rfl | hz
    · rw [strokes_len]; exact hr
    · rcases List.mem_cons.mp hz with rfl | hz
      · have := nm_len l.1; omega
      · have := b z hz; omega
theorem rowT_len {y : List (Nat × Str) × Nd} (h : NdOk y.2) (hr : y.1.length ≤ 1000) : (rowT y).length ≤ 5005 := by
  obtain ⟨a, b⟩ := rowW_len h hr
  have h1 := len_join_le " " (rowW y)
  have h2 := sum_le b
  have h3 : ((" " : Str)).length = 1 := by decide +kernel
  have h4 := Nat.mul_le_mul_right 1000 a
  unfold rowT
  rw [h3] at h1
  omega
theorem atI_last {α : Type} {xs : List α} {i : Nat} {x : α} (hn : xs.length = i + 1) (h : xs[i]? = some x) : atI xs (-1) = some x := by
  have e : ixN xs.length (-1) = some i := by
    unfold ixN
    rw [if_neg (by decide), hn]
    rw [if_pos (by omega)]
    congr 1
    omega
  unfold atI
  rw [e]
  exact h
section
variable {P : Program} {w : World} {K : PySem.W.Frag} {mg : Str → Option Value} {base : Heap} {C : Addr}
def spPW (C : Addr) : Sp := fun vs H Q _ => ∃ (a : Addr) (d : Nd), vs = [.ref a] ∧ PAt C H a d ∧ ∀ (l : Addr) (H' : Hp), Same H H' → H' l = some (.lst ((partW d).map V.str)) → Q (.ref l) H'
abbrev spart_words : Stmt := top 52
theorem scpart_words : FnScope ["part"] ["part"] (defScope spart_words) := ⟨rfl, rfl, rfl, by decide +kernel, rfl, by decide +kernel, by decide +kernel⟩
theorem ok_pw (kit : PKit K C) (F_key_text : FnAt P w K mg base "key_text" 1 ["key"] (spKeyText K)) (F : TopFn K mg "part_words" spart_words ["part"]) : FnAt P w K mg base "part_words" 2 ["part"] (spPW C) := by
  refine F.at scpart_words (fun vs H Q E h => ?_) (fun f cdv A outer s H vs Q E hr h => ?_)
  · obtain ⟨a, d, rfl, _⟩ := h
    rfl
  · obtain ⟨a, d, rfl, ⟨dx, po, pb, kt, hA, hw, ⟨ps, hpo, hkr, go⟩, _⟩, q⟩ := h
    refine ⟨_, (pss_one (ps_ret (pe_op op_cat (pe_lst (pa_cons (pe_fld (pv 0) rfl) pa_nil)) (pe_comp (sc := defScope spart_words) (N0 := ["part"]) (xs := ["offer"]) (ys := []) (js := []) ⟨rfl, by decide +kernel, by decide +kernel, by decide +kernel, by decide +kernel⟩ rfl (pi_tup (pe_fld (pv 0) rfl)) (fun _ _ _ _ => (pg_name (i := 0) (show (["offer"] : List Str).Nodup by decide +kernel) rfl (by first | exact Or.inl rfl | exact Or.inr rfl))) (fun _ _ _ _ => pq_nil) (fun _ _ _ _ => (pe_fn F_key_text hr (by decide) rfl (pa_cons (pv 0) pa_nil))))))), ?_⟩
    have hs : sizeLine = 16777216 := sizeLine_eq
    have pl : ps.length ≤ 2 := by rw [hkr.1]; exact go.l2
    refine ⟨_, rfl, a, C, dx, _, _, rfl, hA, kit.cl, kit.name, pF_name, (by show 1 ≤ sizeLine; decide), fun l1 h1 => ?_⟩
    have s1 := Same.new (o := .lst [.str d.n]) h1
    have e1 : upd H l1 (.lst [.str d.n]) l1 = some (.lst [.str d.n]) := upd_same
    generalize upd H l1 (.lst [.str d.n]) = H1 at s1 e1 ⊢
    refine ⟨_, rfl, a, C, dx, _, _, rfl, s1 _ _ hA, kit.cl, kit.offers, pF_offers, po, rfl, ⟨_, SqT.of (s1 _ _ hpo)⟩, comp_tup (K := K) (a := po) (xs := ps.map V.ref) (fun i ys H' => ys = ((d.o.take i).map keyT).map V.str ∧ H' = H1) ⟨by simp, rfl⟩ (by rw [List.length_map]; omega) ?_ ?_ ?_ ?_⟩
    · rintro i ys H' ⟨rfl, _⟩
      rw [List.length_map, List.length_map, List.length_take]; omega
    · rintro i ys H' _ ⟨_, rfl⟩
      exact SqT.of (s1 _ _ hpo)
    · rintro i x ys H' hx ⟨rfl, rfl⟩
      rw [List.getElem?_map] at hx
      obtain ⟨p, hp, rfl⟩ := Option.map_eq_some_iff.mp hx
      obtain ⟨k, hk, hpk⟩ := hkr.at hp
      have kok := go.ok k (List.mem_of_getElem? hk)
      refine ⟨_, rfl, p, k.1, (k.2 : Int), rfl, SqT.of (s1 _ _ hpk), kok.1, by omega, by omega, ?_, rfl⟩
      rw [take_snoc hk, List.map_append, List.map_append]
      rfl
    · rintro ys H' ⟨rfl, rfl⟩ l2 h2
      rw [List.length_map, hkr.1, List.take_length]
      have s2 := Same.new (o := .lst ((d.o.map keyT).map V.str)) h2
      have e2 : upd H' l2 (.lst ((d.o.map keyT).map V.str)) l2 = some (.lst ((d.o.map keyT).map V.str)) := upd_same
      generalize upd H' l2 (.lst ((d.o.map keyT).map V.str)) = H2 at s2 e2 ⊢
      refine ⟨l1, l2, _, _, rfl, rfl, s2 _ _ e1, e2, ?_, fun p hp => ?_⟩
      · rw [List.length_map, List.length_map]
        have := go.l2
        show 1 + _ ≤ sizeLine
        omega
      · exact q p _ ((s1.trans s2).trans (Same.new hp)) upd_same
def spPR (C : Addr) : Sp := fun vs H Q _ => ∃ (l a : Addr) (y : List (Nat × Str) × Nd), vs = [.ref l, .ref a] ∧ RdAt H l y.1 ∧ y.1.length ≤ 100 ∧ PAt C H a y.2 ∧ ∀ H', Same H H' → Q (.str (rowT y)) H'
abbrev spart_row : Stmt := top 53
theorem scpart_row : FnScope ["road", "part"] ["road", "part"] (defScope spart_row) := ⟨rfl, rfl, rfl, by decide +kernel, rfl, by decide +kernel, by decide +kernel⟩
theorem ok_pr (T : Txt mg) (F_pw : FnAt P w K mg base "part_words" 2 ["part"] (spPW C)) (F : TopFn K mg "part_row" spart_row ["road", "part"]) : FnAt P w K mg base "part_row" 3 ["road", "part"] (spPR C) := by
  refine F.at scpart_row (fun vs H Q E h => ?_) (fun f cdv A outer s H vs Q E hr h => ?_)
  · obtain ⟨l, a, y, rfl, _⟩ := h
    rfl
  · obtain ⟨l, a, ⟨rd, d⟩, rfl, ⟨vs, hl, hvs⟩, h100, hP, q⟩ := h
    refine ⟨_, (pss_cons (ps_if (pt_not (pt_truth (pv 0) (fun _ => rfl))) (pss_one (ps_ret (pe_bm PySem.F.plainAttrs_str PySem.F.slot_str_join PySem.F.type_str_join mt_join pe_str (pa_cons (pe_fn F_pw hr (by decide) rfl (pa_cons (pv 1) pa_nil)) pa_nil)))) pss_nil)
      (pss_one (ps_ret (pe_bm PySem.F.plainAttrs_str PySem.F.slot_str_join PySem.F.type_str_join mt_join pe_str (pa_cons (pe_op op_cat (pe_lst (pa_cons (pe_op op_mulS pe_str (pe_callB call_len rfl T.n_len boot_len (pa_cons (pv 0) pa_nil))) (pa_cons (pe_ix ix_tup (pe_ix ix_list (pv 0) (pe_un un_neg pe_int) (fun _ _ => rfl)) pe_int (fun _ _ => rfl)) pa_nil))) (pe_fn F_pw hr (by decide) rfl (pa_cons (pv 1) pa_nil))) pa_nil))))), ?_⟩
    have hs : sizeLine = 16777216 := sizeLine_eq
    have b1 : ((" " : Str)).length = 1 := by decide +kernel
    have ok := hP.ok
    obtain ⟨pw1, pw2⟩ := partW_len ok
    have pw3 : (partW d).length ≤ 3 := pw1
    refine ⟨_, rfl, _, .inl ⟨_, SqL.of hl, rfl⟩, ?_⟩
    cases rd with
    | nil =>
      have hv0 : vs = [] := List.eq_nil_of_length_eq_zero hvs.1
      subst hv0
      refine iteT ⟨rfl, _, rfl, a, d, rfl, hP, fun l1 H1 s1 e1 => ?_⟩
      exact ⟨_, l1, partW d, rfl, rfl, SqL.of e1, join_ok pw2 pw1 (by rw [b1]; decide), q _ s1⟩
    | cons x rd =>
      obtain ⟨i0, hi0⟩ : ∃ i0, vs.length = i0 + 1 := ⟨rd.length, by rw [hvs.1]; rfl⟩
      have hne : (!vs.isEmpty) = true := by
        cases vs with
        | nil => simp at hi0
        | cons => rfl
      rw [hne]
      obtain ⟨v, hv⟩ : ∃ v, vs[i0]? = some v := ⟨_, List.getElem?_eq_getElem (by omega)⟩
      obtain ⟨z, hz, h4, p, rfl, hp⟩ := hvs.at hv
      have hlast : (x :: rd).getLast? = some z := by
        rw [List.getLast?_eq_getElem?, ← hvs.1, hi0]
        exact hz
      have hlast' : List.getLast? ((x :: rd, d) : List (Nat × Str) × Nd).1 = some z := hlast
      have er : rowW (x :: rd, d) = strokes (x :: rd).length :: nm z.1 :: partW d := by
        unfold rowW
        rw [hlast']
      have hl2 : (x :: rd).length = vs.length := hvs.1.symm
      refine iteF ⟨rfl, _, rfl, _, _, rfl, .inl ⟨_, SqL.of hl, rfl⟩, _, _, rfl, rfl, (by omega), (by have : (x :: rd).length ≤ 100 := h100; omega), (by decide +kernel), ?_⟩
      refine ⟨_, rfl, _, rfl, l, _, _, .ref p, rfl, rfl, SqL.of hl, ?_, p, _, _, _, rfl, rfl, SqT.of hp, rfl, (by show 2 ≤ sizeLine; decide), fun l1 h1 => ?_⟩
      · exact atI_last hi0 hv
      have es : repZ ((vs.length : Nat) : Int).toNat (Str.ofString "-") = strokes (x :: rd).length := by rw [hl2]; rfl
      have s1 := Same.new (o := .lst [.str (repZ ((vs.length : Nat) : Int).toNat (Str.ofString "-")), .str (nm z.1)]) h1
      have e1 : upd H l1 (.lst [.str (repZ ((vs.length : Nat) : Int).toNat (Str.ofString "-")), .str (nm z.1)]) l1 = some (.lst [.str (strokes (x :: rd).length), .str (nm z.1)]) := by rw [upd_same, es]
      generalize upd H l1 (.lst [.str (repZ ((vs.length : Nat) : Int).toNat (Str.ofString "-")), .str (nm z.1)]) = H1 at s1 e1 ⊢
      refine ⟨_, rfl, a, d, rfl, hP.same s1, fun l2 H2 s2 e2 => ?_⟩
      refine ⟨l1, l2, _, _, rfl, rfl, s2 _ _ e1, e2, (by rw [List.length_map]; show 2 + _ ≤ sizeLine; omega), fun l3 h3 => ?_⟩
      have s3 := Same.new (o := .lst ([.str (strokes (x :: rd).length), .str (nm z.1)] ++ (partW d).map V.str)) h3
      have e3 : upd H2 l3 (.lst ([.str (strokes (x :: rd).length), .str (nm z.1)] ++ (partW d).map V.str)) l3 = some (.lst ((rowW (x :: rd, d)).map V.str)) := by rw [upd_same, er]; rfl
      generalize upd H2 l3 (.lst ([.str (strokes (x :: rd).length), .str (nm z.1)] ++ (partW d).map V.str)) = H3 at s3 e3 ⊢
      obtain ⟨r1, r2⟩ := rowW_len (y := (x :: rd, d)) ok (by have : (x :: rd).length ≤ 100 := h100; show (x :: rd).length ≤ 1000; omega)
      exact ⟨_, l3, rowW (x :: rd, d), rfl, rfl, SqL.of e3, join_ok r2 r1 (by rw [b1]; decide), q _ ((s1.trans s2).trans s3)⟩
def spSW (C : Addr) : Sp := fun vs H Q _ => ∃ (a : Addr) (d : Nd), vs = [.ref a] ∧ PAt C H a d ∧ Sm d ∧ ∀ H', Same H H' → Q (.str (textW d)) H'
abbrev sshow_work : Stmt := top 54
theorem scshow_work : FnScope ["work"] ["work"] (defScope sshow_work) := ⟨rfl, rfl, rfl, by decide +kernel, rfl, by decide +kernel, by decide +kernel⟩
theorem ok_sw (F_walked : FnAt P w K mg base "walked" 7 ["work"] (spWk C 7)) (F_pr : FnAt P w K mg base "part_row" 3 ["road", "part"] (spPR C)) (F : TopFn K mg "show_work" sshow_work ["work"]) : FnAt P w K mg base "show_work" 8 ["work"] (spSW C) := by
  refine F.at scshow_work (fun vs H Q E h => ?_) (fun f cdv A outer s H vs Q E hr h => ?_)
  · obtain ⟨a, d, rfl, _⟩ := h
    rfl
  · obtain ⟨a, d, rfl, hP, sm, q⟩ := h
    refine ⟨_, (pss_one (ps_ret (pe_bm PySem.F.plainAttrs_str PySem.F.slot_str_join PySem.F.type_str_join mt_join pe_str (pa_cons (pe_comp (sc := defScope sshow_work) (N0 := ["work"]) (xs := ["road", "part"]) (ys := []) (js := []) ⟨rfl, by decide +kernel, by decide +kernel, by decide +kernel, by decide +kernel⟩ rfl (pi_list (pe_fn F_walked hr (by decide) rfl (pa_cons (pv 0) pa_nil))) (fun _ _ _ _ => (pg_tupK (n := 2) K rfl (pgs_cons (pg_name (i := 0) (show (["road", "part"] : List Str).Nodup by decide +kernel) rfl (by first | exact Or.inl rfl | exact Or.inr rfl)) (pgs_cons (pg_name (i := 1) (show (["road", "part"] : List Str).Nodup by decide +kernel) rfl (by first | exact Or.inl rfl | exact Or.inr rfl)) pgs_nil)))) (fun _ _ _ _ => pq_nil) (fun _ _ _ _ => (pe_fn F_pr hr (by decide) rfl (pa_cons (pv 0) (pa_cons (pv 1) pa_nil))))) pa_nil)))), ?_⟩
    have hs : sizeLine = 16777216 := sizeLine_eq
    have b1 : (("\n" : Str)).length = 1 := by decide +kernel
    have hz := sm.z
    refine ⟨rfl, _, rfl, a, d, rfl, hP, sm.h, hz, fun l rows H1 s1 f1 e1 hrows => ?_⟩
    have rl : rows.length ≤ 1001 := by rw [hrows.1, walkP_len]; omega
    have ok : ∀ y ∈ walkP d, NdOk y.2 ∧ y.1.length ≤ 7 := fun y hy => by
      obtain ⟨i, hi⟩ := List.getElem?_of_mem hy
      obtain ⟨v, hv, p, lr, a1, _, _, _, _, hP1⟩ := hrows.at' hi
      have := roadP_le hy
      have := sm.h
      exact ⟨hP1.ok, by omega⟩
    refine ⟨l, rfl, ⟨_, SqL.of e1⟩, comp_list (K := K) (a := l) (xs := rows) (fun i ys H' => ys = (((walkP d).map rowT).take i).map V.str ∧ Same H1 H') ⟨by simp, Same.refl _⟩ (by omega) ?_ ?_ ?_ ?_⟩
    · rintro i ys H' ⟨rfl, _⟩
      rw [List.length_map, List.length_take]; omega
    · rintro i ys H' _ ⟨_, s'⟩
      exact SqL.of (s' _ _ e1)
    · rintro i x ys H' hx ⟨rfl, s'⟩
      obtain ⟨y, hy, p, lr, a1, rfl, _, hp, hrd, hP1⟩ := hrows.at hx
      have hyr : ((walkP d).map rowT)[i]? = some (rowT y) := by rw [List.getElem?_map, hy]; rfl
      have o7 := ok y (List.mem_of_getElem? hy)
      refine ⟨p, _, rfl, SqT.of (s' _ _ hp), rfl, _, _, rfl, _, _, rfl, rfl, ?_⟩
      refine ⟨_, rfl, _, rfl, lr, a1, y, rfl, hrd.same s', by omega, hP1.same s', fun H2 s2 => ⟨?_, s'.trans s2⟩⟩
      rw [take_snoc hyr, List.map_append]
      rfl
    · rintro ys H' ⟨rfl, s'⟩ l2 hl2
      have nl : rows.length = ((walkP d).map rowT).length := by rw [List.length_map, hrows.1]
      rw [nl, List.take_length]
      have s2 := Same.new (o := .lst (((walkP d).map rowT).map V.str)) hl2
      refine ⟨_, l2, (walkP d).map rowT, rfl, rfl, SqL.of upd_same, join_ok (k := 5005) (n := 1001) (fun z hz => ?_) (by rw [List.length_map, ← hrows.1]; exact rl) (by rw [b1]; decide), q _ ((s1.trans s').trans s2)⟩
      obtain ⟨y, hy, rfl⟩ := List.mem_map.mp hz
      have o7 := ok y hy
      exact rowT_len o7.1 (by omega)
end
end K33
namespace L2
open PySem PySem.Spec PyProof.Rows
theorem op_inK {X : Cx} (K : PySem.W.Frag) (hK : X.K = K := by rfl) : OpR X (compareOp .In) (rIn K false) := by
  subst hK
  exact op_in_seq
end L2
namespace K33
open PySem L2 PyProof.Rows PySem.SeqAt
theorem cut1 (x : V) (xs : List V) : cutV (x :: xs) (some 1) none = xs := by
  have e : HT.sIx (x :: xs).length 0 (some 1) = 1 := by
    rw [show (1 : Int) = ((1 : Nat) : Int) from rfl, HT.sIx_nat, List.length_cons]
    omega
  unfold cutV
  rw [e, HT.sIx_none, List.drop_one, List.tail_cons]
  exact List.take_of_length_le (by rw [List.length_cons]; omega)
theorem cut2 (x y : V) (xs : List V) : cutV (x :: y :: xs) (some 2) none = xs := by
  have e : HT.sIx (x :: y :: xs).length 0 (some 2) = 2 := by
    rw [show (2 : Int) = ((2 : Nat) : Int) from rfl, HT.sIx_nat, List.length_cons, List.length_cons]
    omega
  unfold cutV
  rw [e, HT.sIx_none]
  exact List.take_of_length_le (by rw [List.length_drop, List.length_cons, List.length_cons]; omega)
theorem flat_strs (zs : List Str) : (zs.map V.str).all flatV = true := by
  rw [List.all_eq_true]
  intro x hx
  obtain ⟨z, _, rfl⟩ := List.mem_map.mp hx
  rfl
theorem in_strs {z : Str} {zs : List Str} (h : z ∈ zs) : inV (V.str z) (zs.map V.str) = true := by
  unfold inV
  rw [List.any_eq_true]
  exact ⟨V.str z, List.mem_map.mpr ⟨z, h, rfl⟩, by simp [eqV]⟩
theorem nm_in {j : Nat} (h : j < 4) : nm j ∈ JW := by
  match j, h with
  | 0, _ => exact List.mem_cons_self
  | 1, _ => exact List.mem_cons_of_mem _ List.mem_cons_self
  | 2, _ => exact List.mem_cons_of_mem _ (List.mem_cons_of_mem _ List.mem_cons_self)
  | 3, _ => exact List.mem_cons_of_mem _ (List.mem_cons_of_mem _ (List.mem_cons_of_mem _ List.mem_cons_self))
structure En where
  s : Nat
  j : Nat
  n : Str
  o : List (Str × Nat)
def partN (n : Str) (o : List (Str × Nat)) : List Str := n :: o.map keyT
def En.w (e : En) : List Str := strokes e.s :: nm e.j :: partN e.n e.o
structure En.Ok (e : En) : Prop where
  s1 : 1 ≤ e.s
  s2 : e.s ≤ 100
  j : e.j < 4
  n : isWordZ e.n = true
  o : GoodO e.o
section
variable {P : Program} {w : World} {K : PySem.W.Frag} {mg : Str → Option Value} {base : Heap} {C : Addr}
def spAPW : Sp := fun vs H Q _ => ∃ (l : Addr) (n : Str) (o : List (Str × Nat)), vs = [.ref l] ∧ H l = some (.lst ((partN n o).map V.str)) ∧ isWordZ n = true ∧ GoodO o ∧ ∀ H', Same H H' → Q (.bl true) H'
abbrev sare_part_words : Stmt := top 55
theorem scare_part_words : FnScope ["words"] ["words"] (defScope sare_part_words) := ⟨rfl, rfl, rfl, by decide +kernel, rfl, by decide +kernel, by decide +kernel⟩
theorem ok_apw (T : Txt mg) (F_is_word : FnAt P w K mg base "is_word" 1 ["thing"] (spWord K)) (F_is_key_text : FnAt P w K mg base "is_key_text" 2 ["text"] spIKT) (F : TopFn K mg "are_part_words" sare_part_words ["words"]) : FnAt P w K mg base "are_part_words" 3 ["words"] spAPW := by
  refine F.at scare_part_words (fun vs H Q E h => ?_) (fun f cdv A outer s H vs Q E hr h => ?_)
  · obtain ⟨l, n, o, rfl, _⟩ := h
    rfl
  · obtain ⟨l, n, o, rfl, hl, hn, go, q⟩ := h
    refine ⟨_, (pss_cons (ps_if (pt_not (pt_chain op_le op_le pe_int (pe_callB call_len rfl T.n_len boot_len (pa_cons (pv 0) pa_nil)) (pe_op op_add pe_int (pe_globI rfl T.g_MOST_OFFERS)))) (pss_one (ps_ret pe_bl)) pss_nil)
      (pss_one (ps_ret (pe_and (pe_fn F_is_word hr (by decide) rfl (pa_cons (pe_ix ix_list (pv 0) pe_int (fun _ _ => rfl)) pa_nil)) (pe_one (pe_callB (call_allB rfl) rfl T.n_all boot_all (pa_cons (pe_comp (sc := defScope sare_part_words) (N0 := ["words"]) (xs := ["text"]) (ys := []) (js := []) ⟨rfl, by decide +kernel, by decide +kernel, by decide +kernel, by decide +kernel⟩ rfl (pi_list (pe_slice sl_list (pv 0) (po_some pe_int) po_none)) (fun _ _ _ _ => (pg_name (i := 0) (show (["text"] : List Str).Nodup by decide +kernel) rfl (by first | exact Or.inl rfl | exact Or.inr rfl))) (fun _ _ _ _ => pq_nil) (fun _ _ _ _ => (pe_fn F_is_key_text hr (by decide) rfl (pa_cons (pv 0) pa_nil)))) pa_nil))))))), ?_⟩
    have hs : sizeLine = 16777216 := sizeLine_eq
    have o2 := go.l2
    have ln : (((partN n o).map V.str).length : Nat) = o.length + 1 := by
      rw [List.length_map]
      show (o.map keyT).length + 1 = _
      rw [List.length_map]
    refine ⟨_, rfl, _, _, rfl, .inl ⟨_, SqL.of hl, rfl⟩, _, _, rfl, rfl, _, rfl, ?_⟩
    refine ite2 (fun g1 => ?_) (fun g1 => absurd (decide_eq_true (by rw [ln]; omega)) g1)
    refine ⟨_, _, rfl, rfl, _, _, rfl, rfl, _, rfl, ?_⟩
    refine ite2 (fun g2 => absurd g2 (by rw [ln, decide_eq_true (show ((o.length + 1 : Nat) : Int) ≤ 1 + 2 by omega)]; decide)) (fun g2 => ?_)
    refine ⟨_, rfl, l, _, _, V.str n, rfl, rfl, SqL.of hl, (atI_nat (j := 0) rfl), .str n, rfl, ⟨.str, TyOf.str n⟩, (fun z' e => by cases e; have := word_len hn; omega), fun H1 s1 => ⟨_, rfl, ?_⟩⟩
    have l1 := s1 _ _ hl
    show if isWordZ n = true then _ else _
    rw [hn]
    refine iteT ⟨_, rfl, _, rfl, l, _, rfl, SqL.of l1, fun c hc => ?_⟩
    have e0 : cutV ((partN n o).map V.str) (some 1) none = (o.map keyT).map V.str := cut1 _ _
    rw [e0]
    have s2 := Same.new (o := .lst ((o.map keyT).map V.str)) hc
    have e2 : upd H1 c (.lst ((o.map keyT).map V.str)) c = some (.lst ((o.map keyT).map V.str)) := upd_same
    generalize upd H1 c (.lst ((o.map keyT).map V.str)) = H2 at s2 e2 ⊢
    refine ⟨c, rfl, ⟨_, SqL.of e2⟩, comp_list (K := K) (a := c) (xs := (o.map keyT).map V.str) (fun i ys H' => ys = (List.replicate i true).map V.bl ∧ Same H2 H') ⟨rfl, Same.refl _⟩ (by rw [List.length_map, List.length_map]; omega) ?_ ?_ ?_ ?_⟩
    · rintro i ys H' ⟨rfl, _⟩
      rw [List.length_map, List.length_replicate]; exact Nat.le_refl _
    · rintro i ys H' _ ⟨_, s'⟩
      exact SqL.of (s' _ _ e2)
    · rintro i x ys H' hx ⟨rfl, s'⟩
      rw [List.getElem?_map, List.getElem?_map] at hx
      obtain ⟨z, hz, rfl⟩ := Option.map_eq_some_iff.mp hx
      obtain ⟨k, hk, rfl⟩ := Option.map_eq_some_iff.mp hz
      have kok := go.ok k (List.mem_of_getElem? hk)
      refine ⟨_, rfl, k.1, k.2, rfl, kok.1, kok.2, fun H3 s3 => ⟨?_, s'.trans s3⟩⟩
      rw [List.replicate_succ', List.map_append]
      rfl
    · rintro ys H' ⟨rfl, s'⟩ p hp
      have s3 := Same.new (o := .lst ((List.replicate ((o.map keyT).map V.str).length true).map V.bl)) hp
      refine ⟨p, _, rfl, SqL.of upd_same, ?_⟩
      rw [show (List.replicate ((o.map keyT).map V.str).length true).all id = true by
        rw [List.all_eq_true]; intro x hx; rw [List.mem_replicate] at hx; rw [hx.2]; rfl]
      exact q _ (((s1.trans s2).trans s').trans s3)
def spJR : Sp := fun vs H Q _ => ∃ (l : Addr) (m : Nat) (e : En), vs = [.ref l, .int m] ∧ H l = some (.lst (e.w.map V.str)) ∧ e.Ok ∧ e.s ≤ m ∧ ∀ H', Same H H' → Q (.bl true) H'
abbrev sis_joined_row : Stmt := top 56
theorem scis_joined_row : FnScope ["words", "most"] ["words", "most"] (defScope sis_joined_row) := ⟨rfl, rfl, rfl, by decide +kernel, rfl, by decide +kernel, by decide +kernel⟩
theorem ok_jr (T : Txt mg) (F_join_words : FnAt P w K mg base "join_words" 2 [] spJW) (F_are_part_words : FnAt P w K mg base "are_part_words" 3 ["words"] spAPW) (F : TopFn K mg "is_joined_row" sis_joined_row ["words", "most"]) : FnAt P w K mg base "is_joined_row" 4 ["words", "most"] spJR := by
  refine F.at scis_joined_row (fun vs H Q E h => ?_) (fun f cdv A outer s H vs Q E hr h => ?_)
  · obtain ⟨l, m, e, rfl, _⟩ := h
    rfl
  · obtain ⟨l, m, e, rfl, hl, ok, hm, q⟩ := h
    refine ⟨_, (pss_cons (ps_if (PW.pt (pw_or (pt_cmpR op_lt (pe_callB call_len rfl T.n_len boot_len (pa_cons (pv 0) pa_nil)) pe_int (nomark _)) (pw_or (pt_cmpR op_ne (pe_ix ix_list (pv 0) pe_int (fun _ _ => rfl)) (pe_op op_mulS pe_str (pe_callB call_len rfl T.n_len boot_len (pa_cons (pe_ix ix_list (pv 0) pe_int (fun _ _ => rfl)) pa_nil))) (nomark _)) (pw_or1 (pt_not (pt_chain op_le op_le pe_int (pe_callB call_len rfl T.n_len boot_len (pa_cons (pe_ix ix_list (pv 0) pe_int (fun _ _ => rfl)) pa_nil)) (pv 1))))))) (pss_one (ps_ret pe_bl)) pss_nil)
      (pss_one (ps_ret (pe_and (pe_cmpR (op_inK K) (pe_ix ix_list (pv 0) pe_int (fun _ _ => rfl)) (pe_fn0 F_join_words hr (by decide) rfl) (by with_unfolding_all rfl)) (pe_one (pe_fn F_are_part_words hr (by decide) rfl (pa_cons (pe_slice sl_list (pv 0) (po_some pe_int) po_none) pa_nil))))))), ?_⟩
    have hs : sizeLine = 16777216 := sizeLine_eq
    have o2 := ok.o.l2
    have sl := strokes_len e.s
    have s1 := ok.s1
    have s2 := ok.s2
    have ln : ((e.w.map V.str).length : Nat) = e.o.length + 3 := by
      rw [List.length_map]
      show (e.o.map keyT).length + 1 + 1 + 1 = _
      rw [List.length_map]
    refine ⟨_, rfl, _, _, rfl, .inl ⟨_, SqL.of hl, rfl⟩, _, _, rfl, rfl, _, rfl, ?_⟩
    refine ite2 (fun g1 => absurd (of_decide_eq_true g1) (by rw [ln]; omega)) (fun _ => ?_)
    refine ⟨_, rfl, l, _, _, V.str (strokes e.s), rfl, rfl, SqL.of hl, (atI_nat (j := 0) rfl), ?_⟩
    have es : repZ (((strokes e.s).length : Nat) : Int).toNat (Str.ofString "-") = strokes e.s := by rw [sl]; rfl
    refine ⟨_, rfl, l, _, _, V.str (strokes e.s), rfl, rfl, SqL.of hl, (atI_nat (j := 0) rfl), _, _, rfl, ⟨by omega, rfl⟩, _, _, rfl, rfl, (by omega), (by omega), (by decide +kernel), rfl, _, rfl, ?_⟩
    refine iteNS (by rw [es]) ?_
    refine ⟨_, rfl, l, _, _, V.str (strokes e.s), rfl, rfl, SqL.of hl, (atI_nat (j := 0) rfl), _, _, rfl, ⟨by omega, rfl⟩, _, _, rfl, rfl, _, rfl, ?_⟩
    refine ite2 (fun g1 => ?_) (fun g1 => absurd (decide_eq_true (show (1 : Int) ≤ ((strokes e.s).length : Int) by omega)) g1)
    refine ⟨_, rfl, _, _, rfl, rfl, _, rfl, ?_⟩
    refine ite2 (fun g2 => absurd g2 (by rw [decide_eq_true (show ((strokes e.s).length : Int) ≤ (m : Int) by omega)]; decide)) (fun g2 => ?_)
    refine ⟨_, rfl, l, _, _, V.str (nm e.j), rfl, rfl, SqL.of hl, (atI_nat (j := 1) rfl), rfl, fun lj H1 s1 nlj ej => ?_⟩
    refine ⟨lj, _, rfl, .inl (SqL.of ej), rfl, flat_strs _, _, rfl, ?_⟩
    show if inV (V.str (nm e.j)) (JW.map V.str) = true then _ else _
    rw [in_strs (nm_in ok.j)]
    refine iteT ⟨_, rfl, _, rfl, l, _, rfl, SqL.of (s1 _ _ hl), fun c hc => ?_⟩
    have e0 : cutV (e.w.map V.str) (some 2) none = (partN e.n e.o).map V.str := cut2 _ _ _
    rw [e0]
    exact ⟨c, e.n, e.o, rfl, upd_same, ok.n, ok.o, fun H3 s3 => q _ ((s1.trans (Same.new hc)).trans s3)⟩
end
end K33
namespace K33
open PySem L2 PyProof.Rows PySem.SeqAt
def rws : Nat → Fo → List En
  | _, .nil => []
  | s, .cons j n o ks r => ⟨s, j, n, o⟩ :: (rws (s + 1) ks ++ rws s r)
theorem rws_len : ∀ (f : Fo) (s : Nat), (rws s f).length = f.size
  | .nil, _ => rfl
  | .cons j n o ks r, s => by
    rw [rws, List.length_cons, List.length_append, rws_len ks, rws_len r, Fo.size]
    omega
theorem rows_of : ∀ (f : Fo) (p : List (Nat × Str)), (walkF f).map (fun y => rowW (p ++ y.1, y.2)) = (rws (p.length + 1) f).map En.w
  | .nil, p => rfl
  | .cons j n o ks r, p => by
    have h1 := rows_of ks (p ++ [(j, n)])
    have h2 := rows_of r p
    rw [walkF, rws]
    simp only [List.map_cons, List.map_append, List.map_map, List.cons_append]
    rw [← h2]
    congr 1
    · show rowW (p ++ [(j, n)], ⟨n, o, ks⟩) = _
      unfold rowW
      have e : List.getLast? ((p ++ [(j, n)], (⟨n, o, ks⟩ : Nd)) : List (Nat × Str) × Nd).1 = some (j, n) := List.getLast?_concat
      rw [e]
      show strokes (p ++ [(j, n)]).length :: _ = _
      rw [List.length_append]
      rfl
    · congr 1
      rw [List.length_append] at h1
      rw [← show (rws (p.length + [(j, n)].length + 1) ks) = rws (p.length + 1 + 1) ks from rfl, ← h1]
      refine List.map_congr_left fun y _ => ?_
      show rowW (p ++ (j, n) :: y.1, y.2) = rowW (p ++ [(j, n)] ++ y.1, y.2)
      rw [List.append_assoc]
      rfl
theorem rows_walk (d : Nd) : (walkP d).map rowW = partN d.n d.o :: (rws 1 d.ks).map En.w := by
  rw [walkP, List.map_cons]
  congr 1
  exact rows_of d.ks []
theorem rws_step : ∀ (f : Fo) (s : Nat) (i : Nat) (e : En), (rws s f)[i]? = some e → (i = 0 → e.s = s) ∧ s ≤ e.s ∧ ∀ k e', i = k + 1 → (rws s f)[k]? = some e' → e.s ≤ e'.s + 1
  | .nil, s, i, e, h => by simp [rws] at h
  | .cons j n o ks r, s, i, e, h => by
    rw [rws] at h ⊢
    cases i with
    | zero =>
      simp only [List.getElem?_cons_zero, Option.some.injEq] at h
      subst h
      exact ⟨fun _ => rfl, Nat.le_refl _, fun k e' z => by omega⟩
    | succ i =>
      rw [List.getElem?_cons_succ] at h
      refine ⟨fun z => by omega, ?_⟩
      by_cases hi : i < (rws (s + 1) ks).length
      · rw [List.getElem?_append_left hi] at h
        obtain ⟨h0, h1, h2⟩ := rws_step ks (s + 1) i e h
        refine ⟨by omega, fun k e' z he' => ?_⟩
        obtain rfl : i = k := by omega
        cases i with
        | zero =>
          simp only [List.getElem?_cons_zero, Option.some.injEq] at he'
          subst he'
          have := h0 rfl
          show e.s ≤ s + 1
          omega
        | succ i =>
          rw [List.getElem?_cons_succ, List.getElem?_append_left (by omega)] at he'
          exact h2 i e' rfl he'
      · rw [List.getElem?_append_right (by omega)] at h
        obtain ⟨h0, h1, h2⟩ := rws_step r s _ e h
        refine ⟨h1, fun k e' z he' => ?_⟩
        obtain rfl : i = k := by omega
        by_cases e0 : i - (rws (s + 1) ks).length = 0
        · have := h0 e0
          have ge : ∀ x ∈ (⟨s, j, n, o⟩ :: (rws (s + 1) ks ++ rws s r) : List En), s ≤ x.s := fun x hx => by
            rcases List.mem_cons.mp hx with rfl | hx
            · exact Nat.le_refl _
            · rcases List.mem_append.mp hx with hx | hx
              · obtain ⟨q, hq⟩ := List.getElem?_of_mem hx
                have := (rws_step ks (s + 1) q x hq).2.1
                omega
              · obtain ⟨q, hq⟩ := List.getElem?_of_mem hx
                exact (rws_step r s q x hq).2.1
          have := ge e' (List.mem_of_getElem? he')
          omega
        · obtain ⟨m, hm⟩ : ∃ m, i = m + 1 := ⟨i - 1, by omega⟩
          subst hm
          rw [List.getElem?_cons_succ, List.getElem?_append_right (by omega)] at he'
          exact h2 _ e' (by omega) he'
def Fo.app : Fo → Fo → Fo
  | .nil, g => g
  | .cons j n o ks r, g => .cons j n o ks (r.app g)
theorem app_nil : ∀ f : Fo, f.app .nil = f
  | .nil => rfl
  | .cons j n o ks r => by rw [Fo.app, app_nil r]
def stp (e : En) (W : Nat → Fo) : Nat → Fo := fun t => if t = e.s then .cons e.j e.n e.o (W (e.s + 1)) (W e.s) else if t = e.s + 1 then .nil else W t
def wait (W : Nat → Fo) (es : List En) : Nat → Fo := es.foldr stp W
theorem wait_app (W : Nat → Fo) (a b : List En) : wait W (a ++ b) = wait (wait W b) a := List.foldr_append
theorem wait_rws : ∀ (f : Fo) (s : Nat) (W : Nat → Fo), (∀ t, s < t → W t = .nil) → wait W (rws s f) = fun t => if t = s then f.app (W s) else W t
  | .nil, s, W, h => by
    funext t
    show W t = _
    by_cases e : t = s
    · rw [if_pos e, e]; rfl
    · rw [if_neg e]
  | .cons j n o ks r, s, W, h => by
    have h1 := wait_rws r s W h
    have h2 := wait_rws ks (s + 1) (wait W (rws s r)) (fun t ht => by rw [h1]; show (if t = s then _ else _) = _; rw [if_neg (by omega)]; exact h t (by omega))
    rw [rws]
    show stp _ (wait W (rws (s + 1) ks ++ rws s r)) = _
    rw [wait_app]
    generalize wait (wait W (rws s r)) (rws (s + 1) ks) = G at h2
    have g1 : G (s + 1) = ks := by
      rw [h2]
      show (if s + 1 = s + 1 then ks.app (wait W (rws s r) (s + 1)) else _) = _
      rw [if_pos rfl, h1]
      show ks.app (if s + 1 = s then _ else W (s + 1)) = _
      rw [if_neg (by omega), h (s + 1) (by omega), app_nil]
    have g0 : ∀ t, t ≠ s + 1 → G t = if t = s then r.app (W s) else W t := fun t ht => by
      rw [h2]
      show (if t = s + 1 then _ else wait W (rws s r) t) = _
      rw [if_neg ht, h1]
    funext t
    show (if t = s then Fo.cons j n o (G (s + 1)) (G s) else if t = s + 1 then Fo.nil else G t) = _
    rw [g1, g0 s (by omega), if_pos rfl]
    by_cases e : t = s
    · rw [if_pos e, if_pos e]; rfl
    · rw [if_neg e, if_neg e]
      by_cases e2 : t = s + 1
      · rw [if_pos e2, e2, h (s + 1) (by omega)]
      · rw [if_neg e2, g0 t e2, if_neg e]
theorem wait_at : ∀ (f : Fo) (s : Nat) (W : Nat → Fo), (∀ t, s < t → W t = .nil) → ∀ (i : Nat) (e : En), (rws s f)[i]? = some e → ∃ y, (walkF f)[i]? = some y ∧ y.2 = ⟨e.n, e.o, wait W ((rws s f).drop (i + 1)) (e.s + 1)⟩
  | .nil, s, W, h, i, e, he => by simp [rws] at he
  | .cons j n o ks r, s, W, h, i, e, he => by
    have h1 := wait_rws r s W h
    have hn : ∀ t, s + 1 < t → wait W (rws s r) t = .nil := fun t ht => by rw [h1]; show (if t = s then _ else _) = _; rw [if_neg (by omega)]; exact h t (by omega)
    have hn1 : wait W (rws s r) (s + 1) = .nil := by rw [h1]; show (if s + 1 = s then _ else _) = _; rw [if_neg (by omega)]; exact h _ (by omega)
    have h2 := wait_rws ks (s + 1) (wait W (rws s r)) hn
    have lk : (walkF ks).length = (rws (s + 1) ks).length := by rw [walkF_len, rws_len]
    rw [rws] at he ⊢
    rw [walkF]
    cases i with
    | zero =>
      simp only [List.getElem?_cons_zero, Option.some.injEq] at he
      subst he
      refine ⟨_, rfl, ?_⟩
      rw [List.drop_one, List.tail_cons, wait_app, h2]
      show (⟨n, o, ks⟩ : Nd) = ⟨n, o, if s + 1 = s + 1 then ks.app (wait W (rws s r) (s + 1)) else _⟩
      rw [if_pos rfl, hn1, app_nil]
    | succ i =>
      rw [List.getElem?_cons_succ] at he
      rw [List.drop_succ_cons]
      by_cases hi : i < (rws (s + 1) ks).length
      · rw [List.getElem?_append_left hi] at he
        obtain ⟨y, hy, e2⟩ := wait_at ks (s + 1) _ hn i e he
        refine ⟨((j, n) :: y.1, y.2), ?_, ?_⟩
        · rw [List.getElem?_append_left (by rw [List.length_map, List.length_cons]; omega), List.getElem?_map, List.getElem?_cons_succ, hy]
          rfl
        · show y.2 = _
          rw [List.drop_append_of_le_length (by omega), wait_app]
          exact e2
      · rw [List.getElem?_append_right (by omega)] at he
        obtain ⟨y, hy, e2⟩ := wait_at r s W h _ e he
        refine ⟨y, ?_, ?_⟩
        · rw [List.getElem?_append_right (by rw [List.length_map, List.length_cons]; omega), List.length_map, List.length_cons, lk]
          rw [show i + 1 - ((rws (s + 1) ks).length + 1) = i - (rws (s + 1) ks).length by omega]
          exact hy
        · rw [e2, List.drop_append, List.drop_of_length_le (l := rws (s + 1) ks) (by omega), List.nil_append]
          rw [show i - (rws (s + 1) ks).length + 1 = i + 1 - (rws (s + 1) ks).length by omega]
def Fo.Good : Fo → Prop
  | .nil => True
  | .cons j n o ks r => j < 4 ∧ isWordZ n = true ∧ GoodO o ∧ ks.items.length ≤ 6 ∧ ks.Good ∧ r.Good
structure NGood (d : Nd) : Prop where
  ok : NdOk d
  l6 : d.ks.items.length ≤ 6
  ks : d.ks.Good
theorem good_walk : ∀ {f : Fo} {y : List (Nat × Str) × Nd}, f.Good → y ∈ walkF f → NGood y.2
  | .nil, y, _, h => by cases h
  | .cons j n o ks r, y, g, h => by
    obtain ⟨_, g1, g2, g3, g4, g5⟩ := g
    rcases List.mem_append.mp h with h | h
    · obtain ⟨z, hz, rfl⟩ := List.mem_map.mp h
      rcases List.mem_cons.mp hz with rfl | hz
      · exact ⟨⟨g1, g2⟩, g3, g4⟩
      · exact good_walk (y := z) g4 hz
    · exact good_walk g5 h
theorem good_en : ∀ {f : Fo} {s : Nat} {e : En}, f.Good → e ∈ rws s f → s ≤ e.s ∧ e.s < s + f.ht ∧ e.j < 4 ∧ isWordZ e.n = true ∧ GoodO e.o
  | .nil, s, e, _, h => by cases h
  | .cons j n o ks r, s, e, g, h => by
    obtain ⟨g0, g1, g2, g3, g4, g5⟩ := g
    rw [rws] at h
    rw [Fo.ht]
    rcases List.mem_cons.mp h with rfl | h
    · exact ⟨Nat.le_refl _, by dsimp only; omega, g0, g1, g2⟩
    · rcases List.mem_append.mp h with h | h
      · obtain ⟨a, b, c⟩ := good_en g4 h
        exact ⟨by omega, by omega, c⟩
      · obtain ⟨a, b, c⟩ := good_en g5 h
        exact ⟨a, by omega, c⟩
theorem en_ok {d : Nd} (g : NGood d) (b : Bd d) {e : En} (h : e ∈ rws 1 d.ks) : e.Ok := by
  obtain ⟨a1, a2, a3, a4, a5⟩ := good_en g.ks h
  have := b.h
  exact ⟨a1, by omega, a3, a4, a5⟩
def W0 : Nat → Fo := fun _ => .nil
theorem node_at {d : Nd} (g : NGood d) (b : Bd d) {i : Nat} {e : En} (h : (rws 1 d.ks)[i]? = some e) : NGood ⟨e.n, e.o, wait W0 ((rws 1 d.ks).drop (i + 1)) (e.s + 1)⟩ ∧ Bd ⟨e.n, e.o, wait W0 ((rws 1 d.ks).drop (i + 1)) (e.s + 1)⟩ := by
  obtain ⟨y, hy, e2⟩ := wait_at d.ks 1 W0 (fun _ _ => rfl) i e h
  rw [← e2]
  refine ⟨good_walk g.ks (List.mem_of_getElem? hy), ?_⟩
  have hy' : (walkP d)[i + 1]? = some y := by rw [walkP, List.getElem?_cons_succ]; exact hy
  have hw := walk_ht (List.mem_of_getElem? hy)
  have := b.z
  have := b.h
  exact ⟨sub_nodup b.nd hy', by omega, by omega⟩
theorem wait_end (d : Nd) : wait W0 (rws 1 d.ks) 1 = d.ks := by
  rw [wait_rws d.ks 1 W0 (fun _ _ => rfl)]
  show (if 1 = 1 then d.ks.app .nil else _) = _
  rw [if_pos rfl, app_nil]
theorem valV_drop {κ : Type} [DecidableEq κ] (kvs : List (κ × V)) (k j : κ) : valV (dropK kvs k) j = if j = k then none else valV kvs j := by
  induction kvs with
  | nil => rw [show dropK ([] : List (κ × V)) k = [] from rfl, valV_nil]; split <;> rfl
  | cons p r ih =>
    by_cases e : p.1 = k
    · have e1 : dropK (p :: r) k = dropK r k := by unfold dropK; rw [List.filter_cons_of_neg (by simp [e])]
      rw [e1, ih]
      by_cases e2 : j = k
      · rw [if_pos e2, if_pos e2]
      · rw [if_neg e2, if_neg e2, valV_neg (fun z => e2 (by rw [← z, e]))]
    · have e1 : dropK (p :: r) k = p :: dropK r k := by unfold dropK; rw [List.filter_cons_of_pos (by simp [e])]
      rw [e1]
      by_cases e3 : p.1 = j
      · rw [valV_pos e3, valV_pos e3, if_neg (fun z => e (e3.trans z))]
      · rw [valV_neg e3, valV_neg e3, ih]
theorem split_row {y : List (Nat × Str) × Nd} (h : NdOk y.2) : Txt.split (rowT y) " " = rowW y := by
  have e : (" " : Str) = ⟨#[32]⟩ := by decide +kernel
  have hp : ∀ z ∈ partW y.2, 32 ∉ z.cps.toList := fun z hz => by
    rcases List.mem_cons.mp hz with rfl | hz
    · exact word_no h.n (by decide)
    · obtain ⟨k, hk, rfl⟩ := List.mem_map.mp hz
      obtain ⟨k1, k2⟩ := h.o.ok k hk
      show 32 ∉ (k.1 ++ Str.ofString "." ++ Str.ofString (toString ((k.2 : Nat) : Int))).cps.toList
      rw [app_toList, app_toList, List.mem_append, List.mem_append]
      rintro ((m | m) | m)
      · exact word_no k1 (by decide) m
      · exact absurd m (by decide +kernel)
      · exact fig_no (num2 k2) (by decide) m
  unfold rowT
  rw [e]
  refine split_join ?_ fun z hz => ?_
  · unfold rowW
    split <;> simp [partW]
  · unfold rowW at hz
    split at hz
    · exact hp z hz
    · rename_i l _
      rcases List.mem_cons.mp hz with rfl | hz
      · rw [strokes_list]
        intro m
        rw [List.mem_replicate] at m
        exact absurd m.2 (by decide)
      · rcases List.mem_cons.mp hz with rfl | hz
        · match l.1 with
          | 0 => decide +kernel
          | 1 => decide +kernel
          | 2 => decide +kernel
          | n + 3 => exact (by decide +kernel : 32 ∉ (Str.ofString "changed").cps.toList)
        · exact hp z hz
theorem row_no10 {y : List (Nat × Str) × Nd} (h : NdOk y.2) : 10 ∉ (rowT y).cps.toList := by
  have e : (" " : Str) = ⟨#[32]⟩ := by decide +kernel
  have hw : ∀ z ∈ rowW y, 10 ∉ z.cps.toList := by
    have hp : ∀ z ∈ partW y.2, 10 ∉ z.cps.toList := fun z hz => by
      rcases List.mem_cons.mp hz with rfl | hz
      · exact word_no h.n (by decide)
      · obtain ⟨k, hk, rfl⟩ := List.mem_map.mp hz
        obtain ⟨k1, k2⟩ := h.o.ok k hk
        show 10 ∉ (k.1 ++ Str.ofString "." ++ Str.ofString (toString ((k.2 : Nat) : Int))).cps.toList
        rw [app_toList, app_toList, List.mem_append, List.mem_append]
        rintro ((m | m) | m)
        · exact word_no k1 (by decide) m
        · exact absurd m (by decide +kernel)
        · exact fig_no (num2 k2) (by decide) m
    intro z hz
    unfold rowW at hz
    split at hz
    · exact hp z hz
    · rename_i l _
      rcases List.mem_cons.mp hz with rfl | hz
      · rw [strokes_list]
        intro m
        rw [List.mem_replicate] at m
        exact absurd m.2 (by decide)
      · rcases List.mem_cons.mp hz with rfl | hz
        · match l.1 with
          | 0 => decide +kernel
          | 1 => decide +kernel
          | 2 => decide +kernel
          | n + 3 => exact (by decide +kernel : 10 ∉ (Str.ofString "changed").cps.toList)
        · exact hp z hz
  unfold rowT
  rw [e, tjoin, join_toList]
  have : ∀ xs : List (List Nat), (∀ x ∈ xs, 10 ∉ x) → 10 ∉ jl 32 xs := by
    intro xs
    induction xs with
    | nil => intro _ m; cases m
    | cons x r ih =>
      intro hx
      cases r with
      | nil => exact hx x List.mem_cons_self
      | cons y r =>
        show 10 ∉ x ++ 32 :: jl 32 (y :: r)
        intro m
        rcases List.mem_append.mp m with m | m
        · exact hx x List.mem_cons_self m
        · rcases List.mem_cons.mp m with m | m
          · exact absurd m (by decide)
          · exact ih (fun z hz => hx z (List.mem_cons_of_mem _ hz)) m
  refine this _ fun x hx => ?_
  obtain ⟨z, hz, rfl⟩ := List.mem_map.mp hx
  exact hw z hz
theorem split_text {d : Nd} (h : ∀ y ∈ walkP d, NdOk y.2) : Txt.split (textW d) "\n" = (walkP d).map rowT := by
  have e : ("\n" : Str) = ⟨#[10]⟩ := by decide +kernel
  unfold textW
  rw [e]
  refine split_join (by rw [walkP]; simp) fun z hz => ?_
  obtain ⟨y, hy, rfl⟩ := List.mem_map.mp hz
  exact row_no10 (h y hy)
end K33
namespace K33
open PySem L2 PyProof.Rows PySem.SeqAt
theorem hu1 {A : Around} {k : Nat} (hr : Room k A) : A.units + 1 < cLine := by have := hr.units; omega
def EnAt (H : Hp) (p : Addr) (e : En) : Prop := H p = some (.lst (e.w.map V.str))
def RowsAt (H : Hp) (l : Addr) (d : Nd) : Prop := ∃ (p0 : Addr) (ps : List Addr), H l = some (.lst (.ref p0 :: ps.map V.ref)) ∧ H p0 = some (.lst ((partN d.n d.o).map V.str)) ∧ A2 (EnAt H) ps (rws 1 d.ks)
theorem RowsAt.same {H H' : Hp} {l : Addr} {d : Nd} (h : RowsAt H l d) (s : Same H H') : RowsAt H' l d := by
  obtain ⟨p0, ps, h1, h2, h3⟩ := h
  exact ⟨p0, ps, s _ _ h1, s _ _ h2, h3.imp fun _ _ e => s _ _ e⟩
section
variable {P : Program} {w : World} {K : PySem.W.Frag} {mg : Str → Option Value} {base : Heap} {C fP : Addr} {dP : FuncData}
def spNF : Sp := fun vs H Q _ => ∃ (l : Addr) (d : Nd), vs = [.ref l] ∧ RowsAt H l d ∧ NGood d ∧ Bd d ∧ ∀ H', Same H H' → Q .non H'
abbrev sneed_forms : Stmt := top 57
theorem scneed_forms : FnScope ["rows", "most", "place"] ["rows"] (defScope sneed_forms) := ⟨rfl, rfl, rfl, by decide +kernel, rfl, by decide +kernel, by decide +kernel⟩
theorem ok_nf (T : Txt mg) (F_are_part_words : FnAt P w K mg base "are_part_words" 3 ["words"] spAPW) (F_is_joined_row : FnAt P w K mg base "is_joined_row" 4 ["words", "most"] spJR) (F : TopFn K mg "need_forms" sneed_forms ["rows"]) : FnAt P w K mg base "need_forms" 5 ["rows"] spNF := by
  refine F.at scneed_forms (fun vs H Q E h => ?_) (fun f cdv A outer s H vs Q E hr h => ?_)
  · obtain ⟨l, d, rfl, _⟩ := h
    rfl
  · obtain ⟨l, d, rfl, ⟨p0, ps, hl, hp0, hps⟩, g, bd, q⟩ := h
    refine ⟨_, (pss_cons (ps_if (pt_not (pt_val (pe_fn F_are_part_words hr (by decide) rfl (pa_cons (pe_ix ix_list (pv 0) pe_int (fun _ _ => rfl)) pa_nil)))) (pss_one ps_never) pss_nil)
      (pss_cons (ps_set (i := 1) scneed_forms.nd rfl (by first | exact Or.inl rfl | exact Or.inr rfl) pe_int)
      (pss_one (ps_for PassesOwn.never rfl (pi_range2 rfl T.n_range (pa_cons pe_int (pa_cons (pe_callB call_len rfl T.n_len boot_len (pa_cons (pv 0) pa_nil)) pa_nil))) (pg_name (i := 2) scneed_forms.nd rfl (by first | exact Or.inl rfl | exact Or.inr rfl)) (pss_cons (ps_if (pt_not (pt_val (pe_fn F_is_joined_row hr (by decide) rfl (pa_cons (pe_ix ix_list (pv 0) (pv 2) (fun _ _ => rfl)) (pa_cons (pv 1) pa_nil))))) (pss_one ps_never) pss_nil)
      (pss_one (ps_set (i := 1) scneed_forms.nd rfl (by first | exact Or.inl rfl | exact Or.inr rfl) (pe_op op_add (pe_callB call_len rfl T.n_len boot_len (pa_cons (pe_ix ix_list (pe_ix ix_list (pv 0) (pv 2) (fun _ _ => rfl)) pe_int (fun _ _ => rfl)) pa_nil)) pe_int)))))))), ?_⟩
    have hs : sizeLine = 16777216 := sizeLine_eq
    have bz := bd.z
    have pl : ps.length ≤ 29 := by rw [hps.1, rws_len]; omega
    have ll : (V.ref p0 :: ps.map V.ref).length = ps.length + 1 := by rw [List.length_cons, List.length_map]
    refine ⟨_, rfl, l, _, _, V.ref p0, rfl, rfl, SqL.of hl, (atI_nat (j := 0) rfl), p0, d.n, d.o, rfl, hp0, g.ok.n, g.ok.o, fun H1 s1 => ⟨_, rfl, iteF ?_⟩⟩
    refine ⟨_, rfl, _, _, rfl, .inl ⟨_, SqL.of (s1 _ _ hl), rfl⟩, _, _, rfl, ⟨by decide, by decide, ?_, ?_⟩, for_range (n := _) (fun i σ H' => ∃ (v2 : Option V) (m : Nat), σ = [some (.ref l), some (.int (m : Int)), v2] ∧ Same H H' ∧ (i = 0 → m = 1) ∧ ∀ k e', i = k + 1 → (rws 1 d.ks)[k]? = some e' → m = e'.s + 1) ⟨_, 1, rfl, s1, fun _ => rfl, fun k e' z => by omega⟩ ?_ ?_⟩
    · rw [ll]; omega
    · rw [ll]; omega
    · rintro i σ H' hi ⟨v2, m, rfl, s', m0, m1⟩
      have hi : i < ps.length := by rw [ll] at hi; omega
      obtain ⟨p, hp⟩ : ∃ p, ps[i]? = some p := ⟨ps[i], List.getElem?_eq_getElem hi⟩
      obtain ⟨e, he, hpe⟩ := hps.at hp
      have ok := en_ok g bd (List.mem_of_getElem? he)
      have ha : atI (V.ref p0 :: ps.map V.ref) (1 + (i : Int)) = some (.ref p) := by
        rw [show (1 : Int) + i = ((i + 1 : Nat) : Int) by omega]
        exact atI_nat (by rw [List.getElem?_cons_succ, List.getElem?_map, hp]; rfl)
      obtain ⟨z0, z1, z2⟩ := rws_step _ _ _ _ he
      have hm : e.s ≤ m := by
        by_cases e0 : i = 0
        · have := z0 e0; have := m0 e0; omega
        · obtain ⟨k, rfl⟩ : ∃ k, i = k + 1 := ⟨i - 1, by omega⟩
          obtain ⟨e', he'⟩ : ∃ e', (rws 1 d.ks)[k]? = some e' := ⟨_, List.getElem?_eq_getElem (by rw [← hps.1]; omega)⟩
          have := z2 k e' rfl he'
          have := m1 k e' rfl he'
          omega
      refine ⟨_, rfl, _, rfl, l, _, _, V.ref p, rfl, rfl, SqL.of (s' _ _ hl), ha, _, rfl, p, m, e, rfl, s' _ _ hpe, ok, hm, fun H2 s2 => ⟨_, rfl, iteF ?_⟩⟩
      have S2 := s'.trans s2
      have sl := strokes_len e.s
      have e100 := ok.s2
      refine ⟨_, rfl, _, rfl, l, _, _, V.ref p, rfl, rfl, SqL.of (S2 _ _ hl), ha, p, _, _, V.str (strokes e.s), rfl, rfl, SqL.of (S2 _ _ hpe), (atI_nat (j := 0) rfl), _, _, rfl, ⟨by omega, rfl⟩, _, _, rfl, rfl, ?_⟩
      refine ⟨_, e.s + 1, by rw [sl]; rfl, S2, fun z => by omega, fun k e' z he' => ?_⟩
      obtain rfl : i = k := by omega
      rw [he] at he'
      cases he'
      rfl
    · rintro σ H' ⟨v2, m, rfl, s', _⟩
      exact q _ s'
def spMP (C : Addr) : Sp := fun vs H Q _ => ∃ (l lb : Addr) (n : Str) (o : List (Str × Nat)) (f : Fo) (its : List V), vs = [.ref l, .ref lb] ∧ H l = some (.lst ((partN n o).map V.str)) ∧ H lb = some (.lst its) ∧ FAt C H f its ∧ NGood ⟨n, o, f⟩ ∧ Bd ⟨n, o, f⟩ ∧ ∀ (a : Addr) (H' : Hp), Same H H' → PAt C H' a ⟨n, o, f⟩ → Q (.ref a) H'
abbrev smade_part : Stmt := top 58
theorem scmade_part : FnScope ["words", "beneath"] ["words", "beneath"] (defScope smade_part) := ⟨rfl, rfl, rfl, by decide +kernel, rfl, by decide +kernel, by decide +kernel⟩
theorem ok_mp (M : PMk P w K mg base C fP dP) (F_key_of : FnAt P w K mg base "key_of" 3 ["text"] spKeO) (F : TopFn K mg "made_part" smade_part ["words", "beneath"]) : FnAt P w K mg base "made_part" 12 ["words", "beneath"] (spMP C) := by
  refine F.at scmade_part (fun vs H Q E h => ?_) (fun f cdv A outer s H vs Q E hr h => ?_)
  · obtain ⟨l, lb, n, o, fo, its, rfl, _⟩ := h
    rfl
  · obtain ⟨l, lb, n, o, fo, its, rfl, hl, hlb, hF, g, bd, q⟩ := h
    refine ⟨_, (pss_one (ps_ret (pe_make M.kP M.oP (hr.mono (by omega)) rfl M.mP M.bP .nil pass0 (pa_cons (pe_ix ix_list (pv 0) pe_int (fun _ _ => rfl)) (pa_cons (pe_comp (sc := defScope smade_part) (N0 := ["words", "beneath"]) (xs := ["text"]) (ys := []) (js := []) ⟨rfl, by decide +kernel, by decide +kernel, by decide +kernel, by decide +kernel⟩ rfl (pi_list (pe_slice sl_list (pv 0) (po_some pe_int) po_none)) (fun _ _ _ _ => (pg_name (i := 0) (show (["text"] : List Str).Nodup by decide +kernel) rfl (by first | exact Or.inl rfl | exact Or.inr rfl))) (fun _ _ _ _ => pq_nil) (fun _ _ _ _ => (pe_fn F_key_of hr (by decide) rfl (pa_cons (pv 0) pa_nil)))) (pa_cons (pv 1) pa_nil)))))), ?_⟩
    have hs : sizeLine = 16777216 := sizeLine_eq
    have go := g.ok.o
    have o2 : o.length ≤ 2 := go.l2
    have i6 : its.length ≤ 6 := by rw [hF.items.1]; exact g.l6
    refine ⟨_, rfl, l, _, _, V.str n, rfl, rfl, SqL.of hl, (atI_nat (j := 0) rfl), _, rfl, _, rfl, l, _, rfl, SqL.of hl, fun c hc => ?_⟩
    have e0 : cutV ((partN n o).map V.str) (some 1) none = (o.map keyT).map V.str := cut1 _ _
    rw [e0]
    have s2 := Same.new (o := .lst ((o.map keyT).map V.str)) hc
    have e2 : upd H c (.lst ((o.map keyT).map V.str)) c = some (.lst ((o.map keyT).map V.str)) := upd_same
    generalize upd H c (.lst ((o.map keyT).map V.str)) = H2 at s2 e2 ⊢
    refine ⟨c, rfl, ⟨_, SqL.of e2⟩, comp_list (K := K) (a := c) (xs := (o.map keyT).map V.str) (fun i ys H' => ∃ qs : List Addr, ys = qs.map V.ref ∧ A2 (KeyR H') qs (o.take i) ∧ Same H2 H') ⟨[], rfl, A2.nil, Same.refl _⟩ (by rw [List.length_map, List.length_map]; omega) ?_ ?_ ?_ ?_⟩
    · rintro i ys H' ⟨qs, rfl, hq, _⟩
      rw [List.length_map, hq.1, List.length_take]
      omega
    · rintro i ys H' _ ⟨_, _, _, s'⟩
      exact SqL.of (s' _ _ e2)
    · rintro i x ys H' hx ⟨qs, rfl, hq, s'⟩
      rw [List.getElem?_map, List.getElem?_map] at hx
      obtain ⟨z, hz, rfl⟩ := Option.map_eq_some_iff.mp hx
      obtain ⟨k, hk, rfl⟩ := Option.map_eq_some_iff.mp hz
      have kok := go.ok k (List.mem_of_getElem? hk)
      refine ⟨_, rfl, k.1, k.2, rfl, kok.1, kok.2, fun p H3 s3 e3 => ⟨qs ++ [p], by rw [List.map_append]; rfl, ?_, s'.trans s3⟩⟩
      rw [take_snoc hk]
      exact (hq.imp fun _ _ e => s3 _ _ e).app (A2.one e3)
    · rintro ys H' ⟨qs, rfl, hq, s'⟩ lo hlo
      rw [List.length_map, List.length_map, List.take_length] at hq
      have s3 := Same.new (o := .lst (qs.map V.ref)) hlo
      have e3 : upd H' lo (.lst (qs.map V.ref)) lo = some (.lst (qs.map V.ref)) := upd_same
      generalize upd H' lo (.lst (qs.map V.ref)) = H3 at s3 e3 ⊢
      have S3 := (s2.trans s').trans s3
      refine ⟨_, rfl, fun x dx fx fd fne => ?_⟩
      refine ⟨x, dx, .ref lo, .ref lb, n, o, fo, its, H3, rfl, upd_same, fx, fun b o e => by rw [upd_ne (ne_of_none e fx), upd_ne (ne_of_none e fd)]; exact e, g.ok.n, .inr (.inl ⟨lo, qs, rfl, e3, hq.imp fun _ _ e => s3 _ _ e, go⟩), .inr ⟨lb, rfl, S3 _ _ hlb, hF.t (.of S3), i6⟩, bd, fun H4 s4 hP => ⟨rfl, ?_⟩⟩
      exact q x H4 (S3.trans s4) hP
end
end K33
namespace L2
open PySem PySem.Spec PyProof.Rows
def tDPopB (td ty tx : TE) : TE := fun σ H Q => td σ H fun x H1 => ∃ a, x = .ref a ∧ IsD H1 a ∧ ty σ H1 fun y H2 => tx σ H2 fun z H3 => ∃ kvs k, H3 a = some (.dK kvs) ∧ y = kV k ∧
  ∀ v H4, (valV kvs k = some v ∧ H4 = upd H3 a (.dK (dropK kvs k))) ∨ (valV kvs k = none ∧ v = z ∧ H4 = H3) → Q v H4
theorem pe_dpopB {X : Cx} {o e f : Expr} {apos cpos : Pos} {td ty tx : TE} (ho : PE X o td) (he : PE X e ty) (hf : PE X f tx) (m : M2 X o "pop" apos e f cpos) : PE X (.Call (.Attribute o "pop" apos) [e, f] [] cpos) (tDPopB td ty tx) := by
  intro pins s σ H Q I h
  refine wpAny_Call_method m.base m.few m.line PySem.F.plainAttrs_dict PySem.F.slot_dict_pop PySem.F.type_dict_pop (thn (ho pins s σ H _ I h) fun u s1 ⟨x, H1, I1, rx, a, ex, d, q1⟩ => ?_)
  subst ex
  obtain rfl : u = Value.ref a := rx
  obtain ⟨t1, t2, _⟩ := isD_at I1 d
  refine ⟨t1, t2, ?_⟩
  rw [m.trees]
  refine Calls.callWith_builtin rfl (Calls.evalArgs_plain (Calls.spliced_cons (thn (he pins s1 σ H1 _ I1 q1) fun iv s2 ⟨y, H2, I2, ry, q2⟩ =>
    Calls.spliced_cons (thn (hf pins s2 σ H2 _ I2 q2) fun fv s3 ⟨z, H3, I3, rz, kvs, k, ea, ey, q3⟩ => Calls.spliced_nil ?_))))
  subst ey
  cases l : valV kvs k with
  | some v => exact d_pop I3 ea ry l (.inr ⟨fv, rfl⟩) fun w' s4 I4 rw' => ⟨v, _, I4, rw', q3 v _ (.inl ⟨l, rfl⟩)⟩
  | none => exact d_popD I3 ea ry l fun s4 I4 => ⟨z, H3, I4, rz, q3 z _ (.inr ⟨l, rfl, rfl⟩)⟩
end L2
namespace K33
open PySem L2 PyProof.Rows PySem.SeqAt
def Kp (wd : Addr) (H H' : Hp) : Prop := ∀ a o, H a = some o → a ≠ wd → H' a = some o
theorem Kp.of {wd : Addr} {H H' : Hp} (s : Same H H') : Kp wd H H' := fun a o e _ => s a o e
theorem Kp.trans {wd : Addr} {H H1 H2 : Hp} (a : Kp wd H H1) (b : Kp wd H1 H2) : Kp wd H H2 := fun x o e n => b x o (a x o e n) n
theorem Kp.upd {wd : Addr} {H : Hp} {o : HO} : Kp wd H (L2.upd H wd o) := fun a ob e n => by rw [upd_ne n]; exact e
theorem Kp.tp {wd : Addr} {H H' : Hp} {kvs : List (Key × V)} (k : Kp wd H H') (h : H wd = some (.dK kvs)) : TpIn H H' := fun a o e z => k a o e (by
  rintro rfl
  rw [h] at e
  cases e
  rcases z with ⟨_, z⟩ | ⟨_, _, _, z⟩ <;> cases z)
theorem Kp.lst {wd a : Addr} {H H' : Hp} {kvs : List (Key × V)} {xs : List V} (k : Kp wd H H') (h : H wd = some (.dK kvs)) (e : H a = some (.lst xs)) : H' a = some (.lst xs) := k a _ e (by
  rintro rfl
  rw [h] at e
  cases e)
def WAt (C : Addr) (H : Hp) (i : Nat) (kvs : List (Key × V)) (W : Nat → Fo) : Prop := ∀ t : Nat, (valV kvs (Sum.inl (t : Int)) = none ∧ W t = .nil) ∨ ∃ l its, valV kvs (Sum.inl (t : Int)) = some (.ref l) ∧ H l = some (.lst its) ∧ FAt C H (W t) its ∧ its.length ≤ i
section
variable {P : Program} {w : World} {K : PySem.W.Frag} {mg : Str → Option Value} {base : Heap} {C : Addr}
def spMW (C : Addr) : Sp := fun vs H Q _ => ∃ (l : Addr) (d : Nd), vs = [.ref l] ∧ RowsAt H l d ∧ NGood d ∧ Bd d ∧ ∀ (a : Addr) (H' : Hp), Same H H' → PAt C H' a d → Q (.ref a) H'
abbrev smade_work : Stmt := top 59
theorem scmade_work : FnScope ["rows", "waiting", "words", "strokes", "part"] ["rows"] (defScope smade_work) := ⟨rfl, rfl, rfl, by decide +kernel, rfl, by decide +kernel, by decide +kernel⟩
theorem ok_mw (T : Txt mg) (N : Tx2 mg) (F_made_part : FnAt P w K mg base "made_part" 12 ["words", "beneath"] (spMP C)) (F : TopFn K mg "made_work" smade_work ["rows"]) : FnAt P w K mg base "made_work" 13 ["rows"] (spMW C) := by
  refine F.at scmade_work (fun vs H Q E h => ?_) (fun f cdv A outer s H vs Q E hr h => ?_)
  · obtain ⟨l, d, rfl, _⟩ := h
    rfl
  · obtain ⟨l, d, rfl, ⟨p0, ps, hl, hp0, hps⟩, g, bd, q⟩ := h
    refine ⟨_, (pss_cons (ps_set (i := 1) scmade_work.nd rfl (by first | exact Or.inl rfl | exact Or.inr rfl) pe_dnewK)
      (pss_cons (ps_for PassesOwn.never rfl (pi_rev rfl N.n_reversed (pa_cons (pe_slice sl_list (pv 0) (po_some pe_int) po_none) pa_nil)) (pg_name (i := 2) scmade_work.nd rfl (by first | exact Or.inl rfl | exact Or.inr rfl)) (pss_cons (ps_set (i := 3) scmade_work.nd rfl (by first | exact Or.inl rfl | exact Or.inr rfl) (pe_callB call_len rfl T.n_len boot_len (pa_cons (pe_ix ix_list (pv 2) pe_int (fun _ _ => rfl)) pa_nil)))
      (pss_cons (ps_set (i := 4) scmade_work.nd rfl (by first | exact Or.inl rfl | exact Or.inr rfl) (pe_fn F_made_part hr (by decide) rfl (pa_cons (pe_slice sl_list (pv 2) (po_some pe_int) po_none) (pa_cons (pe_dpopB (pv 1) (pe_op op_add (pv 3) pe_int) (pe_lst pa_nil) ⟨rfl, rfl, rfl, rfl⟩) pa_nil))))
      (pss_one (ps_dput (hu1 hr) (pv 1) (pv 3) (pe_op op_cat (pe_lst (pa_cons (pe_tup (pa_cons (pe_ix ix_list (pv 2) pe_int (fun _ _ => rfl)) (pa_cons (pv 4) pa_nil))) pa_nil)) (pe_dget2 (hu1 hr) (pv 1) (pv 3) (pe_lst pa_nil) ⟨rfl, rfl, rfl, rfl⟩)) rfl)))))
      (pss_one (ps_ret (pe_fn F_made_part hr (by decide) rfl (pa_cons (pe_ix ix_list (pv 0) pe_int (fun _ _ => rfl)) (pa_cons (pe_dget2 (hu1 hr) (pv 1) pe_int (pe_lst pa_nil) ⟨rfl, rfl, rfl, rfl⟩) pa_nil))))))), ?_⟩
    have hs : sizeLine = 16777216 := sizeLine_eq
    have bz := bd.z
    have pl : ps.length ≤ 29 := by rw [hps.1, rws_len]; omega
    intro wd hwd
    have s0 := Same.new (o := .dK []) hwd
    have e0 : upd H wd (.dK []) wd = some (.dK []) := upd_same
    generalize upd H wd (.dK []) = H0 at s0 e0 ⊢
    refine ⟨_, rfl, _, rfl, l, _, rfl, SqL.of (s0 _ _ hl), fun c hc => ?_⟩
    have ec : cutV (V.ref p0 :: ps.map V.ref) (some 1) none = ps.map V.ref := cut1 _ _
    rw [ec]
    have s1 := Same.new (o := .lst (ps.map V.ref)) hc
    have e1 : upd H0 c (.lst (ps.map V.ref)) c = some (.lst (ps.map V.ref)) := upd_same
    generalize upd H0 c (.lst (ps.map V.ref)) = H1 at s1 e1 ⊢
    have S1 := s0.trans s1
    have w1 := s1 _ _ e0
    have up : ∀ {H' : Hp}, Kp wd H1 H' → Same H H' := fun k a o e => k a o (S1 a o e) (ne_of_none e hwd)
    have ml : (ps.map V.ref).length = (rws 1 d.ks).length := by rw [List.length_map, hps.1]
    refine ⟨c, _, rfl, SqL.of e1, for_rev (K := K) (a := c) (xs := ps.map V.ref) (fun i σ H' => ∃ (v2 v3 v4 : Option V) (kvs : List (Key × V)), σ = [some (.ref l), some (.ref wd), v2, v3, v4] ∧ Kp wd H1 H' ∧ H' wd = some (.dK kvs) ∧ kvs.length ≤ i ∧ WAt C H' i kvs (wait W0 ((rws 1 d.ks).drop ((rws 1 d.ks).length - i)))) ⟨_, _, _, [], rfl, fun _ _ e _ => e, w1, Nat.le_refl _, fun t => .inl ⟨rfl, by rw [Nat.sub_zero, List.drop_length]; rfl⟩⟩ (fun i σ H' _ ⟨_, _, _, _, _, k, _⟩ => SqL.of (k.lst w1 e1)) ?_ ?_⟩
    · rintro i x σ H' hi hx ⟨v2, v3, v4, kvs, rfl, kp, hw, kl, wa⟩
      rw [ml] at hi hx
      rw [List.getElem?_map] at hx
      obtain ⟨p, hp, rfl⟩ := Option.map_eq_some_iff.mp hx
      obtain ⟨e, he, hpe⟩ := hps.at hp
      have ok := en_ok g bd (List.mem_of_getElem? he)
      obtain ⟨ng, nb⟩ := node_at g bd he
      have hdr : (rws 1 d.ks).drop ((rws 1 d.ks).length - 1 - i) = e :: (rws 1 d.ks).drop ((rws 1 d.ks).length - i) := by
        obtain ⟨hj, ej⟩ := List.getElem?_eq_some_iff.mp he
        rw [List.drop_eq_getElem_cons hj, ej, show (rws 1 d.ks).length - 1 - i + 1 = (rws 1 d.ks).length - i by omega]
      have e2i : (rws 1 d.ks).length - 1 - i + 1 = (rws 1 d.ks).length - i := by omega
      rw [e2i] at ng nb
      have i29 : i < 29 := by rw [rws_len] at hi; omega
      have sl := strokes_len e.s
      have e100 := ok.s2
      have hpe' : H' p = some (.lst (e.w.map V.str)) := kp.lst w1 (S1 _ _ hpe)
      generalize hW : wait W0 ((rws 1 d.ks).drop ((rws 1 d.ks).length - i)) = W at wa ng nb
      refine ⟨_, rfl, p, _, _, V.str (strokes e.s), rfl, rfl, SqL.of hpe', (atI_nat (j := 0) rfl), _, _, rfl, ⟨by omega, rfl⟩, ?_⟩
      rw [sl]
      refine ⟨_, rfl, _, rfl, p, _, rfl, SqL.of hpe', fun c2 hc2 => ?_⟩
      have ec2 : cutV (e.w.map V.str) (some 2) none = (partN e.n e.o).map V.str := cut2 _ _ _
      rw [ec2]
      have s2 := Same.new (o := .lst ((partN e.n e.o).map V.str)) hc2
      have e2 : upd H' c2 (.lst ((partN e.n e.o).map V.str)) c2 = some (.lst ((partN e.n e.o).map V.str)) := upd_same
      generalize upd H' c2 (.lst ((partN e.n e.o).map V.str)) = H2 at s2 e2 ⊢
      have w2 := s2 _ _ hw
      refine ⟨_, rfl, wd, rfl, .inl ⟨_, .inl w2⟩, _, rfl, _, _, rfl, rfl, (by show 0 ≤ sizeLine; decide), fun l0 hl0 => ?_⟩
      have s3 := Same.new (o := .lst []) hl0
      have e3 : upd H2 l0 (.lst []) l0 = some (.lst []) := upd_same
      generalize upd H2 l0 (.lst []) = H3 at s3 e3 ⊢
      have w3 := s3 _ _ w2
      have S3 := s2.trans s3
      refine ⟨kvs, Sum.inl ((e.s : Int) + 1), w3, rfl, fun v H4 hv => ?_⟩
      have et : ((e.s + 1 : Nat) : Int) = (e.s : Int) + 1 := by omega
      obtain ⟨lb, its, kvs', rfl, k34, w4, b4, f4, kl4, hn4, hv4⟩ : ∃ (lb : Addr) (its : List V) (kvs' : List (Key × V)), v = .ref lb ∧ Kp wd H3 H4 ∧ H4 wd = some (.dK kvs') ∧ H4 lb = some (.lst its) ∧ FAt C H4 (W (e.s + 1)) its ∧ kvs'.length ≤ kvs.length ∧ valV kvs' (Sum.inl ((e.s : Int) + 1)) = none ∧ ∀ t : Nat, t ≠ e.s + 1 → valV kvs' (Sum.inl (t : Int)) = valV kvs (Sum.inl (t : Int)) := by
        have wt := wa (e.s + 1)
        rw [et] at wt
        rcases hv with ⟨hv, rfl⟩ | ⟨hv, rfl, rfl⟩
        · rcases wt with ⟨z, _⟩ | ⟨lb, its, z, hb, hf, _⟩
          · rw [hv] at z; cases z
          · rw [hv] at z
            cases z
            have kk : Kp wd H3 (upd H3 wd (.dK (dropK kvs (Sum.inl ((e.s : Int) + 1))))) := Kp.upd
            refine ⟨lb, its, _, rfl, kk, upd_same, kk.lst w3 (S3 _ _ hb), (hf.t (.of S3)).t (kk.tp w3), dropK_le _ _, by rw [valV_drop, if_pos rfl], fun t ht => ?_⟩
            rw [valV_drop, if_neg]
            intro z
            have := Sum.inl.inj z
            omega
        · rcases wt with ⟨_, z⟩ | ⟨lb, its, z, _⟩
          · exact ⟨l0, [], kvs, rfl, Kp.of (Same.refl _), w3, e3, by rw [z]; rfl, Nat.le_refl _, hv, fun _ _ => rfl⟩
          · rw [hv] at z; cases z
      refine ⟨c2, lb, e.n, e.o, W (e.s + 1), its, rfl, k34.lst w3 (s3 _ _ e2), b4, f4, ng, nb, fun a H5 s5 hPa => ?_⟩
      have w5 := s5 _ _ w4
      have k5 : Kp wd H' H5 := ((Kp.of S3).trans k34).trans (Kp.of s5)
      have p5 : H5 p = some (.lst (e.w.map V.str)) := k5.lst hw hpe'
      refine ⟨_, rfl, p, _, _, V.str (nm e.j), rfl, rfl, SqL.of p5, (atI_nat (j := 1) rfl), _, rfl, (by show 2 ≤ sizeLine; decide), fun t ht => ?_⟩
      have s6 := Same.new (o := .tup [.str (nm e.j), .ref a]) ht
      have e6 : upd H5 t (.tup [.str (nm e.j), .ref a]) t = some (.tup [.str (nm e.j), .ref a]) := upd_same
      generalize upd H5 t (.tup [.str (nm e.j), .ref a]) = H6 at s6 e6 ⊢
      refine ⟨(by show 1 ≤ sizeLine; decide), fun l1 hl1 => ?_⟩
      have s7 := Same.new (o := .lst [.ref t]) hl1
      have e7 : upd H6 l1 (.lst [.ref t]) l1 = some (.lst [.ref t]) := upd_same
      generalize upd H6 l1 (.lst [.ref t]) = H7 at s7 e7 ⊢
      have w7 := s7 _ _ (s6 _ _ w5)
      refine ⟨_, rfl, wd, rfl, .inl ⟨_, .inl w7⟩, _, rfl, (by show 0 ≤ sizeLine; decide), fun l2 hl2 => ?_⟩
      have s8 := Same.new (o := .lst []) hl2
      have e8 : upd H7 l2 (.lst []) l2 = some (.lst []) := upd_same
      generalize upd H7 l2 (.lst []) = H8 at s8 e8 ⊢
      have w8 := s8 _ _ w7
      have S58 := (s6.trans s7).trans s8
      have k8 : Kp wd H' H8 := k5.trans (Kp.of S58)
      obtain ⟨lw, tl, hlw, elw, ftl, tll⟩ : ∃ lw tl, (valV kvs' (Sum.inl (e.s : Int))).getD (.ref l2) = .ref lw ∧ H8 lw = some (.lst tl) ∧ FAt C H8 (W e.s) tl ∧ tl.length ≤ i := by
        rw [hv4 e.s (by omega)]
        rcases wa e.s with ⟨z1, z2⟩ | ⟨lw, tl, z1, z2, z3, z4⟩
        · exact ⟨l2, [], by rw [z1]; rfl, e8, by rw [z2]; rfl, Nat.zero_le _⟩
        · exact ⟨lw, tl, by rw [z1]; rfl, k8.lst hw z2, z3.t (k8.tp hw), z4⟩
      refine ⟨_, DGet.k (k := Sum.inl (e.s : Int)) w8, ?_⟩
      rw [hlw]
      refine ⟨l1, lw, _, _, rfl, rfl, s8 _ _ e7, elw, (by show 1 + _ ≤ sizeLine; omega), fun l3 hl3 => ?_⟩
      have s9 := Same.new (o := .lst ([.ref t] ++ tl)) hl3
      have e9 : upd H8 l3 (.lst ([.ref t] ++ tl)) l3 = some (.lst (.ref t :: tl)) := upd_same
      generalize upd H8 l3 (.lst ([.ref t] ++ tl)) = H9 at s9 e9 ⊢
      have w9 := s9 _ _ w8
      refine ⟨_, rfl, _, rfl, wd, _, rfl, DPut.k (k := Sum.inl (e.s : Int)) w9 (by omega), ?_⟩
      have k9 : Kp wd H9 (upd H9 wd (.dK (putK kvs' (Sum.inl (e.s : Int)) (.ref l3)))) := Kp.upd
      have wT : upd H9 wd (.dK (putK kvs' (Sum.inl (e.s : Int)) (.ref l3))) wd = some (.dK (putK kvs' (Sum.inl (e.s : Int)) (.ref l3))) := upd_same
      generalize upd H9 wd (.dK (putK kvs' (Sum.inl (e.s : Int)) (.ref l3))) = H10 at k9 wT ⊢
      have kA : Kp wd H' H10 := (k8.trans (Kp.of s9)).trans k9
      have S59 := S58.trans s9
      have pl2 := length_putK kvs' (Sum.inl (e.s : Int)) (.ref l3)
      refine ⟨_, _, _, _, rfl, kp.trans kA, wT, by omega, fun u => ?_⟩
      rw [show (rws 1 d.ks).length - (i + 1) = (rws 1 d.ks).length - 1 - i by omega, hdr]
      have eW : wait W0 (e :: (rws 1 d.ks).drop ((rws 1 d.ks).length - i)) = stp e W := by rw [← hW]; rfl
      rw [eW, valV_put]
      by_cases eu : u = e.s
      · refine .inr ⟨l3, .ref t :: tl, by rw [eu, if_pos rfl], k9.lst w9 e9, ?_, by rw [List.length_cons]; omega⟩
        show FAt C H10 (stp e W u) (.ref t :: tl)
        unfold stp
        rw [if_pos eu]
        refine FAt.of ?_
        show A2 (JPAt C H10) (.ref t :: tl) ((e.j, ⟨e.n, e.o, W (e.s + 1)⟩) :: (W e.s).items)
        exact A2.cons ⟨t, a, rfl, (k9.tp w9).tup (s9 _ _ (s8 _ _ (s7 _ _ e6))), ok.j, (hPa.same S59).t (k9.tp w9)⟩ (((ftl.t (.of s9)).t (k9.tp w9)).items)
      · rw [if_neg (fun z => eu (by have := Sum.inl.inj z; omega))]
        unfold stp
        rw [if_neg eu]
        by_cases e1u : u = e.s + 1
        · refine .inl ⟨?_, by rw [if_pos e1u]⟩
          rw [e1u, et]
          exact hn4
        · rw [hv4 u e1u, if_neg e1u]
          rcases wa u with h | ⟨lw', its', z1, z2, z3, z4⟩
          · exact .inl h
          · exact .inr ⟨lw', its', z1, kA.lst hw z2, z3.t (kA.tp hw), by omega⟩
    · rintro σ H' ⟨v2, v3, v4, kvs, rfl, kp, hw, kl, wa⟩
      rw [ml, Nat.sub_self, List.drop_zero] at wa
      have SH := up kp
      refine ⟨_, rfl, l, _, _, V.ref p0, rfl, rfl, SqL.of (SH _ _ hl), (atI_nat (j := 0) rfl), _, rfl, wd, rfl, .inl ⟨_, .inl hw⟩, (by show 0 ≤ sizeLine; decide), fun l2 hl2 => ?_⟩
      have s8 := Same.new (o := .lst []) hl2
      have e8 : upd H' l2 (.lst []) l2 = some (.lst []) := upd_same
      generalize upd H' l2 (.lst []) = H8 at s8 e8 ⊢
      obtain ⟨lw, tl, hlw, elw, ftl⟩ : ∃ lw tl, (valV kvs (Sum.inl (1 : Int))).getD (.ref l2) = .ref lw ∧ H8 lw = some (.lst tl) ∧ FAt C H8 d.ks tl := by
        have w1 := wa 1
        rw [wait_end] at w1
        rcases w1 with ⟨z1, z2⟩ | ⟨lw, tl, z1, z2, z3, z4⟩
        · exact ⟨l2, [], by rw [show valV kvs (Sum.inl (1 : Int)) = none from z1]; rfl, e8, by rw [z2]; rfl⟩
        · exact ⟨lw, tl, by rw [show valV kvs (Sum.inl (1 : Int)) = some (.ref lw) from z1]; rfl, s8 _ _ z2, z3.t (.of s8)⟩
      refine ⟨_, DGet.k (k := Sum.inl (1 : Int)) (s8 _ _ hw), ?_⟩
      rw [hlw]
      exact ⟨p0, lw, d.n, d.o, d.ks, tl, rfl, (SH.trans s8) _ _ hp0, elw, ftl, g, bd, fun a H9 s9 hP => q a H9 ((SH.trans s8).trans s9) hP⟩
end
end K33
namespace L2
open PySem PySem.Spec PyProof.Rows
theorem pe_bmK {X : Cx} {o e : Expr} {es : List Expr} {to : TE} {t : TA} {name : Str} {apos cpos : Pos} {T id : String} {r : V → List V → Hp → VK → Prop} (K : PySem.W.Frag) (pa : PlainAttrs T) (slot : Slot T name id) (hty : typeOf (.builtin id) = pure (.type "method_descriptor")) (hm : MtR X id r) (ho : PE X o to) (ha : PA X (e :: es) t) (hK : X.K = K := by rfl)
    (hbase : attributeBase o name X.env (eval o X.env) = eval o X.env := by rfl)
    (hfew : ((backTo cpos (starEach (e :: es) X.env)).all (fun x => !x.1) && (backToKw cpos (keywordEach [] X.env)).all (fun x => x.1.isSome)
      && decide ((e :: es).length + ([] : List Keyword).length + (if ([] : List Keyword).isEmpty then 0 else 1) < 30)) = true := by rfl)
    (hline : (apos.endLine == cpos.line) = true := by rfl) (hs : starEach (e :: es) X.env = (false, eval e X.env) :: starEach es X.env := by rfl) (hplain : (backTo cpos (starEach es X.env)).any (·.1) = false := by rfl) :
    PE X (.Call (.Attribute o name apos) (e :: es) [] cpos) (tBM K T r to t) := by
  subst hK
  exact pe_bm pa slot hty hm ho ha hbase hfew hline hs hplain
end L2
namespace K33
open PySem L2 PyProof.Rows PySem.SeqAt
theorem A2.unmap {α β γ : Type} {R : α → β → Prop} {f : γ → β} {xs : List α} {ys : List γ} (h : A2 R xs (ys.map f)) : A2 (fun x y => R x (f y)) xs ys :=
  ⟨by rw [h.1, List.length_map], fun i x y e1 e2 => h.2 i x (f y) e1 (by rw [List.getElem?_map, e2]; rfl)⟩
theorem ng_walk {d : Nd} (g : NGood d) {y : List (Nat × Str) × Nd} (h : y ∈ walkP d) : NGood y.2 := by
  rcases List.mem_cons.mp h with rfl | h
  · exact g
  · exact good_walk g.ks h
theorem rowT_le {d : Nd} (g : NGood d) (b : Bd d) {y : List (Nat × Str) × Nd} (h : y ∈ walkP d) : (rowT y).length ≤ 5005 := by
  have := roadP_le h
  have := b.h
  exact rowT_len (ng_walk g h).ok (by omega)
theorem textW_len {d : Nd} (g : NGood d) (b : Bd d) : (textW d).length ≤ 160000 := by
  have h1 := len_join_le "\n" ((walkP d).map rowT)
  have h2 : (((walkP d).map rowT).map (·.length)).sum ≤ ((walkP d).map rowT).length * 5005 := sum_le fun z hz => by
    obtain ⟨y, hy, rfl⟩ := List.mem_map.mp hz
    exact rowT_le g b hy
  have h3 : ((walkP d).map rowT).length ≤ 30 := by
    have := b.z
    rw [List.length_map, walkP_len]
    omega
  have h4 : (("\n" : Str)).length = 1 := by decide +kernel
  have h5 := Nat.mul_le_mul_right 5005 h3
  rw [h4] at h1
  show (Txt.join "\n" ((walkP d).map rowT)).length ≤ _
  omega
section
variable {P : Program} {w : World} {K : PySem.W.Frag} {mg : Str → Option Value} {base : Heap} {C : Addr}
def spRW (C : Addr) : Sp := fun vs H Q _ => ∃ (d : Nd), vs = [.str (textW d)] ∧ NGood d ∧ Bd d ∧ ∀ (a : Addr) (H' : Hp), Same H H' → PAt C H' a d → Q (.ref a) H'
abbrev sread_work : Stmt := top 60
theorem scread_work : FnScope ["text", "rows"] ["text"] (defScope sread_work) := ⟨rfl, rfl, rfl, by decide +kernel, rfl, by decide +kernel, by decide +kernel⟩
theorem ok_rw (T : Txt mg) (F_need_forms : FnAt P w K mg base "need_forms" 5 ["rows"] spNF) (F_made_work : FnAt P w K mg base "made_work" 13 ["rows"] (spMW C)) (F : TopFn K mg "read_work" sread_work ["text"]) : FnAt P w K mg base "read_work" 14 ["text"] (spRW C) := by
  refine F.at scread_work (fun vs H Q E h => ?_) (fun f cdv A outer s H vs Q E hr h => ?_)
  · obtain ⟨d, rfl, _⟩ := h
    rfl
  · obtain ⟨d, rfl, g, bd, q⟩ := h
    refine ⟨_, (pss_cons (ps_if (pt_not (pt_val (pe_callB (call_isKd .str (by simp)) rfl T.n_isinstance boot_isinstance (pa_cons (pv 0) (pa_cons (pe_bltn (v := .ty "str") rfl T.n_str boot_str rfl) pa_nil))))) (pss_one ps_never) pss_nil)
      (pss_cons (ps_setComp (i := 1) (sc := defScope sread_work) (N0 := ["text", "rows"]) (xs := ["row"]) (ys := []) (js := []) ⟨rfl, by decide +kernel, by decide +kernel, by decide +kernel, by decide +kernel⟩ rfl scread_work.nd rfl rfl (pi_list (pe_bm PySem.F.plainAttrs_str PySem.F.slot_str_split PySem.F.type_str_split mt_split (pv 0) (pa_cons pe_str pa_nil))) (fun _ _ _ _ => (pg_name (i := 0) (show (["row"] : List Str).Nodup by decide +kernel) rfl (by first | exact Or.inl rfl | exact Or.inr rfl))) (fun _ _ _ _ => pq_nil) (fun _ _ _ _ => (pe_bmK K PySem.F.plainAttrs_str PySem.F.slot_str_split PySem.F.type_str_split mt_split (pv 0) (pa_cons pe_str pa_nil))))
      (pss_cons (ps_expr (pe_fn F_need_forms hr (by decide) rfl (pa_cons (pv 1) pa_nil)))
      (pss_one (ps_ret (pe_fn F_made_work hr (by decide) rfl (pa_cons (pv 1) pa_nil))))))), ?_⟩
    have hs : sizeLine = 16777216 := sizeLine_eq
    have bz := bd.z
    have tl := textW_len g bd
    have wl : ((walkP d).map rowT).length ≤ 30 := by rw [List.length_map, walkP_len]; omega
    refine ⟨_, rfl, _, .str, rfl, TyOf.str _, _, rfl, iteF ?_⟩
    refine ⟨_, rfl, rfl, textW d, "\n", rfl, rfl, (by decide +kernel), (by omega), fun p hp => ?_⟩
    rw [split_text fun y hy => (ng_walk g hy).ok]
    have s1 := Same.new (o := .lst (((walkP d).map rowT).map V.str)) hp
    have e1 : upd H p (.lst (((walkP d).map rowT).map V.str)) p = some (.lst (((walkP d).map rowT).map V.str)) := upd_same
    generalize upd H p (.lst (((walkP d).map rowT).map V.str)) = H1 at s1 e1 ⊢
    refine ⟨p, rfl, ⟨_, SqL.of e1⟩, comp_list (K := K) (a := p) (xs := ((walkP d).map rowT).map V.str) (fun i ys H' => ∃ qs : List Addr, ys = qs.map V.ref ∧ A2 (fun q (ws : List Str) => H' q = some (.lst (ws.map V.str))) qs (((walkP d).map rowW).take i) ∧ Same H1 H') ⟨[], rfl, A2.nil, Same.refl _⟩ (by rw [List.length_map]; omega) ?_ ?_ ?_ ?_⟩
    · rintro i ys H' ⟨qs, rfl, hq, _⟩
      rw [List.length_map, hq.1, List.length_take]
      omega
    · rintro i ys H' _ ⟨_, _, _, s'⟩
      exact SqL.of (s' _ _ e1)
    · rintro i x ys H' hx ⟨qs, rfl, hq, s'⟩
      rw [List.getElem?_map, List.getElem?_map] at hx
      obtain ⟨z, hz, rfl⟩ := Option.map_eq_some_iff.mp hx
      obtain ⟨y, hy, rfl⟩ := Option.map_eq_some_iff.mp hz
      have hm := List.mem_of_getElem? hy
      have hw : ((walkP d).map rowW)[i]? = some (rowW y) := by rw [List.getElem?_map, hy]; rfl
      have yl := rowT_le g bd hm
      refine ⟨_, rfl, rfl, rowT y, " ", rfl, rfl, (by decide +kernel), (by omega), fun p2 hp2 => ?_⟩
      rw [split_row (ng_walk g hm).ok]
      refine ⟨qs ++ [p2], by rw [List.map_append]; rfl, ?_, s'.trans (Same.new hp2)⟩
      rw [take_snoc hw]
      exact (hq.imp fun _ _ e => Same.new hp2 _ _ e).app (A2.one upd_same)
    · rintro ys H' ⟨qs, rfl, hq, s'⟩ l hl
      rw [List.length_map, List.length_map, ← List.length_map (f := rowW), List.take_length, rows_walk] at hq
      have s2 := Same.new (o := .lst (qs.map V.ref)) hl
      have e2 : upd H' l (.lst (qs.map V.ref)) l = some (.lst (qs.map V.ref)) := upd_same
      generalize upd H' l (.lst (qs.map V.ref)) = H2 at s2 e2 ⊢
      have S2 := (s1.trans s').trans s2
      have hR : RowsAt H2 l d := by
        cases qs with
        | nil => have := hq.1; simp at this
        | cons p0 ps =>
          obtain ⟨h1, h2⟩ := A2.inv hq
          exact ⟨p0, ps, e2, s2 _ _ h1, (A2.unmap h2).imp fun _ _ e => s2 _ _ e⟩
      refine ⟨_, rfl, l, d, rfl, hR, g, bd, fun H3 s3 => ?_⟩
      exact ⟨_, rfl, l, d, rfl, hR.same s3, g, bd, fun a H4 s4 hP => q a H4 ((S2.trans s3).trans s4) hP⟩
end
end K33
namespace K33
open PySem L2 PyProof.Rows PySem.SeqAt
section
variable {rs : List Rw}
theorem TreeOk.fuel (h : TreeOk rs) {k : Nat} (hk : k < rs.length) : (rwA rs k).dp + (6 - (rwA rs k).dp) = 6 := by have := h.dp6 hk; omega
theorem TreeOk.nd0 (h : TreeOk rs) : ndI rs 0 = nodeF rs 5 0 := by unfold ndI; rw [h.root1]
theorem TreeOk.at (h : TreeOk rs) {k i : Nat} (hk : k < rs.length) {y : List (Nat × Str) × Nat} (hi : (walkI rs (6 - (rwA rs k).dp) k)[i]? = some y) : (walkP (ndI rs k))[i]? = some (y.1, ndI rs y.2) := by
  unfold ndI
  rw [h.walk (h.fuel hk), List.getElem?_map, hi]
  rfl
theorem TreeOk.has (h : TreeOk rs) {k : Nat} (hk : k < rs.length) : ∃ (i : Nat) (rd : List (Nat × Str)), (walkP (nodeF rs 5 0))[i]? = some (rd, ndI rs k) := by
  have hm := h.all_in k hk
  rw [← walkI_ord] at hm
  obtain ⟨y, hy, rfl⟩ := List.mem_map.mp hm
  obtain ⟨i, hi⟩ := List.getElem?_of_mem hy
  refine ⟨i, y.1, ?_⟩
  rw [← h.nd0]
  exact h.at h.pos (by rw [h.root1]; exact hi)
theorem TreeOk.ndbd (h : TreeOk rs) (l30 : rs.length ≤ 30) (nd : (rs.map (·.n)).Nodup) {k : Nat} (hk : k < rs.length) : Bd (ndI rs k) := h.bd l30 nd hk (by have := h.dp6 hk; omega)
end
theorem sm_of {d : Nd} (b : Bd d) : Sm d := ⟨by have := b.h; omega, by have := b.z; omega⟩
theorem foL_good {rs : List Rw} {g : Nat → Fo} : ∀ {is : List Nat}, (∀ i ∈ is, (rwA rs i).j < 4 ∧ isWordZ (rwA rs i).n = true ∧ GoodO (rwA rs i).o ∧ (g i).items.length ≤ 6 ∧ (g i).Good) → (foL rs g is).Good
  | [], _ => trivial
  | i :: is, h => by
    obtain ⟨h1, h2, h3, h4, h5⟩ := h i List.mem_cons_self
    exact ⟨h1, h2, h3, h4, h5, foL_good fun k hk => h k (List.mem_cons_of_mem _ hk)⟩
theorem TreeOk.good {rs : List Rw} (h : TreeOk rs) (go : ∀ i, i < rs.length → GoodO (rwA rs i).o) : ∀ {f k : Nat}, (rwA rs k).dp + f = 6 → (fo rs f k).Good ∧ (fo rs f k).items.length ≤ 6
  | 0, k, hf => ⟨trivial, Nat.zero_le _⟩
  | f + 1, k, hf => by
    refine ⟨?_, by rw [fo_items h hf, List.length_map, kids_len]; exact h.few k⟩
    refine foL_good fun i hi => ?_
    obtain ⟨c1, c2, c3, c4, c5⟩ := h.kid hi
    obtain ⟨g1, g2⟩ := h.good go (f := f) (k := i) (by omega)
    exact ⟨c4, (h.ok _ (rwA_mem c1)).1, go i c1, g2, g1⟩
theorem LR.go {H : Hp} {l : Addr} {rs : List Rw} (h : LR H l rs) : ∀ i, i < rs.length → GoodO (rwA rs i).o := fun i hi => by
  obtain ⟨⟨qs, hl, hq⟩, _⟩ := h
  have hqi : qs[i]? = some (qs[i]'(by rw [hq.1]; exact hi)) := List.getElem?_eq_getElem _
  obtain ⟨po, _, _, _, _, g⟩ := hq.2 i _ _ hqi (rwA_at hi)
  exact g
theorem LR.ng {H : Hp} {l : Addr} {rs : List Rw} (h : LR H l rs) {k : Nat} (hk : k < rs.length) : NGood (ndI rs k) := by
  have tr := h.2.1
  obtain ⟨g1, g2⟩ := tr.good h.go (f := 6 - (rwA rs k).dp) (k := k) (tr.fuel hk)
  exact ⟨⟨(tr.ok _ (rwA_mem hk)).1, h.go k hk⟩, g2, g1⟩
theorem LR.bd {H : Hp} {l : Addr} {rs : List Rw} (h : LR H l rs) {k : Nat} (hk : k < rs.length) : Bd (ndI rs k) := h.2.1.ndbd h.2.2.1 h.2.2.2 hk
section
variable {P : Program} {w : World} {K : PySem.W.Frag} {mg : Str → Option Value} {base : Heap}
def spTx : Sp := fun vs H Q _ => ∃ (l : Addr) (rs : List Rw) (k : Nat), vs = [.ref l, .int k] ∧ LR H l rs ∧ k < rs.length ∧ ∀ H', Same H H' → Q (.str (textW (ndI rs k))) H'
abbrev s_law_text : Stmt := top 75
abbrev nTx : List Str := ["_law_rows", "_law_top", "_law_found", "_law_at", "_law_road_here", "_law_words_here"]
theorem sc_law_text : FnScope nTx ["_law_rows", "_law_top"] (defScope s_law_text) := ⟨rfl, rfl, rfl, by decide +kernel, rfl, by decide +kernel, by decide +kernel⟩
theorem ok_tx (T : Txt mg) (F__law_order : FnAt P w K mg base "_law_order" 6 ["_law_rows", "_law_at"] (spOr 6)) (F__law_road : FnAt P w K mg base "_law_road" 1 ["_law_rows", "_law_top", "_law_at"] spRoad) (F : TopFn K mg "_law_text" s_law_text ["_law_rows", "_law_top"]) : FnAt P w K mg base "_law_text" 7 ["_law_rows", "_law_top"] spTx := by
  refine F.at sc_law_text (fun vs H Q E h => ?_) (fun f cdv A outer s H vs Q E hr h => ?_)
  · obtain ⟨l, rs, k, rfl, _⟩ := h
    rfl
  · obtain ⟨l, rs, k, rfl, hL, hk, q⟩ := h
    refine ⟨_, (pss_cons (ps_set (i := 2) sc_law_text.nd rfl (by first | exact Or.inl rfl | exact Or.inr rfl) (pe_lst pa_nil))
      (pss_cons (ps_for PassesOwn.never rfl (pi_list (pe_fn F__law_order hr (by decide) rfl (pa_cons (pv 0) (pa_cons (pv 1) pa_nil)))) (pg_name (i := 3) sc_law_text.nd rfl (by first | exact Or.inl rfl | exact Or.inr rfl)) (pss_cons (ps_set (i := 4) sc_law_text.nd rfl (by first | exact Or.inl rfl | exact Or.inr rfl) (pe_fn F__law_road hr (by decide) rfl (pa_cons (pv 0) (pa_cons (pv 1) (pa_cons (pv 3) pa_nil)))))
      (pss_cons (ps_set (i := 5) sc_law_text.nd rfl (by first | exact Or.inl rfl | exact Or.inr rfl) (pe_op op_cat (pe_lst (pa_cons (pe_ix ix_tup (pe_ix ix_list (pv 0) (pv 3) (fun _ _ => rfl)) pe_int (fun _ _ => rfl)) pa_nil)) (pe_comp (sc := defScope s_law_text) (N0 := nTx) (xs := ["_law_word", "_law_number"]) (ys := []) (js := []) ⟨rfl, by decide +kernel, by decide +kernel, by decide +kernel, by decide +kernel⟩ rfl (pi_tup (pe_ix ix_tup (pe_ix ix_list (pv 0) (pv 3) (fun _ _ => rfl)) pe_int (fun _ _ => rfl))) (fun _ _ _ _ => (pg_tupK (n := 2) K rfl (pgs_cons (pg_name (i := 0) (show (["_law_word", "_law_number"] : List Str).Nodup by decide +kernel) rfl (by first | exact Or.inl rfl | exact Or.inr rfl)) (pgs_cons (pg_name (i := 1) (show (["_law_word", "_law_number"] : List Str).Nodup by decide +kernel) rfl (by first | exact Or.inl rfl | exact Or.inr rfl)) pgs_nil)))) (fun _ _ _ _ => pq_nil) (fun _ _ _ _ => (pe_op op_add_str (pe_op op_add_str (pv 0) pe_str) (pe_callTy call_str_int rfl T.n_str boot_str (pa_cons (pv 1) pa_nil)))))))
      (pss_cons (ps_mid (ps_if (pt_cmpR (op_neNil hr.units0) (pv 4) (pe_lst pa_nil) (nomark _)) (pss_one (ps_set (i := 5) sc_law_text.nd rfl (by first | exact Or.inl rfl | exact Or.inr rfl) (pe_op op_cat (pe_lst (pa_cons (pe_op op_mulS pe_str (pe_callB call_len rfl T.n_len boot_len (pa_cons (pv 4) pa_nil))) (pa_cons (pe_ix ix_tup (pe_ix ix_list (pv 0) (pv 3) (fun _ _ => rfl)) pe_int (fun _ _ => rfl)) pa_nil))) (pv 5)))) pss_nil))
      (pss_one (ps_expr (pe_bm PySem.F.plainAttrs_list PySem.F.slot_list_append PySem.F.type_list_append mt_append (pv 2) (pa_cons (pe_bm PySem.F.plainAttrs_str PySem.F.slot_str_join PySem.F.type_str_join mt_join pe_str (pa_cons (pv 5) pa_nil)) pa_nil))))))))
      (pss_one (ps_ret (pe_bm PySem.F.plainAttrs_str PySem.F.slot_str_join PySem.F.type_str_join mt_join pe_str (pa_cons (pv 2) pa_nil)))))), ?_⟩
    have hs : sizeLine = 16777216 := sizeLine_eq
    have b1 : ((" " : Str)).length = 1 := by decide +kernel
    have b2 : (("\n" : Str)).length = 1 := by decide +kernel
    obtain ⟨⟨qs, hl, hq⟩, tr, l30, ndn⟩ := id hL
    have bd := hL.bd hk
    have ng := hL.ng hk
    have fu := tr.fuel hk
    have hwk : walkP (ndI rs k) = (walkI rs (6 - (rwA rs k).dp) k).map fun y => (y.1, ndI rs y.2) := tr.walk fu
    have hor : ordI rs (6 - (rwA rs k).dp) k = (walkI rs (6 - (rwA rs k).dp) k).map (·.2) := (walkI_ord rs _ k).symm
    have wlen : (walkI rs (6 - (rwA rs k).dp) k).length ≤ 30 := by
      have := congrArg List.length hwk
      rw [walkP_len, List.length_map] at this
      have := bd.z
      omega
    have d16 := tr.dp6 hk
    generalize 6 - (rwA rs k).dp = f at fu hwk hor wlen
    refine ⟨(by show 0 ≤ sizeLine; decide), fun lf hlf => ?_⟩
    have s0 := Same.new (o := .lst []) hlf
    have e0 : upd H lf (.lst []) lf = some (.lst []) := upd_same
    generalize upd H lf (.lst []) = H0 at s0 e0 ⊢
    refine ⟨_, rfl, _, rfl, l, rs, k, f, rfl, hL.same s0, hk, fu, (by omega), fun lo H1 s1 nlo e1 => ?_⟩
    have n1 : lo ≠ lf := (ne_of_none e0 nlo).symm
    have xl : (intsV (ordI rs f k)).length = (walkI rs f k).length := by rw [hor, List.length_map, List.length_map]
    refine ⟨lo, rfl, ⟨_, SqL.of e1⟩, for_list (K := K) (a := lo) (xs := intsV (ordI rs f k)) (fun i σ H' => ∃ (v3 v4 v5 : Option V), σ = [some (.ref l), some (.int k), some (.ref lf), v3, v4, v5] ∧ Same H H' ∧ H' lf = some (.lst ((((walkP (ndI rs k)).map rowT).take i).map V.str)) ∧ H' lo = some (.lst (intsV (ordI rs f k))))
      ⟨_, _, _, rfl, s0.trans s1, by simpa using s1 _ _ e0, e1⟩ (fun i σ H' _ ⟨_, _, _, _, _, _, e⟩ => SqL.of e) ?_ ?_⟩
    · rintro i v σ H2 hv ⟨v3, v4, v5, rfl, s2, e2, e2'⟩
      rw [hor, List.getElem?_map, List.getElem?_map] at hv
      obtain ⟨ik, hv2, rfl⟩ := Option.map_eq_some_iff.mp hv
      obtain ⟨y, hy, rfl⟩ := Option.map_eq_some_iff.mp hv2
      have ym := List.mem_of_getElem? hy
      have hyl : y.2 < rs.length := by
        obtain ⟨mm, _, _, m3⟩ := tr.wdesc ym
        rcases m3 with e | e
        · rw [e]; exact hk
        · exact e.1
      have hwy : (walkP (ndI rs k))[i]? = some (y.1, ndI rs y.2) := by rw [hwk, List.getElem?_map, hy]; rfl
      have hrow : ((walkP (ndI rs k)).map rowT)[i]? = some (rowT (y.1, ndI rs y.2)) := by rw [List.getElem?_map, hwy]; rfl
      have yr : y.1.length ≤ 5 := by
        have := roadP_le (List.mem_of_getElem? hwy)
        have := bd.h
        have : (y.1, ndI rs y.2).1.length ≤ 5 := by omega
        exact this
      have nok := (hL.ng hyl).ok
      have iL : i < (walkI rs f k).length := (List.getElem?_eq_some_iff.mp hy).1
      obtain ⟨qi, hqi⟩ : ∃ qi, qs[y.2]? = some qi := ⟨_, List.getElem?_eq_getElem (by rw [hq.1]; exact hyl)⟩
      obtain ⟨po, hpr, ps, hpo, hkr, go⟩ := hq.2 y.2 qi _ hqi (rwA_at hyl)
      have aty : atI (qs.map V.ref) ((y.2 : Nat) : Int) = some (.ref qi) := atI_nat (by rw [List.getElem?_map, hqi]; rfl)
      refine ⟨_, rfl, _, rfl, _, rfl, l, rs, k, f, y, rfl, hL.same s2, hk, ym, fun o H3 s3 ho hrd => ?_⟩
      have S3 := s2.trans s3
      refine ⟨_, rfl, _, rfl, l, _, _, _, rfl, rfl, SqL.of (S3 _ _ hl), aty, qi, _, _, _, rfl, rfl, SqT.of (S3 _ _ hpr), rfl, (by show 1 ≤ sizeLine; decide), fun l1 h1 => ?_⟩
      have s4 := Same.new (o := .lst [.str (rwA rs y.2).n]) h1
      have e4 : upd H3 l1 (.lst [.str (rwA rs y.2).n]) l1 = some (.lst [.str (rwA rs y.2).n]) := upd_same
      generalize upd H3 l1 (.lst [.str (rwA rs y.2).n]) = H4 at s4 e4 ⊢
      have S4 := S3.trans s4
      have pl : ps.length ≤ 2 := by rw [hkr.1]; exact go.l2
      refine ⟨_, rfl, _, rfl, l, _, _, _, rfl, rfl, SqL.of (S4 _ _ hl), aty, qi, _, _, _, rfl, rfl, SqT.of (S4 _ _ hpr), rfl, po, rfl, ⟨_, SqT.of (S4 _ _ hpo)⟩, comp_tup (K := K) (a := po) (xs := ps.map V.ref) (fun i ys H' => ys = (((rwA rs y.2).o.take i).map keyT).map V.str ∧ H' = H4) ⟨by simp, rfl⟩ (by rw [List.length_map]; omega) ?_ ?_ ?_ ?_⟩
      · rintro i ys H' ⟨rfl, _⟩
        rw [List.length_map, List.length_map, List.length_take]; omega
      · rintro i ys H' _ ⟨_, rfl⟩
        exact SqT.of (S4 _ _ hpo)
      · rintro i x ys H' hx ⟨rfl, rfl⟩
        rw [List.getElem?_map] at hx
        obtain ⟨p, hp, rfl⟩ := Option.map_eq_some_iff.mp hx
        obtain ⟨kk, hkk, hpk⟩ := hkr.at hp
        obtain ⟨kok1, kok2⟩ := go.ok kk (List.mem_of_getElem? hkk)
        have kl := word_len kok1
        have tl := small_text ⟨kk.2, kok2⟩
        have dl : (Str.ofString ".").length = 1 := by decide +kernel
        refine ⟨p, _, rfl, SqT.of (S4 _ _ hpk), rfl, _, _, rfl, _, _, rfl, rfl, ?_⟩
        refine ⟨_, rfl, kk.1, _, rfl, rfl, (by rw [dl]; omega), _, rfl, (kk.2 : Int), rfl, log_small (by omega) (by omega), _, _, rfl, rfl, ?_, ?_, rfl⟩
        · rw [len_app, dl]
          have : (Str.ofString (toString (kk.2 : Int))).length ≤ 2 := tl
          show kk.1.length + 1 + (Str.ofString (toString (kk.2 : Int))).length ≤ _
          omega
        · rw [take_snoc hkk, List.map_append, List.map_append]
          rfl
      · rintro ys H' ⟨rfl, rfl⟩ l2 h2
        rw [List.length_map, hkr.1, List.take_length]
        have s5 := Same.new (o := .lst (((rwA rs y.2).o.map keyT).map V.str)) h2
        have e5 : upd H' l2 (.lst (((rwA rs y.2).o.map keyT).map V.str)) l2 = some (.lst (((rwA rs y.2).o.map keyT).map V.str)) := upd_same
        generalize upd H' l2 (.lst (((rwA rs y.2).o.map keyT).map V.str)) = H5 at s5 e5 ⊢
        refine ⟨l1, l2, _, _, rfl, rfl, s5 _ _ e4, e5, ?_, fun lw hlw => ?_⟩
        · rw [List.length_map, List.length_map]
          have := go.l2
          show 1 + _ ≤ sizeLine
          omega
        have s6 := Same.new (o := .lst ([.str (rwA rs y.2).n] ++ ((rwA rs y.2).o.map keyT).map V.str)) hlw
        have e6 : upd H5 lw (.lst ([.str (rwA rs y.2).n] ++ ((rwA rs y.2).o.map keyT).map V.str)) lw = some (.lst ((partW (ndI rs y.2)).map V.str)) := upd_same
        generalize upd H5 lw (.lst ([.str (rwA rs y.2).n] ++ ((rwA rs y.2).o.map keyT).map V.str)) = H6 at s6 e6 ⊢
        have s36 := (s4.trans s5).trans s6
        obtain ⟨vs, hvl, hvs⟩ := hrd
        have hv6 := s36 _ _ hvl
        have S6 := S3.trans s36
        obtain ⟨pw1, pw2⟩ := partW_len nok
        refine ⟨fun σ' H' => ∃ lx, σ' = [some (.ref l), some (.int k), some (.ref lf), some (.int (y.2 : Nat)), some (.ref o), some (.ref lx)] ∧ Same H6 H' ∧ H' lx = some (.lst ((rowW (y.1, ndI rs y.2)).map V.str)), ?_, ?_⟩
        · refine ⟨_, rfl, (by show 0 ≤ sizeLine; decide), fun ln hln => ?_⟩
          have s7 := Same.new (o := .lst []) hln
          have e7 : upd H6 ln (.lst []) ln = some (.lst []) := upd_same
          generalize upd H6 ln (.lst []) = H7 at s7 e7 ⊢
          refine ⟨o, ln, vs, rfl, rfl, SqL.of (s7 _ _ hv6), SqL.of e7, _, rfl, ?_⟩
          by_cases ey : y.2 = k
          · have er := tr.wroot ym ey
            have hv0 : vs = [] := List.eq_nil_of_length_eq_zero (by rw [hvs.1, er]; rfl)
            subst hv0
            refine iteF ⟨lw, rfl, s7, ?_⟩
            have erow : rowW (y.1, ndI rs y.2) = partW (ndI rs y.2) := by unfold rowW; rw [show List.getLast? (y.1, ndI rs y.2).1 = none from by show y.1.getLast? = none; rw [er]; rfl]
            rw [erow]
            exact s7 _ _ e6
          · obtain ⟨rd, pp, r1, r2, r3, r4, r5⟩ := tr.wup ym ey
            have ejs : (rwA rs y.2).js = nm (rwA rs y.2).j := by unfold Rw.js; rw [if_neg (by rw [r3]; omega)]
            have ehl : vs.length = y.1.length := hvs.1
            have erow : rowW (y.1, ndI rs y.2) = strokes vs.length :: nm (rwA rs y.2).j :: partW (ndI rs y.2) := by
              unfold rowW
              rw [show List.getLast? (y.1, ndI rs y.2).1 = some ((rwA rs y.2).j, (rwA rs y.2).n) from by show y.1.getLast? = _; rw [r1]; exact List.getLast?_concat, ehl]
            have hne : (!vs.isEmpty) = true := by
              cases vs with
              | nil => rw [r1, List.length_append] at ehl; simp at ehl
              | cons => rfl
            rw [hne]
            have S7 := S6.trans s7
            refine iteT ⟨_, rfl, _, _, rfl, .inl ⟨_, SqL.of (s7 _ _ hv6), rfl⟩, _, _, rfl, rfl, (by omega), (by omega), (by decide +kernel), ?_⟩
            refine ⟨_, rfl, _, rfl, l, _, _, _, rfl, rfl, SqL.of (S7 _ _ hl), aty, qi, _, _, _, rfl, rfl, SqT.of (S7 _ _ hpr), rfl, (by show 2 ≤ sizeLine; decide), fun l3 h3 => ?_⟩
            have s8 := Same.new (o := .lst [.str (repZ ((vs.length : Nat) : Int).toNat (Str.ofString "-")), .str (rwA rs y.2).js]) h3
            have e8 : upd H7 l3 (.lst [.str (repZ ((vs.length : Nat) : Int).toNat (Str.ofString "-")), .str (rwA rs y.2).js]) l3 = some (.lst [.str (strokes vs.length), .str (nm (rwA rs y.2).j)]) := by rw [upd_same, ejs]; rfl
            generalize upd H7 l3 (.lst [.str (repZ ((vs.length : Nat) : Int).toNat (Str.ofString "-")), .str (rwA rs y.2).js]) = H8 at s8 e8 ⊢
            refine ⟨_, rfl, l3, lw, _, _, rfl, rfl, e8, s8 _ _ (s7 _ _ e6), (by rw [List.length_map]; show 2 + _ ≤ sizeLine; omega), fun l4 h4 => ?_⟩
            refine ⟨l4, rfl, (s7.trans s8).trans (Same.new h4), ?_⟩
            rw [upd_same, erow]
            rfl
        · rintro σ H7 ⟨lx, rfl, s7, e7⟩
          have S7 := (s3.trans s36).trans s7
          have e27 := S7 _ _ e2
          obtain ⟨r1, r2⟩ := rowW_len (y := (y.1, ndI rs y.2)) nok (by show y.1.length ≤ 1000; omega)
          refine ⟨_, rfl, .inl ⟨rfl, _, SqL.of e27⟩, rfl, _, rfl, _, lx, rowW (y.1, ndI rs y.2), rfl, rfl, SqL.of e7, join_ok r2 r1 (by rw [b1]; decide), ?_⟩
          refine ⟨lf, _, _, rfl, rfl, e27, (by rw [List.length_map, List.length_take]; omega), ?_⟩
          refine ⟨_, _, _, rfl, fun b ob e => ?_, ?_, ?_⟩
          · rw [upd_ne (ne_of_none e hlf)]; exact S7 _ _ (s2 _ _ e)
          · rw [upd_same, take_snoc hrow, List.map_append]; rfl
          · rw [upd_ne n1]; exact S7 _ _ e2'
    · rintro σ H2 ⟨v3, v4, v5, rfl, s2, e2, e2'⟩
      have el : (intsV (ordI rs f k)).length = ((walkP (ndI rs k)).map rowT).length := by rw [xl, List.length_map, hwk, List.length_map]
      rw [el, List.take_length] at e2
      refine ⟨rfl, _, rfl, _, lf, (walkP (ndI rs k)).map rowT, rfl, rfl, SqL.of e2, join_ok (k := 5005) (n := 30) (fun z hz => ?_) (by rw [← el, xl]; exact wlen) (by rw [b2]; decide), q _ s2⟩
      obtain ⟨y, hy, rfl⟩ := List.mem_map.mp hz
      exact rowT_le ng bd hy
end
end K33
namespace K33
open PySem L2 PyProof.Rows PySem.SeqAt
section
variable {P : Program} {w : World} {K : PySem.W.Frag} {mg : Str → Option Value} {base : Heap} {C : Addr}
def spGd (C : Addr) : Sp := fun vs H Q _ => ∃ (l wa : Addr) (rs : List Rw) (k : Nat) (d2 : Nd), vs = [.ref l, .ref wa, .int k, .str (textW d2)] ∧ LR H l rs ∧ k < rs.length ∧ PAt C H wa (nodeF rs 5 0) ∧ NGood d2 ∧ Bd d2 ∧ ∀ H', Same H H' → Q (.bl true) H'
abbrev s_law_good : Stmt := top 76
abbrev nGd : List Str := ["_law_rows", "_law_work", "_law_top", "_law_between", "_law_part", "_law_text_here", "_law_found", "_law_other"]
theorem sc_law_good : FnScope nGd ["_law_rows", "_law_work", "_law_top", "_law_between"] (defScope s_law_good) := ⟨rfl, rfl, rfl, by decide +kernel, rfl, by decide +kernel, by decide +kernel⟩
theorem ok_gd (T : Txt mg) (kit : PKit K C) (mC : mg "Part" = some (.ref C)) (F__law_text : FnAt P w K mg base "_law_text" 7 ["_law_rows", "_law_top"] spTx) (F_show_work : FnAt P w K mg base "show_work" 8 ["work"] (spSW C)) (F_read_work : FnAt P w K mg base "read_work" 14 ["text"] (spRW C))
    (MAT : ∀ C' sp, DAt C C' sp → MethD P w K mg base CX0 9 C' "at" ["self", "name"] sp) (MTD : ∀ C' sp, DTd K C 7 C' sp → MethD P w K mg base CX0 7 C' "told" ["self"] sp)
    (F : TopFn K mg "_law_good" s_law_good ["_law_rows", "_law_work", "_law_top", "_law_between"]) : FnAt P w K mg base "_law_good" 15 ["_law_rows", "_law_work", "_law_top", "_law_between"] (spGd C) := by
  refine F.at sc_law_good (fun vs H Q E h => ?_) (fun f cdv A outer s H vs Q E hr h => ?_)
  · obtain ⟨l, wa, rs, k, d2, rfl, _⟩ := h
    rfl
  · obtain ⟨l, wa, rs, k, d2, rfl, hL, hk, hW, g2, b2, q⟩ := h
    refine ⟨_, (pss_cons (ps_set (i := 4) sc_law_good.nd rfl (by first | exact Or.inl rfl | exact Or.inr rfl) (pe_methA (D := DAt C) (pv 1) MAT (hr.mono (by decide)) pass0 (pa_cons (pe_ix ix_tup (pe_ix ix_list (pv 0) (pv 2) (fun _ _ => rfl)) pe_int (fun _ _ => rfl)) pa_nil)))
      (pss_cons (ps_set (i := 5) sc_law_good.nd rfl (by first | exact Or.inl rfl | exact Or.inr rfl) (pe_fn F__law_text hr (by decide) rfl (pa_cons (pv 0) (pa_cons (pv 2) pa_nil))))
      (pss_cons (ps_if (PW.pt (pw_or (pt_not (pt_val (pe_callB (call_isKd .str (by simp)) rfl T.n_isinstance boot_isinstance (pa_cons (pe_fn F_show_work hr (by decide) rfl (pa_cons (pv 4) pa_nil)) (pa_cons (pe_bltn (v := .ty "str") rfl T.n_str boot_str rfl) pa_nil))))) (pw_or1 (pt_cmpR op_ne (pe_fn F_show_work hr (by decide) rfl (pa_cons (pv 4) pa_nil)) (pv 5) (nomark _))))) (pss_one (ps_ret pe_bl)) pss_nil)
      (pss_cons (ps_set (i := 6) sc_law_good.nd rfl (by first | exact Or.inl rfl | exact Or.inr rfl) (pe_fn F_read_work hr (by decide) rfl (pa_cons (pv 5) pa_nil)))
      (pss_cons (ps_set (i := 7) sc_law_good.nd rfl (by first | exact Or.inl rfl | exact Or.inr rfl) (pe_fn F_read_work hr (by decide) rfl (pa_cons (pv 3) pa_nil)))
      (pss_cons (ps_if (PW.pt (pw_or (pt_not (pt_val (pe_callB call_isinst rfl T.n_isinstance boot_isinstance (pa_cons (pv 6) (pa_cons (pe_glob (v := .ref C) rfl mC rfl) pa_nil))))) (pw_or (pt_cmpR (op_neSD (hu64 hr)) (pe_methD (D := DTd K C 7) (pv 6) MTD (hr.mono (by decide)) pass0) (pe_methD (D := DTd K C 7) (pv 4) MTD (hr.mono (by decide)) pass0) (nomark _)) (pw_or1 (pt_cmpR op_ne (pe_fn F_show_work hr (by decide) rfl (pa_cons (pv 6) pa_nil)) (pv 5) (nomark _)))))) (pss_one (ps_ret pe_bl)) pss_nil)
      (pss_one (ps_ret (pe_cmpR op_eq (pe_fn F_show_work hr (by decide) rfl (pa_cons (pv 7) pa_nil)) (pv 3) (nomark _)))))))))), ?_⟩
    have hs : sizeLine = 16777216 := sizeLine_eq
    obtain ⟨⟨qs, hl, hq⟩, tr, l30, ndn⟩ := id hL
    have nd0 : (names (nodeF rs 5 0)).Nodup := tr.nodup_names ndn tr.pos
    have sm0 := sm_of (tr.bd l30 ndn (f := 5) tr.pos (by decide))
    obtain ⟨ik, rdk, hik⟩ := tr.has hk
    have Rk := rowOf_of nd0 hik
    have bdk := hL.bd hk
    have ngk := hL.ng hk
    have smk := sm_of bdk
    have sm2 := sm_of b2
    obtain ⟨qk, hqk⟩ : ∃ qk, qs[k]? = some qk := ⟨_, List.getElem?_eq_getElem (by rw [hq.1]; exact hk)⟩
    obtain ⟨po, hpr, _⟩ := hq.2 k qk _ hqk (rwA_at hk)
    have atk : atI (qs.map V.ref) ((k : Nat) : Int) = some (.ref qk) := atI_nat (by rw [List.getElem?_map, hqk]; rfl)
    have at0 : ∀ {H : Hp} {a : Addr} {d : Nd} (m : Str), PAt C H a d → m ≠ "name" → m ≠ "offers" → m ≠ "beneath" → ∃ dx fs, H a = some (.ins C dx fs) ∧ fs.lookup m = none := fun {H a d} m h n1 n2 n3 => by
      obtain ⟨dx, fs, h1, h2⟩ := h.ins
      exact ⟨dx, fs, h1, h2 m n1 n2 n3⟩
    obtain ⟨dx, fs, hA, hfs⟩ := at0 "at" hW (by decide +kernel) (by decide +kernel) (by decide +kernel)
    refine ⟨_, rfl, wa, C, dx, fs, spAt C, rfl, hA, hfs, ⟨rfl, rfl⟩, _, rfl, _, rfl, l, _, _, _, rfl, rfl, SqL.of hl, atk, qk, _, _, _, rfl, rfl, SqT.of hpr, rfl, wa, _, _, _, rfl, hW, sm0, Rk, fun b H1 s1 hB => ?_⟩
    have hB : PAt C H1 b (ndI rs k) := hB
    refine ⟨_, rfl, _, rfl, l, rs, k, rfl, hL.same s1, hk, fun H2 s2 => ?_⟩
    have S2 := s1.trans s2
    have hB2 := hB.same s2
    refine ⟨_, rfl, b, _, rfl, hB2, smk, fun H3 s3 => ⟨_, .str, rfl, TyOf.str _, _, rfl, iteF ?_⟩⟩
    refine ⟨_, rfl, b, _, rfl, hB2.same s3, smk, fun H4 s4 => ⟨_, rfl, rfl, _, rfl, iteNS rfl ?_⟩⟩
    have s24 := s3.trans s4
    refine ⟨_, rfl, ndI rs k, rfl, ngk, bdk, fun a H5 s5 hPa => ?_⟩
    refine ⟨_, rfl, d2, rfl, g2, b2, fun a2 H6 s6 hPa2 => ?_⟩
    have hPa6 := hPa.same s6
    have hB6 := hB2.same ((s24.trans s5).trans s6)
    have S6 := ((S2.trans s24).trans s5).trans s6
    obtain ⟨dxa, poa, pba, kta, hAa, hwa, hOa, hBa, hFa⟩ := id hPa6
    refine ⟨_, rfl, _, _, .ref C, .ref C, true, rfl, rfl, kit.ty hAa, kit.kC, _, rfl, iteF ?_⟩
    obtain ⟨dx1, fs1, hA1, hfs1⟩ := at0 "told" hPa6 (by decide +kernel) (by decide +kernel) (by decide +kernel)
    refine ⟨_, rfl, a, C, dx1, fs1, spTd K C 7, rfl, hA1, hfs1, ⟨rfl, rfl⟩, a, _, rfl, hPa6, smk.h, smk.z, fun t1 H7 s7 hT1 => ?_⟩
    have hB7 := hB6.same s7
    obtain ⟨dx2, fs2, hA2, hfs2⟩ := at0 "told" hB7 (by decide +kernel) (by decide +kernel) (by decide +kernel)
    refine ⟨_, rfl, b, C, dx2, fs2, spTd K C 7, rfl, hA2, hfs2, ⟨rfl, rfl⟩, b, _, rfl, hB7, smk.h, smk.z, fun t2 H8 s8 hT2 => ?_⟩
    refine ⟨toldD (ndI rs k), (hT1.t (.of s8)).rd, hT2.rd, told_shaped hB7 smk.h, _, rfl, iteF ?_⟩
    have s68 := s7.trans s8
    refine ⟨_, rfl, a, _, rfl, hPa6.same s68, smk, fun H9 s9 => ⟨_, rfl, rfl, _, rfl, iteNS rfl ?_⟩⟩
    refine ⟨_, rfl, a2, d2, rfl, hPa2.same (s68.trans s9), sm2, fun H10 s10 => ⟨_, rfl, rfl, ?_⟩⟩
    have := q H10 ((S6.trans (s68.trans s9)).trans s10)
    show Q (.bl (decide (V.str (textW d2) = V.str (textW d2)))) H10
    rw [decide_eq_true rfl]
    exact this
end
end K33
namespace K33
open PySem L2 PyProof.Rows PySem.SeqAt
section
variable {P : Program} {w : World} {K : PySem.W.Frag} {mg : Str → Option Value} {base : Heap} {C : Addr}
abbrev slaw : Stmt := top 77
abbrev nLaw : List Str := ["_law_script", "_law_names", "_law_keys_here", "_law_trees", "_law_works", "_law_texts", "_law_k", "_law_j"]
theorem sclaw : FnScope nLaw ["_law_script"] (defScope slaw) := ⟨rfl, rfl, rfl, by decide +kernel, rfl, by decide +kernel, by decide +kernel⟩
theorem law_body (T : Txt mg) (F__law_cell : FnAt P w K mg base "_law_cell" 1 ["_law_script", "_law_k"] (spCell K)) (F__law_mixed : FnAt P w K mg base "_law_mixed" 1 ["_law_cell_here", "_law_k"] spMixed) (F__law_words : FnAt P w K mg base "_law_words" 3 ["_law_cell_here", "_law_many"] spWords) (F__law_keys : FnAt P w K mg base "_law_keys" 4 ["_law_cell_here", "_law_many"] spKeys)
    (F__law_tree : FnAt P w K mg base "_law_tree" 4 ["_law_cell_here", "_law_names", "_law_keys_here"] spTr) (F__law_made : FnAt P w K mg base "_law_made" 17 ["_law_rows", "_law_at"] (spMd C 6)) (F__law_nested : FnAt P w K mg base "_law_nested" 6 ["_law_rows", "_law_at"] (spNe 6))
    (F__law_text : FnAt P w K mg base "_law_text" 7 ["_law_rows", "_law_top"] spTx) (F__law_good : FnAt P w K mg base "_law_good" 15 ["_law_rows", "_law_work", "_law_top", "_law_between"] (spGd C))
    (MTD : ∀ C' sp, DTd K C 7 C' sp → MethD P w K mg base CX0 7 C' "told" ["self"] sp)
    (f : Addr) (cdv : Value) (A : Around) (outer : List Env) (s : Shared) (H : Hp) (vs : List V) (Q : VK) (E : XK) (hr : Room 17 (A.deeper (envOfC "law" (defScope slaw) s.heap.objs.size f cdv))) (h : spLaw K vs H Q E) :
    ∃ t, PSs (cxOf CX0 P w K mg base nLaw "law" (defScope slaw) f cdv A outer s H E).nox (defBody slaw) t ∧ t { nx := fun _ H' => Q .non H', rt := Q } (start nLaw vs) H := by
    obtain ⟨a, ns, rfl, hS, hl63, q⟩ := h
    refine ⟨_, (pss_cons (ps_set (i := 1) sclaw.nd rfl (by first | exact Or.inl rfl | exact Or.inr rfl) (pe_fn F__law_words hr (by decide) rfl (pa_cons (pe_fn F__law_cell hr (by decide) rfl (pa_cons (pv 0) (pa_cons pe_int pa_nil))) (pa_cons pe_int pa_nil))))
      (pss_cons (ps_set (i := 2) sclaw.nd rfl (by first | exact Or.inl rfl | exact Or.inr rfl) (pe_fn F__law_keys hr (by decide) rfl (pa_cons (pe_fn F__law_cell hr (by decide) rfl (pa_cons (pv 0) (pa_cons pe_int pa_nil))) (pa_cons (pe_op op_add pe_int (pe_op op_mod (pe_fn F__law_mixed hr (by decide) rfl (pa_cons (pe_fn F__law_cell hr (by decide) rfl (pa_cons (pv 0) (pa_cons pe_int pa_nil))) (pa_cons pe_int pa_nil))) pe_int)) pa_nil))))
      (pss_cons (ps_setComp (i := 3) (sc := defScope slaw) (N0 := nLaw) (xs := ["_law_k"]) (ys := ["_law_names", "_law_keys_here", "_law_script"]) (js := [1, 2, 0]) ⟨rfl, by decide +kernel, by decide +kernel, by decide +kernel, by decide +kernel⟩ rfl sclaw.nd rfl rfl (pi_range1 rfl T.n_range (pa_cons pe_int pa_nil)) (fun _ _ _ _ => (pg_name (i := 0) (show (["_law_k", "_law_names", "_law_keys_here", "_law_script"] : List Str).Nodup by decide +kernel) rfl (by first | exact Or.inl rfl | exact Or.inr rfl))) (fun _ _ _ _ => pq_nil) (fun _ _ _ _ => (pe_fn F__law_tree hr (by decide) rfl (pa_cons (pe_fn F__law_cell hr (by decide) rfl (pa_cons (pv 3) (pa_cons (pe_op op_add pe_int (pv 0)) pa_nil))) (pa_cons (pv 1) (pa_cons (pv 2) pa_nil))))))
      (pss_cons (ps_setComp (i := 4) (sc := defScope slaw) (N0 := nLaw) (xs := ["_law_rows"]) (ys := []) (js := []) ⟨rfl, by decide +kernel, by decide +kernel, by decide +kernel, by decide +kernel⟩ rfl sclaw.nd rfl rfl (pi_list (pv 3)) (fun _ _ _ _ => (pg_name (i := 0) (show (["_law_rows"] : List Str).Nodup by decide +kernel) rfl (by first | exact Or.inl rfl | exact Or.inr rfl))) (fun _ _ _ _ => pq_nil) (fun _ _ _ _ => (pe_fn F__law_made hr (by decide) rfl (pa_cons (pv 0) (pa_cons pe_int pa_nil)))))
      (pss_cons (ps_if (pt_cmpR (op_neSD (hu64 hr)) (pe_methD (D := DTd K C 7) (pe_ix ix_list (pv 4) pe_int (fun _ _ => rfl)) MTD (hr.mono (by decide)) pass0) (pe_fn F__law_nested hr (by decide) rfl (pa_cons (pe_ix ix_list (pv 3) pe_int (fun _ _ => rfl)) (pa_cons pe_int pa_nil))) (nomark _)) (pss_one (ps_ret pe_bl)) pss_nil)
      (pss_cons (ps_setComp (i := 5) (sc := defScope slaw) (N0 := nLaw) (xs := ["_law_rows"]) (ys := []) (js := []) ⟨rfl, by decide +kernel, by decide +kernel, by decide +kernel, by decide +kernel⟩ rfl sclaw.nd rfl rfl (pi_list (pv 3)) (fun _ _ _ _ => (pg_name (i := 0) (show (["_law_rows"] : List Str).Nodup by decide +kernel) rfl (by first | exact Or.inl rfl | exact Or.inr rfl))) (fun _ _ _ _ => pq_nil) (fun _ _ _ _ => (pe_fn F__law_text hr (by decide) rfl (pa_cons (pv 0) (pa_cons pe_int pa_nil)))))
      (pss_cons (ps_for PassesOwn.never rfl (pi_range1 rfl T.n_range (pa_cons pe_int pa_nil)) (pg_name (i := 6) sclaw.nd rfl (by first | exact Or.inl rfl | exact Or.inr rfl)) (pss_one (ps_for PassesOwn.never rfl (pi_range1 rfl T.n_range (pa_cons pe_int pa_nil)) (pg_name (i := 7) sclaw.nd rfl (by first | exact Or.inl rfl | exact Or.inr rfl)) (pss_one (ps_if (PW.pt (pw_and (pt_cmpR op_lt (pv 6) (pe_callB call_len rfl T.n_len boot_len (pa_cons (pe_ix ix_list (pv 3) (pv 7) (fun _ _ => rfl)) pa_nil)) (nomark _)) (pw_and1 (pt_not (pt_val (pe_fn F__law_good hr (by decide) rfl (pa_cons (pe_ix ix_list (pv 3) (pv 7) (fun _ _ => rfl)) (pa_cons (pe_ix ix_list (pv 4) (pv 7) (fun _ _ => rfl)) (pa_cons (pv 6) (pa_cons (pe_ix ix_list (pv 5) (pe_op op_sub pe_int (pv 7)) (fun _ _ => rfl)) pa_nil)))))))))) (pss_one (ps_ret pe_bl)) pss_nil)))))
      (pss_one (ps_ret pe_bl))))))))), ?_⟩
    have hs : sizeLine = 16777216 := sizeLine_eq
    refine ⟨_, rfl, a, ns, 0, rfl, hS, fun c0 => ⟨c0, 30, (by decide), rfl, fun ln zs H1 s1 e1 z30 zw znd _ => ?_⟩⟩
    refine ⟨_, rfl, a, ns, 1, rfl, s1.seq hS, fun c1 => ⟨_, rfl, a, ns, 1, rfl, s1.seq hS, fun c2 => ⟨c2, 5, rfl, fun r => ⟨_, _, rfl, rfl, (by show (0 : Int) < 6; decide), _, _, rfl, rfl, ?_⟩⟩⟩⟩
    have m0 : 0 ≤ r % 6 := Int.emod_nonneg _ (by decide)
    have m1 : r % 6 < 6 := Int.emod_lt_of_pos _ (by decide)
    obtain ⟨m, em, hm⟩ := nat_of (n := 6) m0 m1
    refine ⟨c1, 1 + m, by omega, ?_, fun lk ks H2 s2 e2 kl kat _ _ => ?_⟩
    · rw [em]
      show [V.int c1, V.int (1 + (m : Int))] = [V.int c1, V.int ((1 + m : Nat) : Int)]
      rw [show ((1 + m : Nat) : Int) = 1 + (m : Int) by omega]
    have S2 := s1.trans s2
    have hS2 := S2.seq hS
    have e1' := s2 _ _ e1
    -- the trees
    refine ⟨2, rfl, (by decide), (by decide), comp_range (n := 2) (fun i ys H' => Same H2 H' ∧ ∃ (ls : List Addr) (rss : List (List Rw)), ys = ls.map V.ref ∧ ls.length = i ∧ A2 (LR H') ls rss) ⟨Same.refl _, [], [], rfl, rfl, A2.nil⟩ (by decide) ?_ ?_ ?_⟩
    · rintro i ys H' ⟨_, ls, _, rfl, e, _⟩
      rw [List.length_map]; omega
    · rintro i ys H3 hi ⟨s3, ls, rss, rfl, hl, h3⟩
      have hS3 := s3.seq hS2
      refine ⟨_, rfl, _, rfl, _, _, rfl, rfl, a, ns, 2 + i, (by show [V.ref a, V.int (2 + (0 + (i : Int)))] = [V.ref a, V.int ((2 + i : Nat) : Int)]; rw [show ((2 + i : Nat) : Int) = 2 + (0 + (i : Int)) by omega]), hS3, fun c => ?_⟩
      refine ⟨_, rfl, _, rfl, c, ln, lk, zs, ks, rfl, s3 _ _ e1', zw, znd, by omega, s3 _ _ e2, fun p hp => (kat p hp).same s3, by omega, by omega, fun l qs rs H4 s4 _ e4 hr4 tr l30 ndn hsub => ?_⟩
      refine ⟨s3.trans s4, ls ++ [l], rss ++ [rs], by rw [List.map_append]; rfl, by rw [List.length_append, hl]; rfl, (h3.imp fun _ _ e => e.same s4).app (A2.one ⟨⟨qs, e4, hr4⟩, tr, l30, ndn⟩)⟩
    rintro ys H3 ⟨s3, ls, rss, rfl, hl2, h3⟩ lT hlT
    have s4 := Same.new (o := .lst (ls.map V.ref)) hlT
    have e4 : upd H3 lT (.lst (ls.map V.ref)) lT = some (.lst (ls.map V.ref)) := upd_same
    generalize upd H3 lT (.lst (ls.map V.ref)) = H4 at s4 e4 ⊢
    have h4 : A2 (LR H4) ls rss := h3.imp fun _ _ e => e.same s4
    have r2 : rss.length = 2 := by rw [← h3.1]; exact hl2
    have S4 := s3.trans s4
    -- the works
    refine ⟨_, rfl, lT, rfl, ⟨_, SqL.of e4⟩, comp_list (K := K) (a := lT) (xs := ls.map V.ref) (fun i ys H' => Same H4 H' ∧ ∃ ws : List Addr, ys = ws.map V.ref ∧ A2 (fun w rs => PAt C H' w (nodeF rs 5 0)) ws (rss.take i)) ⟨Same.refl _, [], rfl, A2.nil⟩ (by rw [List.length_map]; omega) ?_ ?_ ?_ ?_⟩
    · rintro i ys H' ⟨_, ws, rfl, e⟩
      rw [List.length_map, e.1, List.length_take]; omega
    · rintro i ys H' _ ⟨s', _⟩
      exact SqL.of (s' _ _ e4)
    · rintro i v ys H' hv ⟨s', ws, rfl, hw⟩
      rw [List.getElem?_map] at hv
      obtain ⟨l, hl, rfl⟩ := Option.map_eq_some_iff.mp hv
      obtain ⟨rs, hrs, ht⟩ := h4.at hl
      have L := ht.same s'
      refine ⟨_, rfl, l, rs, 0, 5, rfl, L, L.2.1.pos, by rw [L.2.1.root1], by decide, fun wa H5 s5 hW => ?_⟩
      refine ⟨s'.trans s5, ws ++ [wa], by rw [List.map_append]; rfl, ?_⟩
      rw [take_snoc hrs]
      exact (hw.imp fun _ _ e => e.same s5).app (A2.one hW)
    rintro ys H5 ⟨s5, ws, rfl, hw⟩ lW hlW
    rw [List.length_map, h4.1, List.take_length] at hw
    have s6 := Same.new (o := .lst (ws.map V.ref)) hlW
    have e6 : upd H5 lW (.lst (ws.map V.ref)) lW = some (.lst (ws.map V.ref)) := upd_same
    generalize upd H5 lW (.lst (ws.map V.ref)) = H6 at s6 e6 ⊢
    have t46 := s5.trans s6
    have h6 : A2 (LR H6) ls rss := h4.imp fun _ _ e => e.same t46
    have w6 : A2 (fun w rs => PAt C H6 w (nodeF rs 5 0)) ws rss := hw.imp fun _ _ e => e.same s6
    have eT6 := t46 _ _ e4
    have w2 : ws.length = 2 := by rw [w6.1]; exact r2
    obtain ⟨l0, hl0⟩ : ∃ l0, ls[0]? = some l0 := ⟨_, List.getElem?_eq_getElem (by omega)⟩
    obtain ⟨wa0, hwa0⟩ : ∃ wa0, ws[0]? = some wa0 := ⟨_, List.getElem?_eq_getElem (by omega)⟩
    obtain ⟨rs0, hrs0, L0⟩ := h6.at hl0
    obtain ⟨rs0', hrs0', hW0⟩ := w6.at hwa0
    rw [hrs0] at hrs0'
    cases hrs0'
    have tr0 := L0.2.1
    have sm := sm_of (tr0.bd L0.2.2.1 L0.2.2.2 (f := 5) tr0.pos (by decide))
    obtain ⟨dx, fs, hA, hfs⟩ := hW0.ins
    refine ⟨_, rfl, lW, _, _, .ref wa0, rfl, rfl, SqL.of e6, atI_nat (j := 0) (by rw [List.getElem?_map, hwa0]; rfl), wa0, C, dx, fs, spTd K C 7, rfl, hA, hfs _ (by decide +kernel) (by decide +kernel) (by decide +kernel), ⟨rfl, rfl⟩, wa0, _, rfl, hW0, sm.h, sm.z, fun t1 H7 s7 hT1 => ?_⟩
    refine ⟨_, rfl, lT, _, _, .ref l0, rfl, rfl, SqL.of (s7 _ _ eT6), atI_nat (j := 0) (by rw [List.getElem?_map, hl0]; rfl), l0, rs0, 0, 5, rfl, L0.same s7, tr0.pos, by rw [tr0.root1], by decide, fun t2 H8 s8 hT2 => ?_⟩
    refine ⟨toldD (nodeF rs0 5 0), (hT1.t (.of s8)).rd, hT2.rd, told_shaped hW0 sm.h, _, rfl, iteF ?_⟩
    have s68 := s7.trans s8
    have eT8 := s68 _ _ eT6
    have eW8 := s68 _ _ e6
    have h8 : A2 (LR H8) ls rss := h6.imp fun _ _ e => e.same s68
    have w8 : A2 (fun w rs => PAt C H8 w (nodeF rs 5 0)) ws rss := w6.imp fun _ _ e => e.same s68
    clear hT1 hT2 hA hfs hw h3 h4 h6 w6 s5 s3 s7 s8 hW0 L0
    -- the texts
    refine ⟨_, rfl, lT, rfl, ⟨_, SqL.of eT8⟩, comp_list (K := K) (a := lT) (xs := ls.map V.ref) (fun i ys H' => Same H8 H' ∧ ys = ((rss.take i).map fun rs => textW (nodeF rs 5 0)).map V.str) ⟨Same.refl _, by simp⟩ (by rw [List.length_map]; omega) ?_ ?_ ?_ ?_⟩
    · rintro i ys H' ⟨_, rfl⟩
      rw [List.length_map, List.length_map, List.length_take]; omega
    · rintro i ys H' _ ⟨s', _⟩
      exact SqL.of (s' _ _ eT8)
    · rintro i v ys H' hv ⟨s', rfl⟩
      rw [List.getElem?_map] at hv
      obtain ⟨l, hl, rfl⟩ := Option.map_eq_some_iff.mp hv
      obtain ⟨rs, hrs, ht⟩ := h8.at hl
      have L := ht.same s'
      refine ⟨_, rfl, l, rs, 0, rfl, L, L.2.1.pos, fun H9 s9 => ⟨s'.trans s9, ?_⟩⟩
      rw [L.2.1.nd0, take_snoc hrs, List.map_append, List.map_append]
      rfl
    rintro ys H9 ⟨s9, rfl⟩ lX hlX
    rw [List.length_map, h8.1, List.take_length]
    have s10 := Same.new (o := .lst ((rss.map fun rs => textW (nodeF rs 5 0)).map V.str)) hlX
    have eX : upd H9 lX (.lst ((rss.map fun rs => textW (nodeF rs 5 0)).map V.str)) lX = some (.lst ((rss.map fun rs => textW (nodeF rs 5 0)).map V.str)) := upd_same
    generalize upd H9 lX (.lst ((rss.map fun rs => textW (nodeF rs 5 0)).map V.str)) = H10 at s10 eX ⊢
    have t8 := s9.trans s10
    have hA : A2 (LR H10) ls rss := h8.imp fun _ _ e => e.same t8
    have wA : A2 (fun w rs => PAt C H10 w (nodeF rs 5 0)) ws rss := w8.imp fun _ _ e => e.same t8
    have eT := t8 _ _ eT8
    have eW := t8 _ _ eW8
    -- each alone
    refine ⟨30, rfl, (by decide), (by decide), for_range (n := 30) (fun i σ H' => ∃ v6 v7 : Option V, σ = [some (.ref a), some (.ref ln), some (.ref lk), some (.ref lT), some (.ref lW), some (.ref lX), v6, v7] ∧ Same H10 H') ⟨_, _, rfl, Same.refl _⟩ ?_ ?_⟩
    · rintro k σ H11 hk ⟨v6, v7, rfl, s11⟩
      refine ⟨2, rfl, (by decide), (by decide), for_range (n := 2) (fun i σ H' => ∃ v7 : Option V, σ = [some (.ref a), some (.ref ln), some (.ref lk), some (.ref lT), some (.ref lW), some (.ref lX), some (.int (0 + k)), v7] ∧ Same H10 H') ⟨_, rfl, s11⟩ ?_ ?_⟩
      · rintro j σ H12 hj ⟨v7, rfl, s12⟩
        have hjr : j < rss.length := by omega
        have ejr : rss[j]? = some rss[j] := List.getElem?_eq_getElem hjr
        generalize rss[j] = rs at ejr
        have hor : 1 - j < rss.length := by omega
        have eor : rss[1 - j]? = some rss[1 - j] := List.getElem?_eq_getElem hor
        generalize rss[1 - j] = rso at eor
        obtain ⟨l, hl, ht⟩ := hA.at' ejr
        obtain ⟨wa, hwa, hW⟩ := wA.at' ejr
        obtain ⟨lo, hlo, hto⟩ := hA.at' eor
        have atx : ∀ {xs : List Addr} {x : Addr}, xs[j]? = some x → atI (xs.map V.ref) (0 + (j : Int)) = some (.ref x) := fun {xs x} h => by
          rw [Int.zero_add]
          exact atI_nat (by rw [List.getElem?_map, h]; rfl)
        have ato : atI ((rss.map fun rs => textW (nodeF rs 5 0)).map V.str) (1 - (0 + (j : Int))) = some (.str (textW (nodeF rso 5 0))) := by
          rw [show (1 : Int) - (0 + (j : Int)) = ((1 - j : Nat) : Int) by omega]
          exact atI_nat (by rw [List.getElem?_map, List.getElem?_map, eor]; rfl)
        have L12 := ht.same s12
        obtain ⟨⟨qs, hq1, hq2⟩, _⟩ := id L12
        have qT := SqL.of (K := K) (s12 _ _ eT)
        have tro := hto.2.1
        have ngo := hto.ng tro.pos
        have bdo := hto.bd tro.pos
        rw [tro.nd0] at ngo bdo
        refine ⟨_, rfl, _, rfl, _, rfl, lT, _, _, _, rfl, rfl, qT, atx hl, _, _, rfl, .inl ⟨_, SqL.of hq1, rfl⟩, _, _, rfl, rfl, _, rfl, ite2 (fun hlt' => ?_) (fun _ => ?_)⟩
        · have hlt' : (0 + (k : Int)) < (((qs.map V.ref).length : Nat) : Int) := of_decide_eq_true hlt'
          have hkr : k < rs.length := by rw [List.length_map, hq2.1] at hlt'; omega
          refine ⟨_, rfl, _, rfl, lT, _, _, _, rfl, rfl, qT, atx hl, _, rfl, _, rfl, lW, _, _, _, rfl, rfl, SqL.of (s12 _ _ eW), atx hwa, _, rfl, _, rfl, _, rfl, _, _, rfl, rfl, lX, _, _, _, rfl, rfl, SqL.of (s12 _ _ eX), ato, ?_⟩
          refine ⟨l, wa, rs, k, nodeF rso 5 0, (by show [V.ref l, V.ref wa, V.int (0 + (k : Int)), V.str (textW (nodeF rso 5 0))] = _; rw [Int.zero_add]), L12, hkr, hW.same s12, ngo, bdo, fun H13 s13 => ⟨_, rfl, iteF ⟨_, rfl, s12.trans s13⟩⟩⟩
        · exact ⟨_, rfl, s12⟩
      · rintro σ H12 ⟨v7, rfl, s12⟩
        exact ⟨_, _, rfl, s12⟩
    rintro σ H11 ⟨v6, v7, rfl, s11⟩
    exact q _
end
end K33
namespace K33
open PySem L2 PyProof.Rows
def pOk (K : PySem.W.Frag) (C : Addr) : Bool := PySem.W.plainGet K C Str.empty && PySem.W.hasDictIn K C && PySem.W.plainOver K C && PySem.W.findIn K (.ref C) "__setattr__" == some (some (.builtin "object.__setattr__")) && PySem.W.findIn K (.ref C) "name" == some none && PySem.W.findIn K (.ref C) "offers" == some none && PySem.W.findIn K (.ref C) "beneath" == some none && PySem.W.findIn K (.ref C) "__class__" == some (some (.builtin "object.__class__")) && PySem.W.specialIn K (.builtin "object.__class__") "__get__" == some (some (.builtin "getset_descriptor.__get__")) && PySem.W.takesIn K (.builtin "object.__class__") == some true && PySem.W.mroIn K C (.type "object") == some true && PySem.W.kitOne K (.ref C) (.ref C) == some true
theorem pOk_of {K : PySem.W.Frag} {C : Addr} (h : pOk K C = true) : PKit K C := by
  unfold pOk at h
  simp only [Bool.and_eq_true, beq_iff_eq] at h
  obtain ⟨⟨⟨⟨⟨⟨⟨⟨⟨⟨⟨a, b⟩, c⟩, d⟩, e⟩, f⟩, g⟩, i⟩, j⟩, k⟩, l⟩, m⟩ := h
  exact ⟨⟨a, b, c, d⟩, e, f, g, i, j, k, l, m⟩
structure PTop (K : PySem.W.Frag) (C : Addr) : Prop where
  ex : ∃ (f : Addr) (fd : FuncData), FunD K "__init__" "Part.__init__" sPart_init f fd ∧ Mk K C f ∧ Binds K fd psP [] ∧ Binds K fd psP [.none, .none]
theorem ptop_of {K : PySem.W.Frag} {h : Heap} {C f D : Addr} {oc oc2 : Value} {od an od2 : Option Addr} {osl osl2 : Array (Option Value)} {kV doc pm cdv ct : Value} {n2 : Nat} (X : K.In h)
    (a : PySem.W.findIn K (.ref C) "__init__" = some (some (.ref f))) (i : PySem.W.isFn K (.ref f) = true) (l : K.lookup f = some ⟨oc, od, .func (PySem.W.fnOf "__init__" "Part.__init__" (defArgs sPart_init) (defBody sPart_init) (defScope sPart_init) (.ref D) kV doc pm an cdv ct), osl⟩)
    (c : PySem.W.codeIn K cdv "Part.__init__" = true) (k : PySem.W.keepIn K (.ref f) = true) (mk : PySem.W.makesIn K C = true) (kc : PySem.W.keepIn K (.ref C) = true)
    (dd : K.lookup D = some ⟨oc2, od2, .seq #[.none, .none] n2, osl2⟩) : PTop (KOf X) C :=
  ⟨f, _, ⟨⟨oc, od, _, kV, doc, pm, an, cdv, ct, osl, rfl, l, c⟩, k⟩, ⟨mk, a, i, kc⟩,
    (fun s us hK hl => (match us, (show us.length = 4 by simpa using hl) with | [_, _, _, _], _ => PySem.W.binds_K hK rfl dd rfl rfl rfl)),
    (fun s us hK hl => (match us, (show us.length = 2 by simpa using hl) with | [_, _], _ => PySem.W.binds_K hK rfl dd rfl rfl rfl))⟩
def jOk (K : PySem.W.Frag) (C : Addr) : Bool := PySem.W.plainGet K C Str.empty && PySem.W.hasDictIn K C && PySem.W.plainOver K C && PySem.W.findIn K (.ref C) "__setattr__" == some (some (.builtin "object.__setattr__")) && PySem.W.makesIn K C && PySem.W.findIn K (.ref C) "__init__" == some (some (.builtin "object.__init__")) && PySem.W.keepIn K (.ref C)
theorem jOk_of {K : PySem.W.Frag} {C : Addr} (h : jOk K C = true) : Cls K C ∧ PySem.W.makesIn K C = true ∧ PySem.W.findIn K (.ref C) "__init__" = some (some (.builtin "object.__init__")) ∧ PySem.W.keepIn K (.ref C) = true := by
  unfold jOk at h
  simp only [Bool.and_eq_true, beq_iff_eq] at h
  obtain ⟨⟨⟨⟨⟨⟨a, b⟩, c⟩, d⟩, e⟩, f⟩, g⟩ := h
  exact ⟨⟨a, b, c, d⟩, e, f, g⟩
structure KTop (K : PySem.W.Frag) (mg : Str → Option Value) (cP c0 c1 c2 c3 : Addr) : Prop where
  mP : mg "Part" = some (.ref cP)
  m0 : mg "Called" = some (.ref c0)
  m1 : mg "Beside" = some (.ref c1)
  m2 : mg "Joined" = some (.ref c2)
  m3 : mg "Changed" = some (.ref c3)
  oP : pOk K cP = true
  iP : PTop K cP
  o0 : jOk K c0 = true
  o1 : jOk K c1 = true
  o2 : jOk K c2 = true
  o3 : jOk K c3 = true
  pat : MTop K cP "at" "Part.at" sPart_at ["self", "name"]
  ptd : MTop K cP "told" "Part.told" sPart_told ["self"]
  w0 : MTop K c0 "word" "Called.word" sCalled_word ["self"]
  w1 : MTop K c1 "word" "Beside.word" sBeside_word ["self"]
  w2 : MTop K c2 "word" "Joined.word" sJoined_word ["self"]
  w3 : MTop K c3 "word" "Changed.word" sChanged_word ["self"]
theorem ktop_mk {K : PySem.W.Frag} {mg : Str → Option Value} {cP c0 c1 c2 c3 : Addr} (mP : mg "Part" = some (.ref cP)) (m0 : mg "Called" = some (.ref c0)) (m1 : mg "Beside" = some (.ref c1)) (m2 : mg "Joined" = some (.ref c2)) (m3 : mg "Changed" = some (.ref c3)) (oP : pOk K cP = true) (iP : PTop K cP) (o0 : jOk K c0 = true) (o1 : jOk K c1 = true) (o2 : jOk K c2 = true) (o3 : jOk K c3 = true) (pat : MTop K cP "at" "Part.at" sPart_at ["self", "name"]) (ptd : MTop K cP "told" "Part.told" sPart_told ["self"]) (w0 : MTop K c0 "word" "Called.word" sCalled_word ["self"]) (w1 : MTop K c1 "word" "Beside.word" sBeside_word ["self"]) (w2 : MTop K c2 "word" "Joined.word" sJoined_word ["self"]) (w3 : MTop K c3 "word" "Changed.word" sChanged_word ["self"]) : ∃ cP c0 c1 c2 c3, KTop K mg cP c0 c1 c2 c3 := ⟨cP, c0, c1, c2, c3, mP, m0, m1, m2, m3, oP, iP, o0, o1, o2, o3, pat, ptd, w0, w1, w2, w3⟩
section
variable {P : Program} {w : World} {K : PySem.W.Frag} {mg : Str → Option Value} {base : Heap} {cP c0 c1 c2 c3 : Addr}
theorem jhas_of (h : KTop K mg cP c0 c1 c2 c3) : JHas P w K mg base ⟨c0, c1, c2, c3⟩ := by
  have q0 := jOk_of h.o0
  have q1 := jOk_of h.o1
  have q2 := jOk_of h.o2
  have q3 := jOk_of h.o3
  refine ⟨⟨h.m0, q0.2.1, q0.2.2.1, q0.2.2.2⟩, ⟨h.m1, q1.2.1, q1.2.2.1, q1.2.2.2⟩, ⟨h.m2, q2.2.1, q2.2.2.1, q2.2.2.2⟩, ⟨h.m3, q3.2.1, q3.2.2.1, q3.2.2.2⟩, fun j hj => ?_⟩
  · rcases j4 hj with rfl | rfl | rfl | rfl
    · exact methD_of q0.1 h.w0 fun f fd F => ok_Called_word F
    · exact methD_of q1.1 h.w1 fun f fd F => ok_Beside_word F
    · exact methD_of q2.1 h.w2 fun f fd F => ok_Joined_word F
    · exact methD_of q3.1 h.w3 fun f fd F => ok_Changed_word F
end
theorem law_fn2 {P : Program} {w : World} {K : PySem.W.Frag} {mg : Str → Option Value} {fa : Addr} (hfa : mg "law" = some (.ref fa)) (T : Txt mg) (N : Tx2 mg)
    (tis_whole : TopFn K mg "is_whole" sis_whole ["thing"]) (tis_word : TopFn K mg "is_word" sis_word ["thing"]) (tis_key : TopFn K mg "is_key" sis_key ["thing"]) (tkey_text : TopFn K mg "key_text" skey_text ["key"]) (tis_number_text : TopFn K mg "is_number_text" sis_number_text ["text", "longest"]) (tis_key_text : TopFn K mg "is_key_text" sis_key_text ["text"]) (tkey_of : TopFn K mg "key_of" skey_of ["text"]) (tall_joins : TopFn K mg "all_joins" sall_joins []) (tjoin_words : TopFn K mg "join_words" sjoin_words []) (tjoin_of : TopFn K mg "join_of" sjoin_of ["word"]) (tare_offers : TopFn K mg "are_offers" sare_offers ["thing"]) (tkept_offers : TopFn K mg "kept_offers" skept_offers ["offers"]) (tneed_few_beneath : TopFn K mg "need_few_beneath" sneed_few_beneath ["many"]) (tneed_few_parts : TopFn K mg "need_few_parts" sneed_few_parts ["many"]) (tneed_not_deep : TopFn K mg "need_not_deep" sneed_not_deep ["deep"]) (tis_joined_part : TopFn K mg "is_joined_part" sis_joined_part ["thing"]) (tkept_beneath : TopFn K mg "kept_beneath" skept_beneath ["beneath"]) (twalked : TopFn K mg "walked" swalked ["work"]) (tdepth_of : TopFn K mg "depth_of" sdepth_of ["work"]) (tneed_bounds : TopFn K mg "need_bounds" sneed_bounds ["work"]) (trow_of : TopFn K mg "row_of" srow_of ["work", "name"]) (tpart_words : TopFn K mg "part_words" spart_words ["part"]) (tpart_row : TopFn K mg "part_row" spart_row ["road", "part"]) (tshow_work : TopFn K mg "show_work" sshow_work ["work"]) (tare_part_words : TopFn K mg "are_part_words" sare_part_words ["words"]) (tis_joined_row : TopFn K mg "is_joined_row" sis_joined_row ["words", "most"]) (tneed_forms : TopFn K mg "need_forms" sneed_forms ["rows"]) (tmade_part : TopFn K mg "made_part" smade_part ["words", "beneath"]) (tmade_work : TopFn K mg "made_work" smade_work ["rows"]) (tread_work : TopFn K mg "read_work" sread_work ["text"]) (t_law_cell : TopFn K mg "_law_cell" s_law_cell ["_law_script", "_law_k"]) (t_law_mixed : TopFn K mg "_law_mixed" s_law_mixed ["_law_cell_here", "_law_k"]) (t_law_box : TopFn K mg "_law_box" s_law_box ["_law_cell_here"]) (t_law_take : TopFn K mg "_law_take" s_law_take ["_law_box_here", "_law_many"]) (t_law_words : TopFn K mg "_law_words" s_law_words ["_law_cell_here", "_law_many"]) (t_law_keys : TopFn K mg "_law_keys" s_law_keys ["_law_cell_here", "_law_many"]) (t_law_offers : TopFn K mg "_law_offers" s_law_offers ["_law_box_here", "_law_keys_here"]) (t_law_tree : TopFn K mg "_law_tree" s_law_tree ["_law_cell_here", "_law_names", "_law_keys_here"]) (t_law_nested : TopFn K mg "_law_nested" s_law_nested ["_law_rows", "_law_at"]) (t_law_made : TopFn K mg "_law_made" s_law_made ["_law_rows", "_law_at"]) (t_law_order : TopFn K mg "_law_order" s_law_order ["_law_rows", "_law_at"]) (t_law_road : TopFn K mg "_law_road" s_law_road ["_law_rows", "_law_top", "_law_at"]) (t_law_text : TopFn K mg "_law_text" s_law_text ["_law_rows", "_law_top"]) (t_law_good : TopFn K mg "_law_good" s_law_good ["_law_rows", "_law_work", "_law_top", "_law_between"]) (tlaw : TopFn K mg "law" slaw ["_law_script"]) (hk : ∃ cP c0 c1 c2 c3, KTop K mg cP c0 c1 c2 c3) :
    ∃ fd : FuncData, (∀ (s : Shared) (v : Value), BindsTo s fd ⟨[v], []⟩ [("_law_script", v)]) ∧ ∀ base : Heap, K.In base → base.Ns mainGlobals mg → FnOk P w K mg base CX0 18 fa fd ["_law_script"] (spLaw K) := by
  obtain ⟨cP, c0, c1, c2, c3, k⟩ := hk
  obtain ⟨fP, dP, FP, MP, BP, BD⟩ := k.iP.ex
  have kit : PKit K cP := pOk_of k.oP
  exact law_mk tlaw hfa sclaw fun base _ _ f cdv A outer s H vs Q E hr h =>
    have Fw := ok_whole T tis_whole
    have Fwo := ok_word T tis_word
    have Fk := ok_key T Fwo Fw tis_key
    have JD : JHas P w K mg base ⟨c0, c1, c2, c3⟩ := jhas_of k
    have Faj := ok_all JD tall_joins
    have Fjo := ok_join_of JD Faj tjoin_of
    have Fao := ok_ao T Fk tare_offers
    have Faot := ok_aoT T Fk tare_offers
    have Fko := ok_ko T Fao Faot tkept_offers
    have Fkb := ok_kb T (ok_jp T kit k.mP tis_joined_part) (ok_nfb T tneed_few_beneath) Fjo tkept_beneath
    have Fwk := ok_wk kit twalked 7
    have Fdp := ok_dp T Fwk tdepth_of
    have Fnb := ok_nb T kit Fwk (ok_nfp T tneed_few_parts) (ok_nnd T tneed_not_deep) Fdp tneed_bounds
    have OP : FnOk P w K mg base CX0 10 fP dP psP (spPI cP) := ok_pinit kit Fwo Fko Fkb Fnb FP
    have M : PMk P w K mg base cP fP dP := ⟨k.mP, MP, OP, BP⟩
    have Fro := ok_ro kit Fwk trow_of
    have MAT : ∀ C' sp, DAt cP C' sp → MethD P w K mg base CX0 9 C' "at" ["self", "name"] sp := fun C' sp ⟨e1, e2⟩ => by
      subst e1 e2
      exact methD_of kit.cl k.pat fun f fd F => ok_at Fro F
    have MTD := ok_td (P := P) (w := w) (base := base) T kit k.ptd 7
    have Fc := ok_cell T t_law_cell
    have Fx := ok_mixed t_law_mixed
    have Fbx := ok_box t_law_box
    have Ft := ok_take Fx t_law_take
    have Fwd := ok_words T Fbx Ft t_law_words
    have Fke := ok_keys T Fx Fwd t_law_keys
    have Fof := ok_of T Ft t_law_offers
    have Ftr := ok_tr T Fbx Ft Fof t_law_tree
    have Fmd := ok_md T M t_law_made 6
    have Fne := ok_ne T t_law_nested 6
    have For := ok_or T t_law_order 6
    have Frr := ok_road t_law_road
    have Fkt := ok_key_text tkey_text
    have Fnu := ok_num T N tis_number_text
    have Fik := ok_ikt T Fwo Fnu tis_key_text
    have Fke' := ok_keo T Fik tkey_of
    have Fjw := ok_jw JD Faj tjoin_words
    have Fpw := ok_pw kit Fkt tpart_words
    have Fpr := ok_pr T Fpw tpart_row
    have Fsw := ok_sw Fwk Fpr tshow_work
    have Fap := ok_apw T Fwo Fik tare_part_words
    have Fjr := ok_jr T Fjw Fap tis_joined_row
    have Fnf := ok_nf T Fap Fjr tneed_forms
    have Fmp := ok_mp M Fke' tmade_part
    have Fmw := ok_mw T N Fmp tmade_work
    have Frw := ok_rw T Fnf Fmw tread_work
    have Ftx := ok_tx T For Frr t_law_text
    have Fgd := ok_gd T kit k.mP Ftx Fsw Frw MAT MTD t_law_good
    law_body T Fc Fx Fwd Fke Ftr Fmd Fne Ftx Fgd MTD f cdv A outer s H vs Q E hr h
end K33
namespace PySem.W.Fast
def tw4584134846573374150:=0
def tw2400152358149491036:=0
def tw12430385919482947718:=0
def tw12184405383793743305:=0
def tw11449145440422982236:=0
def tw15504969910651537475:=0
def tw4961403440314071214:=0
def tw9768762106581478347:=0
def tw2414501557999721329:=0
def tw2618005053668992644:=0
def tw15175793076021344936:=0
def tw3736632920850666322:=0
def tw15775307431157310128:=0
def tw5860153399562654558:=0
def tw11319471030119641915:=0
def tw3655357386963030401:=0
def tw3237491666941183654:=0
def tw3707025092164971909:=0
def tw3732950077744740624:=0
def tw16020711101944389386:=0
def tw1093083182051302279:=0
def tw6227812307044463351:=0
def tw188814491585061920:=0
def tw9809129645100884432:=0
def tw6103370111139101610:=0
def tw3109433978423064401:=0
def tw11257356773945512022:=0
def tw14164190186648053311:=0
def tw8731468267985322786:=0
def tw14793697165088507422:=0
def tw1272771906782556196:=0
def tw12803261484623093915:=0
def tw9292674928293950299:=0
def tw14696026637722614413:=0
def tw14223638634294315843:=0
def tw10172565045241582491:=0
def tw7126275162647094685:=0
def tw5063758981948481215:=0
def tw16910588577576723824:=0
def tw5337588127692622852:=0
def tw11853383912776113057:=0
def tw1381641191335008283:=0
def tw12805444265988098567:=0
def tw2580323151124354636:=0
def tw14169572878065071130:=0
def tw8225642077278114749:=0
def tw16755486806886743541:=0
def tw3913558714850856757:=0
def tw7631603306812389797:=0
def tw11738548002848597268:=0
def tw13484892192251822186:=0
def tw1277907084970522580:=0
def tw14627910277746024626:=0
def tw14725290161525369475:=0
def tw17193602882192177060:=0
def tw4482716665881745171:=0
def tw7395310912892258719:=0
def tw9805579817882629813:=0
def tw12652469349171789143:=0
def tw127126911602951963:=0
def tw2856558291765662780:=0
def tw2615974060621555044:=0
def tw18272099261973352023:=0
def tw9058083406760164849:=0
def tw6737461983356979217:=0
def tw7654197426279142036:=0
def tw15163965272593450467:=0
def tw7019180826907283601:=0
def tw1181430135674687441:=0
def tw1028482306266647072:=0
def tw6606157763531271770:=0
def tw16379947969007563360:=0
def tw18251864584571076887:=0
def tw16543773894311423548:=0
def tw13899742203518818422:=0
def tw15881427427449182297:=0
def tw3408264298687121651:=0
def tw9696681547039182434:=0
def tw7306688527676144995:=0
def tw2715611653382742927:=0
def tw8472794748872401021:=0
def tw15434050588951325391:=0
def tw270507946355832264:=0
def tw17906038703472590944:=0
def tw8316631709756929356:=0
def tw18080355678101995104:=0
def tw7300059774361870444:=0
def tw18012235192059375538:=0
def tw757813246976654705:=0
def tw16982823066771628741:=0
def tw5299375780975830917:=0
def tw11073974383517777723:=0
def tw5418942638385046811:=0
def tw12744491608625395894:=0
def tw4222830495677757762:=0
def tw17628052102729927453:=0
def tw8783190494857059481:=0
def tw9688337683306056583:=0
def tw479492508329127166:=0
def tw455393087591890002:=0
def tw3738735306153228134:=0
def tw1026170558102933359:=0
def tw10885718998013039546:=0
def tw9033225452297267259:=0
def tw1577728331142599062:=0
def tw17065167799273072971:=0
def tw14672199747299441435:=0
def tw10334243040930734275:=0
def tw12789520838422896594:=0
def tw12693709179695129778:=0
def tw947890234482552568:=0
def tw3357062563595225602:=0
def tw10965490481027695444:=0
def tw9381416404747312974:=0
def tw7799829085607494393:=0
def tw6493343732414970403:=0
def tw17011683892874065572:=0
def tw677984659405332984:=0
def tw4932547921414605127:=0
def tw6535888126844072082:=0
def tw13657652468836461567:=0
def tw14889692063184210584:=0
def tw6809247979401539518:=0
def tw15250281242912226734:=0
def tw9417853091233709721:=0
def tw5629525842492813230:=0
def tw10408532136249827507:=0
def tw8868003419890636061:=0
def tw8064182652843971597:=0
def tw15014963235159535977:=0
def tw5552717929355531580:=0
def tw13941867297101087811:=0
def tw1675955524035532429:=0
def tw16232006450327640506:=0
def tw12409270087174318243:=0
def tw14079089348254125734:=0
def tw9235951035686744723:=0
def tw15678398236409593444:=0
def tw1540431361127607144:=0
def tw2854126541987611382:=0
def tw1253534520665214936:=0
def tw11752471668197339556:=0
def tw18154187693781788662:=0
def tw14692094745019279058:=0
def tw4181903897544073933:=0
def tw16937103851442511559:=0
def tw13675541177490298382:=0
def tw13567746769655087388:=0
def tw8451506390572402203:=0
def tw7321590499730181050:=0
def tw11486022155029016307:=0
def tw6052699053720615023:=0
def tw11297278790462109589:=0
def tw15183386880125128737:=0
def tw1534543379467134923:=0
def tw9783616857855413749:=0
def tw12499943256412610797:=0
def tw824516817452955464:=0
def tw5172754214022601979:=0
def tw15556095409351529429:=0
def tw10109379034880287045:=0
def tw2310298394982247191:=0
def tw6675333598597026363:=0
def tw16918294623660714707:=0
def tw743686710859687883:=0
def tw4908207771651154645:=0
def tw13452943833200230993:=0
def tw5018984738953855506:=0
def tw13477561397012960087:=0
def tw14600521545683356114:=0
def tw11393744352228331302:=0
def tw13769756935717198360:=0
def tw16001099169393283445:=0
def tw5770699965329188117:=0
def tw9875819317462147873:=0
def tw13996419234586315935:=0
def tw9662922826264902868:=0
def tw7597304927532188748:=0
def tw11509870924788151934:=0
def tw7499607215473053891:=0
def tw8028396800691785164:=0
def tw7679706800053166449:=0
def tw12956675959017519244:=0
def tw17456622322559249255:=0
def tw13601136989808859804:=0
def tw14473486201730762457:=0
def tw4387169390610764720:=0
def tw11294716475365678262:=0
def tw574470571887550902:=0
def tw500316956288540372:=0
def tw12489344523261278502:=0
def tw4159524269851642190:=0
def tw17294357443450631519:=0
def tw9237472784589901138:=0
def tw5461155609407830474:=0
def tw7925733166838695959:=0
def tw14225479859155098334:=0
def tw14734277724922488981:=0
def tw3718690892889748314:=0
def tw2445520669287883832:=0
def tw13177026445486427755:=0
def tw1076427013916998519:=0
def tw12316642380434491132:=0
def tw14354299690033290326:=0
def tw11964431899217903752:=0
def tw14065117489429419013:=0
def tw9955698366387309119:=0
def tw9727960339204098543:=0
def tw11626296033836300990:=0
def tw11333865027295923518:=0
def tw9073053668262977581:=0
def tw424007501299055815:=0
def tw15728101976870337387:=0
def tw3243147980194907741:=0
def tw15512732232089818806:=0
def tw8086769579332103520:=0
def tw16546664650958162797:=0
def tw2586922782163967177:=0
def tw12934404519534780315:=0
def tw14333063991684150248:=0
def tw18386890399800030407:=0
def tw1377844739539017470:=0
def tw9833314793964717196:=0
def tw5952545045255639432:=0
def tw6654290695346974569:=0
def tw2025256501370083502:=0
def tw16984779066196114284:=0
def tw7499307336718468163:=0
def tw12471358894762031788:=0
def tw5100435756628106356:=0
def tw187716491636028873:=0
def tw17740538450851902310:=0
def tw17736712537109617740:=0
def tw1959290341090557825:=0
def tw8393246930536618536:=0
def tw14421188318290876535:=0
def tw17573889562410333898:=0
def tw17833715013142279440:=0
def tw15815790095295033556:=0
def tw14253347075600432384:=0
def tw14012218356985463277:=0
def tw9417566800605818405:=0
def tw1006224659160907989:=0
def tw16755473160134882919:=0
def tw15671766954002186356:=0
def tw17330381254585493042:=0
def tw13151110950389267291:=0
def tw2516775996402295315:=0
def tw10129474803131037919:=0
def tw296311070597451026:=0
def tw17357361836048142415:=0
def tw9898518634233767122:=0
def tw8403783594275206179:=0
def tw7531914068709383065:=0
def tw10182693248107215392:=0
def tw6528498564317732851:=0
def tw14407390484787087626:=0
def tw14360320298488423221:=0
def tw4702602907701855170:=0
def tw15622121325190001151:=0
def tw13504634661762799982:=0
def tw14849932024311360668:=0
def tw5531994849427962260:=0
def tw7813926872303907271:=0
def tw3520608789345336979:=0
def tw3162963078959009854:=0
def tw16829167649664482900:=0
def tw1510457812250562569:=0
def tw15414583324332369667:=0
def tw6104068866391275905:=0
def tw15000806755928832417:=0
def tw12310551314467934513:=0
def tw1388150906848902141:=0
def tw46457326190603397:=0
def tw14625370876444907330:=0
def tw6987792954243746315:=0
def tw1011381266005162098:=0
def tw2831136393076629403:=0
def tw13401392937131667152:=0
def tw8403260866880775468:=0
def tw5393935594754266545:=0
def tw12631765401483732018:=0
def tw7227850694423500910:=0
def tw12598477629270213880:=0
def tw8608945448791063652:=0
def tw5601269467381718779:=0
def tw5904576312352033723:=0
def tw4087509834466460921:=0
def tw14787369811509087060:=0
def tw10640342568046361522:=0
def tw14239961450828884900:=0
def tw17576428923723972354:=0
def tw14186167813565440735:=0
def tw15867965901772690950:=0
def tw4229581184453536010:=0
def tw9336286878161889873:=0
def tw3989768942966018101:=0
def tw9902277480487779533:=0
def tw8668811871640573619:=0
def tw13206621830057444238:=0
def tw12365763296219651844:=0
def tw650126175569520044:=0
def tw9720477310231460204:=0
def tw6576094021226899802:=0
def tw17585672990878472838:=0
def tw2590702463135576207:=0
def tw8023589374203100952:=0
def tw3105759762521764835:=0
def tw12277505051366917309:=0
def tw4444401001452459548:=0
def tw13398554361848680109:=0
def tw11396457806678281776:=0
def tw10712177156538057883:=0
def tw15868942995049700645:=0
def tw10477317992598057145:=0
def tw17586595261135588163:=0
def tw1319710175388561903:=0
def tw16873243181800371840:=0
def tw17962132265614008381:=0
def tw17741363730189566930:=0
def tw16575077105864694718:=0
def tw11375753660260225314:=0
def tw9103472432889250455:=0
def tw9476762772716155702:=0
def tw1615802473830747771:=0
def tw13895082800426689302:=0
def tw974635668391067286:=0
def tw2089797716956509859:=0
def tw3358090061569004009:=0
def tw9726352147797500346:=0
def tw10775750631436531494:=0
def tw1783349940372355270:=0
def tw14038878050685182911:=0
def tw2473125176858534864:=0
def tw18308960264393877965:=0
def tw3633967117141934354:=0
def tw10593796228764728697:=0
def tw3317854526444592225:=0
def tw12049708341060220723:=0
def tw10550823544682406514:=0
def tw13413245613368026433:=0
def tw17529391715428958905:=0
def tw9184094222416936267:=0
def tw13843209902258226224:=0
def tw2093115599898944949:=0
def tw13707058202142019193:=0
def tw1698254208225053932:=0
def tw3602987384722360189:=0
def tw6232191693154033832:=0
def tw15962831909447731833:=0
def tw2880875503212337638:=0
def tw4593660982848718459:=0
def tw10809108807044814702:=0
def tw13543673652240785069:=0
def tw5567004644851660260:=0
def tw17023569740687460281:=0
def tw14118682682627189115:=0
def tw12134959620839737526:=0
def tw11122962303767432125:=0
def tw5643789882681572821:=0
def tw2127725268906084737:=0
def tw17317816179150910932:=0
def tw9453352027756875536:=0
def tw15685812241142729782:=0
def tw2961368268614072096:=0
def tw17515820739026171307:=0
def tw6817260476683788739:=0
def tw14228638998569373387:=0
def tw16481079825522208618:=0
def tw647552424629307928:=0
def tw1339997655693150934:=0
def tw16057157927706821959:=0
def tw5656300072931325485:=0
def tw12772056838359361175:=0
def tw10727613093777061968:=0
def tw15490972194875482953:=0
def tw5658269107498619806:=0
def tw16340639219735925032:=0
def tw15751250333181174935:=0
def tw10939804143456455739:=0
def tw12373040747889146169:=0
def tw10657302201673790958:=0
def tw3736667457153175672:=0
def tw2080165993838343686:=0
def tw13005586284685009523:=0
def tw1051149814117756653:=0
def tw8556627624209639848:=0
def tw267909447524051847:=0
def tw4438009313916101357:=0
def tw12465913669596769104:=0
def tw12836981106872254869:=0
def tw10267693410248112234:=0
def tw3381467739635270858:=0
def tw14280099360621802893:=0
def tw9402954961089183104:=0
def tw7847341579475069423:=0
def tw3733313811581544899:=0
def tw8122910808237313837:=0
def tw3289463963122308849:=0
def tw6820760224915069969:=0
end PySem.W.Fast
open PySem PySem.W PyProof.Rows
set_option maxRecDepth 100000 in
set_option maxHeartbeats 0 in
theorem PySem.Challenge.cw_grantweave_k33_works_written_holds : PySem.Challenge.rw_grantweave_k33_works_written.Holds := by
  w_on; o_law; k_head; (case hw => w_witness2)
  k_fill
  refine L2.law_walk (l := PySem.Challenge.rw_grantweave_k33_works_written) (x := "_law_script") (k := 18) rfl rfl ⟨rfl, by decide, by decide, rfl⟩ (fun w h Y => PySem.W.kIn_of Y) ?F
  case F =>
    intro w mg fa h KX G hmg
    have t_is_whole : L2.TopFn (L2.KOf KX) mg "is_whole" K33.sis_whole ["thing"] := by
      refine' L2.topFn_of KX G (fun _ _ _ _ _ _ us hl => match us, hl with | [_], _ => rfl) ?a ?l ?c ?k
      (case a => k_is); (case l => k_is); (case c => k_is); (case k => k_is)
    have t_is_word : L2.TopFn (L2.KOf KX) mg "is_word" K33.sis_word ["thing"] := by
      refine' L2.topFn_of KX G (fun _ _ _ _ _ _ us hl => match us, hl with | [_], _ => rfl) ?a ?l ?c ?k
      (case a => k_is); (case l => k_is); (case c => k_is); (case k => k_is)
    have t_is_key : L2.TopFn (L2.KOf KX) mg "is_key" K33.sis_key ["thing"] := by
      refine' L2.topFn_of KX G (fun _ _ _ _ _ _ us hl => match us, hl with | [_], _ => rfl) ?a ?l ?c ?k
      (case a => k_is); (case l => k_is); (case c => k_is); (case k => k_is)
    have t_key_text : L2.TopFn (L2.KOf KX) mg "key_text" K33.skey_text ["key"] := by
      refine' L2.topFn_of KX G (fun _ _ _ _ _ _ us hl => match us, hl with | [_], _ => rfl) ?a ?l ?c ?k
      (case a => k_is); (case l => k_is); (case c => k_is); (case k => k_is)
    have t_is_number_text : L2.TopFn (L2.KOf KX) mg "is_number_text" K33.sis_number_text ["text", "longest"] := by
      refine' L2.topFn_of KX G (fun _ _ _ _ _ _ us hl => match us, hl with | [_, _], _ => rfl) ?a ?l ?c ?k
      (case a => k_is); (case l => k_is); (case c => k_is); (case k => k_is)
    have t_is_key_text : L2.TopFn (L2.KOf KX) mg "is_key_text" K33.sis_key_text ["text"] := by
      refine' L2.topFn_of KX G (fun _ _ _ _ _ _ us hl => match us, hl with | [_], _ => rfl) ?a ?l ?c ?k
      (case a => k_is); (case l => k_is); (case c => k_is); (case k => k_is)
    have t_key_of : L2.TopFn (L2.KOf KX) mg "key_of" K33.skey_of ["text"] := by
      refine' L2.topFn_of KX G (fun _ _ _ _ _ _ us hl => match us, hl with | [_], _ => rfl) ?a ?l ?c ?k
      (case a => k_is); (case l => k_is); (case c => k_is); (case k => k_is)
    have t_all_joins : L2.TopFn (L2.KOf KX) mg "all_joins" K33.sall_joins [] := by
      refine' L2.topFn_of KX G (fun _ _ _ _ _ _ us hl => match us, hl with | [], _ => rfl) ?a ?l ?c ?k
      (case a => k_is); (case l => k_is); (case c => k_is); (case k => k_is)
    have t_join_words : L2.TopFn (L2.KOf KX) mg "join_words" K33.sjoin_words [] := by
      refine' L2.topFn_of KX G (fun _ _ _ _ _ _ us hl => match us, hl with | [], _ => rfl) ?a ?l ?c ?k
      (case a => k_is); (case l => k_is); (case c => k_is); (case k => k_is)
    have t_join_of : L2.TopFn (L2.KOf KX) mg "join_of" K33.sjoin_of ["word"] := by
      refine' L2.topFn_of KX G (fun _ _ _ _ _ _ us hl => match us, hl with | [_], _ => rfl) ?a ?l ?c ?k
      (case a => k_is); (case l => k_is); (case c => k_is); (case k => k_is)
    have t_are_offers : L2.TopFn (L2.KOf KX) mg "are_offers" K33.sare_offers ["thing"] := by
      refine' L2.topFn_of KX G (fun _ _ _ _ _ _ us hl => match us, hl with | [_], _ => rfl) ?a ?l ?c ?k
      (case a => k_is); (case l => k_is); (case c => k_is); (case k => k_is)
    have t_kept_offers : L2.TopFn (L2.KOf KX) mg "kept_offers" K33.skept_offers ["offers"] := by
      refine' L2.topFn_of KX G (fun _ _ _ _ _ _ us hl => match us, hl with | [_], _ => rfl) ?a ?l ?c ?k
      (case a => k_is); (case l => k_is); (case c => k_is); (case k => k_is)
    have t_need_few_beneath : L2.TopFn (L2.KOf KX) mg "need_few_beneath" K33.sneed_few_beneath ["many"] := by
      refine' L2.topFn_of KX G (fun _ _ _ _ _ _ us hl => match us, hl with | [_], _ => rfl) ?a ?l ?c ?k
      (case a => k_is); (case l => k_is); (case c => k_is); (case k => k_is)
    have t_need_few_parts : L2.TopFn (L2.KOf KX) mg "need_few_parts" K33.sneed_few_parts ["many"] := by
      refine' L2.topFn_of KX G (fun _ _ _ _ _ _ us hl => match us, hl with | [_], _ => rfl) ?a ?l ?c ?k
      (case a => k_is); (case l => k_is); (case c => k_is); (case k => k_is)
    have t_need_not_deep : L2.TopFn (L2.KOf KX) mg "need_not_deep" K33.sneed_not_deep ["deep"] := by
      refine' L2.topFn_of KX G (fun _ _ _ _ _ _ us hl => match us, hl with | [_], _ => rfl) ?a ?l ?c ?k
      (case a => k_is); (case l => k_is); (case c => k_is); (case k => k_is)
    have t_is_joined_part : L2.TopFn (L2.KOf KX) mg "is_joined_part" K33.sis_joined_part ["thing"] := by
      refine' L2.topFn_of KX G (fun _ _ _ _ _ _ us hl => match us, hl with | [_], _ => rfl) ?a ?l ?c ?k
      (case a => k_is); (case l => k_is); (case c => k_is); (case k => k_is)
    have t_kept_beneath : L2.TopFn (L2.KOf KX) mg "kept_beneath" K33.skept_beneath ["beneath"] := by
      refine' L2.topFn_of KX G (fun _ _ _ _ _ _ us hl => match us, hl with | [_], _ => rfl) ?a ?l ?c ?k
      (case a => k_is); (case l => k_is); (case c => k_is); (case k => k_is)
    have t_walked : L2.TopFn (L2.KOf KX) mg "walked" K33.swalked ["work"] := by
      refine' L2.topFn_of KX G (fun _ _ _ _ _ _ us hl => match us, hl with | [_], _ => rfl) ?a ?l ?c ?k
      (case a => k_is); (case l => k_is); (case c => k_is); (case k => k_is)
    have t_depth_of : L2.TopFn (L2.KOf KX) mg "depth_of" K33.sdepth_of ["work"] := by
      refine' L2.topFn_of KX G (fun _ _ _ _ _ _ us hl => match us, hl with | [_], _ => rfl) ?a ?l ?c ?k
      (case a => k_is); (case l => k_is); (case c => k_is); (case k => k_is)
    have t_need_bounds : L2.TopFn (L2.KOf KX) mg "need_bounds" K33.sneed_bounds ["work"] := by
      refine' L2.topFn_of KX G (fun _ _ _ _ _ _ us hl => match us, hl with | [_], _ => rfl) ?a ?l ?c ?k
      (case a => k_is); (case l => k_is); (case c => k_is); (case k => k_is)
    have t_row_of : L2.TopFn (L2.KOf KX) mg "row_of" K33.srow_of ["work", "name"] := by
      refine' L2.topFn_of KX G (fun _ _ _ _ _ _ us hl => match us, hl with | [_, _], _ => rfl) ?a ?l ?c ?k
      (case a => k_is); (case l => k_is); (case c => k_is); (case k => k_is)
    have t_part_words : L2.TopFn (L2.KOf KX) mg "part_words" K33.spart_words ["part"] := by
      refine' L2.topFn_of KX G (fun _ _ _ _ _ _ us hl => match us, hl with | [_], _ => rfl) ?a ?l ?c ?k
      (case a => k_is); (case l => k_is); (case c => k_is); (case k => k_is)
    have t_part_row : L2.TopFn (L2.KOf KX) mg "part_row" K33.spart_row ["road", "part"] := by
      refine' L2.topFn_of KX G (fun _ _ _ _ _ _ us hl => match us, hl with | [_, _], _ => rfl) ?a ?l ?c ?k
      (case a => k_is); (case l => k_is); (case c => k_is); (case k => k_is)
    have t_show_work : L2.TopFn (L2.KOf KX) mg "show_work" K33.sshow_work ["work"] := by
      refine' L2.topFn_of KX G (fun _ _ _ _ _ _ us hl => match us, hl with | [_], _ => rfl) ?a ?l ?c ?k
      (case a => k_is); (case l => k_is); (case c => k_is); (case k => k_is)
    have t_are_part_words : L2.TopFn (L2.KOf KX) mg "are_part_words" K33.sare_part_words ["words"] := by
      refine' L2.topFn_of KX G (fun _ _ _ _ _ _ us hl => match us, hl with | [_], _ => rfl) ?a ?l ?c ?k
      (case a => k_is); (case l => k_is); (case c => k_is); (case k => k_is)
    have t_is_joined_row : L2.TopFn (L2.KOf KX) mg "is_joined_row" K33.sis_joined_row ["words", "most"] := by
      refine' L2.topFn_of KX G (fun _ _ _ _ _ _ us hl => match us, hl with | [_, _], _ => rfl) ?a ?l ?c ?k
      (case a => k_is); (case l => k_is); (case c => k_is); (case k => k_is)
    have t_need_forms : L2.TopFn (L2.KOf KX) mg "need_forms" K33.sneed_forms ["rows"] := by
      refine' L2.topFn_of KX G (fun _ _ _ _ _ _ us hl => match us, hl with | [_], _ => rfl) ?a ?l ?c ?k
      (case a => k_is); (case l => k_is); (case c => k_is); (case k => k_is)
    have t_made_part : L2.TopFn (L2.KOf KX) mg "made_part" K33.smade_part ["words", "beneath"] := by
      refine' L2.topFn_of KX G (fun _ _ _ _ _ _ us hl => match us, hl with | [_, _], _ => rfl) ?a ?l ?c ?k
      (case a => k_is); (case l => k_is); (case c => k_is); (case k => k_is)
    have t_made_work : L2.TopFn (L2.KOf KX) mg "made_work" K33.smade_work ["rows"] := by
      refine' L2.topFn_of KX G (fun _ _ _ _ _ _ us hl => match us, hl with | [_], _ => rfl) ?a ?l ?c ?k
      (case a => k_is); (case l => k_is); (case c => k_is); (case k => k_is)
    have t_read_work : L2.TopFn (L2.KOf KX) mg "read_work" K33.sread_work ["text"] := by
      refine' L2.topFn_of KX G (fun _ _ _ _ _ _ us hl => match us, hl with | [_], _ => rfl) ?a ?l ?c ?k
      (case a => k_is); (case l => k_is); (case c => k_is); (case k => k_is)
    have t__law_cell : L2.TopFn (L2.KOf KX) mg "_law_cell" K33.s_law_cell ["_law_script", "_law_k"] := by
      refine' L2.topFn_of KX G (fun _ _ _ _ _ _ us hl => match us, hl with | [_, _], _ => rfl) ?a ?l ?c ?k
      (case a => k_is); (case l => k_is); (case c => k_is); (case k => k_is)
    have t__law_mixed : L2.TopFn (L2.KOf KX) mg "_law_mixed" K33.s_law_mixed ["_law_cell_here", "_law_k"] := by
      refine' L2.topFn_of KX G (fun _ _ _ _ _ _ us hl => match us, hl with | [_, _], _ => rfl) ?a ?l ?c ?k
      (case a => k_is); (case l => k_is); (case c => k_is); (case k => k_is)
    have t__law_box : L2.TopFn (L2.KOf KX) mg "_law_box" K33.s_law_box ["_law_cell_here"] := by
      refine' L2.topFn_of KX G (fun _ _ _ _ _ _ us hl => match us, hl with | [_], _ => rfl) ?a ?l ?c ?k
      (case a => k_is); (case l => k_is); (case c => k_is); (case k => k_is)
    have t__law_take : L2.TopFn (L2.KOf KX) mg "_law_take" K33.s_law_take ["_law_box_here", "_law_many"] := by
      refine' L2.topFn_of KX G (fun _ _ _ _ _ _ us hl => match us, hl with | [_, _], _ => rfl) ?a ?l ?c ?k
      (case a => k_is); (case l => k_is); (case c => k_is); (case k => k_is)
    have t__law_words : L2.TopFn (L2.KOf KX) mg "_law_words" K33.s_law_words ["_law_cell_here", "_law_many"] := by
      refine' L2.topFn_of KX G (fun _ _ _ _ _ _ us hl => match us, hl with | [_, _], _ => rfl) ?a ?l ?c ?k
      (case a => k_is); (case l => k_is); (case c => k_is); (case k => k_is)
    have t__law_keys : L2.TopFn (L2.KOf KX) mg "_law_keys" K33.s_law_keys ["_law_cell_here", "_law_many"] := by
      refine' L2.topFn_of KX G (fun _ _ _ _ _ _ us hl => match us, hl with | [_, _], _ => rfl) ?a ?l ?c ?k
      (case a => k_is); (case l => k_is); (case c => k_is); (case k => k_is)
    have t__law_offers : L2.TopFn (L2.KOf KX) mg "_law_offers" K33.s_law_offers ["_law_box_here", "_law_keys_here"] := by
      refine' L2.topFn_of KX G (fun _ _ _ _ _ _ us hl => match us, hl with | [_, _], _ => rfl) ?a ?l ?c ?k
      (case a => k_is); (case l => k_is); (case c => k_is); (case k => k_is)
    have t__law_tree : L2.TopFn (L2.KOf KX) mg "_law_tree" K33.s_law_tree ["_law_cell_here", "_law_names", "_law_keys_here"] := by
      refine' L2.topFn_of KX G (fun _ _ _ _ _ _ us hl => match us, hl with | [_, _, _], _ => rfl) ?a ?l ?c ?k
      (case a => k_is); (case l => k_is); (case c => k_is); (case k => k_is)
    have t__law_nested : L2.TopFn (L2.KOf KX) mg "_law_nested" K33.s_law_nested ["_law_rows", "_law_at"] := by
      refine' L2.topFn_of KX G (fun _ _ _ _ _ _ us hl => match us, hl with | [_, _], _ => rfl) ?a ?l ?c ?k
      (case a => k_is); (case l => k_is); (case c => k_is); (case k => k_is)
    have t__law_made : L2.TopFn (L2.KOf KX) mg "_law_made" K33.s_law_made ["_law_rows", "_law_at"] := by
      refine' L2.topFn_of KX G (fun _ _ _ _ _ _ us hl => match us, hl with | [_, _], _ => rfl) ?a ?l ?c ?k
      (case a => k_is); (case l => k_is); (case c => k_is); (case k => k_is)
    have t__law_order : L2.TopFn (L2.KOf KX) mg "_law_order" K33.s_law_order ["_law_rows", "_law_at"] := by
      refine' L2.topFn_of KX G (fun _ _ _ _ _ _ us hl => match us, hl with | [_, _], _ => rfl) ?a ?l ?c ?k
      (case a => k_is); (case l => k_is); (case c => k_is); (case k => k_is)
    have t__law_road : L2.TopFn (L2.KOf KX) mg "_law_road" K33.s_law_road ["_law_rows", "_law_top", "_law_at"] := by
      refine' L2.topFn_of KX G (fun _ _ _ _ _ _ us hl => match us, hl with | [_, _, _], _ => rfl) ?a ?l ?c ?k
      (case a => k_is); (case l => k_is); (case c => k_is); (case k => k_is)
    have t__law_text : L2.TopFn (L2.KOf KX) mg "_law_text" K33.s_law_text ["_law_rows", "_law_top"] := by
      refine' L2.topFn_of KX G (fun _ _ _ _ _ _ us hl => match us, hl with | [_, _], _ => rfl) ?a ?l ?c ?k
      (case a => k_is); (case l => k_is); (case c => k_is); (case k => k_is)
    have t__law_good : L2.TopFn (L2.KOf KX) mg "_law_good" K33.s_law_good ["_law_rows", "_law_work", "_law_top", "_law_between"] := by
      refine' L2.topFn_of KX G (fun _ _ _ _ _ _ us hl => match us, hl with | [_, _, _, _], _ => rfl) ?a ?l ?c ?k
      (case a => k_is); (case l => k_is); (case c => k_is); (case k => k_is)
    have t_law : L2.TopFn (L2.KOf KX) mg "law" K33.slaw ["_law_script"] := by
      refine' L2.topFn_of KX G (fun _ _ _ _ _ _ us hl => match us, hl with | [_], _ => rfl) ?a ?l ?c ?k
      (case a => k_is); (case l => k_is); (case c => k_is); (case k => k_is)
    have n_len : mg "len" = none := by
      refine' PySem.W.mg_none_of KX G ?a
      (case a => k_is)
    have n_isinstance : mg "isinstance" = none := by
      refine' PySem.W.mg_none_of KX G ?a
      (case a => k_is)
    have n_range : mg "range" = none := by
      refine' PySem.W.mg_none_of KX G ?a
      (case a => k_is)
    have n_int : mg "int" = none := by
      refine' PySem.W.mg_none_of KX G ?a
      (case a => k_is)
    have n_bool : mg "bool" = none := by
      refine' PySem.W.mg_none_of KX G ?a
      (case a => k_is)
    have n_str : mg "str" = none := by
      refine' PySem.W.mg_none_of KX G ?a
      (case a => k_is)
    have n_tuple : mg "tuple" = none := by
      refine' PySem.W.mg_none_of KX G ?a
      (case a => k_is)
    have n_list : mg "list" = none := by
      refine' PySem.W.mg_none_of KX G ?a
      (case a => k_is)
    have n_all : mg "all" = none := by
      refine' PySem.W.mg_none_of KX G ?a
      (case a => k_is)
    have n_zip : mg "zip" = none := by
      refine' PySem.W.mg_none_of KX G ?a
      (case a => k_is)
    have n_min : mg "min" = none := by
      refine' PySem.W.mg_none_of KX G ?a
      (case a => k_is)
    have n_max : mg "max" = none := by
      refine' PySem.W.mg_none_of KX G ?a
      (case a => k_is)
    have n_set : mg "set" = none := by
      refine' PySem.W.mg_none_of KX G ?a
      (case a => k_is)
    have n_sorted : mg "sorted" = none := by
      refine' PySem.W.mg_none_of KX G ?a
      (case a => k_is)
    have n_enumerate : mg "enumerate" = none := by
      refine' PySem.W.mg_none_of KX G ?a
      (case a => k_is)
    have n_reversed : mg "reversed" = none := by
      refine' PySem.W.mg_none_of KX G ?a
      (case a => k_is)
    have g_LETTERS : ∃ t, mg "LETTERS" = some (.str "abcdefghijklmnopqrstuvwxyz" t) := by
      refine' L2.glob_S KX G ?a ?b
      (case a => k_is)
      (case b => decide +kernel)
    have g_LONGEST_WORD : ∃ t, mg "LONGEST_WORD" = some (.int 8 t) := by
      refine' L2.glob_I KX G ?a ?b
      (case a => k_is)
      (case b => exact ⟨_, rfl⟩)
    have g_GREATEST_NUMBER : ∃ t, mg "GREATEST_NUMBER" = some (.int 99 t) := by
      refine' L2.glob_I KX G ?a ?b
      (case a => k_is)
      (case b => exact ⟨_, rfl⟩)
    have g_MOST_OFFERS : ∃ t, mg "MOST_OFFERS" = some (.int 2 t) := by
      refine' L2.glob_I KX G ?a ?b
      (case a => k_is)
      (case b => exact ⟨_, rfl⟩)
    have g_MOST_BENEATH : ∃ t, mg "MOST_BENEATH" = some (.int 6 t) := by
      refine' L2.glob_I KX G ?a ?b
      (case a => k_is)
      (case b => exact ⟨_, rfl⟩)
    have g_MOST_PARTS : ∃ t, mg "MOST_PARTS" = some (.int 30 t) := by
      refine' L2.glob_I KX G ?a ?b
      (case a => k_is)
      (case b => exact ⟨_, rfl⟩)
    have g_MOST_DEEP : ∃ t, mg "MOST_DEEP" = some (.int 6 t) := by
      refine' L2.glob_I KX G ?a ?b
      (case a => k_is)
      (case b => exact ⟨_, rfl⟩)
    have g_FIGURES : ∃ t, mg "FIGURES" = some (.str "0123456789" t) := by
      refine' L2.glob_S KX G ?a ?b
      (case a => k_is)
      (case b => decide +kernel)
    have hk : ∃ cP c0 c1 c2 c3, K33.KTop (L2.KOf KX) mg cP c0 c1 c2 c3 := by
      refine' K33.ktop_mk ?mP ?m0 ?m1 ?m2 ?m3 ?oP ?iP ?o0 ?o1 ?o2 ?o3 ?pat ?ptd ?w0 ?w1 ?w2 ?w3
      case mP =>
        refine' PySem.W.mg_of KX G ?a
        (case a => k_is)
      case m0 =>
        refine' PySem.W.mg_of KX G ?a
        (case a => k_is)
      case m1 =>
        refine' PySem.W.mg_of KX G ?a
        (case a => k_is)
      case m2 =>
        refine' PySem.W.mg_of KX G ?a
        (case a => k_is)
      case m3 =>
        refine' PySem.W.mg_of KX G ?a
        (case a => k_is)
      case iP =>
        refine' K33.ptop_of KX ?a ?i ?l ?c ?k ?mk ?kc ?dd
        (case a => k_is); (case i => k_is); (case l => k_is); (case c => k_is); (case k => k_is); (case mk => k_is); (case kc => k_is); (case dd => k_is)
      case pat =>
        refine' L2.mtop_of KX (fun _ _ _ _ _ _ us hl => match us, hl with | [_, _], _ => rfl) ?a ?i ?l ?c ?k
        (case a => k_is); (case i => k_is); (case l => k_is); (case c => k_is); (case k => k_is)
      case ptd =>
        refine' L2.mtop_of KX (fun _ _ _ _ _ _ us hl => match us, hl with | [_], _ => rfl) ?a ?i ?l ?c ?k
        (case a => k_is); (case i => k_is); (case l => k_is); (case c => k_is); (case k => k_is)
      case w0 =>
        refine' L2.mtop_of KX (fun _ _ _ _ _ _ us hl => match us, hl with | [_], _ => rfl) ?a ?i ?l ?c ?k
        (case a => k_is); (case i => k_is); (case l => k_is); (case c => k_is); (case k => k_is)
      case w1 =>
        refine' L2.mtop_of KX (fun _ _ _ _ _ _ us hl => match us, hl with | [_], _ => rfl) ?a ?i ?l ?c ?k
        (case a => k_is); (case i => k_is); (case l => k_is); (case c => k_is); (case k => k_is)
      case w2 =>
        refine' L2.mtop_of KX (fun _ _ _ _ _ _ us hl => match us, hl with | [_], _ => rfl) ?a ?i ?l ?c ?k
        (case a => k_is); (case i => k_is); (case l => k_is); (case c => k_is); (case k => k_is)
      case w3 =>
        refine' L2.mtop_of KX (fun _ _ _ _ _ _ us hl => match us, hl with | [_], _ => rfl) ?a ?i ?l ?c ?k
        (case a => k_is); (case i => k_is); (case l => k_is); (case c => k_is); (case k => k_is)
      case oP => kernel_rfl
      case o0 => kernel_rfl
      case o1 => kernel_rfl
      case o2 => kernel_rfl
      case o3 => kernel_rfl
    exact K33.law_fn2 hmg ⟨n_len, n_isinstance, n_range, n_int, n_bool, n_str, n_tuple, n_list, n_all, n_zip, n_min, n_max, n_set, n_sorted, n_enumerate, g_LETTERS, g_LONGEST_WORD, g_GREATEST_NUMBER, g_MOST_OFFERS, g_MOST_BENEATH, g_MOST_PARTS, g_MOST_DEEP⟩ ⟨g_FIGURES, n_reversed⟩ t_is_whole t_is_word t_is_key t_key_text t_is_number_text t_is_key_text t_key_of t_all_joins t_join_words t_join_of t_are_offers t_kept_offers t_need_few_beneath t_need_few_parts t_need_not_deep t_is_joined_part t_kept_beneath t_walked t_depth_of t_need_bounds t_row_of t_part_words t_part_row t_show_work t_are_part_words t_is_joined_row t_need_forms t_made_part t_made_work t_read_work t__law_cell t__law_mixed t__law_box t__law_take t__law_words t__law_keys t__law_offers t__law_tree t__law_nested t__law_made t__law_order t__law_road t__law_text t__law_good t_law hk
