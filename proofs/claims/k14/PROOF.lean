import PyProof.Rows.All
import Wide.All
import OpenK.AllK
import Wide.FinOn
import Lean
import PyProof.EqAt
import PyProof.EqKinds
import PyProof.TupleCall
import KE.KUnpack
import KE.KDictList
import PyProof.ListMulAny
import PySem.Challenge.RW_grantweave_k14_whole_coverers
set_option Elab.async false
set_option linter.all false
set_option maxRecDepth 100000
set_option maxHeartbeats 4000000
namespace L2
open PySem PySem.Spec PyProof.Rows

abbrev Key := Sum Int Str
def keyIs : Key → Value → Bool
  | .inl k, v => Value.isInt k v
  | .inr x, v => Value.isStrOf x v
def keyH (w : World) : Key → Int
  | .inl k => hashInt k
  | .inr x => hashStr w x
theorem keyIs_shape : ∀ {k : Key} {v : Value}, keyIs k v = true → (∃ i t, k = Sum.inl i ∧ v = Value.int i t) ∨ (∃ x t, k = Sum.inr x ∧ v = Value.str x t)
  | .inl i, v, h => by
    obtain ⟨t, e⟩ := Value.isInt_shape (k := i) (v := v) h
    exact .inl ⟨i, t, rfl, e⟩
  | .inr x, v, h => by
    obtain ⟨t, e⟩ := Value.isStrOf_shape (x := x) (v := v) h
    exact .inr ⟨x, t, rfl, e⟩
theorem keyIs_int (i : Int) (t : Tok) : keyIs (.inl i) (.int i t) = true := by simp [keyIs, Value.isInt]
theorem keyIs_str (x : Str) (t : Tok) : keyIs (.inr x) (.str x t) = true := by simp [keyIs, Value.isStrOf]
theorem key_ll (a b : Int) : decide ((Sum.inl a : Key) = Sum.inl b) = (a == b) := by
  by_cases e : a = b
  · subst e; simp
  · have h : ¬ (Sum.inl a : Key) = Sum.inl b := fun q => e (Sum.inl.inj q)
    rw [decide_eq_false h]
    exact (beq_eq_false_iff_ne.mpr e).symm
theorem key_rr (a b : Str) : decide ((Sum.inr a : Key) = Sum.inr b) = decide (a = b) := by
  by_cases e : a = b
  · subst e; simp
  · have h : ¬ (Sum.inr a : Key) = Sum.inr b := fun q => e (Sum.inr.inj q)
    rw [decide_eq_false h, decide_eq_false e]
theorem key_lr (a : Int) (b : Str) : decide ((Sum.inl a : Key) = Sum.inr b) = false := decide_eq_false (fun q => nomatch q)
theorem key_rl (a : Str) (b : Int) : decide ((Sum.inr a : Key) = Sum.inl b) = false := decide_eq_false (fun q => nomatch q)

def mixKind (prog : Program) (w : World) : PySem.KeyKind prog w Key where
  is := keyIs
  hash := keyH w
  inj := fun v a b ha hb => by
    rcases keyIs_shape ha with ⟨i, t, rfl, rfl⟩ | ⟨x, t, rfl, rfl⟩
    · rcases keyIs_shape hb with ⟨j, u, rfl, e⟩ | ⟨y, u, rfl, e⟩
      · injection e with e1 _; rw [e1]
      · exact nomatch e
    · rcases keyIs_shape hb with ⟨j, u, rfl, e⟩ | ⟨y, u, rfl, e⟩
      · exact nomatch e
      · injection e with e1 _; rw [e1]
  byValue := fun k v h => by
    rcases keyIs_shape h with ⟨i, t, rfl, rfl⟩ | ⟨x, t, rfl, rfl⟩ <;> rfl
  pyHash := fun hv h => by
    rcases keyIs_shape hv with ⟨i, t, rfl, rfl⟩ | ⟨x, t, rfl, rfl⟩
    · exact wpAny_pyHash_int h
    · exact wpAny_pyHash_str h
  eqBool := fun hu hv h => by
    rcases keyIs_shape hu with ⟨i, t, rfl, rfl⟩ | ⟨x, t, rfl, rfl⟩
    · rcases keyIs_shape hv with ⟨j, u, rfl, rfl⟩ | ⟨y, u, rfl, rfl⟩
      · rw [key_ll] at h; exact wpAny_eqBool_int h
      · rw [key_lr] at h; exact SeqAt.EqAt.int_str i t y u _ _ _ _ h
    · rcases keyIs_shape hv with ⟨j, u, rfl, rfl⟩ | ⟨y, u, rfl, rfl⟩
      · rw [key_rl] at h; exact SeqAt.EqAt.str_int x t j u _ _ _ _ h
      · rw [key_rr] at h; exact wpAny_eqBool_str h
  «strs» := fun k x t v h => by
    rcases keyIs_shape h with ⟨i, u, rfl, e⟩ | ⟨y, u, rfl, e⟩
    · exact nomatch e
    · injection e with e1 _
      subst e1
      cases v <;> rfl

theorem mixKind_int (prog : Program) (w : World) (i : Int) (t : Tok) : (mixKind prog w).is (.inl i) (.int i t) = true := keyIs_int i t
theorem mixKind_str (prog : Program) (w : World) (x : Str) (t : Tok) : (mixKind prog w).is (.inr x) (.str x t) = true := keyIs_str x t
end L2

namespace L2
open PySem PySem.Spec PyProof.Rows

inductive V where
  | non | bl (b : Bool) | int (i : Int) | str (x : Str) | byt (b : Array UInt8) | flt (b : UInt64) | ref (a : Addr) | ty (n : String)
  deriving DecidableEq

def RelV : V → Value → Prop
  | .non, u => u = Value.none
  | .bl b, u => u = Value.bool b
  | .int i, u => ∃ t, u = Value.int i t
  | .str x, u => ∃ t, u = Value.str x t
  | .byt b, u => ∃ t, u = Value.bytes b t
  | .flt b, u => ∃ t, u = Value.float b t
  | .ref a, u => u = Value.ref a
  | .ty n, u => u = Value.type n

abbrev Vals : List V → List Value → Prop := Paired RelV
theorem Vals.length {xs : List V} {us : List Value} (r : Vals xs us) : xs.length = us.length := Paired.length r
theorem Vals.get : ∀ {xs : List V} {us : List Value} {i : Nat} {x : V}, Vals xs us → xs[i]? = some x → ∃ u, us[i]? = some u ∧ RelV x u
  | _, _, _, _, .nil, e => by simp at e
  | _, _, 0, _, .cons r _, e => by simp at e; subst e; exact ⟨_, rfl, r⟩
  | _, _, i + 1, x, .cons _ t, e => by
    obtain ⟨u, h1, h2⟩ := Vals.get (i := i) (x := x) t (by simpa using e)
    exact ⟨u, by simpa using h1, h2⟩
theorem Vals.set {x : V} {u : Value} (r : RelV x u) : ∀ {xs : List V} {us : List Value} (i : Nat), Vals xs us → Vals (xs.set i x) (us.set i u)
  | _, _, _, .nil => .nil
  | _, _, 0, .cons _ t => .cons r t
  | _, _, i + 1, .cons q t => .cons q (Vals.set r i t)
theorem Vals.append : ∀ {xs ys : List V} {us ws : List Value}, Vals xs us → Vals ys ws → Vals (xs ++ ys) (us ++ ws)
  | _, _, _, _, .nil, s => s
  | _, _, _, _, .cons r t, s => .cons r (Vals.append t s)
theorem Vals.take : ∀ {xs : List V} {us : List Value} (n : Nat), Vals xs us → Vals (xs.take n) (us.take n)
  | _, _, 0, _ => .nil
  | _, _, _ + 1, .nil => .nil
  | _, _, n + 1, .cons r t => .cons r (Vals.take n t)
theorem Vals.drop : ∀ {xs : List V} {us : List Value} (n : Nat), Vals xs us → Vals (xs.drop n) (us.drop n)
  | _, _, 0, r => r
  | _, _, _ + 1, .nil => .nil
  | _, _, n + 1, .cons _ t => Vals.drop n t
def RelO : Option V → Option Value → Prop
  | some v, some u => RelV v u
  | none, none => True
  | _, _ => False
def KV {κ : Type} : List (κ × V) → List (κ × Value) → Prop := Paired fun (p : κ × V) (q : κ × Value) => p.1 = q.1 ∧ RelV p.2 q.2

def kV : Key → V
  | .inl i => .int i
  | .inr x => .str x

inductive HO where
    | lst (xs : List V)
    | tup (xs : List V)
    | dK (kvs : List (Key × V)) | dT (kvs : List (List Key × V))
    | set (S : Int → Bool) (n : Nat)
    | ins (C dx : Addr) (fs : List (Str × V))
    | own (x : Addr)
    | xd (fs : List (Str × V))
    | met (f x : Addr)
    | rng (lo hi : Int)
    | frz (o : Obj) (u : HO)
    | tbl (ps : Array Value)
    | ext (φ : Heap → Prop)

abbrev Hp := Addr → Option HO
def upd (H : Hp) (a : Addr) (o : HO) : Hp := fun b => if b = a then some o else H b
theorem upd_same {H : Hp} {a : Addr} {o : HO} : upd H a o a = some o := by unfold upd; rw [if_pos rfl]
theorem upd_ne {H : Hp} {a b : Addr} {o : HO} (h : b ≠ a) : upd H a o b = H b := by unfold upd; rw [if_neg h]
theorem upd_upd {H : Hp} {a : Addr} {o u : HO} : upd (upd H a o) a u = upd H a u := by
  funext b; unfold upd; split <;> rfl
theorem ne_of {H : Hp} {a b : Addr} {o u : HO} (h : H a = some o) (h' : H b = some u) (d : o ≠ u) : a ≠ b := by
  intro e; subst e; rw [h] at h'; exact d (Option.some.inj h')
theorem ne_of_none {H : Hp} {a b : Addr} {o : HO} (h : H a = some o) (h' : H b = none) : a ≠ b := by
  intro e; subst e; rw [h] at h'; cases h'

section
variable (P : Program) (w : World)
def ObjOk (H : Hp) (h : Heap) (a : Addr) : HO → Prop
  | .lst xs => xs.length ≤ sizeLine ∧ ∃ (its : List Value) (n : Nat), Vals xs its ∧ h.get? a = some { cls := .type "list", data := .seq its.toArray n }
  | .tup xs => xs.length ≤ sizeLine ∧ ∃ its : List Value, Vals xs its ∧ IsTup h a its.toArray
  | .dK kvs => kvs.length ≤ sizeLine ∧ (a == sysModules) = false ∧ ∃ vs, KV kvs vs ∧ h.DictOf (mixKind P w) a vs
  | .dT kvs => kvs.length ≤ sizeLine ∧ (a == sysModules) = false ∧ ∃ xs : List (List Key × Addr × Value),
      Paired (fun (p : List Key × V) (q : List Key × Addr × Value) => p.1 = q.1 ∧ H q.2.1 = some (.tup (p.1.map kV)) ∧ RelV p.2 q.2.2) kvs xs ∧
      ∃ o es ep, h.get? a = some o ∧ o.ExactDict ∧ o.data = .dict es ep ∧ es.toList = xs.map (entryOfKey (tupleKind (mixKind P w))) ∧ (xs.map (·.1)).Nodup
  | .set S n => h.SetOf (intKind P w) a S n
  | .ins C dx fs => H dx = some (.own a) ∧ fs.length ≤ 1000 ∧ dx ≠ a ∧ h.get? a = some (PySem.W.instObj C dx) ∧
      ∃ mA, h.Ns1 dx mA ∧ (∀ f, RelO (fs.lookup f) (mA f)) ∧ PySem.Within mA (fs.map (·.1))
  | .own _ => ∃ o, h.get? a = some o
  | .xd fs => ∃ mA, h.Ns1 a mA ∧ ∀ f, RelO (fs.lookup f) (mA f)
  | .rng lo hi => ∃ t u v, h.get? a = some { cls := .type "range", data := .fields #[.int lo t, .int hi u, .int 1 v] }
  | .frz o u => h.get? a = some o ∧ ObjOk H h a u
  | .tbl ps => h.get? a = some { cls := .none, data := .fields ps }
  | .met f x => h.get? a = some (PySem.W.methodObj (.ref f) (.ref x))
  | .ext φ => φ h ∧ (∃ o, h.get? a = some o) ∧ ∀ h1 h2 : Heap, φ h1 → (∀ o, h1.get? a = some o → h2.get? a = some o) → φ h2
def HOk (H : Hp) (h : Heap) : Prop := ∀ a o, H a = some o → ObjOk P w H h a o
end

section
variable {P : Program} {w : World} {H H' : Hp} {h h' : Heap} {a : Addr} {o : HO}
theorem ObjOk.lt (x : ObjOk P w H h a o) : a < h.objs.size := by
  cases o with
  | lst xs => obtain ⟨_, _, _, _, e⟩ := x; exact Heap.lt_size e
  | tup xs => obtain ⟨_, _, _, p⟩ := x; exact p.lt
  | dK kvs => obtain ⟨_, _, _, _, o, _, _, e, _⟩ := x; exact Heap.lt_size e
  | dT kvs => obtain ⟨_, _, _, _, o, _, _, e, _⟩ := x; exact Heap.lt_size e
  | set S n => obtain ⟨o, _, _, _, e, _⟩ := x; exact Heap.lt_size e
  | ins C dx fs => obtain ⟨_, _, _, e, _⟩ := x; exact Heap.lt_size e
  | own y => obtain ⟨_, e⟩ := x; exact Heap.lt_size e
  | xd fs => obtain ⟨_, ⟨_, _, _, e, _⟩, _⟩ := x; exact Heap.lt_size e
  | rng lo hi => obtain ⟨_, _, _, e⟩ := x; exact Heap.lt_size e
  | frz ob u => obtain ⟨e, _⟩ := x; exact Heap.lt_size e
  | tbl ps => exact Heap.lt_size (show h.get? a = some _ from x)
  | met f y => exact Heap.lt_size (show h.get? a = some _ from x)
  | ext φ => obtain ⟨_, ⟨_, e⟩, _⟩ := x; exact Heap.lt_size e
theorem Paired.mapP {α β : Type} {F G : α → β → Prop} : ∀ {l₁ : List α} {l₂ : List β}, Paired F l₁ l₂ → (∀ a b, F a b → G a b) → Paired G l₁ l₂
  | _, _, .nil, _ => .nil
  | _, _, .cons r t, f => .cons (f _ _ r) (Paired.mapP t f)
theorem ObjOk.stay (x : ObjOk P w H h a o) (k : ∀ b u, (b = a ∨ H b = some (.own a)) → h.get? b = some u → h'.get? b = some u)
    (ho : ∀ b, H b = some (.own a) → H' b = some (.own a)) (ht : ∀ b xs, H b = some (.tup xs) → H' b = some (.tup xs)) : ObjOk P w H' h' a o := by
  induction o with
  | lst xs => obtain ⟨z, its, n, r, e⟩ := x; exact ⟨z, its, n, r, k _ _ (.inl rfl) e⟩
  | tup xs => obtain ⟨z, its, r, ob, e, c⟩ := x; exact ⟨z, its, r, ob, k _ _ (.inl rfl) e, c⟩
  | dK kvs => obtain ⟨z, y, vs, r, ob, es, ep, e, c⟩ := x; exact ⟨z, y, vs, r, ob, es, ep, k _ _ (.inl rfl) e, c⟩
  | dT kvs =>
    obtain ⟨z, y, xs, r, ob, es, ep, e, c⟩ := x
    exact ⟨z, y, xs, Paired.mapP r fun p q z => ⟨z.1, ht _ _ z.2.1, z.2.2⟩, ob, es, ep, k _ _ (.inl rfl) e, c⟩
  | set S n => obtain ⟨ob, es, ep, t, e, c⟩ := x; exact ⟨ob, es, ep, t, k _ _ (.inl rfl) e, c⟩
  | ins C dx fs =>
    obtain ⟨d, z, ne, e, mA, ⟨od, es, ep, e2, c⟩, r⟩ := x
    exact ⟨ho _ d, z, ne, k _ _ (.inl rfl) e, mA, ⟨od, es, ep, k _ _ (.inr d) e2, c⟩, r⟩
  | own y => obtain ⟨ob, e⟩ := x; exact ⟨ob, k _ _ (.inl rfl) e⟩
  | xd fs => obtain ⟨mA, ⟨od, es, ep, e, c⟩, r⟩ := x; exact ⟨mA, ⟨od, es, ep, k _ _ (.inl rfl) e, c⟩, r⟩
  | rng lo hi => obtain ⟨t, u, v, e⟩ := x; exact ⟨t, u, v, k _ _ (.inl rfl) e⟩
  | frz ob u ih => obtain ⟨e, q⟩ := x; exact ⟨k _ _ (.inl rfl) e, ih q⟩
  | tbl ps =>
    have e : h.get? a = some { cls := .none, data := .fields ps } := x
    show h'.get? a = some { cls := .none, data := .fields ps }
    exact k a _ (.inl rfl) e
  | met f y =>
    have e : h.get? a = some (PySem.W.methodObj (.ref f) (.ref y)) := x
    show h'.get? a = some (PySem.W.methodObj (.ref f) (.ref y))
    exact k a _ (.inl rfl) e
  | ext φ => obtain ⟨p, ⟨o, e⟩, st⟩ := x; exact ⟨st _ _ p fun o q => k _ _ (.inl rfl) q, ⟨o, k _ _ (.inl rfl) e⟩, st⟩
theorem HOk.lt (x : HOk P w H h) (e : H a = some o) : a < h.objs.size := (x a o e).lt
theorem HOk.fresh (x : HOk P w H h) (e : h.objs.size ≤ a) : H a = none := by
  cases q : H a with
  | none => rfl
  | some u => exact absurd (Nat.lt_of_lt_of_le (x.lt q) e) (Nat.lt_irrefl _)
theorem HOk.kept (x : HOk P w H h) (k : ∀ b u, h.get? b = some u → h'.get? b = some u) : HOk P w H h' := fun a o e =>
  (x a o e).stay (fun b u _ q => k b u q) (fun _ q => q) fun _ _ q => q
theorem HOk.laid (x : HOk P w H h) (k : ∀ b u, h.get? b = some u → h'.get? b = some u) (hp : h.objs.size ≤ a) (new : ObjOk P w (upd H a o) h' a o) : HOk P w (upd H a o) h' := fun b u e => by
  have hn := x.fresh hp
  by_cases hb : b = a
  · subst hb; rw [upd_same] at e; cases e; exact new
  · rw [upd_ne hb] at e
    exact (x b u e).stay (fun c v _ q => k c v q) (fun c q => by rw [upd_ne (ne_of_none q hn)]; exact q) fun c xs q => by rw [upd_ne (ne_of_none q hn)]; exact q
end

def Rd (H : Hp) (a : Addr) (u : HO) : Prop := H a = some u ∨ ∃ o, H a = some (.frz o u)
theorem Rd.ok {P : Program} {w : World} {H : Hp} {h : Heap} {a : Addr} {u : HO} (r : Rd H a u) (x : HOk P w H h) : ObjOk P w H h a u := by
  rcases r with r | ⟨o, r⟩
  · exact x a u r
  · obtain ⟨_, q⟩ := x a _ r
    exact q
def Mut : Option HO → Prop
  | some (.lst _) => True
  | some (.dK _) => True
  | some (.dT _) => True
  | some (.set _ _) => True
  | some (.ins _ _ _) => True
  | some (.ext _) => True
  | _ => False
section
variable {P : Program} {w : World} {H : Hp} {h h' : Heap} {x e : Addr} {o' : HO}
theorem HOk.write (ok : HOk P w H h) (mu : Mut (H x)) (he : e = x ∨ H e = some (.own x)) (k : ∀ b u, b ≠ e → h.get? b = some u → h'.get? b = some u) (heo : ∃ u, h'.get? e = some u)
    (new : ObjOk P w (upd H x o') h' x o') : HOk P w (upd H x o') h' := fun b u q => by
  have nown : ∀ c y, H c = some (.own y) → c ≠ x := fun c y r z => by subst z; rw [r] at mu; exact mu
  have ntup : ∀ c xs, H c = some (.tup xs) → c ≠ x := fun c xs r z => by subst z; rw [r] at mu; exact mu
  by_cases hb : b = x
  · subst hb; rw [upd_same] at q; cases q; exact new
  · rw [upd_ne hb] at q
    by_cases hbe : b = e
    · have q' : H b = some (.own x) := by
        rcases he with z | z
        · exact absurd (hbe.trans z) hb
        · rw [hbe]; exact z
      rw [q] at q'; cases q'
      obtain ⟨v, hv⟩ := heo
      exact ⟨v, by rw [hbe]; exact hv⟩
    · refine (ok b u q).stay (fun c v hc r => k c v ?_ r) (fun c r => by rw [upd_ne (nown c b r)]; exact r) fun c xs r => by rw [upd_ne (ntup c xs r)]; exact r
      rcases hc with rfl | hc
      · exact hbe
      · rintro rfl
        rcases he with z | z
        · exact nown c b hc z
        · rw [hc] at z; cases z; exact hb rfl
end

structure Un (fs ex : List Addr) (H H' : Hp) (h h' : Heap) : Prop where
  keep : ∀ b o, h.get? b = some o → H b = none → b ∉ fs → b ∉ ex → h'.get? b = some o
  slot : ∀ b o, h.get? b = some o → H b = none → b ∈ fs → b ∉ ex → ∃ sl, h'.get? b = some { o with slots := sl }
  free : ∀ b o, h.get? b = some o → H b = none → b ∉ ex → H' b = none
  there : ∀ b o, h.get? b = some o → b ∉ ex → ∃ o', h'.get? b = some o'
  tups : ∀ b xs, H b = some (.tup xs) → H' b = some (.tup xs)
  frzs : ∀ b o u, H b = some (.frz o u) → H' b = some (.frz o u)
  tbls : ∀ b ps, H b = some (.tbl ps) → ∃ more, H' b = some (.tbl (ps ++ more))
section
variable {fs fs' ex ex' : List Addr} {H H1 H2 : Hp} {h h1 h2 h' : Heap} {a x e : Addr} {o : HO}
theorem Un.any (u : Un fs ex H H1 h h1) {b : Addr} {ob : Obj} (q : h.get? b = some ob) (n : H b = none) (hx : b ∉ ex) : ∃ sl, h1.get? b = some { ob with slots := sl } := by
  by_cases hb : b ∈ fs
  · exact u.slot b ob q n hb hx
  · exact ⟨ob.slots, u.keep b ob q n hb hx⟩
theorem Un.kept (k : ∀ b u, h.get? b = some u → h'.get? b = some u) : Un fs ex H H h h' :=
  ⟨fun b ob q _ _ _ => k b ob q, fun b ob q _ _ _ => ⟨ob.slots, k b ob q⟩, fun _ _ _ n _ => n, fun b ob q _ => ⟨ob, k b ob q⟩, fun _ _ q => q, fun _ _ _ q => q, fun _ ps q => ⟨#[], by rw [q]; simp⟩⟩
theorem Un.refl : Un fs ex H H h h := Un.kept fun _ _ q => q
theorem Un.laid (k : ∀ b u, h.get? b = some u → h'.get? b = some u) (hp : h.objs.size ≤ a) (hn : H a = none) : Un fs ex H (upd H a o) h h' where
  keep := fun b u q _ _ _ => k b u q
  slot := fun b u q _ _ _ => ⟨u.slots, k b u q⟩
  free := fun b u q n _ => by rw [upd_ne (Nat.ne_of_lt (Nat.lt_of_lt_of_le (Heap.lt_size q) hp))]; exact n
  there := fun b u q _ => ⟨u, k b u q⟩
  tups := fun b xs q => by rw [upd_ne (ne_of_none q hn)]; exact q
  frzs := fun b u xs q => by rw [upd_ne (ne_of_none q hn)]; exact q
  tbls := fun b ps q => ⟨#[], by rw [upd_ne (ne_of_none q hn), q]; simp⟩
theorem Un.write (mu : Mut (H x)) (he : e = x ∨ H e = some (.own x)) (k : ∀ b u, b ≠ e → h.get? b = some u → h'.get? b = some u) (heo : ∃ u, h'.get? e = some u) : Un fs ex H (upd H x o) h h' := by
  have hx : ∀ b, H b = none → b ≠ x := fun b n z => by subst z; rw [n] at mu; exact mu
  have hb : ∀ b, H b = none → b ≠ e := fun b n z => by
    subst z
    rcases he with r | r
    · exact hx b n r
    · rw [n] at r; cases r
  have hm : ∀ b u, H b = some u → ¬ Mut (some u) → b ≠ x := fun b u q nm z => by subst z; rw [q] at mu; exact nm mu
  refine ⟨fun b u q n _ _ => k b u (hb b n) q, fun b u q n _ _ => ⟨u.slots, k b u (hb b n) q⟩, fun b u q n _ => by rw [upd_ne (hx b n)]; exact n, fun b u q _ => ?_,
    fun b xs q => by rw [upd_ne (hm b _ q fun z => z)]; exact q, fun b u xs q => by rw [upd_ne (hm b _ q fun z => z)]; exact q, fun b ps q => ⟨#[], by rw [upd_ne (hm b _ q fun z => z), q]; simp⟩⟩
  by_cases hbe : b = e
  · subst hbe; exact heo
  · exact ⟨u, k b u hbe q⟩
end

def trk (h : Heap) (H : Hp) : List Addr := (List.range h.objs.size).filter fun a => (H a).isSome
def hidT (h : Heap) (H : Hp) : Heap := PySem.W.hideAll h (trk h H)
theorem hidT_size (h : Heap) (H : Hp) : (hidT h H).objs.size = h.objs.size := PySem.W.hideAll_size _ _
theorem hidT_get {h : Heap} {H : Hp} {b : Addr} {o : Obj} (e : h.get? b = some o) (n : H b = none) : (hidT h H).get? b = some o :=
  PySem.W.hideAll_get _ e fun hm => by
    have q : (H b).isSome = true := (List.mem_filter.mp hm).2
    rw [n] at q; simp at q
theorem of_hidT {h : Heap} {H : Hp} {b : Addr} {o : Obj} (e : (hidT h H).get? b = some o) : h.get? b = some o ∧ H b = none := by
  have e' : h.get? b = some o := PySem.W.of_hideAll (trk h H) e
  refine ⟨e', ?_⟩
  cases q : H b with
  | none => rfl
  | some x =>
    have hm : b ∈ trk h H := List.mem_filter.mpr ⟨List.mem_range.mpr (Heap.lt_size e'), by simp [q]⟩
    have z : (hidT h H).get? b = none := PySem.W.hideAll_none (trk h H) hm
    rw [z] at e; cases e

def allNews (g h : Heap) (L : Addr) : List (Addr × Obj) := (List.range h.objs.size).filterMap fun a => if a = L ∨ (g.get? a).isSome = true then none else (h.get? a).map fun o => (a, o)
def rest (g h : Heap) (L d : Addr) : List (Addr × Obj) := (allNews g h L).filter fun p => decide (p.1 ≠ d)
end L2

namespace L2
open PySem PySem.Spec PyProof.Rows

structure Mod (K : PySem.W.Frag) (mg : Str → Option Value) (base : Heap) : Prop where
  kin : K.In base
  glob : base.Ns mainGlobals mg
  blt : ∃ mb, base.Ns builtinsNs mb ∧ ∀ x : Str, x ≠ "__name__" → mb x = bootBuiltins x
  nolimit : base.NoLimit

structure Cx where
  prog : Program
  w : World
  K : PySem.W.Frag
  mg : Str → Option Value
  base : Heap
  A : Around
  N : List Str
  s₀ : Shared
  H₀ : Hp
  env : Env
  outer : List Env
  stack : List Env
  ex : List Addr
  fn : Str → Bool
  calm : Bool
  pn : List (Addr × Obj)
  xe : Value → Shared → Prop
def frs (l : List Env) : List Addr := l.filterMap (·.frame)
abbrev Cx.fs (X : Cx) : List Addr := frs X.outer

def Vis (sc : Scope) (x : Str) : Prop := sc.names.lookup x = some .local ∨ sc.names.lookup x = some .cell ∨ sc.names.lookup x = some .free
def Loc (sc : Scope) (x : Str) : Prop := sc.names.lookup x = some .local ∨ sc.names.lookup x = some .cell
def Look (env : Env) (h : Heap) (m : Str → Option Value) (x : Str) (u : Value) : Prop :=
  (env.kindOf x = some .local ∧ m x = some u) ∨ ((env.kindOf x = some .cell ∨ env.kindOf x = some .free) ∧ ∃ c, env.cells.lookup x = some c ∧ h.IsCell c (some u))

structure Cx.Ok (X : Cx) : Prop where
  mod : Mod X.K X.mg X.base
  kind : X.env.scope.kind = .function
  glob : X.env.globals = mainGlobals
  blt : X.env.builtins = builtinsNs
  above : X.s₀.heap.objs.size ≤ X.env.locals
  inj : ∀ x y c, X.env.cells.lookup x = some c → X.env.cells.lookup y = some c → x = y
  has : ∀ x, (X.env.kindOf x = some .cell ∨ X.env.kindOf x = some .free) → ∃ c, X.env.cells.lookup x = some c
  cab : ∀ x c, X.fn x = true → X.env.cells.lookup x = some c → X.s₀.heap.objs.size ≤ c
  hd : X.calm = true → X.A.handled = none
  frames : X.A.frames = some X.stack
  stk : X.stack = X.outer ∨ (X.stack = X.env :: X.outer ∧ X.env.frame = some X.env.locals)
  exf : ∀ b ∈ X.ex, b ≠ X.env.locals ∧ ∀ x c, X.env.cells.lookup x = some c → c ≠ b
  bs : ∀ b o, X.base.get? b = some o → X.s₀.heap.get? b = some o ∧ X.H₀ b = none
  bsz : X.base.objs.size ≤ X.s₀.heap.objs.size
  noex : ∀ b o, X.base.get? b = some o → b ∉ X.ex
  exfs : ∀ b ∈ X.ex, b ∉ X.fs
  funs : X.s₀.heap.FunFrames X.base X.outer
  frf : ∀ b ∈ X.fs, X.H₀ b = none

structure Inv (X : Cx) (pins : List (Addr × Obj)) (σ : List (Option V)) (H : Hp) (s : Shared) : Prop where
  ok : X.Ok
  os : s.os = X.s₀.os
  bare : AllBare s.gens
  base : Un X.fs X.ex X.H₀ H X.s₀.heap s.heap
  loc : ∃ m, s.heap.Ns X.env.locals m ∧ ∀ (i : Nat) (x : Str) (v : V), X.N[i]? = some x → σ[i]? = some (some v) → Vis X.env.scope x → ∃ u, RelV v u ∧ Look X.env s.heap m x u
  cell : ∀ x c, X.env.cells.lookup x = some c → ∃ v, s.heap.IsCell c v
  free : H X.env.locals = none
  freeC : ∀ x c, X.env.cells.lookup x = some c → H c = none
  pin : ∀ p ∈ X.pn ++ pins, s.heap.get? p.1 = some p.2 ∧ H p.1 = none ∧ p.1 ≠ X.env.locals ∧ p.1 ∉ X.fs ∧ ∀ v, p.2.data ≠ .cell v
  hok : HOk X.prog X.w H s.heap
  len : σ.length = X.N.length

section
variable {X : Cx} {pins : List (Addr × Obj)} {σ : List (Option V)} {H H' : Hp} {s : Shared} {h' : Heap}

theorem Cx.Ok.nofr (ok : X.Ok) {b : Addr} {o : Obj} (e : X.base.get? b = some o) : b ∉ X.fs := fun hb => by
  have := (ok.funs.mem hb).1
  rw [e] at this; cases this
theorem Inv.bs (I : Inv X pins σ H s) : ∀ b o, X.base.get? b = some o → s.heap.get? b = some o ∧ H b = none := fun b o e =>
  ⟨I.base.keep b o (I.ok.bs b o e).1 (I.ok.bs b o e).2 (I.ok.nofr e) (I.ok.noex b o e), I.base.free b o (I.ok.bs b o e).1 (I.ok.bs b o e).2 (I.ok.noex b o e)⟩
theorem Inv.bk (I : Inv X pins σ H s) : ∀ b o, X.base.get? b = some o → s.heap.get? b = some o := fun b o e => (I.bs b o e).1
theorem Inv.mod (I : Inv X pins σ H s) : Mod X.K X.mg X.base := I.ok.mod
theorem Inv.kIn (I : Inv X pins σ H s) : X.K.In s.heap := I.ok.mod.kin.keeps I.bk
theorem Inv.lt (I : Inv X pins σ H s) : X.env.locals < s.heap.objs.size := let ⟨_, hn, _⟩ := I.loc; hn.lt
theorem Inv.sz (I : Inv X pins σ H s) : X.s₀.heap.objs.size ≤ s.heap.objs.size := Nat.le_trans I.ok.above (Nat.le_of_lt I.lt)
theorem Inv.nofs (I : Inv X pins σ H s) {a : Addr} (h : s.heap.objs.size ≤ a) : a ∉ X.fs := fun hb => by
  obtain ⟨_, o, ho, _⟩ := I.ok.funs.mem hb
  exact absurd (Nat.lt_of_lt_of_le (Heap.lt_size ho) (Nat.le_trans I.sz h)) (Nat.lt_irrefl _)
theorem Inv.cne (I : Inv X pins σ H s) : ∀ x c, X.env.cells.lookup x = some c → c ≠ X.env.locals := fun x c e z => by
  obtain ⟨v, o, ho, hd⟩ := I.cell x c e
  obtain ⟨m, ⟨o', es, ep, ho', hd', _⟩, _⟩ := I.loc
  rw [z, ho'] at ho; cases ho; rw [hd'] at hd; cases hd
theorem Inv.funs (I : Inv X pins σ H s) : s.heap.FunFrames X.base X.outer := by
  have all : ∀ (l : List Env), (∀ b ∈ frs l, b ∈ X.fs) → X.s₀.heap.FunFrames X.base l → s.heap.FunFrames X.base l := by
    intro l
    induction l with
    | nil => intro _ _; trivial
    | cons env r ih =>
      intro hs hl
      obtain ⟨hk, ⟨L, o, hf, hn, ho, hd⟩, hr⟩ := hl
      have hL : L ∈ X.fs := hs L (by unfold frs; rw [List.filterMap_cons, hf]; exact List.mem_cons_self)
      obtain ⟨sl, e⟩ := I.base.slot L o ho (I.ok.frf L hL) hL fun z => I.ok.exfs L z hL
      exact ⟨hk, ⟨L, _, hf, hn, e, hd⟩, ih (fun b hb => hs b (by unfold frs; rw [List.filterMap_cons, hf]; exact List.mem_cons_of_mem _ hb)) hr⟩
  exact all X.outer (fun _ hb => hb) I.ok.funs

theorem Inv.stack (I : Inv X pins σ H s) : s.heap.FunFrames X.base X.stack := by
  rcases I.ok.stk with e | ⟨e, hf⟩
  · rw [e]; exact I.funs
  · rw [e]
    obtain ⟨m, hn, _⟩ := I.loc
    refine .cons (by rw [I.ok.kind]; decide) hf hn ?_ I.funs
    exact Heap.get?_none_of_le (Nat.le_trans I.ok.bsz I.ok.above)
theorem Inv.stkSub (I : Inv X pins σ H s) : ∀ b ∈ frs X.stack, b ∈ X.env.locals :: X.fs := fun b hb => by
  rcases I.ok.stk with e | ⟨e, hf⟩
  · rw [e] at hb; exact List.mem_cons_of_mem _ hb
  · rw [e] at hb
    unfold frs at hb
    rw [List.filterMap_cons, hf] at hb
    exact hb
theorem Inv.stkFree (I : Inv X pins σ H s) : ∀ b ∈ frs X.stack, H b = none := fun b hb => by
  rcases List.mem_cons.mp (I.stkSub b hb) with e | hb
  · rw [e]; exact I.free
  · obtain ⟨_, o, ho, _⟩ := I.ok.funs.mem hb
    exact I.base.free b o ho (I.ok.frf b hb) fun z => I.ok.exfs b z hb

theorem Inv.step {g' : Array GenState} {t' : Nat} {d' : Drawn} {ch : List Addr} (I : Inv X pins σ H s)
    (hch : ∀ b ∈ ch, (b ∈ X.ex ∨ X.s₀.heap.objs.size ≤ b) ∧ b ≠ X.env.locals ∧ (∀ x c, X.env.cells.lookup x = some c → c ≠ b) ∧ ∀ p ∈ X.pn ++ pins, p.1 ≠ b)
    (keep : ∀ b o, b ≠ X.env.locals → b ∉ X.fs → b ∉ ch → s.heap.get? b = some o → H b = none → h'.get? b = some o)
    (slot : ∀ b o, b ≠ X.env.locals → b ∈ X.fs → b ∉ ch → s.heap.get? b = some o → H b = none → ∃ sl, h'.get? b = some { o with slots := sl }) (free : ∀ b o, b ∉ ch → s.heap.get? b = some o → H b = none → H' b = none)
    (there : ∀ b o, b ∉ ch → s.heap.get? b = some o → ∃ o', h'.get? b = some o')
    (tups : ∀ b xs, H b = some (.tup xs) → H' b = some (.tup xs)) (frzs : ∀ b o u, H b = some (.frz o u) → H' b = some (.frz o u)) (tbls : ∀ b ps, H b = some (.tbl ps) → ∃ more, H' b = some (.tbl (ps ++ more)))
    (ns : ∀ m, s.heap.Ns X.env.locals m → h'.Ns X.env.locals m) (hok : HOk X.prog X.w H' h') (hg : AllBare g') :
    Inv X pins σ H' { s with heap := h', gens := g', drawn := d', toks := t' } := by
  have neL : ∀ b o, X.s₀.heap.get? b = some o → b ≠ X.env.locals := fun b o e => Nat.ne_of_lt (Nat.lt_of_lt_of_le (Heap.lt_size e) I.ok.above)
  have neC : ∀ b o, X.s₀.heap.get? b = some o → b ∉ X.ex → b ∉ ch := fun b o e hx hb => by
    rcases (hch b hb).1 with z | z
    · exact hx z
    · exact absurd (Nat.lt_of_lt_of_le (Heap.lt_size e) z) (Nat.lt_irrefl _)
  have cellK : ∀ x c, X.env.cells.lookup x = some c → ∀ v, s.heap.IsCell c v → h'.IsCell c v := fun x c e v ⟨o, ho, hd⟩ => by
    have nch : c ∉ ch := fun z => (hch c z).2.2.1 x c e rfl
    by_cases hc : c ∈ X.fs
    · obtain ⟨sl, q⟩ := slot c o (I.cne x c e) hc nch ho (I.freeC x c e)
      exact ⟨_, q, hd⟩
    · exact ⟨o, keep c o (I.cne x c e) hc nch ho (I.freeC x c e), hd⟩
  refine ⟨I.ok, I.os, hg, ⟨fun b o e n hb hx => ?_, fun b o e n hb hx => ?_, fun b o e n hx => ?_, fun b o e hx => ?_, fun b xs e => tups b xs (I.base.tups b xs e), fun b o xs e => frzs b o xs (I.base.frzs b o xs e), fun b ps e => ?_⟩, ?_, fun x c e => ?_, ?_, fun x c e => ?_, fun p hp => ?_, hok, I.len⟩
  · exact keep b o (neL b o e) hb (neC b o e hx) (I.base.keep b o e n hb hx) (I.base.free b o e n hx)
  · obtain ⟨sl, e1⟩ := I.base.slot b o e n hb hx
    obtain ⟨sl', e2⟩ := slot b _ (neL b o e) hb (neC b o e hx) e1 (I.base.free b o e n hx)
    exact ⟨sl', e2⟩
  · obtain ⟨o', e1⟩ := I.base.there b o e hx
    exact free b o' (neC b o e hx) e1 (I.base.free b o e n hx)
  · obtain ⟨o', e1⟩ := I.base.there b o e hx
    exact there b o' (neC b o e hx) e1
  · obtain ⟨m1, e1⟩ := I.base.tbls b ps e
    obtain ⟨m2, e2⟩ := tbls b _ e1
    exact ⟨m1 ++ m2, by rw [e2, Array.append_assoc]⟩
  · obtain ⟨m, hn, hl⟩ := I.loc
    refine ⟨m, ns m hn, fun i x v e1 e2 e3 => ?_⟩
    obtain ⟨u, r, l⟩ := hl i x v e1 e2 e3
    refine ⟨u, r, ?_⟩
    rcases l with l | ⟨k, c, e, z⟩
    · exact .inl l
    · exact .inr ⟨k, c, e, cellK x c e _ z⟩
  · obtain ⟨v, z⟩ := I.cell x c e
    exact ⟨v, cellK x c e v z⟩
  · obtain ⟨m, ⟨o, _, _, ho, _⟩, _⟩ := I.loc
    exact free _ o (fun z => (hch _ z).2.1 rfl) ho I.free
  · obtain ⟨v, o, ho, hd⟩ := I.cell x c e
    exact free c o (fun z => (hch c z).2.2.1 x c e rfl) ho (I.freeC x c e)
  · obtain ⟨e, n, ne, nf, d⟩ := I.pin p hp
    have nch : p.1 ∉ ch := fun z => (hch p.1 z).2.2.2 p hp rfl
    exact ⟨keep p.1 p.2 ne nf nch e n, free p.1 p.2 nch e n, ne, nf, d⟩
theorem Inv.un {t' : Nat} (I : Inv X pins σ H s) (u : Un X.fs [] H H' s.heap h') (hok : HOk X.prog X.w H' h') : Inv X pins σ H' { s with heap := h', toks := t' } := by
  obtain ⟨m, ⟨o, es, ep, ho, r⟩, _⟩ := id I.loc
  obtain ⟨sl, hL⟩ := u.any ho I.free (by simp)
  exact I.step (g' := s.gens) (d' := s.drawn) (ch := []) (fun _ z => nomatch z) (fun b o _ hb _ e n => u.keep b o e n hb (by simp)) (fun b o _ hb _ e n => u.slot b o e n hb (by simp)) (fun b o _ e n => u.free b o e n (by simp)) (fun b o _ e => u.there b o e (by simp)) u.tups u.frzs u.tbls (fun m' hm => by
    obtain ⟨o', es', ep', ho', r'⟩ := hm
    rw [ho] at ho'; cases ho'
    exact ⟨_, es', ep', hL, r'⟩) hok I.bare
theorem Inv.call {g' : Array GenState} {t' : Nat} {d' : Drawn} {ch : List Addr} (I : Inv X pins σ H s) (u : Un (frs X.stack) ch H H' s.heap h') (hok : HOk X.prog X.w H' h') (hg : AllBare g')
    (hch : ∀ b ∈ ch, (b ∈ X.ex ∨ X.s₀.heap.objs.size ≤ b) ∧ b ≠ X.env.locals ∧ (∀ x c, X.env.cells.lookup x = some c → c ≠ b) ∧ ∀ p ∈ X.pn ++ pins, p.1 ≠ b) :
    Inv X pins σ H' { s with heap := h', gens := g', drawn := d', toks := t' } := by
  obtain ⟨m, ⟨o, es, ep, ho, r⟩, _⟩ := id I.loc
  obtain ⟨sl, hL⟩ := u.any ho I.free fun z => (hch _ z).2.1 rfl
  exact I.step (ch := ch) hch (fun b o hL hb hc e n => u.keep b o e n (fun z => (List.mem_cons.mp (I.stkSub b z)).elim hL hb) hc) (fun b o _ _ hc e n => u.any e n hc) (fun b o hc e n => u.free b o e n hc) (fun b o hc e => u.there b o e hc) u.tups u.frzs u.tbls (fun m' hm => by
    obtain ⟨o', es', ep', ho', r'⟩ := hm
    rw [ho] at ho'; cases ho'
    exact ⟨_, es', ep', hL, r'⟩) hok hg
theorem Inv.turned {t' : Nat} {it : Addr} (I : Inv X pins σ H s) (k : ∀ b o, b ≠ it → s.heap.get? b = some o → h'.get? b = some o) (hn : H it = none) (hL : it ≠ X.env.locals)
    (h1 : it ∈ X.ex ∨ X.s₀.heap.objs.size ≤ it) (h2 : ∀ x c, X.env.cells.lookup x = some c → c ≠ it) (h3 : ∀ p ∈ X.pn ++ pins, p.1 ≠ it) : Inv X pins σ H { s with heap := h', toks := t' } := by
  have nit : ∀ b u, H b = some u → b ≠ it := fun b u e z => by rw [z, hn] at e; cases e
  refine I.step (g' := s.gens) (d' := s.drawn) (ch := [it]) (fun b hb => ?_) (fun b o _ _ hc e _ => k b o (fun z => hc (by simp [z])) e) (fun b o _ _ hc e _ => ⟨o.slots, k b o (fun z => hc (by simp [z])) e⟩) (fun _ _ _ _ n => n)
    (fun b o hc e => ⟨o, k b o (fun z => hc (by simp [z])) e⟩) (fun _ _ e => e) (fun _ _ _ e => e) (fun b ps e => ⟨#[], by rw [e]; simp⟩) (fun m hm => ?_) (fun b u e => ?_) I.bare
  · have e : b = it := by simpa using hb
    subst e
    exact ⟨h1, hL, h2, h3⟩
  · obtain ⟨o, es, ep, ho, r⟩ := hm
    exact ⟨o, es, ep, k _ o (Ne.symm hL) ho, r⟩
  · refine (I.hok b u e).stay (fun c v hc q => k c v ?_ q) (fun _ q => q) fun _ _ q => q
    rcases hc with z | z
    · rw [z]; exact nit b u e
    · exact nit c _ z
theorem Inv.tok (I : Inv X pins σ H s) (t : Nat) : Inv X pins σ H { s with toks := t } := I.un (h' := s.heap) (t' := t) Un.refl I.hok
theorem Inv.kept {t' : Nat} (I : Inv X pins σ H s) (k : ∀ b u, s.heap.get? b = some u → h'.get? b = some u) : Inv X pins σ H { s with heap := h', toks := t' } := I.un (Un.kept k) (I.hok.kept k)
theorem Inv.laid {a : Addr} {o : HO} {t' : Nat} (I : Inv X pins σ H s) (k : ∀ b u, s.heap.get? b = some u → h'.get? b = some u) (hp : s.heap.objs.size ≤ a) (new : ObjOk X.prog X.w (upd H a o) h' a o) :
    Inv X pins σ (upd H a o) { s with heap := h', toks := t' } := I.un (Un.laid k hp (I.hok.fresh hp)) (I.hok.laid k hp new)
theorem Inv.write {x e : Addr} {o : HO} {t' : Nat} (I : Inv X pins σ H s) (mu : Mut (H x)) (he : e = x ∨ H e = some (.own x)) (k : ∀ b u, b ≠ e → s.heap.get? b = some u → h'.get? b = some u) (heo : ∃ u, h'.get? e = some u)
    (new : ObjOk X.prog X.w (upd H x o) h' x o) : Inv X pins σ (upd H x o) { s with heap := h', toks := t' } := I.un (Un.write mu he k heo) (I.hok.write mu he k heo new)
theorem Inv.pins_of {pins' : List (Addr × Obj)} (I : Inv X pins σ H s) (h : ∀ p ∈ pins', s.heap.get? p.1 = some p.2 ∧ H p.1 = none ∧ p.1 ≠ X.env.locals ∧ p.1 ∉ X.fs ∧ ∀ v, p.2.data ≠ .cell v) : Inv X pins' σ H s :=
  ⟨I.ok, I.os, I.bare, I.base, I.loc, I.cell, I.free, I.freeC, fun p hp => (List.mem_append.mp hp).elim (fun z => I.pin p (List.mem_append_left _ z)) (h p), I.hok, I.len⟩

theorem nodup_ix {N : List Str} (hN : N.Nodup) {i j : Nat} {x : Str} (a : N[i]? = some x) (b : N[j]? = some x) : i = j := by
  obtain ⟨h1, e1⟩ := List.getElem?_eq_some_iff.mp a
  obtain ⟨h2, e2⟩ := List.getElem?_eq_some_iff.mp b
  exact (List.getElem_inj hN).mp (e1.trans e2.symm)

theorem store_ok2 {M : Model} {A : Around} {E : Value → Shared → Prop} {i : Nat} {x : Str} {v : V} {u : Value} {Q : Unit → Shared → Prop} (I : Inv X pins σ H s) (hN : X.N.Nodup) (hi : X.N[i]? = some x) (hx : Loc X.env.scope x) (r : RelV v u)
    (h : ∀ s', Inv X pins (σ.set i (some v)) H s' → (∃ a, Heap.SameBut a s.heap s'.heap ∧ (a = X.env.locals ∨ X.env.cells.lookup x = some a)) → Q () s') (hf : X.fn x = true ∨ X.env.scope.names.lookup x = some .local := by first | exact .inl rfl | exact .inr rfl | assumption) : wpAny M A (storeName X.env x u) Q E s := by
  obtain ⟨m, hn, hl⟩ := id I.loc
  have hcls : (X.env.scope.kind == .class || (X.env.scope.kind == .module && X.env.locals != X.env.globals)) = false := by rw [I.ok.kind]; rfl
  have hiσ : i < σ.length := by rw [I.len]; exact (List.getElem?_eq_some_iff.mp hi).1
  have cne := I.cne
  have tracked : ∀ {a : Addr} {h' : Heap}, (∃ o, s.heap.get? a = some o ∧ H a = none) → Heap.SameBut a s.heap h' → HOk X.prog X.w H h' := fun {a h'} ha hs b ob e => by
    obtain ⟨_, _, hfree⟩ := ha
    refine (I.hok b ob e).stay (fun c w' hc q => (hs.2 c ?_).trans q) (fun _ q => q) fun _ _ q => q
    rintro rfl
    rcases hc with rfl | hc
    · rw [hfree] at e; cases e
    · rw [hfree] at hc; cases hc
  rcases hx with hk | hk
  · refine wpAny_storeName_local hk hn (fun h' hn' hs => ?_) hcls
    obtain ⟨oL, _, _, hoL, _⟩ := id hn
    refine h _ ⟨I.ok, I.os, I.bare, ⟨fun b o e n hb hx => ?_, fun b o e n hb hx => ?_, I.base.free, fun b o e hx => ?_, I.base.tups, I.base.frzs, I.base.tbls⟩, ⟨_, hn', fun j y v' e1 e2 e3 => ?_⟩, fun y c e => ?_, I.free, I.freeC, fun p hp => ?_, tracked ⟨oL, hoL, I.free⟩ hs, by simpa using I.len⟩ ⟨_, hs, .inl rfl⟩
    · exact (hs.2 b (Nat.ne_of_lt (Nat.lt_of_lt_of_le (Heap.lt_size e) I.ok.above))).trans (I.base.keep b o e n hb hx)
    · obtain ⟨sl, e1⟩ := I.base.slot b o e n hb hx
      exact ⟨sl, (hs.2 b (Nat.ne_of_lt (Nat.lt_of_lt_of_le (Heap.lt_size e) I.ok.above))).trans e1⟩
    · obtain ⟨o', e1⟩ := I.base.there b o e hx
      exact ⟨o', (hs.2 b (Nat.ne_of_lt (Nat.lt_of_lt_of_le (Heap.lt_size e) I.ok.above))).trans e1⟩
    · by_cases hj : j = i
      · subst hj
        rw [hi] at e1; cases e1
        rw [List.getElem?_set_self hiσ] at e2
        cases e2
        exact ⟨u, r, .inl ⟨hk, by simp⟩⟩
      · rw [List.getElem?_set_ne (Ne.symm hj)] at e2
        obtain ⟨u', r', q⟩ := hl j y v' e1 e2 e3
        refine ⟨u', r', ?_⟩
        rcases q with ⟨k, e⟩ | ⟨k, c, e, z⟩
        · refine .inl ⟨k, ?_⟩
          have : y ≠ x := fun e => hj (nodup_ix hN e1 (e ▸ hi))
          simp [this, e]
        · exact .inr ⟨k, c, e, z.sameBut hs (cne y c e)⟩
    · obtain ⟨w', z⟩ := I.cell y c e
      exact ⟨w', z.sameBut hs (cne y c e)⟩
    · obtain ⟨e, n, ne, nf, d⟩ := I.pin p hp
      exact ⟨(hs.2 p.1 ne).trans e, n, ne, nf, d⟩
  · have hfn : X.fn x = true := by
      rcases hf with z | z
      · exact z
      · rw [z] at hk; cases hk
    obtain ⟨c, hc⟩ := I.ok.has x (.inl hk)
    obtain ⟨w', z⟩ := I.cell x c hc
    refine wpAny_storeName_cell I.ok.kind hk hc z (fun h' hc' hs => ?_)
    obtain ⟨oc, hoc, hocd⟩ := id z
    refine h { s with heap := h' } ⟨I.ok, I.os, I.bare, ⟨fun b o e n hb hx => ?_, fun b o e n hb hx => ?_, I.base.free, fun b o e hx => ?_, I.base.tups, I.base.frzs, I.base.tbls⟩, ⟨m, hn.sameBut hs (Ne.symm (cne x c hc)), fun j y v' e1 e2 e3 => ?_⟩, fun y c' e => ?_, I.free, I.freeC, fun p hp => ?_, tracked ⟨oc, hoc, I.freeC x c hc⟩ hs, by simpa using I.len⟩ ⟨c, hs, .inr hc⟩
    · exact (hs.2 b (Nat.ne_of_lt (Nat.lt_of_lt_of_le (Heap.lt_size e) (I.ok.cab x c hfn hc)))).trans (I.base.keep b o e n hb hx)
    · obtain ⟨sl, e1⟩ := I.base.slot b o e n hb hx
      exact ⟨sl, (hs.2 b (Nat.ne_of_lt (Nat.lt_of_lt_of_le (Heap.lt_size e) (I.ok.cab x c hfn hc)))).trans e1⟩
    · obtain ⟨o', e1⟩ := I.base.there b o e hx
      exact ⟨o', (hs.2 b (Nat.ne_of_lt (Nat.lt_of_lt_of_le (Heap.lt_size e) (I.ok.cab x c hfn hc)))).trans e1⟩
    · by_cases hj : j = i
      · subst hj
        rw [hi] at e1; cases e1
        rw [List.getElem?_set_self hiσ] at e2
        cases e2
        exact ⟨u, r, .inr ⟨.inl hk, c, hc, hc'⟩⟩
      · rw [List.getElem?_set_ne (Ne.symm hj)] at e2
        obtain ⟨u', r', q⟩ := hl j y v' e1 e2 e3
        refine ⟨u', r', ?_⟩
        rcases q with q | ⟨k, c', e, z'⟩
        · exact .inl q
        · refine .inr ⟨k, c', e, z'.sameBut hs ?_⟩
          rintro rfl
          exact hj (nodup_ix hN e1 (I.ok.inj _ _ _ e hc ▸ hi))
    · by_cases hcc : c' = c
      · subst hcc; exact ⟨_, hc'⟩
      · obtain ⟨w2, z2⟩ := I.cell y c' e
        exact ⟨w2, z2.sameBut hs hcc⟩
    · obtain ⟨e, n, ne, nf, d⟩ := I.pin p hp
      refine ⟨(hs.2 p.1 ?_).trans e, n, ne, nf, d⟩
      intro q
      rw [q, hoc] at e
      have q' : oc = p.2 := Option.some.inj e
      exact d w' (by rw [← q']; exact hocd)
theorem store_ok {M : Model} {A : Around} {E : Value → Shared → Prop} {i : Nat} {x : Str} {v : V} {u : Value} {Q : Unit → Shared → Prop} (I : Inv X pins σ H s) (hN : X.N.Nodup) (hi : X.N[i]? = some x) (hx : Loc X.env.scope x) (r : RelV v u)
    (h : ∀ s', Inv X pins (σ.set i (some v)) H s' → Q () s') (hf : X.fn x = true ∨ X.env.scope.names.lookup x = some .local := by first | exact .inl rfl | exact .inr rfl | assumption) : wpAny M A (storeName X.env x u) Q E s :=
  store_ok2 I hN hi hx r (fun s' I' _ => h s' I') hf
theorem Inv.call' {s' : Shared} {ch : List Addr} (I : Inv X pins σ H s) (ho : s'.os = s.os) (u : Un (frs X.stack) ch H H' s.heap s'.heap) (hok : HOk X.prog X.w H' s'.heap) (hg : AllBare s'.gens)
    (hch : ∀ b ∈ ch, (b ∈ X.ex ∨ X.s₀.heap.objs.size ≤ b) ∧ b ≠ X.env.locals ∧ (∀ x c, X.env.cells.lookup x = some c → c ≠ b) ∧ ∀ p ∈ X.pn ++ pins, p.1 ≠ b) : Inv X pins σ H' s' := by
  obtain ⟨h', g', d', t', o'⟩ := s'
  have e : o' = s.os := ho
  subst e
  exact I.call (g' := g') (t' := t') (d' := d') u hok hg hch
end

abbrev XK := Value → Option Addr → Hp → Prop
abbrev St := List (Option V)
abbrev VK := V → Hp → Prop
abbrev TE := St → Hp → VK → Prop
abbrev TT := St → Hp → (Bool → Hp → Prop) → Prop
abbrev TA := St → Hp → (List V → Hp → Prop) → Prop
structure Ends where
  nx : St → Hp → Prop
  rt : VK
  bk : St → Hp → Prop := fun _ _ => False
  ct : St → Hp → Prop := fun _ _ => False
abbrev TS := Ends → St → Hp → Prop

def EP (X : Cx) (pins : List (Addr × Obj)) (σ : St) (Q : VK) (u : Value) (s' : Shared) : Prop := ∃ v H', Inv X pins σ H' s' ∧ RelV v u ∧ Q v H'
def TP (X : Cx) (pins : List (Addr × Obj)) (σ : St) (Q : Bool → Hp → Prop) (b : Bool) (s' : Shared) : Prop := ∃ H', Inv X pins σ H' s' ∧ Q b H'
def AP (X : Cx) (pins : List (Addr × Obj)) (σ : St) (Q : List V → Hp → Prop) (us : List Value) (s' : Shared) : Prop := ∃ vs H', Inv X pins σ H' s' ∧ Vals vs us ∧ Q vs H'
def SP (X : Cx) (pins : List (Addr × Obj)) (D : Ends) (f : Flow) (s' : Shared) : Prop :=
  match f with
  | .next => ∃ σ' H', Inv X pins σ' H' s' ∧ D.nx σ' H'
  | .brk => ∃ σ' H', Inv X pins σ' H' s' ∧ D.bk σ' H'
  | .cont => ∃ σ' H', Inv X pins σ' H' s' ∧ D.ct σ' H'
  | .ret u => ∃ v σ' H', Inv X pins σ' H' s' ∧ RelV v u ∧ D.rt v H'

def PE (X : Cx) (e : Expr) (t : TE) : Prop :=
  ∀ (pins : List (Addr × Obj)) (s : Shared) (σ : St) (H : Hp) (Q : VK), Inv X pins σ H s → t σ H Q → wpAny (model X.prog X.w) X.A (eval e X.env) (EP X pins σ Q) X.xe s
def PT (X : Cx) (e : Expr) (t : TT) : Prop :=
  ∀ (pins : List (Addr × Obj)) (s : Shared) (σ : St) (H : Hp) (Q : Bool → Hp → Prop), Inv X pins σ H s → t σ H Q → wpAny (model X.prog X.w) X.A (isTrue e X.env (eval e X.env)) (TP X pins σ Q) X.xe s
def PW (X : Cx) (e : Expr) (t : TT) : Prop :=
  ∀ (whole : Sem Value) (pins : List (Addr × Obj)) (s : Shared) (σ : St) (H : Hp) (Q : Bool → Hp → Prop), Inv X pins σ H s → t σ H Q → wpAny (model X.prog X.w) X.A (isTrue e X.env whole) (TP X pins σ Q) X.xe s
theorem PW.pt {X : Cx} {e : Expr} {t : TT} (h : PW X e t) : PT X e t := h _
def PA (X : Cx) (es : List Expr) (t : TA) : Prop :=
  ∀ (pos : Pos) (pins : List (Addr × Obj)) (s : Shared) (σ : St) (H : Hp) (Q : List V → Hp → Prop), Inv X pins σ H s → t σ H Q → wpAny (model X.prog X.w) X.A (spliced (backTo pos (starEach es X.env))) (AP X pins σ Q) X.xe s
def PS (X : Cx) (st : Stmt) (t : TS) : Prop :=
  ∀ (pins : List (Addr × Obj)) (s : Shared) (σ : St) (H : Hp) (D : Ends), Inv X pins σ H s → t D σ H → wpAny (model X.prog X.w) X.A (exec st X.env) (SP X pins D) X.xe s
def PSs (X : Cx) (st : List Stmt) (t : TS) : Prop :=
  ∀ (pins : List (Addr × Obj)) (s : Shared) (σ : St) (H : Hp) (D : Ends), Inv X pins σ H s → t D σ H → wpAny (model X.prog X.w) X.A (execs st X.env) (SP X pins D) X.xe s
theorem thn {α : Type} {t : Sem α} {Q Q' : α → Shared → Prop} {M : Model} {A : Around} {E : Value → Shared → Prop} {s : Shared} (h : wpAny M A t Q E s) (hQ : ∀ a s, Q a s → Q' a s) : wpAny M A t Q' E s := wpAny_mono h hQ fun _ _ x => x
end L2

namespace L2
open PySem PySem.Spec PyProof.Rows
section
variable {X : Cx}

def tVar (i : Nat) : TE := fun σ H Q => ∃ v, σ[i]? = some (some v) ∧ Q v H
def tC (v : V) : TE := fun _ H Q => Q v H
theorem pe_var {i : Nat} {x : Str} {pos : Pos} (hN : X.N[i]? = some x) (hv : Vis X.env.scope x) (hd : (x == ("__debug__" : Str)) = false := by decide) (hcd : (x == ("__classdict__" : Str)) = false := by decide) : PE X (.Name x pos) (tVar i) := by
  intro pins s σ H Q I h
  obtain ⟨v, e, h⟩ := h
  obtain ⟨m, hn, hl⟩ := I.loc
  obtain ⟨u, r, l⟩ := hl i x v hN e hv
  have fin : EP X pins σ Q u s := ⟨v, H, I, r, h⟩
  rcases l with ⟨hk, hm⟩ | ⟨hk, c, hc, hcell⟩
  · exact wpAny_Name (wpAny_loadName_local I.ok.kind hk hn hm fin) hd
  · rcases hk with hk | hk
    · exact wpAny_Name (wpAny_loadName_cell I.ok.kind hk hc hcell fin) hd
    · exact wpAny_Name (wpAny_loadName_free I.ok.kind hk hc hcell fin hcd) hd
theorem pe_int {i j pos} : PE X (.Constant (.int i) j pos) (tC (.int i)) := fun _ _ _ H _ I h => wpAny_Constant_int ⟨.int i, H, I.tok _, ⟨_, rfl⟩, h⟩
theorem pe_bl {b j pos} : PE X (.Constant (.bool b) j pos) (tC (.bl b)) := fun _ _ _ H _ I h => Constant_bool ⟨.bl b, H, I, rfl, h⟩
theorem pe_non {j pos} : PE X (.Constant .none j pos) (tC .non) := fun _ _ _ H _ I h => Constant_none ⟨.non, H, I, rfl, h⟩
theorem pe_str {x j pos} : PE X (.Constant (.str x) j pos) (tC (.str x)) := fun _ _ _ H _ I h => Calls.Constant_str ⟨.str x, H, I.tok _, ⟨_, rfl⟩, h⟩

def Gl (X : Cx) (x : Str) : Prop := X.env.kindOf x = some .globalImplicit
theorem ld_glob {E : Value → Shared → Prop} {pins : List (Addr × Obj)} {s : Shared} {σ : St} {H : Hp} {x : Str} {u : Value} {pos : Pos} {Q : Value → Shared → Prop} (I : Inv X pins σ H s) (hg : Gl X x) (hm : X.mg x = some u) (h : Q u s)
    (hd : (x == ("__debug__" : Str)) = false := by decide) : wpAny (model X.prog X.w) X.A (eval (.Name x pos) X.env) Q E s :=
  Calls.Name_function_global I.ok.kind hg (Calls.loadGlobal_global (by rw [I.ok.glob]; exact I.mod.glob.keeps I.bk) hm h) hd
theorem ld_blt {E : Value → Shared → Prop} {pins : List (Addr × Obj)} {s : Shared} {σ : St} {H : Hp} {x : Str} {u : Value} {pos : Pos} {Q : Value → Shared → Prop} (I : Inv X pins σ H s) (hg : Gl X x) (hm : X.mg x = none) (hv : bootBuiltins x = some u) (h : Q u s)
    (hn : x ≠ "__name__" := by decide) (hd : (x == ("__debug__" : Str)) = false := by decide) : wpAny (model X.prog X.w) X.A (eval (.Name x pos) X.env) Q E s := by
  obtain ⟨mb, h1, h2⟩ := I.mod.blt
  exact Calls.Name_function_global I.ok.kind hg (Calls.loadGlobal_builtin (by rw [I.ok.glob]; exact I.mod.glob.keeps I.bk) hm (by rw [I.ok.blt]; exact h1.keeps I.bk) ((h2 x hn).trans hv) h) hd
theorem pe_glob {x : Str} {v : V} {u : Value} {pos : Pos} (hg : Gl X x) (hm : X.mg x = some u) (r : RelV v u) (hd : (x == ("__debug__" : Str)) = false := by decide) : PE X (.Name x pos) (tC v) :=
  fun _ _ _ H _ I h => ld_glob I hg hm ⟨v, H, I, r, h⟩ hd
theorem pe_bltn {x : Str} {v : V} {u : Value} {pos : Pos} (hg : Gl X x) (hm : X.mg x = none) (hv : bootBuiltins x = some u) (r : RelV v u) (hn : x ≠ "__name__" := by decide) (hd : (x == ("__debug__" : Str)) = false := by decide) : PE X (.Name x pos) (tC v) :=
  fun _ _ _ H _ I h => ld_blt I hg hm hv ⟨v, H, I, r, h⟩ hn hd

def t2I (ta tb : TE) (k : Int → Int → Hp → Prop) : St → Hp → Prop := fun σ H => ta σ H fun x H1 => tb σ H1 fun y H2 => ∃ i j, x = .int i ∧ y = .int j ∧ k i j H2
def tAdd (ta tb : TE) : TE := fun σ H Q => t2I ta tb (fun i j H2 => Q (.int (i + j)) H2) σ H
def tSub (ta tb : TE) : TE := fun σ H Q => t2I ta tb (fun i j H2 => Q (.int (i - j)) H2) σ H
def tMul (ta tb : TE) : TE := fun σ H Q => t2I ta tb (fun i j H2 => (-(2 ^ 64) < i ∧ i < 2 ^ 64) ∧ Q (.int (i * j)) H2) σ H
variable {a b : Expr} {ta tb : TE} {pos : Pos}
def PC (X : Cx) (op : CmpOp) (a b : Expr) (t : TE) : Prop :=
  ∀ (pins : List (Addr × Obj)) (s : Shared) (σ : St) (H : Hp) (Q : VK), Inv X pins σ H s → t σ H Q →
    wpAny (model X.prog X.w) X.A (eval a X.env) (fun v s₁ => wpAny (model X.prog X.w) X.A (eval b X.env) (fun u s₂ => wpAny (model X.prog X.w) X.A (compareOp op v u) (EP X pins σ Q) X.xe s₂) X.xe s₁) X.xe s
theorem nobehind (b : Expr) {op : CmpOp} (h : op ≠ .In) (h2 : op ≠ .NotIn) : behindInMarks op b = false := by
  have e1 : (op == CmpOp.In) = false := by cases op <;> first | rfl | exact absurd rfl h
  have e2 : (op == CmpOp.NotIn) = false := by cases op <;> first | rfl | exact absurd rfl h2
  cases b <;> simp [behindInMarks, e1, e2]
def tCmp (p : Int → Int → Bool) (ta tb : TE) : TE := fun σ H Q => t2I ta tb (fun i j H2 => Q (.bl (p i j)) H2) σ H
abbrev tLt : TE → TE → TE := tCmp fun i j => decide (i < j)
abbrev tLe : TE → TE → TE := tCmp fun i j => decide (i ≤ j)
abbrev tGt : TE → TE → TE := tCmp fun i j => decide (j < i)
abbrev tGe : TE → TE → TE := tCmp fun i j => decide (j ≤ i)
abbrev tEqI : TE → TE → TE := tCmp fun i j => decide (i = j)
abbrev tNeI : TE → TE → TE := tCmp fun i j => !decide (i = j)
def tIsN (ta : TE) : TE := fun σ H Q => ta σ H fun x H1 => Q (.bl (decide (x = .non))) H1
def tNotN (ta : TE) : TE := fun σ H Q => ta σ H fun x H1 => Q (.bl (!decide (x = .non))) H1
theorem RelV.none_iff {x : V} {v : Value} (r : RelV x v) : (v == Value.none) = decide (x = .non) := by
  cases x with
  | non => cases r; rfl
  | bl _ => cases r; rfl
  | int _ => obtain ⟨t, rfl⟩ := r; rfl
  | str _ => obtain ⟨t, rfl⟩ := r; rfl
  | byt _ => obtain ⟨t, rfl⟩ := r; rfl
  | flt _ => obtain ⟨t, rfl⟩ := r; rfl
  | ref _ => cases r; rfl
  | ty _ => cases r; rfl
theorem pc_isN {j pos'} (ha : PE X a ta) : PC X .Is a (.Constant .none j pos') (tIsN ta) := by
  intro pins s σ H Q I h
  refine thn (ha pins s σ H _ I h) fun v s1 ⟨x, H1, I1, r1, q1⟩ => ?_
  exact Constant_none (is_none_gen ⟨.bl _, H1, I1, by rw [r1.none_iff]; rfl, q1⟩)
theorem pc_notN {j pos'} (ha : PE X a ta) : PC X .IsNot a (.Constant .none j pos') (tNotN ta) := by
  intro pins s σ H Q I h
  refine thn (ha pins s σ H _ I h) fun v s1 ⟨x, H1, I1, r1, q1⟩ => ?_
  exact Constant_none (isnot_none_gen ⟨.bl _, H1, I1, by rw [r1.none_iff]; rfl, q1⟩)
def tB (t : TE) : TT := fun σ H Q => t σ H fun x H1 => ∃ c, x = .bl c ∧ Q c H1
theorem pe_cmp {op : CmpOp} {t : TE} (h : PC X op a b t) (h1 : behindInMarks op b = false := by first | exact nobehind _ (by decide) (by decide) | rfl) : PE X (.Compare a [op] [b] pos) t := fun pins s σ H Q I hw => wpAny_Compare1 (h pins s σ H Q I hw) h1
theorem pt_cmp {op : CmpOp} {t : TE} (h : PC X op a b t) (h1 : behindInMarks op b = false := by first | exact nobehind _ (by decide) (by decide) | rfl) : PT X (.Compare a [op] [b] pos) (tB t) := by
  intro pins s σ H Q I hw
  refine wpAny_isTrue_Compare1 (thn (h pins s σ H _ I hw) fun v s1 h1 => thn h1 fun u s2 h2 => thn h2 fun c s3 ⟨x, H1, I1, r1, q1⟩ => ?_) h1
  obtain ⟨d, rfl, q⟩ := q1
  cases r1
  exact wpAny_truthy_bool ⟨H1, I1, q⟩
theorem pt_val {e : Expr} {t : TE} (h : PE X e t) (he : ∀ whole, isTrue e X.env whole = (do let v ← whole; standAt e.pos; holding [v] (truthy v)) := by intro _; rfl) : PT X e (tB t) := by
  intro pins s σ H Q I hw
  refine isTrue_plain (thn (h pins s σ H _ I hw) fun v s1 ⟨x, H1, I1, r1, q1⟩ => ?_) (he _)
  obtain ⟨d, rfl, q⟩ := q1
  cases r1
  exact wpAny_truthy_bool ⟨H1, I1, q⟩

variable {tA tB' : TT} {rest : List Expr}
def tAnd (t u : TT) : TT := fun σ H Q => t σ H fun c H1 => if c = true then u σ H1 Q else Q false H1
def tOr (t u : TT) : TT := fun σ H Q => t σ H fun c H1 => if c = true then Q true H1 else u σ H1 Q
def tNot (t : TT) : TT := fun σ H Q => t σ H fun c H1 => Q (!c) H1
theorem pw_and1 (ha : PT X a tA) : PW X (.BoolOp .And [a] pos) tA := by
  intro wh pins s σ H Q I h
  refine isTrue_and (thn (ha pins s σ H Q I h) fun c s1 e => ?_)
  cases c with
  | true => exact isTrue_and_nil e
  | false => exact e
theorem pw_or1 (ha : PT X a tA) : PW X (.BoolOp .Or [a] pos) tA := by
  intro wh pins s σ H Q I h
  refine isTrue_or (thn (ha pins s σ H Q I h) fun c s1 e => ?_)
  cases c with
  | false => exact isTrue_or_nil e
  | true => exact e
theorem pw_and (ha : PT X a tA) (hb : PW X (.BoolOp .And (b :: rest) pos) tB') : PW X (.BoolOp .And (a :: b :: rest) pos) (tAnd tA tB') := by
  intro wh pins s σ H Q I h
  refine isTrue_and (thn (ha pins s σ H _ I h) fun c s1 ⟨H1, I1, q1⟩ => ?_)
  cases c with
  | true => exact hb wh pins s1 σ H1 Q I1 q1
  | false => exact ⟨H1, I1, q1⟩
theorem pw_or (ha : PT X a tA) (hb : PW X (.BoolOp .Or (b :: rest) pos) tB') : PW X (.BoolOp .Or (a :: b :: rest) pos) (tOr tA tB') := by
  intro wh pins s σ H Q I h
  refine isTrue_or (thn (ha pins s σ H _ I h) fun c s1 ⟨H1, I1, q1⟩ => ?_)
  cases c with
  | true => exact ⟨H1, I1, q1⟩
  | false => exact hb wh pins s1 σ H1 Q I1 q1
theorem pt_not (ha : PT X a tA) : PT X (.UnaryOp .Not a pos) (tNot tA) := by
  intro pins s σ H Q I h
  exact isTrue_not (ha pins s σ H (fun c H1 => Q (!c) H1) I h)
def tAndV (ta tb : TE) : TE := fun σ H Q => ta σ H fun x H1 => ∃ c, x = .bl c ∧ if c = true then tb σ H1 Q else Q (.bl false) H1
def tOrV (ta tb : TE) : TE := fun σ H Q => ta σ H fun x H1 => ∃ c, x = .bl c ∧ if c = true then Q (.bl true) H1 else tb σ H1 Q
def tNotV (ta : TE) : TE := fun σ H Q => ta σ H fun x H1 => ∃ c, x = .bl c ∧ Q (.bl (!c)) H1
theorem pe_one {op} {t : TE} (h : PE X a t) : PE X (.BoolOp op [a] pos) t := fun pins s σ H Q I hw => BoolOp_one (h pins s σ H Q I hw)
theorem pe_and (ha : PE X a ta) (hb : PE X (.BoolOp .And (b :: rest) pos) tb) : PE X (.BoolOp .And (a :: b :: rest) pos) (tAndV ta tb) := by
  intro pins s σ H Q I h
  refine BoolOp_and (thn (ha pins s σ H _ I h) fun v s1 ⟨x, H1, I1, r1, q1⟩ => ?_)
  obtain ⟨c, rfl, q1⟩ := q1
  cases r1
  refine wpAny_truthy_bool ?_
  cases c with
  | true => exact hb pins s1 σ H1 Q I1 q1
  | false => exact ⟨.bl false, H1, I1, rfl, q1⟩
theorem pe_or (ha : PE X a ta) (hb : PE X (.BoolOp .Or (b :: rest) pos) tb) : PE X (.BoolOp .Or (a :: b :: rest) pos) (tOrV ta tb) := by
  intro pins s σ H Q I h
  refine BoolOp_or (thn (ha pins s σ H _ I h) fun v s1 ⟨x, H1, I1, r1, q1⟩ => ?_)
  obtain ⟨c, rfl, q1⟩ := q1
  cases r1
  refine wpAny_truthy_bool ?_
  cases c with
  | false => exact hb pins s1 σ H1 Q I1 q1
  | true => exact ⟨.bl true, H1, I1, rfl, q1⟩
theorem pe_not (ha : PE X a ta) : PE X (.UnaryOp .Not a pos) (tNotV ta) := by
  intro pins s σ H Q I h
  refine UnaryOp_ (thn (ha pins s σ H _ I h) fun v s1 ⟨x, H1, I1, r1, q1⟩ => ?_)
  obtain ⟨c, rfl, q1⟩ := q1
  cases r1
  exact not_of (wpAny_truthy_bool ⟨.bl (!c), H1, I1, rfl, q1⟩)
def tIf (t : TT) (ta tb : TE) : TE := fun σ H Q => t σ H fun c H1 => if c = true then ta σ H1 Q else tb σ H1 Q
theorem pe_ifExp {c : Expr} (hc : PT X c tA) (ha : PE X a ta) (hb : PE X b tb) : PE X (.IfExp c a b pos) (tIf tA ta tb) := by
  intro pins s σ H Q I h
  refine wpAny_IfExp (thn (hc pins s σ H _ I h) fun d s1 ⟨H1, I1, q1⟩ => ?_)
  cases d with
  | true => exact ha pins s1 σ H1 Q I1 q1
  | false => exact hb pins s1 σ H1 Q I1 q1
end
end L2

namespace L2
open PySem PySem.Spec PyProof.Rows

def SqL (K : PySem.W.Frag) (H : Hp) (a : Addr) (xs : List V) : Prop :=
  Rd H a (.lst xs) ∨
    ∃ (o : Obj) (its : Array Value) (n : Nat), K.lookup a = some o ∧ o.cls = .type "list" ∧ o.dict = none ∧ o.data = .seq its n ∧ its.size ≤ sizeLine ∧ Vals xs its.toList
def SqT (K : PySem.W.Frag) (H : Hp) (a : Addr) (xs : List V) : Prop :=
  Rd H a (.tup xs) ∨
    ∃ (o : Obj) (its : Array Value) (n : Nat), K.lookup a = some o ∧ o.cls = .type "tuple" ∧ o.data = .seq its n ∧ its.size ≤ sizeLine ∧ Vals xs its.toList
def absV : Value → Option V
  | .none => some .non
  | .bool b => some (.bl b)
  | .int i _ => some (.int i)
  | .str x _ => some (.str x)
  | .bytes b _ => some (.byt b)
  | .float b _ => some (.flt b)
  | .ref a => some (.ref a)
  | .type n => some (.ty n)
  | _ => none
theorem RelV.abs {x : V} {u : Value} (r : RelV x u) : absV u = some x := by
  cases x with
  | non => cases r; rfl
  | bl _ => cases r; rfl
  | int _ => obtain ⟨t, rfl⟩ := r; rfl
  | str _ => obtain ⟨t, rfl⟩ := r; rfl
  | byt _ => obtain ⟨t, rfl⟩ := r; rfl
  | flt _ => obtain ⟨t, rfl⟩ := r; rfl
  | ref _ => cases r; rfl
  | ty _ => cases r; rfl
theorem RelV.inj {x y : V} {u : Value} (r : RelV x u) (q : RelV y u) : x = y := Option.some.inj (r.abs.symm.trans q.abs)
theorem Vals.inj : ∀ {xs ys : List V} {us : List Value}, Vals xs us → Vals ys us → xs = ys
  | _, _, _, .nil, .nil => rfl
  | _, _, _, .cons r t, .cons r' t' => by rw [r.inj r', Vals.inj t t']
section
variable {X : Cx} {pins : List (Addr × Obj)} {σ : St} {H : Hp} {s : Shared} {a : Addr} {xs ys : List V}
theorem SqL.of {K : PySem.W.Frag} (h : H a = some (.lst xs)) : SqL K H a xs := .inl (.inl h)
theorem SqT.of {K : PySem.W.Frag} (h : H a = some (.tup xs)) : SqT K H a xs := .inl (.inl h)
theorem Inv.list (I : Inv X pins σ H s) (h : SqL X.K H a xs) : ∃ its : List Value, Vals xs its ∧ PlainL s.heap a its.toArray ∧ xs.length ≤ sizeLine := by
  rcases h with h | ⟨o, its, n, hk, hc, hd, hs, hz, r⟩
  · obtain ⟨z, its, n, r, e⟩ := h.ok I.hok
    exact ⟨its, r, ⟨_, n, e, rfl, rfl, rfl⟩, z⟩
  · refine ⟨its.toList, r, ⟨o, n, I.kIn a o hk, hc, hd, by simpa using hs⟩, ?_⟩
    have e := r.length
    simp only [Array.length_toList] at e
    omega
theorem Inv.tuple (I : Inv X pins σ H s) (h : SqT X.K H a xs) : ∃ its : List Value, Vals xs its ∧ IsTup s.heap a its.toArray ∧ xs.length ≤ sizeLine := by
  rcases h with h | ⟨o, its, n, hk, hc, hs, hz, r⟩
  · obtain ⟨z, its, r, p⟩ := h.ok I.hok
    exact ⟨its, r, p, z⟩
  · refine ⟨its.toList, r, ⟨o, I.kIn a o hk, hc, n, by simpa using hs⟩, ?_⟩
    have e := r.length
    simp only [Array.length_toList] at e
    omega
theorem Inv.list_inj (I : Inv X pins σ H s) (h : SqL X.K H a xs) (h' : SqL X.K H a ys) : xs = ys := by
  obtain ⟨its, r, ⟨o, n, e, _, _, d⟩, _⟩ := I.list h
  obtain ⟨its', r', ⟨o', n', e', _, _, d'⟩, _⟩ := I.list h'
  rw [e] at e'; cases e'
  rw [d] at d'
  injection d' with d1 _
  have : its = its' := by simpa using congrArg Array.toList d1
  subst this
  exact r.inj r'
theorem Inv.tuple_inj (I : Inv X pins σ H s) (h : SqT X.K H a xs) (h' : SqT X.K H a ys) : xs = ys := by
  obtain ⟨its, r, ⟨o, e, _, n, d⟩, _⟩ := I.tuple h
  obtain ⟨its', r', ⟨o', e', _, n', d'⟩, _⟩ := I.tuple h'
  rw [e] at e'; cases e'
  rw [d] at d'
  injection d' with d1 _
  have : its = its' := by simpa using congrArg Array.toList d1
  subst this
  exact r.inj r'
end

abbrev Cx.wish (X : Cx) (E : Value → Shared → Prop) : Cx := { X with xe := E }
abbrev Cx.nox (X : Cx) : Cx := X.wish fun _ _ => False
theorem Cx.Ok.wish {X : Cx} (ok : X.Ok) (E : Value → Shared → Prop) : (X.wish E).Ok :=
  ⟨ok.mod, ok.kind, ok.glob, ok.blt, ok.above, ok.inj, ok.has, ok.cab, ok.hd, ok.frames, ok.stk, ok.exf, ok.bs, ok.bsz, ok.noex, ok.exfs, ok.funs, ok.frf⟩
theorem Cx.Ok.unwish {X : Cx} {E : Value → Shared → Prop} (ok : (X.wish E).Ok) : X.Ok :=
  ⟨ok.mod, ok.kind, ok.glob, ok.blt, ok.above, ok.inj, ok.has, ok.cab, ok.hd, ok.frames, ok.stk, ok.exf, ok.bs, ok.bsz, ok.noex, ok.exfs, ok.funs, ok.frf⟩
section
variable {X : Cx} {pins : List (Addr × Obj)} {σ : St} {H : Hp} {s : Shared} {E : Value → Shared → Prop}
theorem Inv.wish (I : Inv X pins σ H s) (E : Value → Shared → Prop) : Inv (X.wish E) pins σ H s := ⟨I.ok.wish E, I.os, I.bare, I.base, I.loc, I.cell, I.free, I.freeC, I.pin, I.hok, I.len⟩
theorem Inv.unwish (I : Inv (X.wish E) pins σ H s) : Inv X pins σ H s := ⟨I.ok.unwish, I.os, I.bare, I.base, I.loc, I.cell, I.free, I.freeC, I.pin, I.hok, I.len⟩
theorem SP.unwish {D : Ends} {f : Flow} {s' : Shared} (h : SP (X.wish E) pins D f s') : SP X pins D f s' := by
  cases f with
  | next => obtain ⟨σ', H', I, q⟩ := h; exact ⟨σ', H', I.unwish, q⟩
  | brk => obtain ⟨σ', H', I, q⟩ := h; exact ⟨σ', H', I.unwish, q⟩
  | cont => obtain ⟨σ', H', I, q⟩ := h; exact ⟨σ', H', I.unwish, q⟩
  | ret u => obtain ⟨v, σ', H', I, r, q⟩ := h; exact ⟨v, σ', H', I.unwish, r, q⟩
theorem PSs.nox {st : List Stmt} {t : TS} (h : PSs X.nox st t) : PSs X st t := fun pins s σ H D I hw =>
  wpAny_mono (h pins s σ H D (I.wish _) hw) (fun _ _ q => q.unwish) fun _ _ z => False.elim z
end

section
variable {X : Cx} {st : Stmt} {rest : List Stmt} {t u : TS} {e : Expr} {te : TE} {pos : Pos}
def tNext : TS := fun D σ H => D.nx σ H
def tSeq (t u : TS) : TS := fun D σ H => t { D with nx := u D } σ H
theorem pss_nil : PSs X [] tNext := fun _ _ σ H _ I h => wpAny_execs_nil ⟨σ, H, I, h⟩
theorem pss_cons (h1 : PS X st t) (h2 : PSs X rest u) : PSs X (st :: rest) (tSeq t u) := by
  intro pins s σ H D I h
  refine wpAny_execs_cons (thn (h1 pins s σ H { D with nx := u D } I h) fun f s1 q => ?_)
  cases f with
  | next =>
    obtain ⟨σ', H', I', q⟩ := q
    exact h2 pins s1 σ' H' D I' q
  | ret v => exact q
  | brk => exact q
  | cont => exact q
theorem pss_one (h1 : PS X st t) : PSs X [st] t := by
  intro pins s σ H D I h
  refine wpAny_execs_cons (thn (h1 pins s σ H D I h) fun f s1 q => ?_)
  cases f with
  | next => exact wpAny_execs_nil q
  | ret v => exact q
  | brk => exact q
  | cont => exact q
def tBreak : TS := fun D σ H => D.bk σ H
def tCont : TS := fun D σ H => D.ct σ H
theorem Inv.quiet {pins : List (Addr × Obj)} {σ : St} {H : Hp} {s : Shared} (I : Inv X pins σ H s) : interactive X.env = false := by simp [interactive, I.ok.kind]
def tDrop (te : TE) : TS := fun D σ H => te σ H fun _ H1 => D.nx σ H1
theorem ps_expr (he : PE X e te) (hs : swapsWith e none pos.line X.env = pure false := by rfl) : PS X (.Expr e pos) (tDrop te) := by
  intro pins s σ H D I h
  exact wpAny_Expr_any (thn (he pins s σ H _ I h) fun v s1 ⟨x, H1, I1, r1, q1⟩ => ⟨σ, H1, I1, q1⟩) I.quiet hs
def tRet (te : TE) : TS := fun D σ H => te σ H D.rt
theorem ps_ret (he : PE X e te) : PS X (.Return (some e) pos) (tRet te) := by
  intro pins s σ H D I h
  exact wpAny_Return_some (thn (he pins s σ H _ I h) fun v s1 ⟨x, H1, I1, r1, q1⟩ => ⟨x, σ, H1, I1, r1, q1⟩)
def tRetN : TS := fun D _ H => D.rt .non H
def tIfS (c : TT) (t u : TS) : TS := fun D σ H => c σ H fun b H1 => if b = true then t D σ H1 else u D σ H1
theorem ps_if {c : Expr} {a b : List Stmt} {tc : TT} (hc : PT X c tc) (ha : PSs X a t) (hb : PSs X b u) : PS X (.If c a b pos) (tIfS tc t u) := by
  intro pins s σ H D I h
  refine wpAny_If (thn (hc pins s σ H _ I h) fun d s1 ⟨H1, I1, q1⟩ => ?_)
  cases d with
  | true => exact ha pins s1 σ H1 D I1 q1
  | false => exact hb pins s1 σ H1 D I1 q1
def tNever : TS := fun _ _ _ => False
theorem ps_never : PS X st tNever := fun _ _ _ _ _ _ h => h.elim
end

abbrev TG := V → St → Hp → (St → Hp → Prop) → Prop
abbrev TGs := List V → St → Hp → (St → Hp → Prop) → Prop
def PG (X : Cx) (target : Expr) (t : TG) : Prop :=
  ∀ (pins : List (Addr × Obj)) (s : Shared) (σ : St) (H : Hp) (v : V) (u : Value) (Q : St → Hp → Prop), Inv X pins σ H s → RelV v u → t v σ H Q →
    wpAny (model X.prog X.w) X.A (assign target X.env u) (fun _ s' => ∃ σ' H', Inv X pins σ' H' s' ∧ Q σ' H') X.xe s
def PGs (X : Cx) (ts : List Expr) (t : TGs) : Prop :=
  ∀ (pins : List (Addr × Obj)) (s : Shared) (σ : St) (H : Hp) (vs : List V) (us : List Value) (Q : St → Hp → Prop), Inv X pins σ H s → Vals vs us → t vs σ H Q →
    wpAny (model X.prog X.w) X.A (assignInOrder ((assignEach ts X.env).map (·.2)) us) (fun _ s' => ∃ σ' H', Inv X pins σ' H' s' ∧ Q σ' H') X.xe s
abbrev TSet := V → V → V → Hp → (Hp → Prop) → Prop
def PSet (X : Cx) (t : TSet) : Prop :=
  ∀ (pins : List (Addr × Obj)) (s : Shared) (σ : St) (H : Hp) (o i v : V) (ov iv u : Value) (Q : Hp → Prop), Inv X pins σ H s → RelV o ov → RelV i iv → RelV v u → t o i v H Q →
    wpAny (model X.prog X.w) X.A (setItem ov iv u) (fun _ s' => ∃ H', Inv X pins σ H' s' ∧ Q H') X.xe s
abbrev TIp := V → V → Hp → VK → Prop
def PIp (X : Cx) (op : Operator) (t : TIp) : Prop :=
  ∀ (pins : List (Addr × Obj)) (s : Shared) (σ : St) (H : Hp) (x y : V) (v u : Value) (Q : VK), Inv X pins σ H s → RelV x v → RelV y u → t x y H Q →
    wpAny (model X.prog X.w) X.A (inplaceOp op v u) (EP X pins σ Q) X.xe s
section
variable {X : Cx} {pos : Pos}
def gName (i : Nat) : TG := fun v σ H Q => Q (σ.set i (some v)) H
theorem pg_name {i : Nat} {x : Str} (hN : X.N.Nodup) (hi : X.N[i]? = some x) (hx : Loc X.env.scope x) (hf : X.fn x = true ∨ X.env.scope.names.lookup x = some .local := by first | exact .inl rfl | exact .inr rfl | assumption) : PG X (.Name x pos) (gName i) := by
  intro pins s σ H v u Q I r h
  exact wpAny_assign_Name (store_ok I hN hi hx r (fun s' I' => ⟨_, H, I', h⟩) hf)
def gNil : TGs := fun vs σ H Q => vs = [] ∧ Q σ H
def gCons (t : TG) (u : TGs) : TGs := fun vs σ H Q => ∃ v r, vs = v :: r ∧ t v σ H fun σ' H' => u r σ' H' Q
theorem pgs_nil : PGs X [] gNil := by
  intro pins s σ H vs us Q I r h
  obtain ⟨e, h⟩ := h
  subst e
  cases r
  exact assignInOrder_nil ⟨σ, H, I, h⟩
theorem pgs_cons {e : Expr} {es : List Expr} {t : TG} {u : TGs} (h1 : PG X e t) (h2 : PGs X es u)
    (hs : (assignEach (e :: es) X.env).map (·.2) = assign e X.env :: (assignEach es X.env).map (·.2) := by rfl) : PGs X (e :: es) (gCons t u) := by
  intro pins s σ H vs us Q I r h
  obtain ⟨v, vr, e1, h⟩ := h
  subst e1
  cases r with
  | cons r rr =>
    rw [hs]
    refine assignInOrder_cons (thn (h1 pins s σ H _ _ _ I r h) fun _ s1 ⟨σ1, H1, I1, q1⟩ => ?_)
    exact h2 pins s1 σ1 H1 _ _ Q I1 rr q1
def gTup (K : PySem.W.Frag) (n : Nat) (t : TGs) : TG := fun v σ H Q => ∃ a xs, v = .ref a ∧ SqT K H a xs ∧ xs.length = n ∧ t xs σ H Q
theorem pg_tup {es : List Expr} {k : Nat} {t : TGs} {n : Nat} (hc : X.calm = true) (h : PGs X es t)
    (hn : (assignEach es X.env).length = n := by rfl) (hst : (assignEach es X.env).findIdx? (·.1) = none := by rfl) : PG X (.Tuple es k pos) (gTup X.K n t) := by
  intro pins s σ H v u Q I r hw
  obtain ⟨a, xs, e1, hq, hl, hw⟩ := hw
  subst e1
  cases r
  obtain ⟨its, rv, ht, hz⟩ := I.tuple hq
  refine assign_Tuple_tuple (I.ok.hd hc) ht (by simp [hn, ← hl, rv.length]) hst fun h' hx => ?_
  have I1 : Inv X pins σ H { s with heap := h' } := I.kept (t' := s.toks) fun b o e => hx b o (Nat.ne_of_lt (Heap.lt_size e)) e
  exact h pins _ σ H xs _ Q I1 (by simpa using rv) hw
def gSub (to ti : TE) (t : TSet) : TG := fun v σ H Q => to σ H fun o H1 => ti σ H1 fun i H2 => t o i v H2 fun H3 => Q σ H3
theorem pg_sub {o i : Expr} {to ti : TE} {t : TSet} (ho : PE X o to) (hi : PE X i ti) (hs : PSet X t)
    (ha : ∀ v, assign (.Subscript o i pos) X.env v = (do
      let ov ← holding [v] (eval o X.env)
      let iv ← holding [v, ov] (eval i X.env)
      standAt pos
      holding [v, ov, iv] (setItem ov iv v)
      release [v, ov, iv] []) := by intro _; rfl) : PG X (.Subscript o i pos) (gSub to ti t) := by
  intro pins s σ H v u Q I r h
  rw [ha]
  refine wpAny_bind (wpAny_holding (thn (ho pins s σ H _ I h) fun ov s1 ⟨x, H1, I1, r1, q1⟩ => ?_))
  refine wpAny_bind (wpAny_holding (thn (hi pins s1 σ H1 _ I1 q1) fun iv s2 ⟨y, H2, I2, r2, q2⟩ => ?_))
  refine wpAny_bind (wpAny_standAt (wpAny_bind (wpAny_holding (thn (hs pins s2 σ H2 x y v ov iv u _ I2 r1 r2 r q2) fun _ s3 ⟨H3, I3, q3⟩ => ?_))))
  exact wpAny_release ⟨σ, H3, I3, q3⟩
def tAsg (te : TE) (g : TG) : TS := fun D σ H => te σ H fun x H1 => g x σ H1 D.nx
theorem ps_asg {tg e : Expr} {te : TE} {g : TG} (he : PE X e te) (hg : PG X tg g) (hs : swapsWithSole [tg] e pos.line X.env = pure false := by rfl) (hw : swappedStores [tg] e X.env = pure none := by rfl)
    (h1 : (assignEach [tg] X.env).map (·.2) = [assign tg X.env] := by rfl) : PS X (.Assign [tg] e pos) (tAsg te g) := by
  intro pins s σ H D I h
  refine wpAny_Assign_stores (thn (he pins s σ H _ I h) fun v s1 ⟨x, H1, I1, r1, q1⟩ => ?_) hs hw
  rw [h1]
  exact thn (hg pins s1 σ H1 x v _ I1 r1 q1) fun _ s2 q => q
theorem ps_set {i : Nat} {x : Str} {e : Expr} {te : TE} {pos' : Pos} (hN : X.N.Nodup) (hi : X.N[i]? = some x) (hx : Loc X.env.scope x) (he : PE X e te) (hs : swapsWith e (some (.Name x pos')) pos.line X.env = pure false := by rfl) (hf : X.fn x = true ∨ X.env.scope.names.lookup x = some .local := by first | exact .inl rfl | exact .inr rfl | assumption) :
    PS X (.Assign [.Name x pos'] e pos) (tAsg te (gName i)) := by
  intro pins s σ H D I h
  refine wpAny_Assign_Name (thn (he pins s σ H _ I h) fun v s1 ⟨y, H1, I1, r1, q1⟩ => ?_) hs
  exact store_ok I1 hN hi hx r1 (fun s2 I2 => ⟨_, H1, I2, q1⟩) hf
def tPar (i j : Nat) (ta : TA) : TS := fun D σ H => ta σ H fun vs H1 => ∃ v w, vs = [v, w] ∧ D.nx ((σ.set i (some v)).set j (some w)) H1
def tAug (i : Nat) (te : TE) (ti : TIp) : TS := fun D σ H => ∃ x, σ[i]? = some (some x) ∧ te σ H fun y H1 => ti x y H1 fun z H2 => D.nx (σ.set i (some z)) H2
def tAugS (to ti te : TE) (tget : V → V → Hp → VK → Prop) (tip : TIp) (tset : TSet) : TS := fun D σ H => to σ H fun o H1 => ti σ H1 fun i H2 => tget o i H2 fun x H3 => te σ H3 fun y H4 => tip x y H4 fun z H5 => tset o i z H5 fun H6 => D.nx σ H6
def PGet (X : Cx) (t : V → V → Hp → VK → Prop) : Prop :=
  ∀ (pins : List (Addr × Obj)) (s : Shared) (σ : St) (H : Hp) (o i : V) (ov iv : Value) (Q : VK), Inv X pins σ H s → RelV o ov → RelV i iv → t o i H Q →
    wpAny (model X.prog X.w) X.A (getItem ov iv) (EP X pins σ Q) X.xe s
def ipI (f : Int → Int → Int) : TIp := fun x y H Q => ∃ i j, x = .int i ∧ y = .int j ∧ Q (.int (f i j)) H
end

section
variable {X : Cx} {pos : Pos}
def tWhile (c : TT) (tb : TS) : TS := fun D σ H => ∃ W : Nat → St → Hp → Prop, (∃ m, W m σ H) ∧ ∀ m σ H, W m σ H →
  c σ H fun b H1 => if b = true then ∃ N : St → Hp → Prop, (∀ σ' H', N σ' H' → ∃ m', m' < m ∧ W m' σ' H') ∧ tb { D with nx := N, ct := N, bk := D.nx } σ H1 else D.nx σ H1
theorem ps_while {c : Expr} {body : List Stmt} {tc : TT} {tb : TS} (hp : PassesOwn (model X.prog X.w) X.A X.env X.xe) (hc : PT X c tc) (hb : PSs X body tb) : PS X (.While c body [] pos) (tWhile tc tb) := by
  intro pins s σ H D I h
  obtain ⟨W, ⟨m0, w0⟩, turn⟩ := h
  refine wpAny_While (codeAny_whileLoop (fun n s' => ∃ σ' H', Inv X pins σ' H' s' ∧ W n σ' H') ?_ m0 ⟨σ, H, I, w0⟩)
  rintro n s1 ⟨σ1, H1, I1, w1⟩
  refine wpAny_passesOwn hp (thn (hc pins s1 σ1 H1 _ I1 (turn n σ1 H1 w1)) fun b s2 ⟨H2, I2, q2⟩ => ?_)
  cases b with
  | true =>
    obtain ⟨N, hN, q2⟩ := q2
    rw [if_pos rfl]
    refine wpAny_passesOwn hp (thn (hb pins s2 σ1 H2 _ I2 q2) fun f s3 q3 => ?_)
    cases f with
    | next =>
      obtain ⟨σ3, H3, I3, n3⟩ := q3
      obtain ⟨m', hm, w3⟩ := hN σ3 H3 n3
      exact ⟨m', hm, σ3, H3, I3, w3⟩
    | cont =>
      obtain ⟨σ3, H3, I3, n3⟩ := q3
      obtain ⟨m', hm, w3⟩ := hN σ3 H3 n3
      exact ⟨m', hm, σ3, H3, I3, w3⟩
    | brk => exact q3
    | ret v => exact q3
  | false =>
    rw [if_neg Bool.false_ne_true]
    exact wpAny_execs_nil ⟨σ1, H2, I2, q2⟩
end

structure It where
  go : Nat → Hp → Prop
  yld : Nat → Hp → V → Hp → Prop
  stop : Nat → Hp → Prop
def FpOk (X : Cx) (pins : List (Addr × Obj)) (H : Hp) (b : Addr) : Prop :=
  H b = none ∧ b ≠ X.env.locals ∧ b ∉ X.fs ∧ (b ∈ X.ex ∨ X.s₀.heap.objs.size ≤ b) ∧ (∀ x c, X.env.cells.lookup x = some c → c ≠ b) ∧ ∀ p ∈ X.pn ++ pins, p.1 ≠ b
theorem Inv.fpOk {X : Cx} {pins : List (Addr × Obj)} {σ : St} {H H' : Hp} {s : Shared} {b : Addr} (I : Inv X pins σ H s) (hb : s.heap.objs.size ≤ b) (hn : H' b = none) : FpOk X pins H' b := by
  refine ⟨hn, Nat.ne_of_gt (Nat.lt_of_lt_of_le I.lt hb), I.nofs hb, .inr (Nat.le_trans I.sz hb), fun x c e z => ?_, fun p hp z => ?_⟩
  · obtain ⟨v, q⟩ := I.cell x c e
    exact absurd (Nat.lt_of_lt_of_le q.lt (by rw [z]; exact hb)) (Nat.lt_irrefl _)
  · exact absurd (Nat.lt_of_lt_of_le (Heap.lt_size (I.pin p hp).1) (by rw [z]; exact hb)) (Nat.lt_irrefl _)
structure Turn (P : Program) (w : World) (K : PySem.W.Frag) (tg : Expr) (J : It) (fp : List Addr) (it : Addr) (tn : Nat → Heap → Prop) : Prop where
  mem : it ∈ fp
  obj : ∀ i h, tn i h → ∀ b ∈ fp, ∃ o, h.get? b = some o ∧ ∀ v, o.data ≠ .cell v
  keep : ∀ i h h', tn i h → (∀ b ∈ fp, ∀ o, h.get? b = some o → h'.get? b = some o) → tn i h'
  item : ∀ (X : Cx), X.prog = P → X.w = w → X.K = K → X.calm = true → ∀ (i : Nat) (pins : List (Addr × Obj)) (s : Shared) (σ : St) (H : Hp) (E : Value → Shared → Prop), Inv X pins σ H s → (∀ b ∈ fp, FpOk X pins H b) → tn i s.heap → J.go i H →
    wpAny (model P w) X.A (pyNext (.ref it)) (fun r s1 => ∃ u, r = some u ∧
      wpAny (model P w) X.A (letOwnedTupleGo tg (.ref it) u) (fun _ s2 => ∃ x H', Inv X pins σ H' s2 ∧ RelV x u ∧ J.yld i H x H' ∧ tn (i + 1) s2.heap ∧ ∀ b ∈ fp, H' b = none) E s1) E s
  done : ∀ (X : Cx), X.prog = P → X.w = w → X.K = K → X.calm = true → ∀ (i : Nat) (pins : List (Addr × Obj)) (s : Shared) (σ : St) (H : Hp) (E : Value → Shared → Prop), Inv X pins σ H s → (∀ b ∈ fp, FpOk X pins H b) → tn i s.heap → J.stop i H →
    wpAny (model P w) X.A (pyNext (.ref it)) (fun r s1 => r = none ∧ Inv X pins σ H s1) E s
  self : ∀ (A : Around) (i : Nat) (s : Shared) (Q : Value → Shared → Prop) (E : Value → Shared → Prop), tn i s.heap → Q (.ref it) s → wpAny (model P w) A (pyIter (.ref it)) Q E s
abbrev TI := St → Hp → (It → Hp → Prop) → Prop
def PIE (X : Cx) (pins : List (Addr × Obj)) (σ : St) (tg : Expr) (R : It → Hp → Prop) (itv : Value) (s2 : Shared) : Prop :=
  ∃ (it : Addr) (fp : List Addr) (tn : Nat → Heap → Prop) (J : It) (H' : Hp), itv = .ref it ∧ Inv X pins σ H' s2 ∧ Turn X.prog X.w X.K tg J fp it tn ∧ tn 0 s2.heap ∧ (∀ b ∈ fp, FpOk X pins H' b) ∧ R J H'
def PI (X : Cx) (tg iter : Expr) (wi : TI) : Prop :=
  ∀ (pins : List (Addr × Obj)) (s : Shared) (σ : St) (H : Hp) (R : It → Hp → Prop), Inv X pins σ H s → wi σ H R →
    wpAny (model X.prog X.w) X.A (eval iter X.env) (fun v s1 => wpAny (model X.prog X.w) X.A (pyIter v) (PIE X pins σ tg R) X.xe s1) X.xe s

theorem go_of {M : Model} {A : Around} {E : Value → Shared → Prop} {s : Shared} {tg : Expr} {it : Addr} {u : Value} {o : Obj} {n : String} {vs : Array Value} {Q : Unit → Shared → Prop} (ho : s.heap.get? it = some o) (hc : o.cls = .type n) (hd : o.data = .fields vs)
    (hn : ["enumerate", "zip", "dict_itemiterator", "dict_reverseitemiterator", "odict_iterator", "itertools.zip_longest", "itertools.pairwise"].contains n = false) (hQ : Q () s) : wpAny M A (letOwnedTupleGo tg (.ref it) u) Q E s := by
  unfold letOwnedTupleGo
  cases tg <;> first
    | exact wpAny_pure hQ
    | (cases u <;> first
        | exact wpAny_pure hQ
        | (refine wpAny_bind (wpAny_load ho ?_)
           rw [hc, hd]
           show wpAny M A (if (["enumerate", "zip", "dict_itemiterator", "dict_reverseitemiterator", "odict_iterator", "itertools.zip_longest", "itertools.pairwise"].contains n && vs[0]? == some (rawInt _)) = true then _ else _) Q E s
           rw [if_neg (by intro h; rw [hn, Bool.false_and] at h; cases h)]
           exact wpAny_pure hQ))

def Itl (K : PySem.W.Frag) (a : Addr) : It :=
  ⟨fun i H => ∃ xs x, SqL K H a xs ∧ xs[i]? = some x, fun i H x H' => H' = H ∧ ∀ xs, SqL K H a xs → xs[i]? = some x, fun i H => ∃ xs, SqL K H a xs ∧ xs.length ≤ i⟩
def Itt (K : PySem.W.Frag) (a : Addr) : It :=
  ⟨fun i H => ∃ xs x, SqT K H a xs ∧ xs[i]? = some x, fun i H x H' => H' = H ∧ ∀ xs, SqT K H a xs → xs[i]? = some x, fun i H => ∃ xs, SqT K H a xs ∧ xs.length ≤ i⟩
def Itr (lo : Int) (n : Nat) : It := ⟨fun i _ => i < n, fun i H x H' => H' = H ∧ x = .int (lo + i), fun i _ => n ≤ i⟩
theorem turn_list {P : Program} {w : World} {K : PySem.W.Frag} {tg : Expr} (a it : Addr) : Turn P w K tg (Itl K a) [it] it (fun i h => h.IsListIter it a i) where
  mem := by simp
  obj := fun i h st b hb => by
    have e : b = it := by simpa using hb
    subst e
    obtain ⟨o, e, c, d⟩ := st
    exact ⟨o, e, fun v z => by rw [d] at z; cases z⟩
  keep := fun i h h' st k => st.at fun o e => k it (by simp) o e
  item := by
    intro X hP hw hK hc i pins s σ H E I hf st hg
    subst hP hw hK
    obtain ⟨xs, x, hq, hx⟩ := hg
    obtain ⟨its, rv, p, hz⟩ := I.list hq
    obtain ⟨u, hu, ru⟩ := rv.get hx
    obtain ⟨f0, f1, f2, f3, f4, f5⟩ := hf it (by simp)
    refine wpAny_pyNext_list_item st p.isList (x := u) (by simpa using hu) fun h' st' sb => ?_
    have I1 : Inv X pins σ H { s with heap := h' } := I.turned (t' := s.toks) (fun b o hb e => (sb.2 b hb).trans e) f0 f1 f3 f4 f5
    obtain ⟨o, e, c, d⟩ := id st'
    exact ⟨u, rfl, go_of (s := { s with heap := h' }) e c d (by decide) ⟨x, H, I1, ru, ⟨rfl, fun ys hy => by rw [I.list_inj hy hq]; exact hx⟩, st', fun b hb => (hf b hb).1⟩⟩
  done := by
    intro X hP hw hK hc i pins s σ H E I hf st hg
    subst hP hw hK
    obtain ⟨xs, hq, hx⟩ := hg
    obtain ⟨its, rv, p, hz⟩ := I.list hq
    obtain ⟨f0, f1, f2, f3, f4, f5⟩ := hf it (by simp)
    have hl := rv.length
    exact wpAny_pyNext_list_end (I.ok.hd hc) st p.isList (by simp; omega) fun h' eb => ⟨rfl, I.turned (t' := s.toks) (fun b o hb e => eb b o hb e) f0 f1 f3 f4 f5⟩
  self := fun _ _ _ _ _ st h => wpAny_pyIter_listiter st h
theorem turn_tuple {P : Program} {w : World} {K : PySem.W.Frag} {tg : Expr} (a it : Addr) : Turn P w K tg (Itt K a) [it] it (fun i h => h.IsTupleIter it a i) where
  mem := by simp
  obj := fun i h st b hb => by
    have e : b = it := by simpa using hb
    subst e
    obtain ⟨o, e, c, d⟩ := st
    exact ⟨o, e, fun v z => by rw [d] at z; cases z⟩
  keep := fun i h h' st k => st.at fun o e => k it (by simp) o e
  item := by
    intro X hP hw hK hc i pins s σ H E I hf st hg
    subst hP hw hK
    obtain ⟨xs, x, hq, hx⟩ := hg
    obtain ⟨its, rv, p, hz⟩ := I.tuple hq
    obtain ⟨u, hu, ru⟩ := rv.get hx
    obtain ⟨f0, f1, f2, f3, f4, f5⟩ := hf it (by simp)
    refine wpAny_pyNext_tuple_item st (show s.heap.IsTuple a its.toArray from p) (x := u) (by simpa using hu) fun h' st' sb => ?_
    have I1 : Inv X pins σ H { s with heap := h' } := I.turned (t' := s.toks) (fun b o hb e => (sb.2 b hb).trans e) f0 f1 f3 f4 f5
    obtain ⟨o, e, c, d⟩ := id st'
    exact ⟨u, rfl, go_of (s := { s with heap := h' }) e c d (by decide) ⟨x, H, I1, ru, ⟨rfl, fun ys hy => by rw [I.tuple_inj hy hq]; exact hx⟩, st', fun b hb => (hf b hb).1⟩⟩
  done := by
    intro X hP hw hK hc i pins s σ H E I hf st hg
    subst hP hw hK
    obtain ⟨xs, hq, hx⟩ := hg
    obtain ⟨its, rv, p, hz⟩ := I.tuple hq
    obtain ⟨f0, f1, f2, f3, f4, f5⟩ := hf it (by simp)
    have hl := rv.length
    exact wpAny_pyNext_tuple_end (I.ok.hd hc) st (show s.heap.IsTuple a its.toArray from p) (by simp; omega) fun h' eb => ⟨rfl, I.turned (t' := s.toks) (fun b o hb e => eb b o hb e) f0 f1 f3 f4 f5⟩
  self := fun _ _ _ _ _ st h => wpAny_pyIter_tupleiter st h
theorem turn_range {P : Program} {w : World} {K : PySem.W.Frag} {tg : Expr} (it : Addr) (lo : Int) (n : Nat) : Turn P w K tg (Itr lo n) [it] it (fun i h => IsRangeIter h it (lo + (i : Nat) * 1) ((n : Int) - (i : Nat)) 1) where
  mem := by simp
  obj := fun i h st b hb => by
    have e : b = it := by simpa using hb
    subst e
    exact ⟨_, st, fun v z => by
      have z' : Data.fields _ = Data.cell v := z
      cases z'⟩
  keep := fun i h h' st k => k it (by simp) _ st
  item := by
    intro X hP hw hK hc i pins s σ H E I hf st hg
    subst hP hw hK
    obtain ⟨f0, f1, f2, f3, f4, f5⟩ := hf it (by simp)
    have W := Walks.range (prog := X.prog) (w := X.w) (I.ok.hd hc) it lo 1 n
    refine W.item i s _ _ hg st fun v h' tk hv st' kk => ?_
    obtain ⟨t, rfl⟩ := hv
    have I1 : Inv X pins σ H { s with heap := h', toks := tk } := I.turned (fun b o hb e => kk b o (by simpa using hb) e) f0 f1 f3 f4 f5
    refine ⟨_, rfl, go_of (s := { s with heap := h', toks := tk }) (n := "range_iterator") st' rfl rfl (by decide) ⟨.int (lo + i), H, I1, ⟨t, ?_⟩, ⟨rfl, rfl⟩, st', fun b hb => (hf b hb).1⟩⟩
    rw [Int.mul_one]
  done := by
    intro X hP hw hK hc i pins s σ H E I hf st hg
    subst hP hw hK
    obtain ⟨f0, f1, f2, f3, f4, f5⟩ := hf it (by simp)
    exact wpAny_pyNext_range_end (I.ok.hd hc) st (by have : n ≤ i := hg; omega) fun h' eb => ⟨rfl, I.turned (t' := s.toks) (fun b o hb e => eb b o hb e) f0 f1 f3 f4 f5⟩
  self := fun _ _ _ _ _ st h => wpAny_pyIter_rangeiter st h
end L2

namespace L2
open PySem PySem.Spec PyProof.Rows
section
variable {X : Cx} {tg : Expr}
def iList (K : PySem.W.Frag) (tl : TE) : TI := fun σ H R => tl σ H fun x H1 => ∃ a, x = .ref a ∧ (∃ xs, SqL K H1 a xs) ∧ R (Itl K a) H1
def iTup (K : PySem.W.Frag) (tl : TE) : TI := fun σ H R => tl σ H fun x H1 => ∃ a, x = .ref a ∧ (∃ xs, SqT K H1 a xs) ∧ R (Itt K a) H1
theorem pi_list {l : Expr} {tl : TE} (hl : PE X l tl) : PI X tg l (iList X.K tl) := by
  intro pins s σ H R I h
  refine thn (hl pins s σ H _ I h) fun v s1 ⟨x, H1, I1, r1, q1⟩ => ?_
  obtain ⟨a, e, ⟨xs, hq⟩, q⟩ := q1
  subst e
  cases r1
  obtain ⟨its, rv, p, hz⟩ := I1.list hq
  refine wpAny_pyIter_list p.isList ?_
  refine ⟨s1.heap.objs.size, [s1.heap.objs.size], _, _, H1, rfl, I1.kept (t' := s1.toks) fun b o e => Heap.get?_push_of_some _ e, turn_list a _, ⟨_, Heap.get?_push_size _ rfl, rfl, rfl⟩, fun b hb => ?_, q⟩
  have e : b = s1.heap.objs.size := by simpa using hb
  subst e
  exact I1.fpOk (Nat.le_refl _) (I1.hok.fresh (Nat.le_refl _))
theorem pi_tup {l : Expr} {tl : TE} (hl : PE X l tl) : PI X tg l (iTup X.K tl) := by
  intro pins s σ H R I h
  refine thn (hl pins s σ H _ I h) fun v s1 ⟨x, H1, I1, r1, q1⟩ => ?_
  obtain ⟨a, e, ⟨xs, hq⟩, q⟩ := q1
  subst e
  cases r1
  obtain ⟨its, rv, p, hz⟩ := I1.tuple hq
  refine wpAny_pyIter_tuple (show s1.heap.IsTuple a its.toArray from p) ?_
  refine ⟨s1.heap.objs.size, [s1.heap.objs.size], _, _, H1, rfl, I1.kept (t' := s1.toks) fun b o e => Heap.get?_push_of_some _ e, turn_tuple a _, ⟨_, Heap.get?_push_size _ rfl, rfl, rfl⟩, fun b hb => ?_, q⟩
  have e : b = s1.heap.objs.size := by simpa using hb
  subst e
  exact I1.fpOk (Nat.le_refl _) (I1.hok.fresh (Nat.le_refl _))
theorem range_it {pins : List (Addr × Obj)} {σ : St} {H : Hp} {s : Shared} {R : It → Hp → Prop} {E : Value → Shared → Prop} {lo hi : Int} {t u v : Tok} {tk : Nat} (I : Inv X pins σ H s) (h1 : -(2 ^ 62) ≤ lo) (h2 : lo < 2 ^ 62) (h3 : -(2 ^ 62) ≤ hi) (h4 : hi < 2 ^ 62)
    (q : R (Itr lo (hi - lo).toNat) H) : wpAny (model X.prog X.w) X.A (pyIter (.ref s.heap.objs.size)) (PIE X pins σ tg R) E { s with heap := s.heap.push { cls := .type "range", data := .fields #[.int lo t, .int hi u, .int 1 v] }, toks := tk } := by
  refine wpAny_pyIter_range (IsRange.new ..) (small_one h1 h2 h3 h4) ?_
  have I1 : Inv X pins σ H { s with heap := s.heap.push { cls := .type "range", data := .fields #[.int lo t, .int hi u, .int 1 v] }, toks := tk } := I.kept fun b o e => Heap.get?_push_of_some _ e
  refine ⟨(s.heap.push { cls := .type "range", data := .fields #[.int lo t, .int hi u, .int 1 v] }).objs.size, [(s.heap.push { cls := .type "range", data := .fields #[.int lo t, .int hi u, .int 1 v] }).objs.size], _, _, H, rfl,
    I1.kept (t' := tk) fun b o e => Heap.get?_push_of_some _ e, turn_range _ lo (hi - lo).toNat, ?_, fun b hb => ?_, q⟩
  · have e1 : lo + ((0 : Nat) : Int) * 1 = lo := by simp
    have e2 : (((hi - lo).toNat : Nat) : Int) - ((0 : Nat) : Int) = Builtin.Range.rangeSize lo hi 1 := by rw [rangeSize_one]; split <;> omega
    show IsRangeIter _ _ (lo + ((0 : Nat) : Int) * 1) ((((hi - lo).toNat : Nat) : Int) - ((0 : Nat) : Int)) 1
    rw [e1, e2]
    exact Heap.get?_push_size _ rfl
  · have e : b = (s.heap.push { cls := .type "range", data := .fields #[.int lo t, .int hi u, .int 1 v] }).objs.size := by simpa using hb
    subst e
    exact I1.fpOk (Nat.le_refl _) (I1.hok.fresh (Nat.le_refl _))
def iRng1 (ta : TA) : TI := fun σ H R => ta σ H fun vs H1 => ∃ j : Int, vs = [.int j] ∧ -(2 ^ 62) ≤ j ∧ j < 2 ^ 62 ∧ R (Itr 0 j.toNat) H1
def iRng2 (ta : TA) : TI := fun σ H R => ta σ H fun vs H1 => ∃ i j : Int, vs = [.int i, .int j] ∧ (-(2 ^ 62) ≤ i ∧ i < 2 ^ 62 ∧ -(2 ^ 62) ≤ j ∧ j < 2 ^ 62) ∧ R (Itr i (j - i).toNat) H1
theorem pi_range1 {a : Expr} {ta : TA} {p pos : Pos} (hg : Gl X "range") (hm : X.mg "range" = none) (ha : PA X [a] ta) (hs : starEach [a] X.env = [(false, eval a X.env)] := by rfl) : PI X tg (.Call (.Name "range" p) [a] [] pos) (iRng1 ta) := by
  intro pins s σ H R I h
  refine Call_ (ld_blt I hg hm boot_range (PyProof.Rows.callWith_type1 (thn (ha pos pins s σ H _ I h) fun us s1 ⟨vs, H1, I1, r1, q1⟩ => ?_) hs rfl))
  obtain ⟨j, e, q1, q2, q⟩ := q1
  subst e
  cases r1 with
  | cons r rr =>
    cases rr
    obtain ⟨t, rfl⟩ := r
    exact call_range_1 (range_it I1 (by omega) (by omega) q1 q2 (by simpa using q))
def tFor (wi : TI) (g : TG) (tb : TS) : TS := fun D σ H => wi σ H fun J H1 => ∃ W : Nat → Nat → St → Hp → Prop, (∃ m, W 0 m σ H1) ∧ ∀ i m σ H, W i m σ H →
  (J.stop i H ∧ D.nx σ H) ∨ (J.go i H ∧ ∃ N : St → Hp → Prop, (∀ σ' H', N σ' H' → ∃ m', m' < m ∧ W (i + 1) m' σ' H') ∧ ∀ x H', J.yld i H x H' → g x σ H' fun σ2 H2 => tb { D with nx := N, ct := N, bk := D.nx } σ2 H2)
def pinsAt (fp : List Addr) (h : Heap) : List (Addr × Obj) := fp.filterMap fun b => (h.get? b).map fun o => (b, o)
theorem mem_pinsAt {fp : List Addr} {h : Heap} {b : Addr} {o : Obj} (hb : b ∈ fp) (e : h.get? b = some o) : (b, o) ∈ pinsAt fp h := List.mem_filterMap.mpr ⟨b, hb, by rw [e]; rfl⟩
theorem of_pinsAt {fp : List Addr} {h : Heap} {p : Addr × Obj} (hp : p ∈ pinsAt fp h) : p.1 ∈ fp ∧ h.get? p.1 = some p.2 := by
  obtain ⟨b, hb, e⟩ := List.mem_filterMap.mp hp
  cases q : h.get? b with
  | none => rw [q] at e; cases e
  | some o =>
    rw [q] at e
    have e' : (b, o) = p := Option.some.inj e
    subst e'
    exact ⟨hb, q⟩
theorem Inv.pinned {pins : List (Addr × Obj)} {σ : St} {H : Hp} {s : Shared} {fp : List Addr} (I : Inv X pins σ H s) (hf : ∀ b ∈ fp, FpOk X pins H b) (ho : ∀ b ∈ fp, ∃ o, s.heap.get? b = some o ∧ ∀ v, o.data ≠ .cell v) : Inv X (pins ++ pinsAt fp s.heap) σ H s :=
  I.pins_of fun p hp => (List.mem_append.mp hp).elim (fun z => I.pin p (List.mem_append_right _ z)) fun z => by
    obtain ⟨hb, e⟩ := of_pinsAt z
    obtain ⟨f0, f1, f2, _⟩ := hf p.1 hb
    obtain ⟨o, e', d⟩ := ho p.1 hb
    rw [e] at e'; cases e'
    exact ⟨e, f0, f1, f2, d⟩
theorem Inv.unpinned {pins pl : List (Addr × Obj)} {σ : St} {H : Hp} {s : Shared} (I : Inv X (pins ++ pl) σ H s) : Inv X pins σ H s := I.pins_of fun p hp => I.pin p (List.mem_append_right _ (List.mem_append_left _ hp))
theorem ps_for {iter : Expr} {body : List Stmt} {wi : TI} {g : TG} {tb : TS} {pos : Pos} (hp : PassesOwn (model X.prog X.w) X.A X.env X.xe) (hc : X.calm = true) (hi : PI X tg iter wi) (hg : PG X tg g) (hb : PSs X body tb)
    (hs : ∀ x, foldedSetIterable iter X.env x = pure x := by intro _; rfl) : PS X (.For tg iter body [] pos) (tFor wi g tb) := by
  intro pins s σ H D I h
  refine wpAny_For (thn (hi pins s σ H _ I h) fun v s1 h1 => thn h1 fun itv s2 h2 => ?_) hs
  obtain ⟨it, fp, tn, J, H2, e, I2, T, st2, f2, W, ⟨m0, w0⟩, turn⟩ := h2
  subst e
  -- what stays true of the iterator's objects through the loop
  have stat : ∀ {H' : Hp}, (∀ b ∈ fp, H' b = none) → ∀ b ∈ fp, FpOk X pins H' b := fun hn b hb => ⟨hn b hb, (f2 b hb).2⟩
  refine codeAny_forLoop_any (fun n s' => ∃ i σ' H', Inv X pins σ' H' s' ∧ tn i s'.heap ∧ (∀ b ∈ fp, H' b = none) ∧ W i n σ' H') ?_ m0 ⟨0, σ, H2, I2, st2, fun b hb => (f2 b hb).1, w0⟩
  rintro n s3 ⟨i, σ3, H3, I3, st3, fr3, w3⟩
  rcases turn i n σ3 H3 w3 with ⟨stop, qn⟩ | ⟨go, N, hN, step⟩
  · refine wpAny_passesOwn hp (thn (T.done X rfl rfl rfl hc i pins s3 σ3 H3 X.xe I3 (stat fr3) st3 stop) fun r s4 ⟨hr, I4⟩ => ?_)
    subst hr
    exact wpAny_execs_nil ⟨σ3, H3, I4, qn⟩
  · refine wpAny_passesOwn hp (thn (T.item X rfl rfl rfl hc i pins s3 σ3 H3 X.xe I3 (stat fr3) st3 go) fun r s4 ⟨u, hr, h4⟩ => ?_)
    subst hr
    refine wpAny_passesOwn hp (thn h4 fun _ s5 ⟨x, H5, I5, r5, y5, st5, fr5⟩ => ?_)
    have I5' := I5.pinned (stat fr5) (T.obj _ _ st5)
    refine wpAny_passesOwn hp (thn (hg _ s5 σ3 H5 x u _ I5' r5 (step x H5 y5)) fun _ s6 ⟨σ6, H6, I6, q6⟩ => ?_)
    refine wpAny_passesOwn hp (thn (hb _ s6 σ6 H6 _ I6 q6) fun f s7 q7 => ?_)
    have again : ∀ {σ7 : St} {H7 : Hp}, Inv X (pins ++ pinsAt fp s5.heap) σ7 H7 s7 → N σ7 H7 → ∃ m, m < n ∧ ∃ i σ' H', Inv X pins σ' H' s7 ∧ tn i s7.heap ∧ (∀ b ∈ fp, H' b = none) ∧ W i m σ' H' := fun {σ7 H7} I7 n7 => by
      obtain ⟨m', hm, w7⟩ := hN σ7 H7 n7
      refine ⟨m', hm, i + 1, σ7, H7, I7.unpinned, T.keep _ _ _ st5 fun b hb o e => (I7.pin (b, o) (List.mem_append_right _ (List.mem_append_right _ (mem_pinsAt hb e)))).1, fun b hb => ?_, w7⟩
      obtain ⟨o, e, d⟩ := T.obj _ _ st5 b hb
      exact (I7.pin (b, o) (List.mem_append_right _ (List.mem_append_right _ (mem_pinsAt hb e)))).2.1
    cases f with
    | next => obtain ⟨σ7, H7, I7, n7⟩ := q7; exact again I7 n7
    | cont => obtain ⟨σ7, H7, I7, n7⟩ := q7; exact again I7 n7
    | brk => obtain ⟨σ7, H7, I7, q7⟩ := q7; exact ⟨σ7, H7, I7.unpinned, q7⟩
    | ret v => obtain ⟨x7, σ7, H7, I7, r7, q7⟩ := q7; exact ⟨x7, σ7, H7, I7.unpinned, r7, q7⟩
end

theorem for_list {K : PySem.W.Frag} {a : Addr} {xs : List V} {g : TG} {tb : TS} {D : Ends} {σ : St} {H : Hp} (Pv : Nat → St → Hp → Prop) (h0 : Pv 0 σ H) (hl : ∀ i σ H, i ≤ xs.length → Pv i σ H → SqL K H a xs)
    (hs : ∀ i x σ H, xs[i]? = some x → Pv i σ H → g x σ H fun σ2 H2 => tb { D with nx := Pv (i + 1), ct := Pv (i + 1), bk := D.nx } σ2 H2) (hd : ∀ σ H, Pv xs.length σ H → D.nx σ H) :
    ∃ W : Nat → Nat → St → Hp → Prop, (∃ m, W 0 m σ H) ∧ ∀ i m σ H, W i m σ H →
      ((Itl K a).stop i H ∧ D.nx σ H) ∨ ((Itl K a).go i H ∧ ∃ N : St → Hp → Prop, (∀ σ' H', N σ' H' → ∃ m', m' < m ∧ W (i + 1) m' σ' H') ∧ ∀ x H', (Itl K a).yld i H x H' → g x σ H' fun σ2 H2 => tb { D with nx := N, ct := N, bk := D.nx } σ2 H2) := by
  refine ⟨fun i m σ H => m = xs.length - i ∧ i ≤ xs.length ∧ Pv i σ H, ⟨xs.length, by simp, Nat.zero_le _, h0⟩, ?_⟩
  rintro i m σ H ⟨rfl, hi, p⟩
  have q := hl i σ H hi p
  by_cases hlt : i < xs.length
  · refine .inr ⟨⟨xs, xs[i], q, by simp [hlt]⟩, Pv (i + 1), fun σ' H' p' => ⟨xs.length - (i + 1), by omega, rfl, hlt, p'⟩, fun x H' y => ?_⟩
    obtain ⟨e, y⟩ := y
    subst e
    exact hs i x σ _ (y xs q) p
  · have e : i = xs.length := by omega
    subst e
    exact .inl ⟨⟨xs, q, Nat.le_refl _⟩, hd σ H p⟩
theorem for_tup {K : PySem.W.Frag} {a : Addr} {xs : List V} {g : TG} {tb : TS} {D : Ends} {σ : St} {H : Hp} (Pv : Nat → St → Hp → Prop) (h0 : Pv 0 σ H) (hl : ∀ i σ H, i ≤ xs.length → Pv i σ H → SqT K H a xs)
    (hs : ∀ i x σ H, xs[i]? = some x → Pv i σ H → g x σ H fun σ2 H2 => tb { D with nx := Pv (i + 1), ct := Pv (i + 1), bk := D.nx } σ2 H2) (hd : ∀ σ H, Pv xs.length σ H → D.nx σ H) :
    ∃ W : Nat → Nat → St → Hp → Prop, (∃ m, W 0 m σ H) ∧ ∀ i m σ H, W i m σ H →
      ((Itt K a).stop i H ∧ D.nx σ H) ∨ ((Itt K a).go i H ∧ ∃ N : St → Hp → Prop, (∀ σ' H', N σ' H' → ∃ m', m' < m ∧ W (i + 1) m' σ' H') ∧ ∀ x H', (Itt K a).yld i H x H' → g x σ H' fun σ2 H2 => tb { D with nx := N, ct := N, bk := D.nx } σ2 H2) := by
  refine ⟨fun i m σ H => m = xs.length - i ∧ i ≤ xs.length ∧ Pv i σ H, ⟨xs.length, by simp, Nat.zero_le _, h0⟩, ?_⟩
  rintro i m σ H ⟨rfl, hi, p⟩
  have q := hl i σ H hi p
  by_cases hlt : i < xs.length
  · refine .inr ⟨⟨xs, xs[i], q, by simp [hlt]⟩, Pv (i + 1), fun σ' H' p' => ⟨xs.length - (i + 1), by omega, rfl, hlt, p'⟩, fun x H' y => ?_⟩
    obtain ⟨e, y⟩ := y
    subst e
    exact hs i x σ _ (y xs q) p
  · have e : i = xs.length := by omega
    subst e
    exact .inl ⟨⟨xs, q, Nat.le_refl _⟩, hd σ H p⟩
theorem for_range {lo : Int} {n : Nat} {g : TG} {tb : TS} {D : Ends} {σ : St} {H : Hp} (Pv : Nat → St → Hp → Prop) (h0 : Pv 0 σ H)
    (hs : ∀ i σ H, i < n → Pv i σ H → g (.int (lo + i)) σ H fun σ2 H2 => tb { D with nx := Pv (i + 1), ct := Pv (i + 1), bk := D.nx } σ2 H2) (hd : ∀ σ H, Pv n σ H → D.nx σ H) :
    ∃ W : Nat → Nat → St → Hp → Prop, (∃ m, W 0 m σ H) ∧ ∀ i m σ H, W i m σ H →
      ((Itr lo n).stop i H ∧ D.nx σ H) ∨ ((Itr lo n).go i H ∧ ∃ N : St → Hp → Prop, (∀ σ' H', N σ' H' → ∃ m', m' < m ∧ W (i + 1) m' σ' H') ∧ ∀ x H', (Itr lo n).yld i H x H' → g x σ H' fun σ2 H2 => tb { D with nx := N, ct := N, bk := D.nx } σ2 H2) := by
  refine ⟨fun i m σ H => m = n - i ∧ i ≤ n ∧ Pv i σ H, ⟨n, by simp, Nat.zero_le _, h0⟩, ?_⟩
  rintro i m σ H ⟨rfl, hi, p⟩
  by_cases hlt : i < n
  · refine .inr ⟨hlt, Pv (i + 1), fun σ' H' p' => ⟨n - (i + 1), by omega, rfl, hlt, p'⟩, fun x H' y => ?_⟩
    obtain ⟨e, y⟩ := y
    subst e y
    exact hs i σ _ hlt p
  · have e : i = n := by omega
    subst e
    exact .inl ⟨Nat.le_refl _, hd σ H p⟩
theorem while_by {c : TT} {tb : TS} {D : Ends} {σ : St} {H : Hp} (Pv : St → Hp → Prop) (μ : St → Hp → Nat) (h0 : Pv σ H)
    (hs : ∀ σ H, Pv σ H → c σ H fun b H1 => if b = true then tb { D with nx := fun σ' H' => Pv σ' H' ∧ μ σ' H' < μ σ H, ct := fun σ' H' => Pv σ' H' ∧ μ σ' H' < μ σ H, bk := D.nx } σ H1 else D.nx σ H1)
    (mono : ∀ σ H Q Q', (∀ b H1, Q b H1 → Q' b H1) → c σ H Q → c σ H Q') : tWhile c tb D σ H := by
  refine ⟨fun m σ H => m = μ σ H ∧ Pv σ H, ⟨_, rfl, h0⟩, ?_⟩
  rintro m σ H ⟨rfl, p⟩
  refine mono σ H _ _ (fun b H1 q => ?_) (hs σ H p)
  cases b with
  | true => exact ⟨_, fun σ' H' ⟨p', l⟩ => ⟨_, l, rfl, p'⟩, q⟩
  | false => exact q
end L2

namespace L2
open PySem PySem.Spec PyProof.Rows

abbrev R2 := V → V → Hp → VK → Prop
def OpR (X : Cx) (f : Value → Value → Sem Value) (r : R2) : Prop :=
  ∀ (pins : List (Addr × Obj)) (s : Shared) (σ : St) (H : Hp) (x y : V) (v u : Value) (Q : VK), Inv X pins σ H s → RelV x v → RelV y u → r x y H Q →
    wpAny (model X.prog X.w) X.A (f v u) (EP X pins σ Q) X.xe s
def UnR (X : Cx) (f : Value → Sem Value) (r : V → Hp → VK → Prop) : Prop :=
  ∀ (pins : List (Addr × Obj)) (s : Shared) (σ : St) (H : Hp) (x : V) (v : Value) (Q : VK), Inv X pins σ H s → RelV x v → r x H Q →
    wpAny (model X.prog X.w) X.A (f v) (EP X pins σ Q) X.xe s
def CallR (X : Cx) (f : Value) (r : List V → Hp → VK → Prop) : Prop :=
  ∀ (pins : List (Addr × Obj)) (s : Shared) (σ : St) (H : Hp) (xs : List V) (us : List Value) (Q : VK), Inv X pins σ H s → Vals xs us → r xs H Q →
    wpAny (model X.prog X.w) X.A (call f us) (EP X pins σ Q) X.xe s
def TruR (X : Cx) (r : V → Hp → (Bool → Hp → Prop) → Prop) : Prop :=
  ∀ (pins : List (Addr × Obj)) (s : Shared) (σ : St) (H : Hp) (x : V) (v : Value) (Q : Bool → Hp → Prop), Inv X pins σ H s → RelV x v → r x H Q →
    wpAny (model X.prog X.w) X.A (truthy v) (TP X pins σ Q) X.xe s

def tOp (r : R2) (ta tb : TE) : TE := fun σ H Q => ta σ H fun x H1 => tb σ H1 fun y H2 => r x y H2 Q
def tUn (r : V → Hp → VK → Prop) (ta : TE) : TE := fun σ H Q => ta σ H fun x H1 => r x H1 Q
def rI (C : Int → Int → Prop) (g : Int → Int → V) : R2 := fun x y H Q => ∃ i j, x = .int i ∧ y = .int j ∧ C i j ∧ Q (g i j) H
def rI0 (g : Int → Int → V) : R2 := fun x y H Q => ∃ i j, x = .int i ∧ y = .int j ∧ Q (g i j) H
def rU (g : Int → V) : V → Hp → VK → Prop := fun x H Q => ∃ i, x = .int i ∧ Q (g i) H

section
variable {X : Cx} {a b c : Expr} {ta tb tc : TE} {pos : Pos}

theorem binT (ha : PE X a ta) (hb : PE X b tb) {pins : List (Addr × Obj)} {s : Shared} {σ : St} {H : Hp} {R : V → V → Hp → Prop} (I : Inv X pins σ H s)
    (h : ta σ H fun x H1 => tb σ H1 fun y H2 => R x y H2) {Q : Value → Shared → Prop} {f : Value → Value → Sem Value}
    (hf : ∀ v u s2 x y H2, Inv X pins σ H2 s2 → RelV x v → RelV y u → R x y H2 → wpAny (model X.prog X.w) X.A (f v u) Q X.xe s2) :
    wpAny (model X.prog X.w) X.A (eval a X.env) (fun v s₁ => wpAny (model X.prog X.w) X.A (eval b X.env) (fun u s₂ => wpAny (model X.prog X.w) X.A (f v u) Q X.xe s₂) X.xe s₁) X.xe s := by
  refine thn (ha pins s σ H _ I h) fun v s1 ⟨x, H1, I1, r1, q1⟩ => ?_
  refine thn (hb pins s1 σ H1 _ I1 q1) fun u s2 ⟨y, H2, I2, r2, q2⟩ => ?_
  exact hf v u s2 x y H2 I2 r1 r2 q2

theorem pe_op {op : Operator} {r : R2} (ho : OpR X (binaryOp op) r) (ha : PE X a ta) (hb : PE X b tb) : PE X (.BinOp a op b pos) (tOp r ta tb) := by
  intro pins s σ H Q I h
  exact wpAny_BinOp (binT ha hb I h fun v u s2 x y H2 I2 rx ry q => ho pins s2 σ H2 x y v u Q I2 rx ry q)
theorem pe_un {op : UnaryOp} {r : V → Hp → VK → Prop} (ho : UnR X (unaryOp op) r) (ha : PE X a ta) : PE X (.UnaryOp op a pos) (tUn r ta) := by
  intro pins s σ H Q I h
  exact UnaryOp_ (thn (ha pins s σ H _ I h) fun v s1 ⟨x, H1, I1, r1, q1⟩ => ho pins s1 σ H1 x v Q I1 r1 q1)
theorem opI {f : Value → Value → Sem Value} {C : Int → Int → Prop} {g : Int → Int → Int}
    (rule : ∀ (i j : Int) (t u : Tok) (s : Shared) (Q : Value → Shared → Prop) (E : Value → Shared → Prop), C i j → Q (.int (g i j) s.toks) { s with toks := s.toks + 1 } → wpAny (model X.prog X.w) X.A (f (.int i t) (.int j u)) Q E s) :
    OpR X f (rI C fun i j => .int (g i j)) := by
  intro pins s σ H x y v u Q I rx ry h
  obtain ⟨i, j, rfl, rfl, hc, q⟩ := h
  obtain ⟨t, rfl⟩ := rx
  obtain ⟨t', rfl⟩ := ry
  exact rule i j t t' s _ _ hc ⟨.int (g i j), H, I.tok _, ⟨_, rfl⟩, q⟩
theorem opI0 {f : Value → Value → Sem Value} {g : Int → Int → Int}
    (rule : ∀ (i j : Int) (t u : Tok) (s : Shared) (Q : Value → Shared → Prop) (E : Value → Shared → Prop), Q (.int (g i j) s.toks) { s with toks := s.toks + 1 } → wpAny (model X.prog X.w) X.A (f (.int i t) (.int j u)) Q E s) :
    OpR X f (rI0 fun i j => .int (g i j)) := by
  intro pins s σ H x y v u Q I rx ry h
  obtain ⟨i, j, rfl, rfl, q⟩ := h
  obtain ⟨t, rfl⟩ := rx
  obtain ⟨t', rfl⟩ := ry
  exact rule i j t t' s _ _ ⟨.int (g i j), H, I.tok _, ⟨_, rfl⟩, q⟩
theorem opB0 {f : Value → Value → Sem Value} {g : Int → Int → Bool}
    (rule : ∀ (i j : Int) (t u : Tok) (s : Shared) (Q : Value → Shared → Prop) (E : Value → Shared → Prop), Q (.bool (g i j)) s → wpAny (model X.prog X.w) X.A (f (.int i t) (.int j u)) Q E s) :
    OpR X f (rI0 fun i j => .bl (g i j)) := by
  intro pins s σ H x y v u Q I rx ry h
  obtain ⟨i, j, rfl, rfl, q⟩ := h
  obtain ⟨t, rfl⟩ := rx
  obtain ⟨t', rfl⟩ := ry
  exact rule i j t t' s _ _ ⟨.bl (g i j), H, I, rfl, q⟩

def CDiv (i j : Int) : Prop := 0 < j ∧ j < 1073741824
def CDivN (i j : Int) : Prop := j ≠ 0 ∧ j.natAbs < 1073741824
def CPow (i j : Int) : Prop := 0 ≤ j ∧ j ≤ 1000000 ∧ i.natAbs < 2 ^ 64
def CMul (i j : Int) : Prop := (-(2 ^ 64) < i ∧ i < 2 ^ 64) ∨ (-(2 ^ 64) < j ∧ j < 2 ^ 64)
theorem CMul.ok {i j : Int} (h : CMul i j) : IntMulOk i j := by
  rcases h with ⟨h1, h2⟩ | ⟨h1, h2⟩
  · exact .of_left (intBits_le_64 h1 h2)
  · exact .of_right (intBits_le_64 h1 h2)
theorem two_pow_nn (k : Nat) : (0 : Int) ≤ 2 ^ k := by
  rw [two_pow_cast]
  exact Int.natCast_nonneg _

theorem op_add : OpR X (binaryOp .Add) (rI0 fun i j => .int (i + j)) := opI0 fun _ _ _ _ _ _ _ q => add_int q
theorem op_sub : OpR X (binaryOp .Sub) (rI0 fun i j => .int (i - j)) := opI0 fun _ _ _ _ _ _ _ q => sub_int q
theorem op_mul : OpR X (binaryOp .Mult) (rI CMul fun i j => .int (i * j)) := opI fun _ _ _ _ _ _ _ hc q => mul_int q hc.ok
theorem op_mod : OpR X (binaryOp .Mod) (rI (fun _ j => 0 < j) fun i j => .int (i % j)) := opI fun i j _ _ _ _ _ hc q => by
  have h1 : (0 : Int) < j := hc
  exact mod_int' (by omega) (by rw [Int.fmod_eq_emod_of_nonneg i (by omega)]; exact q)
theorem op_pow : OpR X (binaryOp .Pow) (rI CPow fun i j => .int (i ^ j.toNat)) := opI fun _ _ _ _ _ _ _ hc q => pow_int_small hc.1 hc.2.1 hc.2.2 q
theorem op_shl : OpR X (binaryOp .LShift) (rI CPow fun i j => .int (i * 2 ^ j.toNat)) := opI fun _ _ _ _ _ _ _ hc q => lshift_int_small hc.1 hc.2.1 hc.2.2 q
theorem op_shr : OpR X (binaryOp .RShift) (rI (fun _ j => 0 ≤ j) fun i j => .int (i / 2 ^ j.toNat)) := opI fun i j _ _ _ _ _ hc q =>
  rshift_int hc (by rw [Int.fdiv_eq_ediv_of_nonneg i (two_pow_nn _)]; exact q)
theorem op_and : OpR X (binaryOp .BitAnd) (rI0 fun i j => .int (Builtin.bitAnd i j)) := opI0 fun _ _ _ _ _ _ _ q => and_int q
theorem op_or : OpR X (binaryOp .BitOr) (rI0 fun i j => .int (Builtin.bitOr i j)) := opI0 fun _ _ _ _ _ _ _ q => or_int q
theorem op_xor : OpR X (binaryOp .BitXor) (rI0 fun i j => .int (Builtin.bitXor i j)) := opI0 fun _ _ _ _ _ _ _ q => xor_int q

theorem unI {f : Value → Sem Value} {g : Int → Int}
    (rule : ∀ (i : Int) (t : Tok) (s : Shared) (Q : Value → Shared → Prop) (E : Value → Shared → Prop), Q (.int (g i) s.toks) { s with toks := s.toks + 1 } → wpAny (model X.prog X.w) X.A (f (.int i t)) Q E s) :
    UnR X f (rU fun i => .int (g i)) := by
  intro pins s σ H x v Q I rx h
  obtain ⟨i, rfl, q⟩ := h
  obtain ⟨t, rfl⟩ := rx
  exact rule i t s _ _ ⟨.int (g i), H, I.tok _, ⟨_, rfl⟩, q⟩
theorem un_neg : UnR X (unaryOp .USub) (rU fun i => .int (-i)) := unI fun _ _ _ _ _ q => neg_int q
theorem un_inv : UnR X (unaryOp .Invert) (rU fun i => .int (Builtin.bitNot i)) := unI fun _ _ _ _ _ q => invert_int q

end

def scal : V → V → Bool
  | .non, .non => true | .non, .int _ => true | .int _, .non => true | .non, .bl _ => true | .bl _, .non => true | .non, .str _ => true | .str _, .non => true
  | .int _, .int _ => true | .bl _, .bl _ => true | .str _, .str _ => true | .byt _, .byt _ => true
  | .int _, .str _ => true | .str _, .int _ => true | .bl _, .str _ => true | .str _, .bl _ => true
  | _, _ => false
def rEq : R2 := fun x y H Q => scal x y = true ∧ Q (.bl (decide (x = y))) H
def rNe : R2 := fun x y H Q => scal x y = true ∧ Q (.bl (!decide (x = y))) H

theorem dec_int {i j : Int} : decide (V.int i = V.int j) = (i == j) := by
  rw [Bool.eq_iff_iff]
  simp
theorem dec_bl {i j : Bool} : decide (V.bl i = V.bl j) = (i == j) := by
  rw [Bool.eq_iff_iff]
  simp
theorem dec_str {i j : Str} : decide (V.str i = V.str j) = (i == j) := by
  rw [Bool.eq_iff_iff]
  simp
theorem dec_byt {i j : Array UInt8} : decide (V.byt i = V.byt j) = (i.toList == j.toList) := by
  rw [Bool.eq_iff_iff]
  cases i
  cases j
  simp

section
variable {X : Cx} {a b c : Expr} {ta tb tc : TE} {pos : Pos}
theorem fin_bl {pins : List (Addr × Obj)} {σ : St} {H : Hp} {s : Shared} {Q : VK} {k k' : Bool} (I : Inv X pins σ H s) (q : Q (.bl k) H) (e : k = k') : EP X pins σ Q (.bool k') s := by
  subst e
  exact ⟨.bl k, H, I, rfl, q⟩
theorem op_eq : OpR X (compareOp .Eq) rEq := by
  intro pins s σ H x y v u Q I rx ry h
  obtain ⟨hs, q⟩ := h
  cases x with
  | non =>
    cases rx
    cases y with
    | non => cases ry; exact PySem.EqNone.eq_none_none (fin_bl I q (by simp))
    | bl j => cases ry; exact PySem.EqNone.eq_none_bool (fin_bl I q (by simp))
    | int j => obtain ⟨t', rfl⟩ := ry; exact PySem.EqNone.eq_none_int (fin_bl I q (by simp))
    | str j => obtain ⟨t', rfl⟩ := ry; exact PySem.EqNone.eq_none_str (fin_bl I q (by simp))
    | _ => exact absurd (show false = true from hs) Bool.false_ne_true
  | bl i =>
    cases rx
    cases y with
    | non => cases ry; exact PySem.EqNone.eq_bool_none (fin_bl I q (by simp))
    | bl j => cases ry; exact eq_bool (fin_bl I q dec_bl)
    | str j => obtain ⟨t', rfl⟩ := ry; exact PySem.EqMixed.eq_bool_str (fin_bl I q (by simp))
    | _ => exact absurd (show false = true from hs) Bool.false_ne_true
  | int i =>
    obtain ⟨t, rfl⟩ := rx
    cases y with
    | non => cases ry; exact PySem.EqNone.eq_int_none (fin_bl I q (by simp))
    | int j => obtain ⟨t', rfl⟩ := ry; exact eq_int (fin_bl I q dec_int)
    | str j => obtain ⟨t', rfl⟩ := ry; exact PySem.EqMixed.eq_int_str (fin_bl I q (by simp))
    | _ => exact absurd (show false = true from hs) Bool.false_ne_true
  | str i =>
    obtain ⟨t, rfl⟩ := rx
    cases y with
    | non => cases ry; exact PySem.EqNone.eq_str_none (fin_bl I q (by simp))
    | bl j => cases ry; exact PySem.EqMixed.eq_str_bool (fin_bl I q (by simp))
    | int j => obtain ⟨t', rfl⟩ := ry; exact PySem.EqMixed.eq_str_int (fin_bl I q (by simp))
    | str j => obtain ⟨t', rfl⟩ := ry; exact eq_str (fin_bl I q dec_str)
    | _ => exact absurd (show false = true from hs) Bool.false_ne_true
  | byt i =>
    obtain ⟨t, rfl⟩ := rx
    cases y with
    | byt j => obtain ⟨t', rfl⟩ := ry; exact PySem.W.eq_bytes (fin_bl I q dec_byt)
    | _ => exact absurd (show false = true from hs) Bool.false_ne_true
  | _ => cases y <;> exact absurd (show false = true from hs) Bool.false_ne_true
theorem op_ne : OpR X (compareOp .NotEq) rNe := by
  intro pins s σ H x y v u Q I rx ry h
  obtain ⟨hs, q⟩ := h
  cases x with
  | non =>
    cases rx
    cases y with
    | non => cases ry; exact PySem.EqNone.ne_none_none (fin_bl I q (by simp))
    | bl j => cases ry; exact PySem.EqNone.ne_none_bool (fin_bl I q (by simp))
    | int j => obtain ⟨t', rfl⟩ := ry; exact PySem.EqNone.ne_none_int (fin_bl I q (by simp))
    | str j => obtain ⟨t', rfl⟩ := ry; exact PySem.EqNone.ne_none_str (fin_bl I q (by simp))
    | _ => exact absurd (show false = true from hs) Bool.false_ne_true
  | bl i =>
    cases rx
    cases y with
    | non => cases ry; exact PySem.EqNone.ne_bool_none (fin_bl I q (by simp))
    | bl j => cases ry; exact ne_bool (fin_bl I q (congrArg not dec_bl))
    | str j => obtain ⟨t', rfl⟩ := ry; exact PySem.EqMixed.ne_bool_str (fin_bl I q (by simp))
    | _ => exact absurd (show false = true from hs) Bool.false_ne_true
  | int i =>
    obtain ⟨t, rfl⟩ := rx
    cases y with
    | non => cases ry; exact PySem.EqNone.ne_int_none (fin_bl I q (by simp))
    | int j => obtain ⟨t', rfl⟩ := ry; exact ne_int (fin_bl I q (congrArg not dec_int))
    | str j => obtain ⟨t', rfl⟩ := ry; exact PySem.EqMixed.ne_int_str (fin_bl I q (by simp))
    | _ => exact absurd (show false = true from hs) Bool.false_ne_true
  | str i =>
    obtain ⟨t, rfl⟩ := rx
    cases y with
    | non => cases ry; exact PySem.EqNone.ne_str_none (fin_bl I q (by simp))
    | bl j => cases ry; exact PySem.EqMixed.ne_str_bool (fin_bl I q (by simp))
    | int j => obtain ⟨t', rfl⟩ := ry; exact PySem.EqMixed.ne_str_int (fin_bl I q (by simp))
    | str j => obtain ⟨t', rfl⟩ := ry; exact ne_str (fin_bl I q (congrArg not dec_str))
    | _ => exact absurd (show false = true from hs) Bool.false_ne_true
  | byt i =>
    obtain ⟨t, rfl⟩ := rx
    cases y with
    | byt j => obtain ⟨t', rfl⟩ := ry; exact PySem.W.ne_bytes (fin_bl I q (congrArg not dec_byt))
    | _ => exact absurd (show false = true from hs) Bool.false_ne_true
  | _ => cases y <;> exact absurd (show false = true from hs) Bool.false_ne_true

theorem op_lt : OpR X (compareOp .Lt) (rI0 fun i j => .bl (decide (i < j))) := opB0 fun _ _ _ _ _ _ _ q => lt_int q
theorem op_le : OpR X (compareOp .LtE) (rI0 fun i j => .bl (decide (i ≤ j))) := opB0 fun _ _ _ _ _ _ _ q => le_int q
theorem op_gt : OpR X (compareOp .Gt) (rI0 fun i j => .bl (decide (j < i))) := opB0 fun _ _ _ _ _ _ _ q => gt_int q
theorem op_ge : OpR X (compareOp .GtE) (rI0 fun i j => .bl (decide (j ≤ i))) := opB0 fun _ _ _ _ _ _ _ q => ge_int q
theorem op_in_str : OpR X (compareOp .In) (fun x y H Q => ∃ i j, x = .str i ∧ y = .str j ∧ Q (.bl (!(Builtin.Str.occurrences j i 0 j.length 1).isEmpty)) H) := by
  intro pins s σ H x y v u Q I rx ry h
  obtain ⟨i, j, rfl, rfl, q⟩ := h
  obtain ⟨t, rfl⟩ := rx
  obtain ⟨t', rfl⟩ := ry
  exact in_str (fin_bl I q rfl)

def isObj : HO → Bool
  | .lst _ => true
  | .ins _ _ _ => true
  | _ => false
theorem nomark (b : Expr) {op : CmpOp} (h : op ≠ .In := by decide) (h2 : op ≠ .NotIn := by decide) : behindInMarks op b = false := by
  have e1 : (op == CmpOp.In) = false := by cases op <;> first | rfl | exact absurd rfl h
  have e2 : (op == CmpOp.NotIn) = false := by cases op <;> first | rfl | exact absurd rfl h2
  cases b <;> simp [behindInMarks, e1, e2]
theorem pe_cmpR {op : CmpOp} {r : R2} (ho : OpR X (compareOp op) r) (ha : PE X a ta) (hb : PE X b tb) (hm : behindInMarks op b = false) : PE X (.Compare a [op] [b] pos) (tOp r ta tb) := by
  intro pins s σ H Q I h
  exact wpAny_Compare1 (binT ha hb I h fun v u s2 x y H2 I2 rx ry q => ho pins s2 σ H2 x y v u Q I2 rx ry q) hm
def tTest (t : TE) : TT := fun σ H Q => t σ H fun x H' => ∃ k, x = .bl k ∧ Q k H'
theorem pt_cmpR {op : CmpOp} {r : R2} (ho : OpR X (compareOp op) r) (ha : PE X a ta) (hb : PE X b tb) (hm : behindInMarks op b = false) : PT X (.Compare a [op] [b] pos) (tTest (tOp r ta tb)) := by
  intro pins s σ H Q I h
  refine wpAny_isTrue_Compare1 (thn (ha pins s σ H _ I h) fun v s1 ⟨x, H1, I1, r1, q1⟩ => thn (hb pins s1 σ H1 _ I1 q1) fun u s2 ⟨y, H2, I2, r2, q2⟩ =>
    thn (ho pins s2 σ H2 x y v u _ I2 r1 r2 q2) fun c s3 ⟨z, H3, I3, r3, k, e, q3⟩ => ?_) hm
  subst e
  cases r3
  exact wpAny_truthy_bool ⟨H3, I3, q3⟩
def tChain (r r' : R2) (ta tb tc : TE) : TE := fun σ H Q => ta σ H fun x H1 => tb σ H1 fun y H2 => r x y H2 fun z H3 => ∃ k, z = .bl k ∧
  (if k = true then tc σ H3 fun w' H4 => r' y w' H4 Q else Q (.bl false) H3)
theorem pe_chain {op op' : CmpOp} {r r' : R2} (ho : OpR X (compareOp op) r) (ho' : OpR X (compareOp op') r') (ha : PE X a ta) (hb : PE X b tb) (hc : PE X c tc)
    (hm : lastMarks [op, op'] [b, c] = false := by with_unfolding_all rfl) : PE X (.Compare a [op, op'] [b, c] pos) (tChain r r' ta tb tc) := by
  intro pins s σ H Q I h
  refine Compare_chain (thn (ha pins s σ H _ I h) fun v s1 ⟨x, H1, I1, r1, q1⟩ => chain_link (thn (hb pins s1 σ H1 _ I1 q1) fun u s2 ⟨y, H2, I2, r2, q2⟩ =>
    thn (ho pins s2 σ H2 x y v u _ I2 r1 r2 q2) fun d s3 ⟨z, H3, I3, r3, k, e, q3⟩ => ?_)) hm
  subst e
  cases r3
  refine wpAny_truthy_bool ?_
  cases k with
  | false => exact ite_ff ⟨.bl false, H3, I3, rfl, q3⟩
  | true => exact ite_tt (chain_last (thn (hc pins s3 σ H3 _ I3 q3) fun w' s4 ⟨z', H4, I4, r4, q4⟩ => ho' pins s4 σ H4 y z' u w' Q I4 r2 r4 q4))
theorem pt_chain {op op' : CmpOp} {r r' : R2} (ho : OpR X (compareOp op) r) (ho' : OpR X (compareOp op') r') (ha : PE X a ta) (hb : PE X b tb) (hc : PE X c tc)
    (hm : lastMarks [op, op'] [b, c] = false := by with_unfolding_all rfl) : PT X (.Compare a [op, op'] [b, c] pos) (tTest (tChain r r' ta tb tc)) := by
  intro pins s σ H Q I h
  refine isTrue_chain (thn (ha pins s σ H _ I h) fun v s1 ⟨x, H1, I1, r1, q1⟩ => test_link (thn (hb pins s1 σ H1 _ I1 q1) fun u s2 ⟨y, H2, I2, r2, q2⟩ =>
    thn (ho pins s2 σ H2 x y v u _ I2 r1 r2 q2) fun d s3 ⟨z, H3, I3, r3, k, e, q3⟩ => ?_)) hm
  subst e
  cases r3
  refine wpAny_truthy_bool ?_
  cases k with
  | false =>
    obtain ⟨k', e', q'⟩ := q3
    cases e'
    exact ite_ff ⟨H3, I3, q'⟩
  | true =>
    refine ite_tt (test_last (thn (hc pins s3 σ H3 _ I3 q3) fun w' s4 ⟨z', H4, I4, r4, q4⟩ => thn (ho' pins s4 σ H4 y z' u w' _ I4 r2 r4 q4) fun d' s5 ⟨z2, H5, I5, r5, k2, e2, q5⟩ => ?_))
    subst e2
    cases r5
    exact wpAny_truthy_bool ⟨H5, I5, q5⟩

def TruV (K : PySem.W.Frag) (x : V) (H : Hp) (k : Bool) : Prop :=
  match x with
  | .non => k = false
  | .bl b => k = b
  | .int i => k = (i != 0)
  | .str y => y.length ≤ sizeLine ∧ k = ((y.length : Int) != 0)
  | .byt y => y.size ≤ sizeLine ∧ k = ((y.size : Int) != 0)
  | .ref p => (∃ xs, SqL K H p xs ∧ k = !xs.isEmpty) ∨ (∃ xs, SqT K H p xs ∧ k = !xs.isEmpty) ∨ ∃ kvs, H p = some (.dK kvs) ∧ k = !kvs.isEmpty
  | _ => False
theorem isEmpty_kv {κ : Type} {kvs : List (κ × V)} {vs : List (κ × Value)} (r : KV kvs vs) : (!vs.isEmpty) = !kvs.isEmpty := by
  cases r <;> rfl
theorem isEmpty_of {xs : List V} {its : List Value} (r : Vals xs its) : (!its.toArray.isEmpty) = !xs.isEmpty := by
  cases r <;> simp
theorem line63 : (sizeLine : Nat) < 2 ^ 63 := by rw [sizeLine_eq]; decide
theorem tru_ok : TruR X (fun x H Q => ∃ k, TruV X.K x H k ∧ Q k H) := by
  intro pins s σ H x v Q I rx h
  obtain ⟨k, e, q⟩ := h
  have hl := line63
  have hs : sizeLine = 16777216 := sizeLine_eq
  cases x with
  | non =>
    cases rx
    have e' : k = false := e
    subst e'
    exact truthy_none ⟨H, I, q⟩
  | bl b =>
    cases rx
    have e' : k = b := e
    subst e'
    exact wpAny_truthy_bool ⟨H, I, q⟩
  | int i =>
    obtain ⟨t, rfl⟩ := rx
    have e' : k = (i != 0) := e
    subst e'
    exact PySem.P.truthy_int ⟨H, I, q⟩
  | str y =>
    obtain ⟨t, rfl⟩ := rx
    obtain ⟨hy, e'⟩ : y.length ≤ sizeLine ∧ k = ((y.length : Int) != 0) := e
    subst e'
    exact PySem.P.truthy_str (by omega) ⟨H, I.tok _, q⟩
  | byt y =>
    obtain ⟨t, rfl⟩ := rx
    obtain ⟨hy, e'⟩ : y.size ≤ sizeLine ∧ k = ((y.size : Int) != 0) := e
    subst e'
    exact PySem.W.truthy_bytes (by omega) ⟨H, I.tok _, q⟩
  | ref p =>
    cases rx
    have e' : (∃ xs, SqL X.K H p xs ∧ k = !xs.isEmpty) ∨ (∃ xs, SqT X.K H p xs ∧ k = !xs.isEmpty) ∨ ∃ kvs, H p = some (.dK kvs) ∧ k = !kvs.isEmpty := e
    rcases e' with ⟨xs, hx, e'⟩ | ⟨xs, hx, e'⟩ | ⟨kvs, hx, e'⟩
    · subst e'
      obtain ⟨its, r, pl, hz⟩ := I.list hx
      have hlen := r.length
      exact wpAny_truthy_list pl.isList (by simp only [List.size_toArray]; omega) ⟨H, I.tok _, by rw [isEmpty_of r]; exact q⟩
    · subst e'
      obtain ⟨its, r, pl, hz⟩ := I.tuple hx
      have hlen := r.length
      exact truthy_tuple pl (by simp only [List.size_toArray]; omega) ⟨H, I.tok _, by rw [isEmpty_of r]; exact q⟩
    · subst e'
      obtain ⟨hz, hS, vs, r, m⟩ : kvs.length ≤ sizeLine ∧ (p == sysModules) = false ∧ ∃ vs, KV kvs vs ∧ s.heap.DictOf (mixKind X.prog X.w) p vs := I.hok p _ hx
      have hlen : kvs.length = vs.length := Paired.length r
      exact wpAny_truthy_dict hS m (by omega) ⟨H, I.tok _, by rw [isEmpty_kv r]; exact q⟩
  | _ => exact (show False from e).elim
theorem pt_truth (ha : PE X a ta) (he : ∀ whole, isTrue a X.env whole = (do let v ← whole; standAt a.pos; holding [v] (truthy v))) :
    PT X a (fun σ H Q => ta σ H fun x H' => ∃ k, TruV X.K x H' k ∧ Q k H') := by
  intro pins s σ H Q I h
  exact isTrue_plain (thn (ha pins s σ H _ I h) fun v s1 ⟨x, H1, I1, r1, q1⟩ => tru_ok pins s1 σ H1 x v Q I1 r1 q1) (he _)

theorem op_add_str : OpR X (binaryOp .Add) (fun x y H Q => ∃ i j, x = .str i ∧ y = .str j ∧ i.length + j.length ≤ sizeLine ∧ Q (.str (i ++ j)) H) := by
  intro pins s σ H x y v u Q I rx ry h
  obtain ⟨i, j, rfl, rfl, hz, q⟩ := h
  obtain ⟨t, rfl⟩ := rx
  obtain ⟨t', rfl⟩ := ry
  exact add_str (fun t' tk => ⟨.str (i ++ j), H, I.tok _, ⟨_, rfl⟩, q⟩) hz
def PlainIxT (b : Expr) : Prop := ∀ o i, subscripted b false o i = operate [o, i] (getItem o i)
theorem vals1 {x : V} {us : List Value} (r : Vals [x] us) : ∃ u, us = [u] ∧ RelV x u := by
  cases r with
  | cons r1 r2 => cases r2; exact ⟨_, rfl, r1⟩
theorem vals2 {x y : V} {us : List Value} (r : Vals [x, y] us) : ∃ u w', us = [u, w'] ∧ RelV x u ∧ RelV y w' := by
  cases r with
  | cons r1 r2 =>
    cases r2 with
    | cons r3 r4 => cases r4; exact ⟨_, _, rfl, r1, r3⟩
theorem call_min2 (hc : X.calm = true) : CallR X (.builtin "min") (fun xs H Q => ∃ i j, xs = [.int i, .int j] ∧ Q (.int (if j < i then j else i)) H) := by
  intro pins s σ H xs us Q I r h
  obtain ⟨i, j, rfl, q⟩ := h
  obtain ⟨u, w', rfl, ⟨t, rfl⟩, ⟨t', rfl⟩⟩ := vals2 r
  refine min_two_ints (I.ok.hd hc) fun h' tk k => ⟨_, H, I.kept k, ?_, q⟩
  by_cases hj : j < i
  · rw [if_pos hj, if_pos hj]; exact ⟨_, rfl⟩
  · rw [if_neg hj, if_neg hj]; exact ⟨_, rfl⟩
theorem call_int1 : CallR X (.type "int") (fun xs H Q => (∃ i, xs = [.int i] ∧ Q (.int i) H) ∨ ∃ k, xs = [.bl k] ∧ Q (.int (if k then 1 else 0)) H) := by
  intro pins s σ H xs us Q I r h
  rcases h with ⟨i, rfl, q⟩ | ⟨k, rfl, q⟩
  · obtain ⟨u, rfl, t, rfl⟩ := vals1 r
    exact call_int_int ⟨.int i, H, I, ⟨_, rfl⟩, q⟩
  · obtain ⟨u, rfl, r1⟩ := vals1 r
    cases r1
    exact call_int_bool ⟨.int (if k then 1 else 0), H, I.tok _, ⟨_, rfl⟩, q⟩
def LenV (K : PySem.W.Frag) (x : V) (H : Hp) (n : Nat) : Prop :=
  match x with
  | .str y => y.length ≤ sizeLine ∧ n = y.length
  | .byt y => y.size ≤ sizeLine ∧ n = y.size
  | .ref p => (∃ xs, SqL K H p xs ∧ n = xs.length) ∨ ∃ xs, SqT K H p xs ∧ n = xs.length
  | _ => False
theorem call_len : CallR X (.builtin "len") (fun xs H Q => ∃ x n, xs = [x] ∧ LenV X.K x H n ∧ Q (.int n) H) := by
  intro pins s σ H xs us Q I r h
  obtain ⟨x, n, rfl, e, q⟩ := h
  obtain ⟨u, rfl, rx⟩ := vals1 r
  have hl := line63
  have hs : sizeLine = 16777216 := sizeLine_eq
  cases x with
  | str y =>
    obtain ⟨t, rfl⟩ := rx
    obtain ⟨hy, e'⟩ : y.length ≤ sizeLine ∧ n = y.length := e
    subst e'
    exact len_str (by omega) ⟨.int _, H, I.tok _, ⟨_, rfl⟩, q⟩
  | byt y =>
    obtain ⟨t, rfl⟩ := rx
    obtain ⟨hy, e'⟩ : y.size ≤ sizeLine ∧ n = y.size := e
    subst e'
    exact PySem.W.len_bytes (by omega) ⟨.int _, H, I.tok _, ⟨_, rfl⟩, q⟩
  | ref p =>
    cases rx
    have e' : (∃ xs, SqL X.K H p xs ∧ n = xs.length) ∨ ∃ xs, SqT X.K H p xs ∧ n = xs.length := e
    rcases e' with ⟨xs, hx, e'⟩ | ⟨xs, hx, e'⟩
    · subst e'
      obtain ⟨its, r', pl, hz⟩ := I.list hx
      have hlen := r'.length
      exact Calls.call_len_list pl.isList (by simp only [List.size_toArray]; omega) ⟨.int xs.length, H, I.tok _, ⟨_, by simp only [List.size_toArray]; rw [hlen]⟩, q⟩
    · subst e'
      obtain ⟨its, r', pl, hz⟩ := I.tuple hx
      have hlen := r'.length
      exact len_tuple pl (by simp only [List.size_toArray]; omega) ⟨.int xs.length, H, I.tok _, ⟨_, by simp only [List.size_toArray]; rw [hlen]⟩, q⟩
  | _ => exact (show False from e).elim
end
end L2

namespace L2
open PySem PySem.Spec PyProof.Rows

structure ObjM (h : Heap) (x dx C : Addr) (mA : Str → Option Value) : Prop where
  obj : h.get? x = some (PySem.W.instObj C dx)
  ns : h.Ns1 dx mA
  ne : dx ≠ x

theorem lookIn_ns {h : Heap} {dx : Addr} {mA : Str → Option Value} (n : h.Ns1 dx mA) : ∃ od, h.get? dx = some od ∧ ∀ name, PySem.W.lookIn name od = some (mA name) := by
  obtain ⟨o, es, ep, ho, hd, hk, _, hm⟩ := n
  refine ⟨o, ho, fun name => ?_⟩
  have e := hm name
  unfold nsFind findBy at e
  rw [← Array.find?_toList] at e
  unfold PySem.W.lookIn
  rw [hd]
  dsimp only
  split
  · rename_i y q
    rw [q] at e
    exact congrArg some e
  · rename_i q
    rw [q] at e
    have a : es.toList.any (·.refKey) = false := by
      rw [List.any_eq_false]
      intro y hy
      obtain ⟨z, t, hkey⟩ := hk y (Array.mem_toList_iff.mp hy)
      simp [DictEntry.refKey, hkey]
    have a' : ¬ es.toList.any (·.refKey) = true := by rw [a]; exact Bool.false_ne_true
    rw [if_neg a']
    exact congrArg some e

theorem ObjM.look {h : Heap} {x dx C : Addr} {mA : Str → Option Value} (I : ObjM h x dx C mA) : ∃ od, PySem.W.InstAt h x (PySem.W.instObj C dx) C (some od) ∧ ∀ name, PySem.W.lookIn name od = some (mA name) :=
  let ⟨od, ho, hl⟩ := lookIn_ns I.ns
  ⟨od, ⟨I.obj, rfl, rfl, ho⟩, hl⟩

section
variable {prog : Program} {w : World} {A : Around} {E : Value → Shared → Prop} {s : Shared} {K : PySem.W.Frag} {x dx C f : Addr} {mA : Str → Option Value} {name : Str} {v : Value}

theorem get_map {expr : Bool} {Q : Value → Shared → Prop} (X : K.In s.heap) (I : ObjM s.heap x dx C mA) (hg : PySem.W.plainGet K C name = true) (hh : PySem.W.hasDictIn K C = true)
    (ha : PySem.W.findIn K (.ref C) name = some none) (hv : mA name = some v) (hv' : PySem.W.handedIn v = true) (h : Q v { s with toks := s.toks + 1 }) :
    wpAny (model prog w) A (getAttr (.ref x) name expr) Q E s := by
  obtain ⟨od, J, hl⟩ := I.look
  exact PySem.W.get_value X J (PySem.W.plainGet_of hg).1 (PySem.W.findObj_own hh ha rfl (by rw [hl, hv])) hv' h

theorem get_meth {pl : Sem Bool} {Q : Value × List Value → Shared → Prop} (X : K.In s.heap) (I : ObjM s.heap x dx C mA) (hg : PySem.W.plainGet K C name = true)
    (hf : PySem.W.findIn K (.ref C) name = some (some (.ref f))) (ht : PySem.W.isFn K (.ref f) = true) (hv : mA name = none) (h : Q (.ref f, [.ref x]) s) :
    wpAny (model prog w) A (getMethod (.ref x) name pl) Q E s := by
  obtain ⟨od, J, hl⟩ := I.look
  exact PySem.W.method_fn X J (PySem.W.plainGet_of hg).1 (PySem.W.plainGet_of hg).2 hf (beq_iff_eq.mp ht) (by show (PySem.W.lookIn name od).map (·.isSome) = some false; rw [hl, hv]; rfl) h

theorem set_map {ns : List Str} {Q : Unit → Shared → Prop} (X : K.In s.heap) (I : ObjM s.heap x dx C mA)
    (hs : PySem.W.findIn K (.ref C) "__setattr__" = some (some (.builtin "object.__setattr__"))) (hp : PySem.W.plainOver K C = true) (ht : PySem.W.takerIn K C name = some none) (hh : PySem.W.hasDictIn K C = true)
    (hw : PySem.Within mA ns) (hsz : ns.length ≤ sizeLine)
    (h : ∀ h', ObjM h' x dx C (fun y => if y = name then some v else mA y) → Heap.SameBut dx s.heap h' → Q () { s with heap := h', toks := s.toks + 2 }) :
    wpAny (model prog w) A (setAttr (.ref x) name v) Q E s := by
  obtain ⟨od, J, hl⟩ := I.look
  refine PySem.W.set_plain X J hs (PySem.W.osa_open (s := { s with toks := s.toks + 1 }) (r := none) X J hp ht fun b => ?_)
  obtain ⟨cd, hc, hd'⟩ := PySem.W.any_some hh
  have hx : s.heap.get? x = some ⟨.ref C, some dx, .plain, #[]⟩ := I.obj
  refine wpAny_bind (wpAny_pure (wpAny_bind (wpAny_bind (wpAny_loadPart hx (wpAny_bind (PySem.W.Looks.here (s := { s with toks := s.toks + 1 }) (PySem.W.looks_clsIn X hc) ?_))))))
  rw [hd']
  refine wpAny_pure (a := some dx) (wpAny_bind (wpAny_pure (wpAny_bind ?_)))
  refine wpAny_nsSet1 (s := { s with toks := s.toks + 1 }) I.ns fun h' hn2 hs2 => ?_
  obtain ⟨oD, esD, epD, hoD, hdD, hcD⟩ := hn2.count (PySem.Within.cons name v hw)
  refine wpAny_bind (wpAny_lookBehind hoD (by rw [hdD]; exact pastItsLine_dict (Nat.le_trans hcD (by rw [List.length_cons]; omega))) ?_)
  exact wpAny_pure (h _ ⟨(hs2.2 _ (Ne.symm I.ne)).trans I.obj, hn2, I.ne⟩ hs2)

theorem make_map {R : Result → Shared → Prop} {vs : List Value} {kw : List (Str × Value)} (X : K.In s.heap) (hm : PySem.W.makesIn K C = true)
    (hi : PySem.W.findIn K (.ref C) "__init__" = some (some (.ref f))) (hf : PySem.W.typeIn K (.ref f) = some (.type "function"))
    (h : codeAny (model prog w) (A.under (.builtin "type.__call__" ⟨.ref C :: vs, kw⟩)) (.call (.ref f) ⟨.ref (s.heap.objs.size + 1) :: vs, kw⟩) (PySem.W.InitBack (s.heap.objs.size + 1) R)
      { s with heap := (s.heap.push PySem.W.emptyDict).push (PySem.W.instObj C s.heap.objs.size) }) :
    codeAny (model prog w) A (.call (.ref C) ⟨vs, kw⟩) R s := by
  obtain ⟨hh, g, d, t, os⟩ := s
  exact PySem.W.make_core (PySem.W.makes_of X hm) (PySem.W.looks_findIn X hi) (fun self => PySem.W.bind_fn X self hf) (.inl rfl) h
end

def putF (f : Str) (v : V) : List (Str × V) → List (Str × V)
  | [] => [(f, v)]
  | (g, x) :: r => if g = f then (g, v) :: r else (g, x) :: putF f v r
theorem lookup_putF (f g : Str) (v : V) : ∀ fs : List (Str × V), (putF f v fs).lookup g = if g = f then some v else fs.lookup g
  | [] => by
    show List.lookup g [(f, v)] = _
    by_cases h : g = f
    · have hb : (g == f) = true := beq_iff_eq.mpr h
      simp only [List.lookup, hb, if_pos h]
    · have hb : (g == f) = false := beq_eq_false_iff_ne.mpr h
      simp only [List.lookup, hb, if_neg h]
  | (k, x) :: r => by
    have ih := lookup_putF f g v r
    rw [show putF f v ((k, x) :: r) = (if k = f then (k, v) :: r else (k, x) :: putF f v r) from rfl]
    by_cases hk : k = f
    · rw [if_pos hk]
      by_cases h : g = k
      · have hb : (g == k) = true := beq_iff_eq.mpr h
        simp only [List.lookup, hb, if_pos (h.trans hk)]
      · have hb : (g == k) = false := beq_eq_false_iff_ne.mpr h
        simp only [List.lookup, hb, if_neg (fun e : g = f => h (e.trans hk.symm))]
    · rw [if_neg hk]
      by_cases h : g = k
      · have hb : (g == k) = true := beq_iff_eq.mpr h
        simp only [List.lookup, hb, if_neg (fun e : g = f => hk (h.symm.trans e))]
      · have hb : (g == k) = false := beq_eq_false_iff_ne.mpr h
        simp only [List.lookup, hb]
        exact ih
theorem keys_putF (f : Str) (v : V) : ∀ fs : List (Str × V), f ∈ (putF f v fs).map (·.1) ∧ ∀ g, g ∈ fs.map (·.1) → g ∈ (putF f v fs).map (·.1)
  | [] => ⟨by simp [putF], fun g h => by simp at h⟩
  | (k, x) :: r => by
    obtain ⟨i1, i2⟩ := keys_putF f v r
    rw [show putF f v ((k, x) :: r) = (if k = f then (k, v) :: r else (k, x) :: putF f v r) from rfl]
    by_cases hk : k = f
    · rw [if_pos hk]
      subst hk
      exact ⟨by simp, fun g h => by simpa using h⟩
    · rw [if_neg hk]
      refine ⟨?_, fun g h => ?_⟩
      · rw [List.map_cons]
        exact List.mem_cons_of_mem _ i1
      · rw [List.map_cons] at h ⊢
        rcases List.mem_cons.mp h with e | e
        · exact List.mem_cons.mpr (.inl e)
        · exact List.mem_cons_of_mem _ (i2 g e)
theorem length_putF (f : Str) (v : V) : ∀ fs : List (Str × V), (putF f v fs).length ≤ fs.length + 1
  | [] => by simp [putF]
  | (k, x) :: r => by
    have ih := length_putF f v r
    rw [show putF f v ((k, x) :: r) = (if k = f then (k, v) :: r else (k, x) :: putF f v r) from rfl]
    by_cases hk : k = f
    · rw [if_pos hk, List.length_cons, List.length_cons]; omega
    · rw [if_neg hk, List.length_cons, List.length_cons]; omega

theorem RelO.some_of {v : V} {o : Option Value} (r : RelO (some v) o) : ∃ u, o = some u ∧ RelV v u := by
  cases o with
  | none => exact (show False from r).elim
  | some u => exact ⟨u, rfl, r⟩
theorem RelO.none_of {o : Option Value} (r : RelO none o) : o = none := by
  cases o with
  | none => rfl
  | some u => exact (show False from r).elim
theorem handed_of {v : V} {u : Value} (r : RelV v u) : PySem.W.handedIn u = true := by
  cases v with
  | non => cases (show u = Value.none from r); rfl
  | bl b => cases (show u = Value.bool b from r); rfl
  | int i => obtain ⟨t, e⟩ := (show ∃ t, u = Value.int i t from r); cases e; rfl
  | str x => obtain ⟨t, e⟩ := (show ∃ t, u = Value.str x t from r); cases e; rfl
  | byt b => obtain ⟨t, e⟩ := (show ∃ t, u = Value.bytes b t from r); cases e; rfl
  | flt b => obtain ⟨t, e⟩ := (show ∃ t, u = Value.float b t from r); cases e; rfl
  | ref a => cases (show u = Value.ref a from r); rfl
  | ty n => cases (show u = Value.type n from r); rfl

section
variable {P : Program} {w : World} {H H' : Hp} {h h' : Heap} {a C dx : Addr} {fs fs' : List (Str × V)}
theorem ins_get (hok : HOk P w H h) (e : H a = some (.ins C dx fs)) : ∃ mA, ObjM h a dx C mA ∧ (∀ f, RelO (fs.lookup f) (mA f)) ∧ PySem.Within mA (fs.map (·.1)) ∧ fs.length ≤ 1000 ∧ H dx = some (.own a) := by
  obtain ⟨d, z, ne, ob, mA, n, r, q⟩ := (show ObjOk P w H h a (.ins C dx fs) from hok a _ e)
  exact ⟨mA, ⟨ob, n, ne⟩, r, q, z, d⟩
end

structure Cls (K : PySem.W.Frag) (C : Addr) : Prop where
  pg : PySem.W.plainGet K C Str.empty = true
  hd : PySem.W.hasDictIn K C = true
  po : PySem.W.plainOver K C = true
  sa : PySem.W.findIn K (.ref C) "__setattr__" = some (some (.builtin "object.__setattr__"))
theorem Cls.get {K : PySem.W.Frag} {C : Addr} (c : Cls K C) (f : Str) : PySem.W.plainGet K C f = true := c.pg
def NoAttr (K : PySem.W.Frag) (C : Addr) (f : Str) : Prop := PySem.W.findIn K (.ref C) f = some none
theorem NoAttr.taker {K : PySem.W.Frag} {C : Addr} {f : Str} (n : NoAttr K C f) : PySem.W.takerIn K C f = some none := by
  unfold PySem.W.takerIn
  rw [show PySem.W.findIn K (.ref C) f = some none from n]
  rfl
structure Con (K : PySem.W.Frag) (C : Addr) (f : Str) (v : V) (u : Value) : Prop where
  at_ : PySem.W.findIn K (.ref C) f = some (some u)
  rel : RelV v u
  get : PySem.W.specialIn K u "__get__" = some none
  cp : PySem.W.copiedNames.contains f = false
structure Meth (K : PySem.W.Frag) (C : Addr) (m : Str) (f : Addr) : Prop where
  at_ : PySem.W.findIn K (.ref C) m = some (some (.ref f))
  fn : PySem.W.isFn K (.ref f) = true
  kp : PySem.W.keepIn K (.ref f) = true

section
variable {X : Cx} {pins : List (Addr × Obj)} {σ : St} {H : Hp} {s : Shared} {a C dx : Addr} {fs : List (Str × V)} {f : Str} {v : V} {A : Around} {E : Value → Shared → Prop}

theorem getattr_ok {b : Bool} {Q : Value → Shared → Prop} (I : Inv X pins σ H s) (e : H a = some (.ins C dx fs)) (c : Cls X.K C) (n : NoAttr X.K C f) (l : fs.lookup f = some v)
    (h : ∀ u s', Inv X pins σ H s' → RelV v u → Q u s') : wpAny (model X.prog X.w) A (getAttr (.ref a) f b) Q E s := by
  obtain ⟨mA, O, r, _, _, _⟩ := ins_get I.hok e
  obtain ⟨u, hu, ru⟩ := RelO.some_of (v := v) (o := mA f) (by rw [← l]; exact r f)
  exact get_map I.kIn O (c.get f) c.hd n hu (handed_of ru) (h u _ (I.tok _) ru)

theorem getmeth_ok {m : Str} {g : Addr} {pl : Sem Bool} {Q : Value × List Value → Shared → Prop} (I : Inv X pins σ H s) (e : H a = some (.ins C dx fs)) (c : Cls X.K C) (k : Meth X.K C m g) (l : fs.lookup m = none)
    (h : Q (.ref g, [.ref a]) s) : wpAny (model X.prog X.w) A (getMethod (.ref a) m pl) Q E s := by
  obtain ⟨mA, O, r, _, _, _⟩ := ins_get I.hok e
  have hn : mA m = none := RelO.none_of (by rw [← l]; exact r m)
  exact get_meth I.kIn O (c.get m) k.at_ k.fn hn h

theorem setattr_ok {y : V} {u : Value} {Q : Unit → Shared → Prop} (I : Inv X pins σ H s) (e : H a = some (.ins C dx fs)) (c : Cls X.K C) (n : NoAttr X.K C f) (hl : fs.length < 1000) (ry : RelV y u)
    (h : ∀ s', Inv X pins σ (upd H a (.ins C dx (putF f y fs))) s' → Q () s') : wpAny (model X.prog X.w) A (setAttr (.ref a) f u) Q E s := by
  obtain ⟨mA, O, r, wi, _, ho⟩ := ins_get I.hok e
  have hz : (fs.map (·.1)).length ≤ sizeLine := by rw [List.length_map, sizeLine_eq]; omega
  refine set_map I.kIn O c.sa c.po n.taker c.hd wi hz fun h' O' sb => h _ ?_
  have hd : ∃ o, h'.get? dx = some o := let ⟨o, _, _, e', _⟩ := O'.ns; ⟨o, e'⟩
  refine I.write (x := a) (e := dx) (by rw [e]; exact True.intro) (.inr ho) (fun b q hb z => (sb.2 b hb).trans z) hd ?_
  refine ⟨by rw [upd_ne O.ne]; exact ho, ?_, O.ne, O'.obj, _, O'.ns, fun g => ?_, fun g hg => ?_⟩
  · have := length_putF f y fs; omega
  · show RelO ((putF f y fs).lookup g) (if g = f then some u else mA g)
    rw [lookup_putF]
    by_cases q : g = f
    · rw [if_pos q, if_pos q]; exact ry
    · rw [if_neg q, if_neg q]; exact r g
  · by_cases q : g = f
    · rw [q]; exact (keys_putF f y fs).1
    · refine (keys_putF f y fs).2 g (wi g fun z => hg ?_)
      show (if g = f then some u else mA g) = none
      rw [if_neg q]; exact z

theorem Inv.made (I : Inv X pins σ H s) : Inv X pins σ (upd (upd H s.heap.objs.size (.own (s.heap.objs.size + 1))) (s.heap.objs.size + 1) (.ins C s.heap.objs.size []))
    { s with heap := (s.heap.push PySem.W.emptyDict).push (PySem.W.instObj C s.heap.objs.size) } := by
  have e1 : (s.heap.push PySem.W.emptyDict).get? s.heap.objs.size = some PySem.W.emptyDict := Heap.get?_push_size s.heap rfl
  have e2 : ((s.heap.push PySem.W.emptyDict).push (PySem.W.instObj C s.heap.objs.size)).get? (s.heap.objs.size + 1) = some (PySem.W.instObj C s.heap.objs.size) := by
    have := Heap.get?_push_size (s.heap.push PySem.W.emptyDict) (o := PySem.W.instObj C s.heap.objs.size) rfl
    rwa [Heap.size_push] at this
  have e3 : (s.heap.push PySem.W.emptyDict).Ns s.heap.objs.size (fun _ => none) := ⟨PySem.W.emptyDict, #[], _, e1, rfl, (fun e he => absurd he (by simp)), fun _ => rfl⟩
  have I1 := I.laid (a := s.heap.objs.size) (o := .own (s.heap.objs.size + 1)) (h' := s.heap.push PySem.W.emptyDict) (t' := s.toks) (fun b u q => Heap.get?_push_of_some _ q) (Nat.le_refl _) ⟨_, e1⟩
  refine I1.laid (a := s.heap.objs.size + 1) (o := .ins C s.heap.objs.size []) (t' := s.toks) (fun b u q => Heap.get?_push_of_some _ q) (Nat.le_of_eq (Heap.size_push _ _)) ?_
  have ne : s.heap.objs.size ≠ s.heap.objs.size + 1 := Nat.ne_of_lt (Nat.lt_succ_self _)
  refine ⟨by rw [upd_ne ne, upd_same], Nat.zero_le _, ne, e2, fun _ => none, (Heap.Ns1.of_empty e3).at fun o q => Heap.get?_push_of_some _ q, fun _ => True.intro, fun y hy => absurd rfl hy⟩

theorem attr_of {prog : Program} {w : World} {env : Env} {e : Expr} {f : Str} {pos : Pos} {s : Shared} {Q : Value → Shared → Prop} (hb : attributeBase e f env (eval e env) = eval e env)
    (h : wpAny (model prog w) A (eval e env) (fun o s₁ => wpAny (model prog w) A (getAttr o f true) Q E s₁) E s) : wpAny (model prog w) A (eval (.Attribute e f pos) env) Q E s :=
  Attribute_any_ h (by rw [arm_eval_Attribute, hb])
end

def tFld (K : PySem.W.Frag) (ta : TE) (f : Str) : TE := fun σ H Q => ta σ H fun x H1 => ∃ a C dx fs v, x = .ref a ∧ H1 a = some (.ins C dx fs) ∧ Cls K C ∧ NoAttr K C f ∧ fs.lookup f = some v ∧ Q v H1
def tCon (K : PySem.W.Frag) (ta : TE) (f : Str) : TE := fun σ H Q => ta σ H fun x H1 => ∃ a C dx fs v u, x = .ref a ∧ H1 a = some (.ins C dx fs) ∧ Cls K C ∧ Con K C f v u ∧ fs.lookup f = none ∧ Q v H1
def sFld (K : PySem.W.Frag) (ta tv : TE) (f : Str) : TS := fun D σ H => tv σ H fun y H1 => ta σ H1 fun x H2 => ∃ a C dx fs, x = .ref a ∧ H2 a = some (.ins C dx fs) ∧ Cls K C ∧ NoAttr K C f ∧ fs.length < 1000 ∧
  D.nx σ (upd H2 a (.ins C dx (putF f y fs)))
def InOp (X : Cx) (op : Operator) (rd : V → V → Hp → VK → Prop) : Prop :=
  ∀ (pins : List (Addr × Obj)) (s : Shared) (σ : St) (H : Hp) (x y : V) (u v : Value) (Q : VK), Inv X pins σ H s → RelV x u → RelV y v → rd x y H Q → wpAny (model X.prog X.w) X.A (inplaceOp op u v) (EP X pins σ Q) X.xe s
def sFldAug (K : PySem.W.Frag) (ta tv : TE) (rd : V → V → Hp → VK → Prop) (f : Str) : TS := fun D σ H => ta σ H fun x H1 => ∃ a C dx fs v, x = .ref a ∧ H1 a = some (.ins C dx fs) ∧ Cls K C ∧ NoAttr K C f ∧ fs.lookup f = some v ∧
  tv σ H1 fun y H2 => rd v y H2 fun z H3 => ∃ dx' fs', H3 a = some (.ins C dx' fs') ∧ fs'.length < 1000 ∧ D.nx σ (upd H3 a (.ins C dx' (putF f z fs')))

section
variable {X : Cx} {o e value : Expr} {f : Str} {pos pos' tpos : Pos} {ta tv : TE}
theorem pe_fld (he : PE X e ta) (hb : attributeBase e f X.env (eval e X.env) = eval e X.env) : PE X (.Attribute e f pos) (tFld X.K ta f) := by
  intro pins s σ H Q I h
  refine attr_of hb (thn (he pins s σ H _ I h) fun u s1 ⟨x, H1, I1, rx, a, C, dx, fs, v, ex, ea, c, n, l, q⟩ => ?_)
  subst ex
  obtain rfl : u = Value.ref a := rx
  exact getattr_ok I1 ea c n l fun u' s2 I2 ru => ⟨v, H1, I2, ru, q⟩
theorem ps_fld (ha : PE X o ta) (hv : PE X value tv) (hs : swapsWith value (some (.Attribute o f pos')) pos.line X.env = pure false) : PS X (.Assign [.Attribute o f pos'] value pos) (sFld X.K ta tv f) := by
  intro pins s σ H D I h
  refine plainObj_wpAny_Assign_Attribute (thn (hv pins s σ H _ I h) fun u s1 ⟨y, H1, I1, ry, q⟩ => thn (ha pins s1 σ H1 _ I1 q) fun ov s2 ⟨x, H2, I2, rx, a, C, dx, fs, ex, ea, c, n, l, q2⟩ => ?_) hs
  subst ex
  obtain rfl : ov = Value.ref a := rx
  exact setattr_ok I2 ea c n l ry fun s3 I3 => ⟨σ, _, I3, q2⟩
def rAdd : V → V → Hp → VK → Prop := fun x y H Q => ∃ i j, x = .int i ∧ y = .int j ∧ Q (.int (i + j)) H
def rSub : V → V → Hp → VK → Prop := fun x y H Q => ∃ i j, x = .int i ∧ y = .int j ∧ Q (.int (i - j)) H
end

section
variable {X : Cx} {pins : List (Addr × Obj)} {σ : St} {H : Hp} {s : Shared} {A : Around} {E : Value → Shared → Prop} {Q : Value → Shared → Prop} {c : Value} {b : Bool}
inductive TyOf (K : PySem.W.Frag) (H : Hp) : V → Value → Prop where
  | non : TyOf K H .non (.type "NoneType")
  | bl (x : Bool) : TyOf K H (.bl x) (.type "bool")
  | int (i : Int) : TyOf K H (.int i) (.type "int")
  | str (x : Str) : TyOf K H (.str x) (.type "str")
  | flt (x : UInt64) : TyOf K H (.flt x) (.type "float")
  | lst {a : Addr} {xs : List V} (e : H a = some (.lst xs)) : TyOf K H (.ref a) (.type "list")
  | frz {a : Addr} {o : Obj} {xs : List V} (e : H a = some (.frz o (.lst xs))) : TyOf K H (.ref a) (.type "list")
  | tup {a : Addr} {xs : List V} (e : H a = some (.tup xs)) : TyOf K H (.ref a) (.type "tuple")
  | dK {a : Addr} {kvs : List (Key × V)} (e : H a = some (.dK kvs)) : TyOf K H (.ref a) (.type "dict")
  | dT {a : Addr} {kvs : List (List Key × V)} (e : H a = some (.dT kvs)) : TyOf K H (.ref a) (.type "dict")
  | ins {a C dx : Addr} {fs : List (Str × V)} (e : H a = some (.ins C dx fs)) (cl : Cls K C) (ha : PySem.W.findIn K (.ref C) "__class__" = some (some (.builtin "object.__class__")))
      (hn : PySem.W.specialIn K (.builtin "object.__class__") "__get__" = some (some (.builtin "getset_descriptor.__get__"))) (htk : PySem.W.takesIn K (.builtin "object.__class__") = some true)
      (hm : PySem.W.mroIn K C (.type "object") = some true) : TyOf K H (.ref a) (.ref C)
theorem isinst_ok {x : V} {u t : Value} (I : Inv X pins σ H s) (rx : RelV x u) (ty : TyOf X.K H x t) (e : PySem.W.kitOne X.K t c = some b) (h : ∀ tk, Q (.bool b) { s with toks := tk }) :
    wpAny (model X.prog X.w) A (call (.builtin "isinstance") [u, c]) Q E s := by
  cases ty with
  | non => cases (show u = Value.none from rx); exact PySem.W.kia_one PySem.W.kitx_none I.kIn True.intro e (fun z => nomatch z) h
  | bl y => cases (show u = Value.bool y from rx); exact PySem.W.kia_one PySem.W.kitx_bool I.kIn True.intro e (fun z => nomatch z) h
  | int i => obtain ⟨t, q⟩ := (show ∃ t, u = Value.int i t from rx); cases q; exact PySem.W.kia_one PySem.W.kitx_int I.kIn True.intro e (fun z => nomatch z) h
  | str y => obtain ⟨t, q⟩ := (show ∃ t, u = Value.str y t from rx); cases q; exact PySem.W.kia_one PySem.W.kitx_str I.kIn True.intro e (fun z => nomatch z) h
  | flt y => obtain ⟨t, q⟩ := (show ∃ t, u = Value.float y t from rx); cases q; exact PySem.W.kia_one PySem.W.kitx_float I.kIn True.intro e (fun z => nomatch z) h
  | @lst a xs ea =>
    cases (show u = Value.ref a from rx)
    obtain ⟨_, _, n, _, h1⟩ := (show ObjOk X.prog X.w H s.heap a (.lst xs) from I.hok a _ ea)
    exact PySem.W.kia_one PySem.W.kitx_list I.kIn ⟨_, h1, rfl⟩ e (fun z => nomatch z) h
  | @frz a ob xs ea =>
    cases (show u = Value.ref a from rx)
    obtain ⟨_, _, _, n, _, h1⟩ := (show ObjOk X.prog X.w H s.heap a (.frz ob (.lst xs)) from I.hok a _ ea)
    exact PySem.W.kia_one PySem.W.kitx_list I.kIn ⟨_, h1, rfl⟩ e (fun z => nomatch z) h
  | @tup a xs ea =>
    cases (show u = Value.ref a from rx)
    obtain ⟨_, _, _, p⟩ := (show ObjOk X.prog X.w H s.heap a (.tup xs) from I.hok a _ ea)
    obtain ⟨o, h1, h2, _⟩ := p
    exact PySem.W.kia_one PySem.W.kitx_tuple I.kIn ⟨o, h1, h2⟩ e (fun z => nomatch z) h
  | @dK a kvs ea =>
    cases (show u = Value.ref a from rx)
    obtain ⟨_, _, vs, _, p⟩ := (show ObjOk X.prog X.w H s.heap a (.dK kvs) from I.hok a _ ea)
    obtain ⟨o, es, ep, h1, h2, _⟩ := p
    exact PySem.W.kia_one PySem.W.kitx_dict I.kIn ⟨o, h1, h2.1⟩ e (fun z => nomatch z) h
  | @dT a kvs ea =>
    cases (show u = Value.ref a from rx)
    obtain ⟨_, _, xs, _, o, es, ep, h1, h2, _⟩ := (show ObjOk X.prog X.w H s.heap a (.dT kvs) from I.hok a _ ea)
    exact PySem.W.kia_one PySem.W.kitx_dict I.kIn ⟨o, h1, h2.1⟩ e (fun z => nomatch z) h
  | @ins a C dx fs ea cl ha hn htk hm =>
    cases (show u = Value.ref a from rx)
    obtain ⟨mA, O, _⟩ := ins_get I.hok ea
    obtain ⟨od, J, _⟩ := O.look
    exact PySem.W.kia_one (PySem.W.kitx_own (cl.get _) cl.hd ha hn htk hm) I.kIn J e (fun z => nomatch z) h
end
end L2

namespace L2
open PySem PySem.Spec PyProof.Rows

structure Room (k : Nat) (A : Around) : Prop where
  hd : A.handled = none
  dp : A.depth + 3 * k + 5 < recursionLimit
  un : A.units + 16 * k + 200 < cLine
  gd : A.guards = some []
theorem Room.mono {j k : Nat} {A : Around} (r : Room k A) (h : j ≤ k) : Room j A := ⟨r.hd, by have := r.dp; omega, by have := r.un; omega, r.gd⟩
theorem Room.deeper {k : Nat} {A : Around} (r : Room (k + 1) A) (env : Env) : Room k (A.deeper env) :=
  ⟨r.hd, by have := r.dp; show A.depth + 1 + 3 * k + 5 < _; omega, by have := r.un; show A.units + 3 + 16 * k + 200 < _; omega, by have := r.gd; first | exact this | simpa [Around.deeper] using this⟩
theorem make_depth {A : Around} {C : Addr} {us : List Value} {kw : List (Str × Value)} : (A.under (.builtin "type.__call__" ⟨.ref C :: us, kw⟩)).depth = A.depth + 1 := by
  first | rfl | simp [Around.under, Code.weight, Code.isCreation, Code.isGuard, Code.isCaller, Code.frames, Code.isFrame, guardIds]
theorem make_units {A : Around} {C : Addr} {us : List Value} {kw : List (Str × Value)} : (A.under (.builtin "type.__call__" ⟨.ref C :: us, kw⟩)).units = A.units + 1 := by
  first | rfl | simp [Around.under, Code.cUnits, Code.frames, Code.isFrame]
theorem Room.make {k : Nat} {A : Around} (r : Room (k + 1) A) (C : Addr) (us : List Value) (kw : List (Str × Value)) : Room k (A.under (.builtin "type.__call__" ⟨.ref C :: us, kw⟩)) :=
  ⟨r.hd, by have := r.dp; rw [make_depth]; omega, by have := r.un; rw [make_units]; omega, by have := r.gd; first | exact this | simpa [Around.under, Code.guards, Code.isGuard, guardIds, pushGuards] using this⟩
theorem Room.depth {k : Nat} {A : Around} (r : Room k A) : A.depth < recursionLimit := by have := r.dp; omega
theorem Room.units {k : Nat} {A : Around} (r : Room k A) : A.units + 64 < cLine := by have := r.un; omega
theorem Room.units0 {k : Nat} {A : Around} (r : Room k A) : A.units < cLine := by have := r.un; omega

def tNil : TA := fun _ H Q => Q [] H
def tCons (ta : TE) (tr : TA) : TA := fun σ H Q => ta σ H fun x H1 => tr σ H1 fun xs H2 => Q (x :: xs) H2
section
variable {X : Cx} {e : Expr} {es : List Expr} {te : TE} {t : TA} {pos : Pos}
theorem pa_nil : PA X [] tNil := fun _ _ _ _ H Q I h => Calls.spliced_nil ⟨[], H, I, .nil, h⟩
theorem pa_cons (ha : PE X e te) (hr : PA X es t) (hs : starEach (e :: es) X.env = (false, eval e X.env) :: starEach es X.env := by rfl) : PA X (e :: es) (tCons te t) := by
  intro pos pins s σ H Q I h
  rw [hs]
  show wpAny _ _ (spliced ((false, eval e X.env) :: backTo pos (starEach es X.env))) _ _ s
  refine Calls.spliced_cons (thn (ha pins s σ H _ I h) fun u s1 ⟨x, H1, I1, r1, q1⟩ => ?_)
  exact thn (hr pos pins s1 σ H1 _ I1 q1) fun us s2 ⟨xs, H2, I2, r2, q2⟩ => ⟨x :: xs, H2, I2, .cons r1 r2, q2⟩

def tTup (t : TA) : TE := fun σ H Q => t σ H fun xs H1 => xs.length ≤ sizeLine ∧ ∀ p, H1 p = none → Q (.ref p) (upd H1 p (.tup xs))
def tLst (t : TA) : TE := fun σ H Q => t σ H fun xs H1 => xs.length ≤ sizeLine ∧ ∀ p, H1 p = none → Q (.ref p) (upd H1 p (.lst xs))
theorem pe_tup {x1} (h : PA X es t) : PE X (.Tuple es x1 pos) (tTup t) := by
  intro pins s σ H Q I hq
  refine wpAny_Tuple_spliced (thn (h pos pins s σ H _ I hq) fun us s1 ⟨xs, H1, I1, r, z, q⟩ => ⟨by rw [← r.length]; exact z, ?_⟩)
  have hf : H1 s1.heap.objs.size = none := I1.hok.fresh (Nat.le_refl _)
  refine ⟨.ref s1.heap.objs.size, upd H1 s1.heap.objs.size (.tup xs), I1.laid (t' := s1.toks) (fun b u e => Heap.get?_push_of_some _ e) (Nat.le_refl _) ?_, rfl, q _ hf⟩
  exact ⟨z, us, r, ⟨_, Heap.get?_push_size _ rfl, rfl, _, rfl⟩⟩
theorem pe_lst (h : PA X es t) : PE X (.List es pos) (tLst t) := by
  intro pins s σ H Q I hq
  refine wpAny_List_spliced (thn (h pos pins s σ H _ I hq) fun us s1 ⟨xs, H1, I1, r, z, q⟩ => ⟨by rw [← r.length]; exact z, ?_⟩)
  have hf : H1 s1.heap.objs.size = none := I1.hok.fresh (Nat.le_refl _)
  refine ⟨.ref s1.heap.objs.size, upd H1 s1.heap.objs.size (.lst xs), I1.laid (t' := s1.toks) (fun b u e => Heap.get?_push_of_some _ e) (Nat.le_refl _) ?_, rfl, q _ hf⟩
  exact ⟨z, us, 0, r, Heap.get?_push_size _ rfl⟩
end

abbrev Sp := List V → Hp → VK → XK → Prop
abbrev CXT := List Env → Hp → Shared → XK → Value → Shared → Prop

structure Env0 (P : Program) (w : World) (K : PySem.W.Frag) (mg : Str → Option Value) (base : Heap) (A : Around) (outer : List Env) (s : Shared) (H : Hp) : Prop where
  frames : A.frames = some outer
  mod : Mod K mg base
  bs : ∀ b o, base.get? b = some o → s.heap.get? b = some o ∧ H b = none
  bsz : base.objs.size ≤ s.heap.objs.size
  funs : s.heap.FunFrames base outer
  frf : ∀ b ∈ frs outer, H b = none
  hok : HOk P w H s.heap
  bare : AllBare s.gens
def CE (outer : List Env) (P : Program) (w : World) (H : Hp) (s : Shared) (Q : VK) (u : Value) (s' : Shared) : Prop :=
  ∃ v H', s'.os = s.os ∧ AllBare s'.gens ∧ Un (frs outer) [] H H' s.heap s'.heap ∧ HOk P w H' s'.heap ∧ RelV v u ∧ Q v H'
def CR (CX : CXT) (outer : List Env) (P : Program) (w : World) (H : Hp) (s : Shared) (Q : VK) (E : XK) (r : Result) (s' : Shared) : Prop :=
  match r with
  | .ok (.ret u) => CE outer P w H s Q u s'
  | .ok _ => False
  | .error e => CX outer H s E e s'
structure FnOk (P : Program) (w : World) (K : PySem.W.Frag) (mg : Str → Option Value) (base : Heap) (CX : CXT) (k : Nat) (f : Addr) (fd : FuncData) (ps : List Str) (sp : Sp) : Prop where
  len : ∀ vs H Q E, sp vs H Q E → vs.length = ps.length
  run : ∀ (A : Around) (outer : List Env) (s : Shared) (H : Hp) (args : Args) (us : List Value) (vs : List V) (Q : VK) (E : XK), Room k A → Env0 P w K mg base A outer s H → BindsTo s fd args (ps.zip us) → Vals vs us → sp vs H Q E →
    codeAny (model P w) A (.call (.ref f) args) (CR CX outer P w H s Q E) s
theorem Env0.make {P : Program} {w : World} {K : PySem.W.Frag} {mg : Str → Option Value} {base : Heap} {A : Around} {outer : List Env} {s : Shared} {H : Hp} (e : Env0 P w K mg base A outer s H) (C : Addr) (us : List Value) (kw : List (Str × Value)) :
    Env0 P w K mg base (A.under (.builtin "type.__call__" ⟨.ref C :: us, kw⟩)) outer s H := ⟨by first | exact e.frames | (simpa [Around.under, Code.envs, Code.isFrame, pushEnvs] using e.frames), e.mod, e.bs, e.bsz, e.funs, e.frf, e.hok, e.bare⟩
section
variable {X : Cx} {pins : List (Addr × Obj)} {σ : St} {H : Hp} {s s' : Shared}
theorem Inv.env0 (I : Inv X pins σ H s) : Env0 X.prog X.w X.K X.mg X.base X.A X.stack s H :=
  ⟨I.ok.frames, I.ok.mod, I.bs, Nat.le_trans I.ok.bsz I.sz, I.stack, I.stkFree, I.hok, I.bare⟩
theorem Inv.after {Q : VK} {u : Value} (I : Inv X pins σ H s) (h : CE X.stack X.prog X.w H s Q u s') : EP X pins σ Q u s' := by
  obtain ⟨v, H', os, bare, un, hok, r, q⟩ := h
  obtain ⟨hh, g, d, t, os'⟩ := s'
  obtain rfl : os' = s.os := os
  exact ⟨v, H', I.call (h' := hh) (g' := g) (d' := d) (t' := t) (ch := []) un hok bare (fun b z => absurd z (by simp)), r, q⟩
end

def tCall (sp : Sp) (dvs : List V) (E : XK) (t : TA) : TE := fun σ H Q => t σ H fun vs H1 => sp (vs ++ dvs) H1 Q E
def tMeth (C : Addr) (m : Str) (sp : Sp) (dvs : List V) (E : XK) (ta : TE) (t : TA) : TE := fun σ H Q => ta σ H fun x H1 => ∃ a dx fs, x = .ref a ∧ H1 a = some (.ins C dx fs) ∧ fs.lookup m = none ∧
  t σ H1 fun vs H2 => sp (x :: (vs ++ dvs)) H2 Q E
def tMake (C : Addr) (sp : Sp) (dvs : List V) (E : XK) (t : TA) : TE := fun σ H Q => t σ H fun vs H1 => ∀ x dx, H1 x = none → H1 dx = none → dx ≠ x →
  sp (.ref x :: (vs ++ dvs)) (upd (upd H1 dx (.own x)) x (.ins C dx [])) (fun v H2 => v = .non ∧ Q (.ref x) H2) E

def Binds (K : PySem.W.Frag) (fd : FuncData) (ps : List Str) (ds : List Value) : Prop :=
  ∀ (s : Shared) (us : List Value), K.In s.heap → (us ++ ds).length = ps.length → BindsTo s fd ⟨us, []⟩ (ps.zip (us ++ ds))
theorem Binds.all {K : PySem.W.Frag} {fd : FuncData} {ps : List Str} (h : ∀ us : List Value, us.length = ps.length → bindArgs fd ⟨us, []⟩ = pure (ps.zip us)) : Binds K fd ps [] := fun s us _ hl => by
  rw [List.append_nil] at hl ⊢
  exact .of_eq (h us hl)

def Passes (CX : CXT) (X : Cx) (E : XK) : Prop := ∀ (pins : List (Addr × Obj)) (σ : St) (H : Hp) (s : Shared) (e : Value) (s' : Shared), Inv X pins σ H s → CX X.stack H s E e s' → X.xe e s'

section
variable {X : Cx} {CX : CXT} {k : Nat} {f C : Addr} {fd : FuncData} {ps : List Str} {sp : Sp} {dvs : List V} {ds : List Value} {E : XK} {x m : Str} {p pos apos : Pos} {e o : Expr} {es : List Expr} {ta : TE} {t : TA}

theorem run_fn {pins : List (Addr × Obj)} {σ : St} {H : Hp} {s : Shared} {Q : VK} {us : List Value} {vs : List V} (F : FnOk X.prog X.w X.K X.mg X.base CX k f fd ps sp) (hr : Room k X.A) (hb : Binds X.K fd ps ds) (hd : Vals dvs ds) (hx : Passes CX X E)
    (I : Inv X pins σ H s) (r : Vals vs us) (h : sp (vs ++ dvs) H Q E) : wpAny (model X.prog X.w) X.A (call (.ref f) us) (EP X pins σ Q) X.xe s := by
  have r2 : Vals (vs ++ dvs) (us ++ ds) := r.append hd
  have hl : (us ++ ds).length = ps.length := by rw [← r2.length]; exact F.len _ _ _ _ h
  refine wpAny_call (codeAny_mono (F.run X.A X.stack s H ⟨us, []⟩ (us ++ ds) (vs ++ dvs) Q E hr I.env0 (hb s us I.kIn hl) r2 h) fun r s' hq => ?_)
  cases r with
  | error e => exact hx pins σ H s e s' I hq
  | ok fl =>
    cases fl with
    | ret u => exact I.after hq
    | next => exact False.elim hq
    | brk => exact False.elim hq
    | cont => exact False.elim hq

theorem pe_call (F : FnOk X.prog X.w X.K X.mg X.base CX k f fd ps sp) (hr : Room k X.A) (hg : Gl X x) (hm : X.mg x = some (.ref f)) (hk : PySem.W.keepIn X.K (.ref f) = true) (hb : Binds X.K fd ps ds) (hd : Vals dvs ds) (hx : Passes CX X E)
    (ha : PA X (e :: es) t) (hdb : (x == ("__debug__" : Str)) = false := by decide) (he : starEach (e :: es) X.env = (false, eval e X.env) :: starEach es X.env := by rfl) (hpl : (backTo pos (starEach es X.env)).any (·.1) = false := by rfl) :
    PE X (.Call (.Name x p) (e :: es) [] pos) (tCall sp dvs E t) := by
  intro pins s σ H Q I h
  refine wpAny_Call_Name_kw (ld_glob I hg hm ?_ hdb)
  refine PySem.W.callWith_K (h₀ := X.base) I.ok.mod.kin hk (thn (ha pos pins s σ H _ I h) fun us s1 ⟨vs, H1, I1, r, q⟩ => ⟨I1.kIn, ?_⟩) he hpl
  exact run_fn F hr hb hd hx I1 r q
structure Mk (K : PySem.W.Frag) (C f : Addr) : Prop where
  makes : PySem.W.makesIn K C = true
  init : PySem.W.findIn K (.ref C) "__init__" = some (some (.ref f))
  fn : PySem.W.isFn K (.ref f) = true
  kp : PySem.W.keepIn K (.ref C) = true

theorem run_make {pins : List (Addr × Obj)} {σ : St} {H : Hp} {s : Shared} {Q : VK} {us : List Value} {vs : List V} (M : Mk X.K C f) (F : FnOk X.prog X.w X.K X.mg X.base CX k f fd ps sp) (hr : Room (k + 1) X.A) (hb : Binds X.K fd ps ds) (hd : Vals dvs ds)
    (hx : Passes CX X E) (I : Inv X pins σ H s) (r : Vals vs us)
    (h : ∀ x dx, H x = none → H dx = none → dx ≠ x → sp (.ref x :: (vs ++ dvs)) (upd (upd H dx (.own x)) x (.ins C dx [])) (fun v H2 => v = .non ∧ Q (.ref x) H2) E) :
    wpAny (model X.prog X.w) X.A (call (.ref C) us) (EP X pins σ Q) X.xe s := by
  have hq := h (s.heap.objs.size + 1) s.heap.objs.size (I.hok.fresh (Nat.le_succ _)) (I.hok.fresh (Nat.le_refl _)) (Nat.ne_of_lt (Nat.lt_succ_self _))
  have I2 := Inv.made (C := C) I
  have r2 : Vals (V.ref (s.heap.objs.size + 1) :: (vs ++ dvs)) (Value.ref (s.heap.objs.size + 1) :: (us ++ ds)) := .cons rfl (r.append hd)
  have hl : (Value.ref (s.heap.objs.size + 1) :: us ++ ds).length = ps.length := by
    have e := r2.length
    rw [F.len _ _ _ _ hq] at e
    exact e.symm
  refine wpAny_call (make_map (f := f) I.kIn M.makes M.init (beq_iff_eq.mp M.fn) (codeAny_mono (F.run _ X.stack _ _ ⟨Value.ref (s.heap.objs.size + 1) :: us, []⟩ (Value.ref (s.heap.objs.size + 1) :: (us ++ ds)) _ _ E (hr.make C us [])
    (I2.env0.make C us []) (hb _ (Value.ref (s.heap.objs.size + 1) :: us) I2.kIn hl) r2 hq) fun r s' hq' => ?_))
  cases r with
  | error e => exact hx pins σ _ _ e s' I2 hq'
  | ok fl =>
    cases fl with
    | ret u =>
      obtain ⟨v, H', I3, rv, ev, q3⟩ := I2.after hq'
      subst ev
      exact ⟨rv, ⟨V.ref (s.heap.objs.size + 1), H', I3, rfl, q3⟩⟩
    | next => exact False.elim hq'
    | brk => exact False.elim hq'
    | cont => exact False.elim hq'
theorem pe_make (M : Mk X.K C f) (F : FnOk X.prog X.w X.K X.mg X.base CX k f fd ps sp) (hr : Room (k + 1) X.A) (hg : Gl X x) (hm : X.mg x = some (.ref C)) (hb : Binds X.K fd ps ds) (hd : Vals dvs ds) (hx : Passes CX X E)
    (ha : PA X (e :: es) t) (hdb : (x == ("__debug__" : Str)) = false := by decide) (he : starEach (e :: es) X.env = (false, eval e X.env) :: starEach es X.env := by rfl) (hpl : (backTo pos (starEach es X.env)).any (·.1) = false := by rfl) :
    PE X (.Call (.Name x p) (e :: es) [] pos) (tMake C sp dvs E t) := by
  intro pins s σ H Q I h
  refine wpAny_Call_Name_kw (ld_glob I hg hm ?_ hdb)
  refine PySem.W.callWith_K (h₀ := X.base) I.ok.mod.kin M.kp (thn (ha pos pins s σ H _ I h) fun us s1 ⟨vs, H1, I1, r, q⟩ => ⟨I1.kIn, ?_⟩) he hpl
  exact run_make M F hr hb hd hx I1 r q
end

def PK (X : Cx) (kws : List Keyword) (t : TA) : Prop :=
  ∀ (pos : Pos) (pins : List (Addr × Obj)) (s : Shared) (σ : St) (H : Hp) (Q : List V → Hp → Prop), Inv X pins σ H s → t σ H Q → wpAny (model X.prog X.w) X.A (evalAll ((backToKw pos (keywordEach kws X.env)).map (·.2))) (AP X pins σ Q) X.xe s
section
variable {X : Cx} {CX : CXT} {k : Nat} {f C : Addr} {fd : FuncData} {ps ks : List Str} {sp : Sp} {E : XK} {x m : Str} {p pos apos kpos : Pos} {e o : Expr} {es : List Expr} {kws : List Keyword} {te ta : TE} {t tk : TA} {nm : Option Str}
structure KBinds (K : PySem.W.Frag) (fd : FuncData) (ps ks : List Str) (g : List Value → List Value → List Value) (gV : List V → List V → List V) : Prop where
  to : ∀ (s : Shared) (us ws : List Value), K.In s.heap → (g us ws).length = ps.length → BindsTo s fd ⟨us, ks.zip ws⟩ (ps.zip (g us ws))
  rel : ∀ {vs : List V} {us : List Value} {zs : List V} {ws : List Value}, Vals vs us → Vals zs ws → Vals (gV vs zs) (g us ws)
def tCallK (sp : Sp) (gV : List V → List V → List V) (E : XK) (t tk : TA) : TE := fun σ H Q => t σ H fun vs H1 => tk σ H1 fun zs H2 => sp (gV vs zs) H2 Q E
variable {g : List Value → List Value → List Value} {gV : List V → List V → List V}
end

structure FnScope (N P : List Str) (sc : Scope) : Prop where
  kind : sc.kind = .function
  co : sc.isCoroutine = false
  gen : sc.isGenerator = false
  nd : N.Nodup
  pre : N.take P.length = P
  par : ∀ x ∈ P, sc.names.lookup x = some .local ∨ sc.names.lookup x = some .cell
  nofree : ∀ y ∈ sc.names, y.2 ≠ .free

theorem bindL_out {kindOf : Str → Option NameKind} {x : Str} : ∀ {binds : List (Str × Value)} {m : Str → Option Value}, (∀ v, (x, v) ∉ binds) → bindL kindOf binds m x = m x
  | [], _, _ => rfl
  | (n, v) :: r, m, h => by
    unfold bindL
    rw [bindL_out fun w hw => h w (List.mem_cons_of_mem _ hw)]
    split
    · have : x ≠ n := by rintro rfl; exact h v List.mem_cons_self
      simp [this]
    · rfl
theorem bindC_out {kindOf : Str → Option NameKind} {x : Str} : ∀ {binds : List (Str × Value)} {m : Str → Option Value}, (∀ v, (x, v) ∉ binds) → bindC kindOf binds m x = m x
  | [], _, _ => rfl
  | (n, v) :: r, m, h => by
    unfold bindC
    rw [bindC_out fun w hw => h w (List.mem_cons_of_mem _ hw)]
    split
    · rfl
    · have : x ≠ n := by rintro rfl; exact h v List.mem_cons_self
      simp [this]
theorem bindL_get {kindOf : Str → Option NameKind} {x : Str} {v : Value} : ∀ {P : List Str} {vs : List Value} {i : Nat} {m : Str → Option Value}, P.Nodup → P[i]? = some x → vs[i]? = some v → kindOf x = some .local →
    bindL kindOf (P.zip vs) m x = some v
  | [], _, _, _, _, h, _, _ => by simp at h
  | _ :: _, [], _, _, _, _, h, _ => by simp at h
  | p :: P, w :: vs, 0, m, nd, h1, h2, hk => by
    simp at h1 h2; subst h1; subst h2
    show bindL kindOf ((p, w) :: P.zip vs) m p = _
    unfold bindL
    rw [bindL_out fun v hv => (List.nodup_cons.mp nd).1 (List.of_mem_zip hv).1, if_pos hk]
    simp
  | p :: P, w :: vs, i + 1, m, nd, h1, h2, hk => by
    show bindL kindOf ((p, w) :: P.zip vs) m x = _
    unfold bindL
    exact bindL_get (i := i) (List.nodup_cons.mp nd).2 (by simpa using h1) (by simpa using h2) hk
theorem bindC_get {kindOf : Str → Option NameKind} {x : Str} {v : Value} : ∀ {P : List Str} {vs : List Value} {i : Nat} {m : Str → Option Value}, P.Nodup → P[i]? = some x → vs[i]? = some v → kindOf x ≠ some .local →
    bindC kindOf (P.zip vs) m x = some v
  | [], _, _, _, _, h, _, _ => by simp at h
  | _ :: _, [], _, _, _, _, h, _ => by simp at h
  | p :: P, w :: vs, 0, m, nd, h1, h2, hk => by
    simp at h1 h2; subst h1; subst h2
    show bindC kindOf ((p, w) :: P.zip vs) m p = _
    unfold bindC
    rw [bindC_out fun v hv => (List.nodup_cons.mp nd).1 (List.of_mem_zip hv).1, if_neg hk]
    simp
  | p :: P, w :: vs, i + 1, m, nd, h1, h2, hk => by
    show bindC kindOf ((p, w) :: P.zip vs) m x = _
    unfold bindC
    exact bindC_get (i := i) (List.nodup_cons.mp nd).2 (by simpa using h1) (by simpa using h2) hk

def start (N : List Str) (vs : List V) : St := vs.map some ++ List.replicate (N.length - vs.length) none

def cxOf (CX : CXT) (P : Program) (w : World) (K : PySem.W.Frag) (mg : Str → Option Value) (base : Heap) (N : List Str) (qual : Str) (scope : Scope) (f : Addr) (cd : Value) (A : Around) (outer : List Env) (s : Shared) (H : Hp) (E : XK) : Cx where
  prog := P
  w := w
  K := K
  mg := mg
  base := base
  A := A.deeper (envOfC qual scope s.heap.objs.size f cd)
  N := N
  s₀ := s
  H₀ := H
  env := envOfC qual scope s.heap.objs.size f cd
  outer := outer
  stack := envOfC qual scope s.heap.objs.size f cd :: outer
  ex := []
  calm := true
  fn := fun _ => true
  pn := []
  xe := fun e s' => wpAny (model P w) (A.deeper (envOfC qual scope s.heap.objs.size f cd)) (leaving (envOfC qual scope s.heap.objs.size f cd) e) (fun _ s'' => CX outer H s E e s'') (fun e' s'' => CX outer H s E e' s'') s'

theorem cell_has {sc : Scope} {n : Nat} {x : Str} (h : sc.names.lookup x = some .cell) : ∃ c, (cellsFrom n sc.names []).lookup x = some c := by
  have q := PySem.W.cellsFrom_some sc.names n [] (.inl h)
  exact Option.isSome_iff_exists.mp q

theorem inv_start {CX : CXT} {P : Program} {w : World} {K : PySem.W.Frag} {mg : Str → Option Value} {base : Heap} {N ps : List Str} {qual : Str} {scope : Scope} {f : Addr} {cd : Value} {A : Around} {outer : List Env} {s s1 : Shared} {H : Hp} {E : XK} {us : List Value} {vs : List V}
    (S : FnScope N ps scope) (hd : A.handled = none) (e0 : Env0 P w K mg base A outer s H) (hl : vs.length = ps.length) (r : Vals vs us)
    (x : InCallC s s.heap.objs.size (bindL (envOfC qual scope s.heap.objs.size f cd).kindOf (ps.zip us) fun _ => none) (cellsFrom (s.heap.objs.size + 1) scope.names []) (bindC (envOfC qual scope s.heap.objs.size f cd).kindOf (ps.zip us) fun _ => none) s1) :
    Inv (cxOf CX P w K mg base N qual scope f cd A outer s H E) [] (start N vs) H s1 := by
  have hpl : ps.length ≤ N.length := by have := congrArg List.length S.pre; rw [List.length_take] at this; omega
  obtain ⟨h1, tk, rfl, hk⟩ := x.done
  have noA : ∀ b : Addr, b ∉ (cxOf CX P w K mg base N qual scope f cd A outer s H E).ex := fun b z => absurd (show b ∈ ([] : List Addr) from z) (by simp)
  refine ⟨⟨e0.mod, S.kind, rfl, rfl, Nat.le_refl _, fun y z c h1 h2 => ?_, fun y hy => ?_, fun y c _ h => ?_, fun _ => hd, Around.frames_deeper e0.frames, .inr ⟨rfl, rfl⟩, fun b z => absurd z (noA b), e0.bs, e0.bsz, fun b _ _ => noA b, fun b z => absurd z (noA b), e0.funs, e0.frf⟩,
    rfl, e0.bare, Un.kept hk, ⟨_, x.toInCall.ns, fun i y v h1 h2 h3 => ?_⟩, fun y c h => ⟨_, x.cell y c h⟩, e0.hok.fresh (Nat.le_refl _), fun y c h => ?_, fun p hp => absurd (show p ∈ ([] : List (Addr × Obj)) from hp) (by simp), e0.hok.kept hk, ?_⟩
  · exact name_of_addr x.apart (PySem.mem_of_lookup h1) (PySem.mem_of_lookup h2)
  · have hy : scope.names.lookup y = some .cell ∨ scope.names.lookup y = some .free := hy
    rcases hy with hy | hy
    · exact cell_has hy
    · exact absurd rfl (S.nofree _ (PySem.mem_of_lookup hy))
  · exact Nat.le_of_lt (x.above y c (PySem.mem_of_lookup h))
  · have hi : i < vs.length := by
      unfold start at h2
      by_cases hi : i < vs.length
      · exact hi
      · rw [List.getElem?_append_right (by simpa using hi)] at h2
        rw [List.getElem?_replicate] at h2
        split at h2 <;> cases h2
    have ha : vs[i]? = some v := by
      unfold start at h2
      rw [List.getElem?_append_left (by simpa using hi), List.getElem?_map] at h2
      cases e : vs[i]? with
      | none => rw [e] at h2; cases h2
      | some a => rw [e] at h2; cases h2; rfl
    obtain ⟨u, hu, rv⟩ := r.get ha
    have hp : ps[i]? = some y := by
      rw [← S.pre, List.getElem?_take_of_lt (by omega)]; exact h1
    have ndP : ps.Nodup := by rw [← S.pre]; exact S.nd.sublist (List.take_sublist _ _)
    refine ⟨u, rv, ?_⟩
    rcases S.par y (List.mem_of_getElem? hp) with k | k
    · exact .inl ⟨k, bindL_get ndP hp hu k⟩
    · obtain ⟨c, e⟩ := cell_has (n := s.heap.objs.size + 1) k
      refine .inr ⟨.inl k, c, e, ?_⟩
      have q := x.cell y c e
      rw [bindC_get ndP hp hu (by show scope.names.lookup y ≠ _; rw [k]; decide)] at q
      exact q
  · exact e0.hok.fresh (Nat.le_of_lt (x.above y c (PySem.mem_of_lookup h)))
  · unfold start
    show _ = N.length
    rw [List.length_append, List.length_map, List.length_replicate]
    omega

theorem fn_of {CX : CXT} {P : Program} {w : World} {K : PySem.W.Frag} {mg : Str → Option Value} {base : Heap} {k : Nat} {f : Addr} {name qual : Str} {params : Arguments} {body : List Stmt} {scope : Scope} {dV kV doc pm cdv ct oc : Value} {an od : Option Addr}
    {osl : Array (Option Value)} {N ps : List Str} {sp : Sp} (lk : K.lookup f = some ⟨oc, od, .func (PySem.W.fnOf name qual params body scope dV kV doc pm an cdv ct), osl⟩) (hcd : PySem.W.codeIn K cdv qual = true) (S : FnScope N ps scope)
    (len : ∀ vs H Q E, sp vs H Q E → vs.length = ps.length)
    (hbody : ∀ (A : Around) (outer : List Env) (s : Shared) (H : Hp) (vs : List V) (Q : VK) (E : XK), Room k (A.deeper (envOfC qual scope s.heap.objs.size f cdv)) → sp vs H Q E →
      ∃ t, PSs (cxOf CX P w K mg base N qual scope f cdv A outer s H E) body t ∧ t { nx := fun _ H' => Q .non H', rt := Q } (start N vs) H) :
    FnOk P w K mg base CX (k + 1) f (PySem.W.fnOf name qual params body scope dV kV doc pm an cdv ct) ps sp := by
  refine ⟨len, fun A outer s H args us vs Q E hr e0 hb r hsp => ?_⟩
  have hl := len _ _ _ _ hsp
  have KX : K.In s.heap := e0.mod.kin.keeps fun b o e => (e0.bs b o e).1
  have lim : s.heap.NoLimit := e0.mod.nolimit.keeps fun b o e => (e0.bs b o e).1
  have hkind : ∀ y ∈ ps.zip us, scope.names.lookup y.1 = some .local ∨ (scope.names.lookup y.1 = some .cell ∧ ((cellsFrom (s.heap.objs.size + 1) scope.names []).lookup y.1).isSome = true) := fun ⟨n, v⟩ hy => by
    rcases S.par n (List.of_mem_zip hy).1 with q | q
    · exact .inl q
    · exact .inr ⟨q, PySem.W.cellsFrom_some _ _ _ (.inl q)⟩
  refine codeAny_call_function hr.depth (KX _ _ lk) rfl S.co S.gen rfl (PySem.W.codeRec_of KX hcd) (hb _ _ _ _ ?_)
  refine wpAny_newFunctionEnv_cells S.kind hkind fun env he s1 x => ?_
  subst he
  refine ⟨lim.keeps x.toInCall.keep, codeAny_func ?_⟩
  obtain ⟨t, ht, hq⟩ := hbody A outer s H vs Q E (hr.deeper _) hsp
  have I : Inv (cxOf CX P w K mg base N qual scope f cdv A outer s H E) [] (start N vs) H s1 := inv_start S hr.hd e0 hl r x
  refine wpAny_mono (ht [] s1 (start N vs) H _ I hq) (fun fl s' hs => ?_) fun e s' hs => hs
  have fin : ∀ {σ' : St} {H' : Hp} {v : V} {u : Value}, Inv (cxOf CX P w K mg base N qual scope f cdv A outer s H E) [] σ' H' s' → RelV v u → Q v H' → CE outer P w H s Q u s' :=
    fun {σ' H' v u} J rv q => ⟨v, H', J.os, J.bare, J.base, J.hok, rv, q⟩
  cases fl with
  | ret u =>
    obtain ⟨v, σ', H', J, rv, q⟩ := hs
    exact fin J rv q
  | next =>
    obtain ⟨σ', H', J, q⟩ := hs
    exact fin (v := V.non) (u := Value.none) J rfl q
  | brk =>
    obtain ⟨_, _, _, q⟩ := hs
    exact False.elim q
  | cont =>
    obtain ⟨_, _, _, q⟩ := hs
    exact False.elim q
end L2

namespace L2
open PySem PySem.Spec PyProof.Rows
section
variable {X : Cx} {x : Str} {p pos : Pos} {e : Expr} {es : List Expr} {t : TA} {id T : String} {r : List V → Hp → VK → Prop}

def tCB (r : List V → Hp → VK → Prop) (t : TA) : TE := fun σ H Q => t σ H fun vs H1 => r vs H1 Q
theorem pe_callB (hc : CallR X (.builtin id) r) (hg : Gl X x) (hm : X.mg x = none) (hv : bootBuiltins x = some (.builtin id)) (ha : PA X (e :: es) t) (hn : x ≠ "__name__" := by decide) (hdb : (x == ("__debug__" : Str)) = false := by decide)
    (he : starEach (e :: es) X.env = (false, eval e X.env) :: starEach es X.env := by rfl) (hpl : (backTo pos (starEach es X.env)).any (·.1) = false := by rfl) : PE X (.Call (.Name x p) (e :: es) [] pos) (tCB r t) := by
  intro pins s σ H Q I h
  refine wpAny_Call_Name_kw (ld_blt I hg hm hv ?_ hn hdb)
  exact PyProof.Rows.callWith_builtin1 (thn (ha pos pins s σ H _ I h) fun us s1 ⟨vs, H1, I1, r1, q1⟩ => hc pins s1 σ H1 vs us Q I1 r1 q1) he hpl
theorem pe_callTy (hc : CallR X (.type T) r) (hg : Gl X x) (hm : X.mg x = none) (hv : bootBuiltins x = some (.type T)) (ha : PA X (e :: es) t) (hn : x ≠ "__name__" := by decide) (hdb : (x == ("__debug__" : Str)) = false := by decide)
    (he : starEach (e :: es) X.env = (false, eval e X.env) :: starEach es X.env := by rfl) (hpl : (backTo pos (starEach es X.env)).any (·.1) = false := by rfl) : PE X (.Call (.Name x p) (e :: es) [] pos) (tCB r t) := by
  intro pins s σ H Q I h
  refine wpAny_Call_Name_kw (ld_blt I hg hm hv ?_ hn hdb)
  exact PyProof.Rows.callWith_type1 (thn (ha pos pins s σ H _ I h) fun us s1 ⟨vs, H1, I1, r1, q1⟩ => hc pins s1 σ H1 vs us Q I1 r1 q1) he hpl
end
end L2

namespace HT
open PySem PyProof.Rows

def lexLt : List Int → List Int → Bool
  | [], [] => false
  | [], _ :: _ => true
  | _ :: _, [] => false
  | x :: xs, y :: ys => if x = y then lexLt xs ys else decide (x < y)
section
open PySem.SeqAt
open PySem.AutoSeq1 (wpAny_loadPart')
open PySem.MeetsSeq PySem.MeetsSeq2 PySem.MeetsSeq3

end

section
variable {prog : Program} {w : World} {A : Around} {E : Value → Shared → Prop} {s : Shared}

theorem cat_tup {t b : Addr} {vs ws : List Value} {Q : Value → Shared → Prop} (ht : IsTup s.heap t vs.toArray) (hb : IsTup s.heap b ws.toArray) (hv : vs ≠ [])
    (h1 : ws = [] → Q (.ref t) s) (h2 : ws ≠ [] → Q (.ref s.heap.objs.size) { s with heap := s.heap.push { cls := .type "tuple", data := .seq (vs ++ ws).toArray } })
    (hsz : vs.length + ws.length ≤ sizeLine) : wpAny (model prog w) A (binaryOp .Add (.ref t) (.ref b)) Q E s := by
  obtain ⟨⟨cls, dd, data, sl⟩, ho, hc, n, hd⟩ := id ht
  obtain ⟨⟨cls2, dd2, data2, sl2⟩, ho2, hc2, n2, hd2⟩ := id hb
  simp only at hc hd hc2 hd2
  subst hc hd hc2 hd2
  have e : vs.toArray ++ ws.toArray = (vs ++ ws).toArray := by simp
  by_cases hw : ws = []
  · exact concat_meets ⟨_, ho, rfl⟩ ⟨_, ho2, rfl⟩ noFill_tuple_add seq_tuple_add PySem.F.slot_tuple_add PySem.F.entry_tuple_add (PySem.F.args_tuple_add_2 _ _)
      (tuple_addW1 t b vs.toArray ws.toArray n n2 dd dd2 sl sl2 (by simpa using hv) (by simp [hw])) ⟨ho, ho2, h1 hw⟩
  · refine concat_meets ⟨_, ho, rfl⟩ ⟨_, ho2, rfl⟩ noFill_tuple_add seq_tuple_add PySem.F.slot_tuple_add PySem.F.entry_tuple_add (PySem.F.args_tuple_add_2 _ _)
      (tuple_addW2 t b vs.toArray ws.toArray n n2 dd dd2 sl sl2 (by simpa using hv) (by simpa using hw) (by rw [List.size_toArray, List.size_toArray]; exact hsz)) ⟨ho, ho2, ?_⟩
    rw [e]
    exact h2 hw

def sIx (n d : Nat) : Option Int → Nat
  | none => d
  | some v => if v < 0 then (v + (n : Int)).toNat else min v.toNat n
theorem sIx_le (n d : Nat) (hd : d ≤ n) (o : Option Int) : sIx n d o ≤ n := by
  cases o with
  | none => exact hd
  | some v =>
    show (if v < 0 then (v + (n : Int)).toNat else min v.toNat n) ≤ n
    by_cases hv : v < 0
    · rw [if_pos hv]; omega
    · rw [if_neg hv]; exact Nat.min_le_right _ _
theorem clip_eq (v : Int) (n d : Nat) : (if v < 0 then max (v + (n : Int)) 0 else min v (n : Int)) = ((sIx n d (some v) : Nat) : Int) := by
  show (if v < 0 then max (v + (n : Int)) 0 else min v (n : Int)) = (((if v < 0 then (v + (n : Int)).toNat else min v.toNat n) : Nat) : Int)
  by_cases hv : v < 0
  · simp only [if_pos hv]; omega
  · simp only [if_neg hv]; omega
theorem adjust_gen (lo hi : Option Int) (n : Nat) : Builtin.Slice.sliceAdjust lo hi 1 (n : Int) = (((sIx n 0 lo : Nat) : Int), ((sIx n n hi : Nat) : Int)) := by
  have h1 : ¬ ((1 : Int) < 0) := by omega
  unfold Builtin.Slice.sliceAdjust
  simp only [h1, if_false]
  refine Prod.ext ?_ ?_
  · cases lo with
    | none => rfl
    | some v => exact clip_eq v n 0
  · cases hi with
    | none => rfl
    | some v => exact clip_eq v n n
theorem places_gen (i j : Nat) : Builtin.Slice.slicePlaces (i : Int) (j : Int) 1 = j - i := by
  unfold Builtin.Slice.slicePlaces
  have h1 : (1 : Int) > 0 := by omega
  simp only [h1, if_true, Int.ediv_one]
  split <;> omega
theorem slicePart_ {v : Value} {o : Option Int} {Q : Option Int → Shared → Prop} (p : IsPart v o) (h : Q o s) : wpAny (model prog w) A (Builtin.Slice.slicePartIndex v) Q E s := by
  cases p with
  | none => exact slicePart_none h
  | int i t => exact slicePart_int h
theorem sliceApplied_gen {sl : Addr} {vl vu : Value} {lo hi : Option Int} {n : Nat} {Q : Int × Int × Nat → Shared → Prop} (hs : s.heap.IsSliceOf sl vl vu .none) (pl : IsPart vl lo) (pu : IsPart vu hi)
    (h : Q (((sIx n 0 lo : Nat) : Int), 1, sIx n n hi - sIx n 0 lo) s) : wpAny (model prog w) A (Builtin.Slice.sliceApplied (.ref sl) (pure (n : Int))) Q E s := by
  obtain ⟨os, hos, hcs, hds⟩ := id hs
  unfold Builtin.Slice.sliceApplied Builtin.Slice.sliceFields
  refine wpAny_bind (wpAny_bind (wpAny_field hos hds (x := vl) rfl (wpAny_bind (wpAny_field hos hds (x := vu) rfl (wpAny_bind (wpAny_field hos hds (x := .none) rfl (wpAny_pure ?_)))))))
  refine wpAny_bind (slicePart_none ?_)
  show wpAny _ _ (if ((1 : Int) == 0) = true then _ else _) _ _ s
  rw [if_neg (by decide)]
  refine wpAny_bind (slicePart_ pl (wpAny_bind (slicePart_ pu (wpAny_bind (wpAny_pure ?_)))))
  show wpAny _ _ (match Builtin.Slice.sliceAdjust lo hi 1 (n : Int) with | (lo, hi) => pure (lo, (1 : Int), Builtin.Slice.slicePlaces lo hi 1)) _ _ s
  rw [adjust_gen lo hi n]
  show wpAny _ _ (pure (((sIx n 0 lo : Nat) : Int), (1 : Int), Builtin.Slice.slicePlaces ((sIx n 0 lo : Nat) : Int) ((sIx n n hi : Nat) : Int) 1)) _ _ s
  rw [places_gen]
  exact wpAny_pure h
theorem pick_gen (xs : Array Value) (i k : Nat) : ((List.range k).filterMap fun (m : Nat) => xs[((i : Int) + (m : Int) * 1).toNat]?).toArray = ((xs.toList.drop i).take k).toArray := by
  have e : (fun (m : Nat) => xs[((i : Int) + (m : Int) * 1).toNat]?) = fun m => xs[i + m]? := by
    funext m
    have : ((i : Int) + (m : Int) * 1).toNat = i + m := by omega
    rw [this]
  rw [e]
  have := pick_run xs i k
  rw [List.filterMap_map] at this
  have e2 : ((fun x => xs[x]?) ∘ fun x => i + x) = fun m => xs[i + m]? := rfl
  rw [e2] at this
  rw [this]

theorem getItem_tuple_cut {t sl : Addr} {items : Array Value} {vl vu : Value} {lo hi : Option Int} {Q : Value → Shared → Prop} (ht : IsTup s.heap t items) (hs : s.heap.IsSliceOf sl vl vu .none) (pl : IsPart vl lo) (pu : IsPart vu hi)
    (hw : ¬ (sIx items.size 0 lo = 0 ∧ sIx items.size items.size hi = items.size))
    (h : Q (.ref s.heap.objs.size) { s with heap := s.heap.push { cls := .type "tuple", data := .seq ((items.toList.drop (sIx items.size 0 lo)).take (sIx items.size items.size hi - sIx items.size 0 lo)).toArray } })
    (hsz : items.size ≤ sizeLine) : wpAny (model prog w) A (getItem (.ref t) (.ref sl)) Q E s := by
  have htake : sizeOk (.seq ((items.toList.drop (sIx items.size 0 lo)).take (sIx items.size items.size hi - sIx items.size 0 lo)).toArray) := by
    show ((items.toList.drop (sIx items.size 0 lo)).take (sIx items.size items.size hi - sIx items.size 0 lo)).toArray.size ≤ sizeLine
    rw [List.size_toArray, List.length_take, List.length_drop, Array.length_toList]
    omega
  have hj : sIx items.size items.size hi ≤ items.size := sIx_le _ _ (Nat.le_refl _) hi
  obtain ⟨os, hos, hcs, hds⟩ := id hs
  have hTs : s.TypeIs (.ref sl) "slice" := ⟨os, hos, hcs⟩
  unfold getItem
  try with_reducible refine wpAny_holding ?_
  first | refine wpAny_bind (wpAny_pure ?_) | skip
  refine wpAny_bind (wpAny_sequenceKey ht.typeIs (by decide) ?_)
  refine wpAny_bind (wpAny_callSpecial?_slot (name := Str.ofString "__getitem__") ht.typeIs PyProof.Rows.slot_tuple_getitem
    (wpAny_call_entry PyProof.Rows.slot_tuple_getitem ht.typeIs entry_tuple_getitem ?_ (args_tuple_getitem _ _)))
  show wpAny _ _ (Builtin.Tuple.tupleItemsOf (.ref t) >>= _) _ _ s
  refine wpAny_bind (tupleItemsOf_ ht ?_)
  refine wpAny_bind (wpAny_typeOf hTs ?_)
  rw [if_pos (by decide)]
  refine wpAny_bind (sliceApplied_gen hs pl pu ?_)
  have hno : ¬ ((((sIx items.size 0 lo : Nat) : Int) == 0 && (1 : Int) == 1 && (sIx items.size items.size hi - sIx items.size 0 lo) == items.size) = true) := by
    intro q
    rw [Bool.and_eq_true, Bool.and_eq_true] at q
    have q1 : ((sIx items.size 0 lo : Nat) : Int) = 0 := eq_of_beq q.1.1
    have q2 : sIx items.size items.size hi - sIx items.size 0 lo = items.size := eq_of_beq q.2
    exact hw ⟨by omega, by omega⟩
  show wpAny _ _ (if (((sIx items.size 0 lo : Nat) : Int) == 0 && (1 : Int) == 1 && (sIx items.size items.size hi - sIx items.size 0 lo) == items.size) = true then _ else _) _ _ s
  rw [if_neg hno, pick_gen]
  first
    | exact wpAny_bind (m := Builtin.Tuple.tupleExact _) (wpAny_newObj_type (wpAny_pure ⟨_, rfl, wpAny_pure h⟩) htake)
    | exact wpAny_bind (m := Builtin.Tuple.tupleExact _) (wpAny_newObj_type (wpAny_bind (wpAny_pure (wpAny_pure ⟨_, rfl, wpAny_pure h⟩))) htake)
    | exact wpAny_bind (wpAny_bind (m := Builtin.Tuple.tupleExact _) (wpAny_newObj_type (wpAny_pure (wpAny_pure ⟨_, rfl, wpAny_pure h⟩)) htake))
    | exact wpAny_bind (wpAny_bind (m := Builtin.Tuple.tupleExact _) (wpAny_newObj_type (wpAny_pure ⟨_, rfl, wpAny_pure h⟩) htake))
end
end HT

namespace L2
open PySem PySem.Spec PyProof.Rows

abbrev TO := St → Hp → (Option Int → Hp → Prop) → Prop
def PO (X : Cx) (e : Option Expr) (t : TO) : Prop :=
  ∀ (pins : List (Addr × Obj)) (s : Shared) (σ : St) (H : Hp) (Q : Option Int → Hp → Prop), Inv X pins σ H s → t σ H Q →
    wpAny (model X.prog X.w) X.A (evalPart e X.env) (fun u s' => ∃ o H', Inv X pins σ H' s' ∧ IsPart u o ∧ Q o H') X.xe s
def tNoPart : TO := fun _ H Q => Q none H
def tPart (t : TE) : TO := fun σ H Q => t σ H fun x H1 => ∃ i, x = .int i ∧ Q (some i) H1

section
variable {X : Cx} {e : Expr} {te : TE} {lo hi : Option Expr} {tl th : TO} {pos p2 : Pos}

theorem po_none : PO X none tNoPart := by
  intro pins s σ H Q I h
  rw [evalPart_none]
  exact wpAny_pure ⟨none, H, I, .none, h⟩
theorem po_some (h : PE X e te) : PO X (some e) (tPart te) := by
  intro pins s σ H Q I hw
  rw [evalPart_some]
  refine thn (h pins s σ H _ I hw) fun u s1 ⟨x, H1, I1, r1, q1⟩ => ?_
  obtain ⟨i, rfl, q⟩ := q1
  obtain ⟨t, rfl⟩ := r1
  exact ⟨some i, H1, I1, .int i t, q⟩

def SlR (X : Cx) (r : V → Option Int → Option Int → Hp → VK → Prop) : Prop :=
  ∀ (pins : List (Addr × Obj)) (s : Shared) (σ : St) (H : Hp) (x : V) (v vl vu : Value) (lo hi : Option Int) (sl : Addr) (Q : VK), Inv X pins σ H s → RelV x v → s.heap.IsSliceOf sl vl vu .none → IsPart vl lo → IsPart vu hi → r x lo hi H Q →
    ∃ T id, typeLookup (.type T) "__getitem__" = pure (some (.builtin id)) ∧ s.TypeIs v T ∧ wpAny (model X.prog X.w) X.A (getItem v (.ref sl)) (EP X pins σ Q) X.xe s
def tSl (r : V → Option Int → Option Int → Hp → VK → Prop) (te : TE) (tl th : TO) : TE := fun σ H Q => te σ H fun x H1 => tl σ H1 fun l H2 => th σ H2 fun u H3 => r x l u H3 Q
theorem pe_slice {r : V → Option Int → Option Int → Hp → VK → Prop} (hr : SlR X r) (he : PE X e te) (hl : PO X lo tl) (hu : PO X hi th) : PE X (.Subscript e (.Slice lo hi none p2) pos) (tSl r te tl th) := by
  intro pins s σ H Q I h
  refine Subscript_ (thn (he pins s σ H _ I h) fun v s1 ⟨x, H1, I1, r1, q1⟩ => ?_)
  refine wpAny_Slice (thn (hl pins s1 σ H1 _ I1 q1) fun vl s2 ⟨l, H2, I2, pl, q2⟩ => thn (hu pins s2 σ H2 _ I2 q2) fun vu s3 ⟨u, H3, I3, pu, q3⟩ => ?_)
  rw [evalPart_none]
  refine wpAny_pure ?_
  have I4 : Inv X pins σ H3 { s3 with heap := s3.heap.push { cls := .type "slice", data := .fields #[vl, vu, .none] } } := I3.kept (t' := s3.toks) fun b ob q => Heap.get?_push_of_some _ q
  obtain ⟨T, id, hT, ht, hg⟩ := hr pins { s3 with heap := s3.heap.push { cls := .type "slice", data := .fields #[vl, vu, .none] } } σ H3 x v vl vu l u s3.heap.objs.size Q I4 r1 (Heap.IsSliceOf.new ..) pl pu q3
  show wpAny (model X.prog X.w) X.A (subscriptTail e (.Slice lo hi none p2) v (.ref s3.heap.objs.size)) (EP X pins σ Q) X.xe { s3 with heap := s3.heap.push { cls := .type "slice", data := .fields #[vl, vu, .none] } }
  exact tail_any (ops := [.ref s3.heap.objs.size, v]) ht hT hg (by with_unfolding_all rfl)

def cutV (xs : List V) (lo hi : Option Int) : List V := (xs.drop (HT.sIx xs.length 0 lo)).take (HT.sIx xs.length xs.length hi - HT.sIx xs.length 0 lo)
theorem cutV_length (xs : List V) (lo hi : Option Int) : (cutV xs lo hi).length ≤ xs.length := by
  unfold cutV
  rw [List.length_take, List.length_drop]
  omega
def rSlT (K : PySem.W.Frag) : V → Option Int → Option Int → Hp → VK → Prop := fun x lo hi H Q => ∃ a xs, x = .ref a ∧ SqT K H a xs ∧
  ¬ (HT.sIx xs.length 0 lo = 0 ∧ HT.sIx xs.length xs.length hi = xs.length) ∧ ∀ p, H p = none → Q (.ref p) (upd H p (.tup (cutV xs lo hi)))
theorem sl_tup : SlR X (rSlT X.K) := by
  intro pins s σ H x v vl vu lo hi sl Q I rx hs pl pu h
  obtain ⟨a, xs, rfl, hx, hw, q⟩ := h
  cases rx
  obtain ⟨its, r, ht, hz⟩ := I.tuple hx
  have hlen : its.toArray.size = xs.length := by rw [List.size_toArray]; exact r.length.symm
  refine ⟨"tuple", _, PyProof.Rows.slot_tuple_getitem.lookup, ht.typeIs, ?_⟩
  refine HT.getItem_tuple_cut ht hs pl pu (by rw [hlen]; exact hw) ?_ (by rw [hlen]; exact hz)
  rw [hlen]
  refine ⟨.ref s.heap.objs.size, _, I.laid (t' := s.toks) (o := .tup (cutV xs lo hi)) (fun b ob q => Heap.get?_push_of_some _ q) (Nat.le_refl _) ?_, rfl, q _ (I.hok.fresh (Nat.le_refl _))⟩
  exact ⟨Nat.le_trans (cutV_length xs lo hi) hz, _, (r.drop (HT.sIx xs.length 0 lo)).take (HT.sIx xs.length xs.length hi - HT.sIx xs.length 0 lo), IsTup.new _ _⟩

def rLtT (K : PySem.W.Frag) : R2 := fun x y H Q => ∃ a b ns ms, x = .ref a ∧ y = .ref b ∧ SqT K H a (ns.map V.int) ∧ SqT K H b (ms.map V.int) ∧ Q (.bl (HT.lexLt ns ms)) H
def rCatT (K : PySem.W.Frag) : R2 := fun x y H Q => ∃ a b xs ys, x = .ref a ∧ y = .ref b ∧ SqT K H a xs ∧ SqT K H b ys ∧ xs ≠ [] ∧ xs.length + ys.length ≤ sizeLine ∧
  (ys = [] → Q (.ref a) H) ∧ (ys ≠ [] → ∀ p, H p = none → Q (.ref p) (upd H p (.tup (xs ++ ys))))
theorem Vals.nil_iff {xs : List V} {us : List Value} (r : Vals xs us) : us = [] ↔ xs = [] := by
  cases r with
  | nil => simp
  | cons _ _ => simp
theorem op_catT : OpR X (binaryOp .Add) (rCatT X.K) := by
  intro pins s σ H x y v u Q I rx ry h
  obtain ⟨a, b, xs, ys, rfl, rfl, ha, hb, hx, hz, q1, q2⟩ := h
  cases rx
  cases ry
  obtain ⟨its, r1, p1, _⟩ := I.tuple ha
  obtain ⟨its2, r2, p2, _⟩ := I.tuple hb
  refine HT.cat_tup p1 p2 (fun z => hx (r1.nil_iff.mp z)) (fun z => ⟨.ref a, H, I, rfl, q1 (r2.nil_iff.mp z)⟩) (fun z => ?_) (by rw [← r1.length, ← r2.length]; exact hz)
  refine ⟨.ref s.heap.objs.size, _, I.laid (t' := s.toks) (o := .tup (xs ++ ys)) (fun b ob q => Heap.get?_push_of_some _ q) (Nat.le_refl _) ?_, rfl, q2 (fun w => z (r2.nil_iff.mpr w)) _ (I.hok.fresh (Nat.le_refl _))⟩
  exact ⟨by rw [List.length_append]; exact hz, _, r1.append r2, IsTup.new _ _⟩
end
end L2

namespace L2
open PySem PySem.Spec PyProof.Rows

def ixN (n : Nat) (i : Int) : Option Nat := if 0 ≤ i then (if i < n then some i.toNat else none) else if -(n : Int) ≤ i then some (i + n).toNat else none
def atI {α : Type} (xs : List α) (i : Int) : Option α := (ixN xs.length i).bind fun j => xs[j]?
theorem ixN_seq {n : Nat} {i : Int} {j : Nat} (h : ixN n i = some j) : seqIndex? i n = some j ∧ j < n ∧ -(n : Int) ≤ i ∧ i < n := by
  unfold ixN at h
  by_cases h0 : 0 ≤ i
  · rw [if_pos h0] at h
    by_cases h1 : i < n
    · rw [if_pos h1] at h
      have e : i.toNat = j := Option.some.inj h
      exact ⟨by rw [seqIndex_of h0 h1, e], by omega, by omega, h1⟩
    · rw [if_neg h1] at h; cases h
  · rw [if_neg h0] at h
    by_cases h1 : -(n : Int) ≤ i
    · rw [if_pos h1] at h
      have e : (i + n).toNat = j := Option.some.inj h
      exact ⟨by rw [seqIndex_neg (by omega) h1, e], by omega, h1, by omega⟩
    · rw [if_neg h1] at h; cases h
theorem atI_get {α : Type} {xs : List α} {i : Int} {v : α} (h : atI xs i = some v) : ∃ j, seqIndex? i xs.length = some j ∧ xs[j]? = some v ∧ j < xs.length ∧ -(xs.length : Int) ≤ i ∧ i < xs.length := by
  unfold atI at h
  cases e : ixN xs.length i with
  | none => rw [e] at h; cases h
  | some j =>
    rw [e] at h
    obtain ⟨h1, h2, h3, h4⟩ := ixN_seq e
    exact ⟨j, h1, h, h2, h3, h4⟩
theorem atI_nat {α : Type} {xs : List α} {j : Nat} {v : α} (h : xs[j]? = some v) : atI xs (j : Int) = some v := by
  have hj : j < xs.length := (List.getElem?_eq_some_iff.mp h).1
  have e : ixN xs.length (j : Int) = some j := by
    unfold ixN
    rw [if_pos (by omega), if_pos (by omega)]; simp
  unfold atI; rw [e]; exact h
theorem atI_last {α : Type} (xs : List α) (v : α) : atI (xs ++ [v]) (-1) = some v := by
  have hl : (xs ++ [v]).length = xs.length + 1 := by simp
  have e : ixN (xs ++ [v]).length (-1) = some xs.length := by
    unfold ixN
    rw [hl, if_neg (by decide), if_pos (by omega)]
    congr 1
    omega
  unfold atI
  rw [e]
  show (xs ++ [v])[xs.length]? = some v
  simp

def PlainIx (b : Expr) : Prop := ∀ o i, subscripted b false o i = operate [o, i] (getItem o i)
def IxR (X : Cx) (r : R2) : Prop :=
  ∀ (value slice : Expr) (pins : List (Addr × Obj)) (s : Shared) (σ : St) (H : Hp) (x y : V) (v u : Value) (Q : VK), Inv X pins σ H s → RelV x v → RelV y u → r x y H Q →
    subscripted slice false v u = operate [v, u] (getItem v u) → wpAny (model X.prog X.w) X.A (subscriptTail value slice v u) (EP X pins σ Q) X.xe s
def MtR (X : Cx) (id : String) (r : V → List V → Hp → VK → Prop) : Prop :=
  ∀ (pins : List (Addr × Obj)) (s : Shared) (σ : St) (H : Hp) (x : V) (xs : List V) (v : Value) (us : List Value) (Q : VK), Inv X pins σ H s → RelV x v → Vals xs us → r x xs H Q →
    wpAny (model X.prog X.w) X.A (call (.builtin id) (v :: us)) (EP X pins σ Q) X.xe s
section
variable {X : Cx} {a b : Expr} {ta tb : TE} {pos : Pos}
theorem pe_ix {r : R2} (hr : IxR X r) (ha : PE X a ta) (hb : PE X b tb) (hs : PlainIx b) : PE X (.Subscript a b pos) (tOp r ta tb) := by
  intro pins s σ H Q I h
  exact Subscript_ (binT ha hb I h fun v u s2 x y H2 I2 rx ry q => hr a b pins s2 σ H2 x y v u Q I2 rx ry q (hs _ _))

def rIxL (K : PySem.W.Frag) : R2 := fun x y H Q => ∃ p xs i v, x = .ref p ∧ y = .int i ∧ SqL K H p xs ∧ atI xs i = some v ∧ Q v H
def rIxT (K : PySem.W.Frag) : R2 := fun x y H Q => ∃ p xs i v, x = .ref p ∧ y = .int i ∧ SqT K H p xs ∧ atI xs i = some v ∧ Q v H
def rIxS : R2 := fun x y H Q => ∃ z i c, x = .str z ∧ y = .int i ∧ z.length ≤ sizeLine ∧ atI z.cps.toList i = some c ∧ Q (.str ⟨#[c]⟩) H
theorem ix_list : IxR X (rIxL X.K) := by
  intro value slice pins s σ H x y v u Q I rx ry h hs
  obtain ⟨p, xs, i, z, rfl, rfl, hq, he, q⟩ := h
  cases rx
  obtain ⟨t, rfl⟩ := ry
  obtain ⟨its, r, pl, hz⟩ := I.list hq
  obtain ⟨j, h1, h2, h3, h4, h5⟩ := atI_get he
  obtain ⟨w, ew, rw'⟩ := r.get h2
  have hl := r.length
  have hn := line63
  have fin : EP X pins σ Q w s := ⟨z, H, I, rw', q⟩
  by_cases h0 : 0 ≤ i
  · have hj : i.toNat = j := by
      rw [seqIndex_of h0 h5] at h1
      exact Option.some.inj h1
    exact item_listR pl.isList h0 (by omega) (by rw [hj]; simpa using ew) fin hs
  · have hj : (i + (its.toArray.size : Int)).toNat = j := by
      rw [seqIndex_neg (by omega) h4] at h1
      rw [List.size_toArray, ← hl]
      exact Option.some.inj h1
    exact subscriptTail_builtinR (x := w) pl.isList.typeIs slot_list_getitem.lookup
      (wpAny_getItem_list_neg (Q := fun r s' => r = w ∧ EP X pins σ Q r s') pl.isList (by omega) (by rw [List.size_toArray] <;> omega) (by omega) (by rw [hj]; simpa using ew) ⟨rfl, fin⟩) hs
theorem ix_tup : IxR X (rIxT X.K) := by
  intro value slice pins s σ H x y v u Q I rx ry h hs
  obtain ⟨p, xs, i, z, rfl, rfl, hq, he, q⟩ := h
  cases rx
  obtain ⟨t, rfl⟩ := ry
  obtain ⟨its, r, pl, hz⟩ := I.tuple hq
  obtain ⟨j, h1, h2, h3, h4, h5⟩ := atI_get he
  obtain ⟨w, ew, rw'⟩ := r.get h2
  have hl := r.length
  have hn := line63
  have fin : EP X pins σ Q w s := ⟨z, H, I, rw', q⟩
  exact subscriptTail_builtinR (x := w) pl.typeIs slot_tuple_getitem.lookup
    (getItem_tuple (j := j) (Q := fun r s' => r = w ∧ EP X pins σ Q r s') pl (by omega) (by omega) (by rw [List.size_toArray, ← hl]; exact h1) (by simpa using ew) ⟨rfl, fin⟩) hs
theorem ix_str : IxR X rIxS := by
  intro value slice pins s σ H x y v u Q I rx ry h hs
  obtain ⟨z, i, c, rfl, rfl, hz, he, q⟩ := h
  obtain ⟨t, rfl⟩ := rx
  obtain ⟨t', rfl⟩ := ry
  obtain ⟨j, h1, h2, h3, h4, h5⟩ := atI_get he
  have hl : z.cps.toList.length = z.length := by simp [Str.length]
  rw [hl] at h1 h4 h5
  have hn := line63
  exact tail_any (typeIs_str s z t) slot_str_getitem.lookup (getItem_str (c := c) (by
    have e1 : decide (i < -(2 ^ 63 : Int)) = false := decide_eq_false (by omega)
    have e2 : decide (i ≥ 2 ^ 63) = false := decide_eq_false (by omega)
    rw [e1, e2, Bool.or_false]) (by rw [h1]; simpa using h2) ⟨.str ⟨#[c]⟩, H, I.tok _, ⟨_, rfl⟩, q⟩) hs
def rIx (K : PySem.W.Frag) : R2 := fun x y H Q => rIxL K x y H Q ∨ rIxT K x y H Q ∨ rIxS x y H Q
theorem mapSeq_set (its : List Value) (n j : Nat) (u : Value) : Obj.mapSeq (·.setIfInBounds j u) { cls := .type "list", data := .seq its.toArray n } = { cls := .type "list", data := .seq (its.set j u).toArray n } := by
  simp [Obj.mapSeq]
theorem Inv.lst {pins : List (Addr × Obj)} {σ : St} {H : Hp} {s : Shared} {p : Addr} {xs : List V} (I : Inv X pins σ H s) (h : H p = some (.lst xs)) :
    ∃ (its : List Value) (n : Nat), Vals xs its ∧ s.heap.get? p = some { cls := .type "list", data := .seq its.toArray n } ∧ xs.length ≤ sizeLine := by
  obtain ⟨z, its, n, r, e⟩ := I.hok p _ h
  exact ⟨its, n, r, e, z⟩
theorem Inv.lstUpd {pins : List (Addr × Obj)} {σ : St} {H : Hp} {s : Shared} {p : Addr} {xs ys : List V} {its its' : List Value} {n n' : Nat} {f : Obj → Obj} (I : Inv X pins σ H s) (h : H p = some (.lst xs))
    (ho : s.heap.get? p = some { cls := .type "list", data := .seq its.toArray n }) (hf : f { cls := .type "list", data := .seq its.toArray n } = { cls := .type "list", data := .seq its'.toArray n' }) (r : Vals ys its') (hz : ys.length ≤ sizeLine) (t : Nat) :
    Inv X pins σ (upd H p (.lst ys)) { s with heap := s.heap.update p f, toks := t } := by
  have e : (s.heap.update p f).get? p = some { cls := .type "list", data := .seq its'.toArray n' } := by
    rw [Heap.get?_update_self f ho (by rw [hf] <;> rfl), hf]
  refine I.write (x := p) (e := p) (by rw [h]; trivial) (.inl rfl) (fun b u hb q => (Heap.get?_update_other _ _ (Ne.symm hb)).trans q) ⟨_, e⟩ ?_
  exact ⟨hz, its', n', r, e⟩
def rSetL : V → V → V → Hp → (Hp → Prop) → Prop := fun o i v H Q => ∃ p xs k j, o = .ref p ∧ i = .int k ∧ H p = some (.lst xs) ∧ ixN xs.length k = some j ∧ Q (upd H p (.lst (xs.set j v)))
theorem set_list : PSet X rSetL := by
  intro pins s σ H o i v ov iv u Q I ro ri rv h
  obtain ⟨p, xs, k, j, rfl, rfl, hp, hj, q⟩ := h
  cases ro
  obtain ⟨t, rfl⟩ := ri
  obtain ⟨its, n, r, ho, hz⟩ := I.lst hp
  obtain ⟨h1, h2, h3, h4⟩ := ixN_seq hj
  have hl := r.length
  have hn := line63
  have I' : Inv X pins σ (upd H p (.lst (xs.set j v))) { s with heap := s.heap.update p (Obj.mapSeq (·.setIfInBounds j u)) } :=
    I.lstUpd hp ho (mapSeq_set its n j u) (r.set rv j) (by rw [List.length_set]; exact hz) s.toks
  by_cases h0 : 0 ≤ k
  · have hk : k.toNat = j := by
      rw [seqIndex_of h0 h4] at h1
      exact Option.some.inj h1
    exact PySem.W.ki_setAt ho h0 (by omega) (by rw [List.size_toArray, ← hl]; exact h4) (by rw [hk]; exact ⟨_, I', q⟩)
  · have hk : (k + (its.toArray.size : Int)).toNat = j := by
      rw [seqIndex_neg (by omega) h3] at h1
      rw [List.size_toArray, ← hl]
      exact Option.some.inj h1
    exact PySem.W.ki_setBack ho (by omega) (by rw [List.size_toArray, ← hl]; exact h3) (by omega) (by rw [hk]; exact ⟨_, I', q⟩)

theorem slice_bounds (lo hi : Option Int) (n : Nat) : (sliceBounds lo hi none n).1 = ((HT.sIx n 0 lo : Nat) : Int) ∧ (sliceBounds lo hi none n).2.1 = ((HT.sIx n n hi : Nat) : Int) ∧ (sliceBounds lo hi none n).2.2 = 1 := by
  refine ⟨?_, ?_, rfl⟩
  · cases lo with
    | none => simp [sliceBounds, HT.sIx]
    | some i =>
      simp only [sliceBounds, HT.sIx, Option.getD_none, show (1 : Int) > 0 by decide, if_true]
      by_cases h : i < 0
      · simp only [h, if_true] <;> omega
      · simp only [h, if_false] <;> omega
  · cases hi with
    | none => simp [sliceBounds, HT.sIx]
    | some i =>
      simp only [sliceBounds, HT.sIx, Option.getD_none, show (1 : Int) > 0 by decide, if_true]
      by_cases h : i < 0
      · simp only [h, if_true] <;> omega
      · simp only [h, if_false] <;> omega
theorem slicePick_cut (its : List Value) (lo hi : Option Int) : slicePick its.toArray lo hi none = ((its.drop (HT.sIx its.length 0 lo)).take (HT.sIx its.length its.length hi - HT.sIx its.length 0 lo)).toArray := by
  obtain ⟨h1, h2, h3⟩ := slice_bounds lo hi its.toArray.size
  unfold slicePick
  rw [h1, h2, h3]
  simp only [sliceRange_one, pick_run, List.size_toArray] <;> rfl
def rSlL (K : PySem.W.Frag) : V → Option Int → Option Int → Hp → VK → Prop := fun x lo hi H Q => ∃ a xs, x = .ref a ∧ SqL K H a xs ∧ ∀ p, H p = none → Q (.ref p) (upd H p (.lst (cutV xs lo hi)))
theorem sl_list : SlR X (rSlL X.K) := by
  intro pins s σ H x v vl vu lo hi sl Q I rx hs pl pu h
  obtain ⟨a, xs, rfl, hx, q⟩ := h
  cases rx
  obtain ⟨its, r, ht, hz⟩ := I.list hx
  have hlen := r.length
  refine ⟨"list", _, slot_list_getitem.lookup, ht.isList.typeIs, ?_⟩
  refine wpAny_getItem_list_slice ht.isList hs pl pu .none (by simp) ?_ (by rw [List.size_toArray] <;> omega)
  rw [slicePick_cut, ← hlen]
  refine ⟨.ref s.heap.objs.size, _, I.laid (t' := s.toks) (o := .lst (cutV xs lo hi)) (fun b ob q => Heap.get?_push_of_some _ q) (Nat.le_refl _) ?_, rfl, q _ (I.hok.fresh (Nat.le_refl _))⟩
  exact ⟨Nat.le_trans (cutV_length xs lo hi) hz, _, 0, (r.drop (HT.sIx xs.length 0 lo)).take (HT.sIx xs.length xs.length hi - HT.sIx xs.length 0 lo), Heap.get?_push_size _ rfl⟩

def flatV : V → Bool
  | .non => true
  | .bl _ => true
  | .int _ => true
  | .str _ => true
  | _ => false
def eqV : V → V → Bool
  | .non, .non => true
  | .bl a, .bl b => a == b
  | .bl a, .int b => (if a then 1 else 0) == b
  | .int a, .bl b => a == (if b then 1 else 0)
  | .int a, .int b => a == b
  | .str a, .str b => a == b
  | _, _ => false
theorem eqAt_V {A : Around} {s : Shared} {y x : V} {u v : Value} (ry : RelV y u) (rx : RelV x v) (fy : flatV y = true) (fx : flatV x = true) : SeqAt.EqAt A s u v (eqV y x) := by
  cases y with
  | non =>
    cases ry
    cases x with
    | non => cases rx; exact SeqAt.EqAt.same _
    | bl b => cases rx; exact SeqAt.EqAt.none_bool b
    | int b => obtain ⟨t, rfl⟩ := rx; exact SeqAt.EqAt.none_int b t
    | str b => obtain ⟨t, rfl⟩ := rx; exact SeqAt.EqAt.none_str b t
    | _ => exact absurd (show false = true from fx) Bool.false_ne_true
  | bl a =>
    cases ry
    cases x with
    | non => cases rx; exact SeqAt.EqAt.bool_none a
    | bl b => cases rx; exact SeqAt.EqAt.bool_bool a b
    | int b => obtain ⟨t, rfl⟩ := rx; exact SeqAt.EqAt.bool_int a b t
    | str b => obtain ⟨t, rfl⟩ := rx; exact SeqAt.EqAt.bool_str a b t
    | _ => exact absurd (show false = true from fx) Bool.false_ne_true
  | int a =>
    obtain ⟨t', rfl⟩ := ry
    cases x with
    | non => cases rx; exact SeqAt.EqAt.int_none a t'
    | bl b => cases rx; exact SeqAt.EqAt.int_bool a t' b
    | int b => obtain ⟨t, rfl⟩ := rx; exact SeqAt.EqAt.int_int a t' b t
    | str b => obtain ⟨t, rfl⟩ := rx; exact SeqAt.EqAt.int_str a t' b t
    | _ => exact absurd (show false = true from fx) Bool.false_ne_true
  | str a =>
    obtain ⟨t', rfl⟩ := ry
    cases x with
    | non => cases rx; exact SeqAt.EqAt.str_none a t'
    | bl b => cases rx; exact SeqAt.EqAt.str_bool a t' b
    | int b => obtain ⟨t, rfl⟩ := rx; exact SeqAt.EqAt.str_int a t' b t
    | str b => obtain ⟨t, rfl⟩ := rx; exact SeqAt.EqAt.str_str a t' b t
    | _ => exact absurd (show false = true from fx) Bool.false_ne_true
  | _ => exact absurd (show false = true from fy) Bool.false_ne_true
def eqU (x : V) (u : Value) : Bool := match u with
  | .none => eqV .non x
  | .bool b => eqV (.bl b) x
  | .int i _ => eqV (.int i) x
  | .str z _ => eqV (.str z) x
  | _ => false
theorem eqU_of {x y : V} {u : Value} (r : RelV y u) (f : flatV y = true) : eqU x u = eqV y x := by
  cases y with
  | non => cases r; rfl
  | bl b => cases r; rfl
  | int i => obtain ⟨t, rfl⟩ := r; rfl
  | str z => obtain ⟨t, rfl⟩ := r; rfl
  | _ => exact absurd (show false = true from f) Bool.false_ne_true
theorem any_eqU {x : V} : ∀ {xs : List V} {us : List Value}, Vals xs us → xs.all flatV = true → us.any (eqU x) = xs.any fun y => eqV y x
  | _, _, .nil, _ => rfl
  | y :: xs, u :: us, .cons r t, f => by
    rw [List.all_cons, Bool.and_eq_true] at f
    rw [List.any_cons, List.any_cons, eqU_of r f.1, any_eqU t f.2]
theorem mem_eqAt {A : Around} {s : Shared} {x : V} {v : Value} (rx : RelV x v) (fx : flatV x = true) : ∀ {xs : List V} {us : List Value}, Vals xs us → xs.all flatV = true → ∀ u ∈ us, SeqAt.EqAt A s u v (eqU x u)
  | _, _, .nil, _ => fun u hu => by cases hu
  | y :: xs, u :: us, .cons r t, f => fun u' hu => by
    rw [List.all_cons, Bool.and_eq_true] at f
    rcases List.mem_cons.mp hu with rfl | hu
    · rw [eqU_of r f.1]; exact eqAt_V r rx f.1 fx
    · exact mem_eqAt rx fx t f.2 u' hu
def inV (x : V) (xs : List V) : Bool := xs.any fun y => eqV y x
def rIn (K : PySem.W.Frag) (neg : Bool) : R2 := fun x y H Q => ∃ p xs, y = .ref p ∧ (SqL K H p xs ∨ SqT K H p xs) ∧ flatV x = true ∧ xs.all flatV = true ∧ Q (.bl (if neg then !inV x xs else inV x xs)) H
theorem op_in_seq : OpR X (compareOp .In) (rIn X.K false) := by
  intro pins s σ H x y v u Q I rx ry h
  obtain ⟨p, xs, rfl, hq, fx, fs, q⟩ := h
  cases ry
  rcases hq with hq | hq
  · obtain ⟨its, r, pl, hz⟩ := I.list hq
    refine SeqAt.in_listAt (eqU x) pl.isList (fun w hw => mem_eqAt rx fx r fs w (by simpa using hw)) ⟨.bl _, H, I, rfl, ?_⟩
    rw [show its.toArray.any (eqU x) = its.any (eqU x) by simp, any_eqU r fs]
    exact q
  · obtain ⟨its, r, pl, hz⟩ := I.tuple hq
    refine SeqAt.in_tupleAt (eqU x) pl (fun w hw => mem_eqAt rx fx r fs w (by simpa using hw)) ⟨.bl _, H, I, rfl, ?_⟩
    rw [show its.toArray.any (eqU x) = its.any (eqU x) by simp, any_eqU r fs]
    exact q
theorem call_list_of : CallR X (.type "list") (fun xs H Q => ∃ p ys, xs = [.ref p] ∧ (SqL X.K H p ys ∨ SqT X.K H p ys) ∧ ∀ l, H l = none → Q (.ref l) (upd H l (.lst ys))) := by
  intro pins s σ H xs us Q I r h
  obtain ⟨p, ys, rfl, hq, q⟩ := h
  obtain ⟨u, rfl, rx⟩ := vals1 r
  cases rx
  have fin : ∀ (its : List Value), Vals ys its → ys.length ≤ sizeLine → ∀ (h' : Heap) (c' : Nat), (∀ b o', s.heap.get? b = some o' → h'.get? b = some o') →
      h'.get? s.heap.objs.size = some { cls := .type "list", dict := none, data := .seq its.toArray c', slots := #[] } → EP X pins σ Q (.ref s.heap.objs.size) { s with heap := h' } := fun its r' hz h' c' kp e =>
    ⟨.ref s.heap.objs.size, _, I.laid (t' := s.toks) kp (Nat.le_refl _) (show ObjOk X.prog X.w _ h' _ (.lst ys) from ⟨hz, its, c', r', e⟩), rfl, q _ (I.hok.fresh (Nat.le_refl _))⟩
  rcases hq with hq | hq
  · obtain ⟨its, r', pl, hz⟩ := I.list hq
    have hlen := r'.length
    obtain ⟨o, ho, hc, n, hd⟩ := pl.isList
    exact call_list_seq p (.inl rfl) ho hc hd (fun h' c' kp e => fin its r' hz h' c' kp e) (by simp only [List.size_toArray] <;> omega)
  · obtain ⟨its, r', pl, hz⟩ := I.tuple hq
    have hlen := r'.length
    obtain ⟨o, ho, hc, n, hd⟩ := pl
    exact call_list_seq p (.inr rfl) ho hc hd (fun h' c' kp e => fin its r' hz h' c' kp e) (by simp only [List.size_toArray] <;> omega)
theorem call_tuple_of : CallR X (.type "tuple") (fun xs H Q => ∃ p ys, xs = [.ref p] ∧ ((SqL X.K H p ys ∧ ∀ l, H l = none → Q (.ref l) (upd H l (.tup ys))) ∨ (SqT X.K H p ys ∧ Q (.ref p) H))) := by
  intro pins s σ H xs us Q I r h
  obtain ⟨p, ys, rfl, h⟩ := h
  obtain ⟨u, rfl, rx⟩ := vals1 r
  cases rx
  rcases h with ⟨hq, q⟩ | ⟨hq, q⟩
  · obtain ⟨its, r', pl, hz⟩ := I.list hq
    have hlen := r'.length
    refine call_tuple_list pl.isList (fun h' kp => ?_) (by simp only [List.size_toArray] <;> omega)
    have I1 : Inv X pins σ H { s with heap := h' } := I.kept (t' := s.toks) kp
    have I2 : Inv X pins σ (upd H h'.objs.size (.tup ys)) { s with heap := h'.push { cls := .type "tuple", data := .seq its.toArray } } :=
      I1.laid (t' := s.toks) (fun b o e => Heap.get?_push_of_some _ e) (Nat.le_refl _) (show ObjOk X.prog X.w _ _ _ (.tup ys) from ⟨hz, its, r', IsTup.new _ _⟩)
    exact ⟨.ref h'.objs.size, _, I2, rfl, q _ (I1.hok.fresh (Nat.le_refl _))⟩
  · obtain ⟨its, r', pl, hz⟩ := I.tuple hq
    exact call_tuple_same pl ⟨.ref p, H, I, rfl, q⟩

def tyV (K : PySem.W.Frag) (T : String) (x : V) (H : Hp) : Prop := match x with
  | .str _ => T = "str"
  | .int _ => T = "int"
  | .ref p => (T = "list" ∧ ∃ xs, SqL K H p xs) ∨ (T = "tuple" ∧ ∃ o, K.lookup p = some o ∧ o.cls = .type "tuple" ∧ o.dict = none) ∨
      (T = "dict" ∧ ((∃ kvs, H p = some (.dK kvs)) ∨ ∃ kvs, H p = some (.dT kvs))) ∨ (T = "set" ∧ ∃ S n, H p = some (.set S n))
  | _ => False
theorem tyV_is {pins : List (Addr × Obj)} {σ : St} {H : Hp} {s : Shared} {T : String} {x : V} {v : Value} (I : Inv X pins σ H s) (r : RelV x v) (ty : tyV X.K T x H) :
    s.TypeIs v T ∧ ∀ a, v = .ref a → ∃ ob, s.heap.get? a = some ob ∧ ob.dict = none := by
  cases x with
  | str z =>
    obtain ⟨t, rfl⟩ := r
    cases (show T = "str" from ty)
    exact ⟨typeIs_str s z t, fun _ e => nomatch e⟩
  | int i =>
    obtain ⟨t, rfl⟩ := r
    cases (show T = "int" from ty)
    exact ⟨typeIs_int s i t, fun _ e => nomatch e⟩
  | ref p =>
    cases r
    rcases ty with ⟨rfl, xs, hq⟩ | ⟨rfl, o, hk, hc, hd⟩ | ⟨rfl, hk⟩ | ⟨rfl, S, n, hk⟩
    · obtain ⟨its, _, pl, _⟩ := I.list hq
      refine ⟨pl.isList.typeIs, fun a e => ?_⟩
      cases e
      obtain ⟨o, n, e, c, hd, _⟩ := pl
      exact ⟨o, e, hd⟩
    · refine ⟨⟨o, I.kIn p o hk, hc⟩, fun a e => ?_⟩
      cases e
      exact ⟨o, I.kIn _ o hk, hd⟩
    · have z : ∃ o, s.heap.get? p = some o ∧ o.ExactDict := by
        rcases hk with ⟨kvs, hk⟩ | ⟨kvs, hk⟩
        · obtain ⟨_, _, _, _, o, _, _, e, ex, _⟩ := I.hok p _ hk
          exact ⟨o, e, ex⟩
        · obtain ⟨_, _, _, _, o, _, _, e, ex, _⟩ := I.hok p _ hk
          exact ⟨o, e, ex⟩
      obtain ⟨o, e, ex⟩ := z
      refine ⟨⟨o, e, ex.1⟩, fun a e2 => ?_⟩
      cases e2
      exact ⟨o, e, ex.2.1⟩
    · obtain ⟨o, _, _, _, e, ex, _⟩ := I.hok p _ hk
      refine ⟨⟨o, e, ex.1⟩, fun a e2 => ?_⟩
      cases e2
      exact ⟨o, e, ex.2.1⟩
  | _ => exact False.elim ty
def tBM0 (K : PySem.W.Frag) (T : String) (r : V → List V → Hp → VK → Prop) (to : TE) : TE := fun σ H Q => to σ H fun x H1 => tyV K T x H1 ∧ r x [] H1 Q
def tBM (K : PySem.W.Frag) (T : String) (r : V → List V → Hp → VK → Prop) (to : TE) (t : TA) : TE := fun σ H Q => to σ H fun x H1 => tyV K T x H1 ∧ t σ H1 fun xs H2 => r x xs H2 Q
variable {o e : Expr} {es : List Expr} {to : TE} {t : TA} {name : Str} {apos cpos : Pos} {T id : String} {r : V → List V → Hp → VK → Prop}
theorem pe_bm0 (pa : PlainAttrs T) (slot : Slot T name id) (hty : typeOf (.builtin id) = pure (.type "method_descriptor")) (hm : MtR X id r) (ho : PE X o to)
    (hbase : attributeBase o name X.env (eval o X.env) = eval o X.env := by rfl) (hline : (apos.endLine == cpos.line) = true := by rfl) : PE X (.Call (.Attribute o name apos) [] [] cpos) (tBM0 X.K T r to) := by
  intro pins s σ H Q I h
  refine wpAny_Call_method0_late hbase hline (thn (ho pins s σ H _ I h) fun v s1 ⟨x, H1, I1, r1, ty, q1⟩ => ?_)
  obtain ⟨h1, h2⟩ := tyV_is I1 r1 ty
  exact ⟨T, id, pa, slot, hty, h1, h2, Calls.callWith_builtin rfl (PySem.evalArgs_none (hm pins s1 σ H1 x [] v [] Q I1 r1 .nil q1))⟩
theorem pe_bm (pa : PlainAttrs T) (slot : Slot T name id) (hty : typeOf (.builtin id) = pure (.type "method_descriptor")) (hm : MtR X id r) (ho : PE X o to) (ha : PA X (e :: es) t)
    (hbase : attributeBase o name X.env (eval o X.env) = eval o X.env := by rfl)
    (hfew : ((backTo cpos (starEach (e :: es) X.env)).all (fun x => !x.1) && (backToKw cpos (keywordEach [] X.env)).all (fun x => x.1.isSome)
      && decide ((e :: es).length + ([] : List Keyword).length + (if ([] : List Keyword).isEmpty then 0 else 1) < 30)) = true := by rfl)
    (hline : (apos.endLine == cpos.line) = true := by rfl) (hs : starEach (e :: es) X.env = (false, eval e X.env) :: starEach es X.env := by rfl) (hplain : (backTo cpos (starEach es X.env)).any (·.1) = false := by rfl) :
    PE X (.Call (.Attribute o name apos) (e :: es) [] cpos) (tBM X.K T r to t) := by
  intro pins s σ H Q I h
  refine wpAny_Call_method_late hbase hfew hline rfl (thn (ho pins s σ H _ I h) fun v s1 ⟨x, H1, I1, r1, ty, q1⟩ => ?_)
  obtain ⟨h1, h2⟩ := tyV_is I1 r1 ty
  refine ⟨T, id, pa, slot, hty, h1, h2, ?_⟩
  have hA := ha cpos pins s1 σ H1 _ I1 q1
  rw [hs] at hA ⊢
  refine Calls.callWith_builtin (by show (false || (backTo cpos (starEach es X.env)).any (·.1)) = false; rw [hplain] <;> rfl) (Calls.evalArgs_plain ?_)
  exact thn hA fun us s2 ⟨vs, H2, I2, r2, q2⟩ => hm pins s2 σ H2 x vs v us Q I2 r1 r2 q2
/- xs.append(e), list.index on a module's tuple .. are MtR facts of 06m -/
end
end L2

namespace L2
open PySem PySem.Spec PyProof.Rows

def MtM (X : Cx) (id : String) (r : V → List V → Hp → VK → Prop) : Prop :=
  ∀ (pins : List (Addr × Obj)) (s : Shared) (σ : St) (H : Hp) (x : V) (xs : List V) (v : Value) (us : List Value) (Q : VK), Inv X pins σ H s → RelV x v → Vals xs us → r x xs H Q →
    wpAny (model X.prog X.w) X.A (call (.builtin id) (v :: us)) (EP X pins σ Q) X.xe s

theorem Vals.one : ∀ {x : V} {us : List Value}, Vals [x] us → ∃ u, us = [u] ∧ RelV x u
  | _, _, .cons r .nil => ⟨_, rfl, r⟩
theorem Vals.zero : ∀ {us : List Value}, Vals [] us → us = []
  | _, .nil => rfl
section
variable {X : Cx} {pins : List (Addr × Obj)} {σ : St} {H : Hp} {s : Shared} {l b : Addr} {xs ys zs : List V}

theorem Inv.lset {its its' : List Value} {n : Nat} {f : Array Value → Array Value} {t' : Nat} (I : Inv X pins σ H s) (hH : H l = some (.lst xs))
    (e : s.heap.get? l = some { cls := .type "list", data := .seq its.toArray n }) (hf : f its.toArray = its'.toArray) (hv : Vals ys its') (hz : ys.length ≤ sizeLine) :
    Inv X pins σ (upd H l (.lst ys)) { s with heap := s.heap.update l (Obj.mapSeq f), toks := t' } := by
  have q := PySem.IsL.update e f
  rw [hf] at q
  refine I.write (x := l) (e := l) (by rw [hH]; exact trivial) (.inl rfl) (fun b' u hb hu => (Heap.get?_update_other s.heap (Obj.mapSeq f) (Ne.symm hb)).trans hu) ⟨_, q⟩ ?_
  exact ⟨hz, its', _, hv, q⟩
theorem Inv.lnew {its : List Value} {t' : Nat} (I : Inv X pins σ H s) (hv : Vals ys its) (hz : ys.length ≤ sizeLine) :
    Inv X pins σ (upd H s.heap.objs.size (.lst ys)) { s with heap := s.heap.push { cls := .type "list", data := .seq its.toArray }, toks := t' } :=
  I.laid (fun _ _ q => Heap.get?_push_of_some _ q) (Nat.le_refl _) ⟨hz, its, 0, hv, Heap.get?_push_size _ rfl⟩
theorem Inv.fresh (I : Inv X pins σ H s) : H s.heap.objs.size = none := I.hok.fresh (Nat.le_refl _)
theorem Inv.lstM (I : Inv X pins σ H s) (hH : H l = some (.lst xs)) : xs.length ≤ sizeLine ∧ ∃ (its : List Value) (n : Nat), Vals xs its ∧ xs.length = its.length ∧ s.heap.get? l = some { cls := .type "list", data := .seq its.toArray n } := by
  obtain ⟨z, its, n, r, e⟩ := I.hok l _ hH
  exact ⟨z, its, n, r, r.length, e⟩

end

section
variable {X : Cx}

def rAppend : V → List V → Hp → VK → Prop := fun x vs H Q => ∃ l xs y, x = .ref l ∧ vs = [y] ∧ H l = some (.lst xs) ∧ xs.length < sizeLine ∧ Q .non (upd H l (.lst (xs ++ [y])))
theorem mt_append : MtM X "list.append" rAppend := by
  intro pins s σ H x vs v us Q I rx rv h
  obtain ⟨l, xs, y, rfl, rfl, hH, hz, q⟩ := h
  cases rx
  obtain ⟨u, rfl, ru⟩ := rv.one
  obtain ⟨z, its, n, r, hl, e⟩ := I.lstM hH
  refine call_meets F.slot_list_append ⟨_, e, rfl⟩ F.entry_list_append (F.args_list_append_2 _ _) (PySem.list_append l its.toArray n u (by rw [List.size_toArray]; omega)) ⟨e, ?_⟩
  refine ⟨.non, _, I.lset (its' := its ++ [u]) hH e (by simp) (r.append (.cons ru .nil)) ?_, rfl, q⟩
  rw [List.length_append, List.length_singleton]
  omega

def rExtend : V → List V → Hp → VK → Prop := fun x vs H Q => ∃ l b xs zs, x = .ref l ∧ vs = [.ref b] ∧ H l = some (.lst xs) ∧ H b = some (.lst zs) ∧ xs.length + zs.length ≤ sizeLine ∧ Q .non (upd H l (.lst (xs ++ zs)))
def rPop : V → List V → Hp → VK → Prop := fun x vs H Q => ∃ l xs y, x = .ref l ∧ vs = [] ∧ H l = some (.lst xs) ∧ xs[xs.length - 1]? = some y ∧ Q y (upd H l (.lst xs.dropLast))
def rPopAt : V → List V → Hp → VK → Prop := fun x vs H Q => ∃ l xs i k y, x = .ref l ∧ vs = [.int i] ∧ H l = some (.lst xs) ∧ -(2 ^ 63) ≤ i ∧ i < 2 ^ 63 ∧ seqIndex? i xs.length = some k ∧ xs[k]? = some y ∧ Q y (upd H l (.lst (xs.eraseIdx k)))
def rReverse : V → List V → Hp → VK → Prop := fun x vs H Q => ∃ l xs, x = .ref l ∧ vs = [] ∧ H l = some (.lst xs) ∧ Q .non (upd H l (.lst xs.reverse))
def rClear : V → List V → Hp → VK → Prop := fun x vs H Q => ∃ l xs, x = .ref l ∧ vs = [] ∧ H l = some (.lst xs) ∧ Q .non (upd H l (.lst []))
theorem mt_clear : MtM X "list.clear" rClear := by
  intro pins s σ H x vs v us Q I rx rv h
  obtain ⟨l, xs, rfl, rfl, hH, q⟩ := h
  cases rx
  have hus := rv.zero
  subst hus
  obtain ⟨z, its, n, r, hl, e⟩ := I.lstM hH
  refine call_meets F.slot_list_clear ⟨_, e, rfl⟩ F.entry_list_clear (F.args_list_clear_1 _) (AutoSeq1.list_clear_list_0 l its.toArray n (by rw [List.size_toArray]; omega)) ⟨e, ?_⟩
  exact ⟨.non, _, I.lset (its' := []) (ys := []) hH e rfl .nil (Nat.zero_le _), rfl, q⟩

def rCat : R2 := fun x y H Q => ∃ l b xs zs, x = .ref l ∧ y = .ref b ∧ H l = some (.lst xs) ∧ H b = some (.lst zs) ∧ xs.length + zs.length ≤ sizeLine ∧ ∀ p, H p = none → Q (.ref p) (upd H p (.lst (xs ++ zs)))
theorem op_cat : OpR X (binaryOp .Add) rCat := by
  intro pins s σ H x y v u Q I rx ry h
  obtain ⟨l, b, xs, zs, rfl, rfl, hH, hB, hz, q⟩ := h
  cases rx
  cases ry
  obtain ⟨z, its, n, r, hl, e⟩ := I.lstM hH
  obtain ⟨z2, its2, n2, r2, hl2, e2⟩ := I.lstM hB
  refine PySem.P.add_list e e2 ?_ (by rw [List.size_toArray, List.size_toArray]; omega)
  have ea : its.toArray ++ its2.toArray = (its ++ its2).toArray := by simp
  rw [ea]
  exact ⟨.ref _, _, I.lnew (t' := s.toks) (r.append r2) (by rw [List.length_append]; omega), rfl, q _ I.fresh⟩
def rRep : R2 := fun x y H Q => ∃ l k xs, x = .ref l ∧ y = .int k ∧ H l = some (.lst xs) ∧ -(2 ^ 63) ≤ k ∧ k < 2 ^ 63 ∧ xs.length * k.toNat ≤ sizeLine ∧
  ∀ p, H p = none → Q (.ref p) (upd H p (.lst (List.replicate k.toNat xs).flatten))
end

section
variable {prog : Program} {w : World} {A : Around} {E : Value → Shared → Prop} {s : Shared}
set_option maxRecDepth 100000 in
end

section
variable {X : Cx}
end
end L2

namespace Att
open PySem PySem.W PySem.Calls PyProof.Rows

theorem ints_of_wellAll {P : Params} {h : Heap} : ∀ (ns : List Int) (vs : List Value), WellAll P h vs (ns.map WData.int) → IntsAre vs ns := by
  intro ns
  induction ns with
  | nil =>
    intro vs w
    rw [List.map_nil] at w
    cases w
    exact .nil
  | cons n ns ih =>
    intro vs w
    rw [List.map_cons] at w
    cases w with
    | cons a b =>
      cases a
      exact .cons _ _ (ih _ b)

theorem script_of {l : OpenLaw} {n : Nat} (hn : l.most = some n) {P : Params} {h : Heap} {args : List WData} {vals : List Value}
    (hpre : l.row.toRowW.claim.pre args = true) (hwl : WellAll P h vals args) :
    ∃ a vs ns, vals = [Value.ref a] ∧ args = [WData.list (ns.map WData.int)] ∧ h.get? a = some { cls := .type "list", data := .seq vs.toArray } ∧ IntsAre vs ns ∧ ns.length ≤ n := by
  have hsh : WShape.hasAll [] args [.list .int] = true := (pre_splitW hpre).1
  have hc : l.pre.holds [] { args := args } = true := (pre_splitW hpre).2
  obtain ⟨d, r, rfl, h1, h2⟩ := hasAllW_cons hsh
  obtain rfl := hasAllW_nil h2
  obtain ⟨xs, rfl, h3⟩ := hasW_list h1
  obtain ⟨ns, rfl⟩ := items_int h3
  have hlen : ns.length ≤ n := by
    unfold OpenLaw.pre at hc
    have h4 : (WTm.not (.lt (.lit (.int (n : Int))) (.len (.arg 0)))).holds [] { args := [.list (ns.map .int)] } = true := by
      have h4 := (holds_andW hc).1
      rw [hn] at h4
      exact h4
    have h5 := condW_of h4 (w_not (w_lt w_lit (w_len_list (w_arg rfl))))
    rw [List.length_map] at h5
    refine Nat.le_of_not_lt fun q => ?_
    have q' : (n : Int) < ((ns.length : Nat) : Int) := by omega
    first
      | (rw [decide_eq_true q'] at h5; exact absurd h5 (by decide))
      | (simp at h5; omega)
  cases hwl with
  | cons w1 w2 =>
    cases w2
    cases w1 with
    | list ho hall => exact ⟨_, _, ns, rfl, rfl, ho, ints_of_wellAll ns _ hall, hlen⟩

theorem post_true (l : OpenLaw) (args : List WData) : l.row.toRowW.claim.post args (.bool true) args = true :=
  postW_of (r := l.row.toRowW) (X := (true == true))
    (show WShape.has [] (.bool true) .bool = true by first | rfl | decide | simp [WShape.has, WShape.arms, WShape.armsAll])
    (show (WTm.eq .res (.lit (.bool true))).value [] { args := args, res := some (.bool true), after := args } = some (.bool (true == true)) from w_eq_bool (w_res rfl) w_lit) rfl

theorem attach_call {l : OpenLaw} {n : Nat} {q : Program} {loose : List Str} {XP : (Str → Option Value) → Heap → Prop} {YP : World → Heap → Prop} {d : DefRec}
    (hn : l.most = some n) (hdf : d.params.defaults = [])
    (call : ∀ (w : World) (s₀ s₁ : Shared) (mg mb : Str → Option Value) (fa : Addr) (o : Obj) (pm cd doc : Value) (a : Addr) (vs : List Value) (ns : List Int),
      Ground q loose [] XP w s₀ mg mb s₁.heap → YP w s₁.heap →
      s₁.heap.get? fa = some o → o.data = .func (docDef d.name d.params d.body d.scope pm cd doc) → s₁.heap.CodeRec cd d.name → mg d.name = some (.ref fa) →
      s₁.heap.get? a = some { cls := .type "list", data := .seq vs.toArray } → IntsAre vs ns → ns.length ≤ n → s₁.gens = #[] →
      codeAny (model l.prog w) callerA (.call (.ref fa) ⟨[.ref a], []⟩) (fun r s' => r = .ok (.ret (.bool true)) ∧ OldK s₁.heap s'.heap ∧ s'.os = s₁.os ∧ AllBare s'.gens) s₁) :
    WalkO q loose XP YP l.row.toRowW d [] (fun f vs => PySem.call f vs) := by
  intro w s₀ s₁ mg mb G Y fa o pm cd doc dV kV ho hd hcd hD hmg hg args vals as hpre hlay hrd hwl hlo
  obtain rfl : dV = .none := Dflts.none hD hdf
  obtain rfl : kV = .none := Dflts.noKw hD
  obtain ⟨a, vs, ns, rfl, rfl, hobj, hints, hlen⟩ := script_of hn hpre hwl
  refine enter_call (codeAny_mono (call w s₀ s₁ mg mb fa o pm cd doc a vs ns G Y ho (fd_plain hd) hcd hmg hobj hints hlen hg) fun r s' hq => ?_)
  obtain ⟨rfl, h2, h3, h4⟩ := hq
  exact ⟨.inl ⟨.bool true, .bool true, [], rfl, fun _ => rfl, .bool true, post_true l _, fun _ => ⟨List.Pairwise.nil, fun _ hm => (nomatch hm)⟩⟩, h2, h3, h4⟩

section
variable {prog : Program} {w : World} {A : Around} {E : Value → Shared → Prop} {s : Shared} {K : Frag}

def noObjs (h : Heap) : Heap := { h with objs := #[] }
def ledger (h : Heap) (L d : Addr) : List (Addr × Obj) := (List.range h.objs.size).filterMap fun a => if a = L ∨ a = d then none else (h.get? a).map fun o => (a, o)
end
end Att

namespace L2
open PySem PySem.Spec PyProof.Rows

theorem vals_ints : ∀ {vs : List Value} {ns : List Int}, IntsAre vs ns → Vals (ns.map V.int) vs
  | _, _, .nil => .nil
  | _, _, .cons n t h => .cons ⟨t, rfl⟩ (vals_ints h)

def Only (H : Hp) : Prop := ∀ b, H b = none ∨ ∃ o xs, H b = some (.frz o (.lst xs))

theorem law_call {P : Program} {w : World} {K : PySem.W.Frag} {mg mb : Str → Option Value} {CX : CXT} {k : Nat} {fa a : Addr} {fd : FuncData} {x : Str} {sp : Sp} {s₁ : Shared} {vs : List Value} {ns : List Int}
    (KX : K.In s₁.heap) (hns : s₁.heap.Ns mainGlobals mg) (hb : s₁.heap.Ns builtinsNs mb) (hbb : ∀ x : Str, x ≠ "__name__" → mb x = bootBuiltins x) (hlim : s₁.heap.NoLimit) (hg : s₁.gens = #[])
    (ha : s₁.heap.get? a = some { cls := .type "list", data := .seq vs.toArray }) (hi : IntsAre vs ns) (hl : ns.length ≤ sizeLine) (hr : Room k callerA)
    (F : ∀ base : Heap, K.In base → base.Ns mainGlobals mg → FnOk P w K mg base CX k fa fd [x] sp) (hbind : ∀ (s : Shared) (u : Value), BindsTo s fd ⟨[u], []⟩ [(x, u)])
    (hsp : ∀ H : Hp, Only H → SqL K H a (ns.map V.int) → sp [.ref a] H (fun v _ => v = .bl true) fun _ _ _ => False)
    (hCX : ∀ H e s', CX [] H s₁ (fun _ _ _ => False) e s' → False) :
    codeAny (model P w) callerA (.call (.ref fa) ⟨[.ref a], []⟩) (fun r s' => r = .ok (.ret (.bool true)) ∧ OldK s₁.heap s'.heap ∧ s'.os = s₁.os ∧ AllBare s'.gens) s₁ := by
  have rv := vals_ints hi
  have lenV := hi.length
  -- from an abstract heap in which nothing but the script may be tracked
  have core : ∀ H : Hp, Only H → SqL K H a (ns.map V.int) → HOk P w H s₁.heap → (∀ b, H b ≠ none → b = a) → (H a ≠ none → K.lookup a = none) →
      codeAny (model P w) callerA (.call (.ref fa) ⟨[.ref a], []⟩) (fun r s' => r = .ok (.ret (.bool true)) ∧ OldK s₁.heap s'.heap ∧ s'.os = s₁.os ∧ AllBare s'.gens) s₁ := by
    intro H hO hS hok hA hK
    have base_of : ∀ {b : Addr} {o : Obj}, s₁.heap.get? b = some o → H b = none → (hidT s₁.heap H).get? b = some o := fun e n => hidT_get e n
    have noA : ∀ {b : Addr} {o : Obj} {es : Array DictEntry} {ep : Nat}, s₁.heap.get? b = some o → o.data = .dict es ep → H b = none := fun {b o es ep} e d => by
      cases q : H b with
      | none => rfl
      | some u =>
        have e' : b = a := hA b (by rw [q]; simp)
        subst e'
        rw [ha] at e; cases e
        have d' : Data.seq vs.toArray _ = Data.dict es ep := d
        cases d'
    have nsK : ∀ {b : Addr} {m : Str → Option Value}, s₁.heap.Ns b m → (hidT s₁.heap H).Ns b m := fun {b m} ⟨o, es, ep, e, d, r⟩ => ⟨o, es, ep, base_of e (noA e d), d, r⟩
    have hKb : K.In (hidT s₁.heap H) := fun b o e => base_of (KX b o e) (by
      cases q : H b with
      | none => rfl
      | some u =>
        have e' : b = a := hA b (by rw [q]; simp)
        subst e'
        rw [hK (by rw [q]; simp)] at e; cases e)
    have hM : Mod K mg (hidT s₁.heap H) := ⟨hKb, nsK hns, ⟨mb, nsK hb, hbb⟩, let ⟨mc, h1, h2⟩ := hlim; ⟨mc, nsK h1, h2⟩⟩
    have e0 : Env0 P w K mg (hidT s₁.heap H) callerA [] s₁ H := ⟨rfl, hM, fun b o e => of_hidT e, Nat.le_of_eq (hidT_size _ _), trivial, fun b hb => absurd (show b ∈ ([] : List Addr) from hb) (by simp), hok, .of_eq hg⟩
    refine codeAny_mono ((F _ hKb (nsK hns)).run callerA [] s₁ H ⟨[.ref a], []⟩ [.ref a] [.ref a] _ _ hr e0 (hbind s₁ (.ref a)) (.cons rfl .nil) (hsp H hO hS)) fun r s' h => ?_
    cases r with
    | error e => exact (hCX H e s' h).elim
    | ok fl =>
      cases fl with
      | next => exact False.elim h
      | brk => exact False.elim h
      | cont => exact False.elim h
      | ret u =>
        obtain ⟨v, H', os, bare, un, hok', r', q⟩ := h
        have q' : v = .bl true := q
        subst q'
        obtain rfl : u = Value.bool true := r'
        refine ⟨rfl, OldK.of_keep fun b o e => ?_, os, bare⟩
        cases q : H b with
        | none => exact un.keep b o e q (by intro z; exact absurd (show b ∈ ([] : List Addr) from z) (by simp)) (by simp)
        | some u =>
          rcases hO b with z | ⟨ob, xs, z⟩
          · rw [q] at z; cases z
          · have z2 := un.frzs b ob _ z
            obtain ⟨e1, _⟩ := hok b _ z
            obtain ⟨e2, _⟩ := hok' b _ z2
            rw [e] at e1; cases e1
            exact e2
  cases hk : K.lookup a with
  | some o =>
    -- the script is one of the module's own objects
    have e := KX a o hk
    rw [ha] at e
    cases e
    refine core (fun _ => none) (fun _ => .inl rfl) (.inr ⟨_, vs.toArray, _, hk, rfl, rfl, rfl, by rw [List.size_toArray, lenV]; exact hl, by simpa using rv⟩) (fun b u z => by have z' : (none : Option HO) = some u := z; cases z') (fun b z => absurd rfl z) fun z => absurd rfl z
  | none =>
    refine core (fun b => if b = a then some (.frz { cls := .type "list", data := .seq vs.toArray } (.lst (ns.map V.int))) else none) (fun b => ?_) (.inl (.inr ⟨{ cls := .type "list", data := .seq vs.toArray }, if_pos rfl⟩)) (fun b u z => ?_) (fun b z => ?_) fun _ => hk
    · by_cases hb : b = a
      · exact .inr ⟨_, _, if_pos hb⟩
      · exact .inl (if_neg hb)
    · by_cases hb : b = a
      · have z' := (if_pos hb).symm.trans z
        cases z'
        subst hb
        exact ⟨ha, by rw [List.length_map]; exact hl, vs, _, rv, ha⟩
      · have z' := (if_neg hb).symm.trans z
        cases z'
    · by_cases hb : b = a
      · exact hb
      · exact absurd (if_neg hb) z
end L2

namespace L2
open PySem PySem.Spec PyProof.Rows

abbrev KOf {K : PySem.W.Frag} {h : Heap} (_ : K.In h) : PySem.W.Frag := K

theorem walk_of {l : PySem.W.OpenLaw} {n k : Nat} {q : Program} {loose : List Str} {XP : (Str → Option Value) → Heap → Prop} {YP : World → Heap → Prop} {d : DefRec} {K : Params → PySem.W.Frag} {CX : World → CXT} {sp : World → Sp} {x : Str}
    (hn : l.most = some n) (hn2 : n ≤ sizeLine) (hdf : d.params.defaults = []) (hr : Room k callerA)
    (hY : ∀ (w : World) (h : Heap), YP w h → (K w.params).In h)
    (F : ∀ (w : World) (mg : Str → Option Value) (fa : Addr) (h : Heap), (K w.params).In h → h.Ns mainGlobals mg → mg d.name = some (.ref fa) →
      ∃ fd : FuncData, (∀ (s : Shared) (u : Value), BindsTo s fd ⟨[u], []⟩ [(x, u)]) ∧
        ∀ base : Heap, (K w.params).In base → base.Ns mainGlobals mg → FnOk l.prog w (K w.params) mg base (CX w) k fa fd [x] (sp w))
    (hsp : ∀ (w : World) (H : Hp) (a : Addr) (ns : List Int), ns.length ≤ n → Only H → SqL (K w.params) H a (ns.map V.int) → sp w [.ref a] H (fun v _ => v = .bl true) fun _ _ _ => False)
    (hCX : ∀ (w : World) (H : Hp) (s : Shared) (e : Value) (s' : Shared), CX w [] H s (fun _ _ _ => False) e s' → False) :
    PySem.W.WalkO q loose XP YP l.row.toRowW d [] (fun f vs => PySem.call f vs) := by
  refine Att.attach_call hn hdf fun w s₀ s₁ mg mb fa o pm cd doc a vs ns G Y ho hd hcd hmg hobj hints hlen hg => ?_
  have KX := hY w _ Y
  obtain ⟨fd, hb, hF⟩ := F w mg fa _ KX G.T.g hmg
  exact law_call KX G.T.g G.T.b G.T.builtins G.T.nolimit hg hobj hints (Nat.le_trans hlen hn2) hr hF hb (fun H hO hS => hsp w H a ns hlen hO hS) fun H e s' => hCX w H s₁ e s'
end L2



namespace L2
open PySem PySem.Spec PyProof.Rows

def inClass (s : Stmt) (j : Nat) : Stmt := match s with
  | .ClassDef _ _ _ body _ _ _ _ _ _ _ => body.getD j (.Pass ⟨0, 0, 0, 0⟩)
  | _ => .Pass ⟨0, 0, 0, 0⟩
def defArgs (s : Stmt) : Arguments := match s with
  | .FunctionDef _ a _ _ _ _ _ _ _ _ => a
  | _ => { posonlyargs := [], args := [], vararg := none, kwonlyargs := [], kw_defaults := [], kwarg := none, defaults := [] }
def defBody (s : Stmt) : List Stmt := match s with
  | .FunctionDef _ _ b _ _ _ _ _ _ _ => b
  | _ => []
def defScope (s : Stmt) : Scope := match s with
  | .FunctionDef _ _ _ _ _ _ sc _ _ _ => sc
  | _ => { kind := .function, names := [], isGenerator := false, isCoroutine := false }

abbrev CX0 : CXT := fun _ _ _ _ _ _ => False
abbrev E0 : XK := fun _ _ _ => False
theorem pass0 {X : Cx} : Passes CX0 X E0 := fun _ _ _ _ _ _ _ h => h.elim

structure Fun (K : PySem.W.Frag) (x qual : Str) (st : Stmt) (f : Addr) (fd : FuncData) : Prop where
  ex : ∃ (oc : Value) (od : Option Addr) (kV doc pm : Value) (an : Option Addr) (cdv ct : Value) (osl : Array (Option Value)),
    fd = PySem.W.fnOf x qual (defArgs st) (defBody st) (defScope st) .none kV doc pm an cdv ct ∧ K.lookup f = some ⟨oc, od, .func fd, osl⟩ ∧ PySem.W.codeIn K cdv qual = true
  kp : PySem.W.keepIn K (.ref f) = true
section
variable {P : Program} {w : World} {K : PySem.W.Frag} {mg : Str → Option Value} {base : Heap}
theorem Fun.ok {x qual : Str} {st : Stmt} {f : Addr} {fd : FuncData} {N ps : List Str} {k : Nat} {sp : Sp} (F : Fun K x qual st f fd) (S : FnScope N ps (defScope st)) (len : ∀ vs H Q E, sp vs H Q E → vs.length = ps.length)
    (hbody : ∀ (cdv : Value) (A : Around) (outer : List Env) (s : Shared) (H : Hp) (vs : List V) (Q : VK) (E : XK), Room k (A.deeper (envOfC qual (defScope st) s.heap.objs.size f cdv)) → sp vs H Q E →
      ∃ t, PSs (cxOf CX0 P w K mg base N qual (defScope st) f cdv A outer s H E).nox (defBody st) t ∧ t { nx := fun _ H' => Q .non H', rt := Q } (start N vs) H) : FnOk P w K mg base CX0 (k + 1) f fd ps sp := by
  obtain ⟨oc, od, kV, doc, pm, an, cdv, ct, osl, rfl, lk, hcd⟩ := F.ex
  refine fn_of lk hcd S len fun A outer s H vs Q E hr hsp => ?_
  obtain ⟨t, h, q⟩ := hbody cdv A outer s H vs Q E hr hsp
  exact ⟨t, h.nox, q⟩
theorem fun_mk {x qual : Str} {st : Stmt} {f : Addr} {oc : Value} {od an : Option Addr} {osl : Array (Option Value)} {kV doc pm cdv ct : Value} (l : K.lookup f = some ⟨oc, od, .func (PySem.W.fnOf x qual (defArgs st) (defBody st) (defScope st) .none kV doc pm an cdv ct), osl⟩)
    (c : PySem.W.codeIn K cdv qual = true) (k : PySem.W.keepIn K (.ref f) = true) : Fun K x qual st f (PySem.W.fnOf x qual (defArgs st) (defBody st) (defScope st) .none kV doc pm an cdv ct) := ⟨⟨oc, od, kV, doc, pm, an, cdv, ct, osl, rfl, l, c⟩, k⟩
end
section
variable {X : Cx}
theorem pv (i : Nat) {x : Str} {pos : Pos} (hN : X.N[i]? = some x := by rfl) (hv : Vis X.env.scope x := by first | exact Or.inl rfl | exact Or.inr (Or.inl rfl) | exact Or.inr (Or.inr rfl)) (hd : (x == ("__debug__" : Str)) = false := by decide)
    (hcd : (x == ("__classdict__" : Str)) = false := by decide) : PE X (.Name x pos) (tVar i) := pe_var hN hv hd hcd
end

theorem iteF {A B : Prop} (h : B) : if false = true then A else B := by
  rw [if_neg Bool.false_ne_true]
  exact h
theorem iteT {A B : Prop} (h : A) : if true = true then A else B := by
  rw [if_pos rfl]
  exact h
theorem ite2 {c A B : Prop} [Decidable c] (h1 : c → A) (h2 : ¬ c → B) : if c then A else B := by
  by_cases h : c
  · rw [if_pos h]
    exact h1 h
  · rw [if_neg h]
    exact h2 h
theorem iteNS {c A B : Prop} [Decidable c] (hc : c) (h : B) : if (!decide c) = true then A else B := by
  rw [decide_eq_true hc]
  exact iteF h

def Same (H H' : Hp) : Prop := ∀ b o, H b = some o → H' b = some o
theorem Same.refl (H : Hp) : Same H H := fun _ _ h => h
theorem Same.trans {H H1 H2 : Hp} (a : Same H H1) (b : Same H1 H2) : Same H H2 := fun c o h => b c o (a c o h)
theorem Same.free {H H' : Hp} (e : Same H H') {l : Addr} (h : H' l = Option.none) : H l = Option.none := by
  cases q : H l with
  | none => rfl
  | some o =>
    rw [e l o q] at h
    cases h
theorem Same.seq {K : PySem.W.Frag} {H H' : Hp} {a : Addr} {xs : List V} (e : Same H H') (h : SqL K H a xs) : SqL K H' a xs := by
  rcases h with (h | ⟨o, h⟩) | h
  · exact .inl (.inl (e _ _ h))
  · exact .inl (.inr ⟨o, e _ _ h⟩)
  · exact .inr h

end L2
namespace L2
open PySem PySem.Spec PyProof.Rows
section
variable {prog : Program} {w : World} {A : Around} {R : Result → Shared → Prop} {s : Shared}
theorem comp_loop {elt target iter : Expr} {ifs : List Expr} {scope : Scope} {pos : Pos} {it acc : Value} {env : Env} (I : Nat → Shared → Prop)
    (turn : ∀ n s, I n s → wpAny (model prog w) A (pyNext it) (fun r s1 => match r with
      | none => R (.ok .next) s1
      | some v => wpAny (model prog w) A (letOwnedTupleGo target it v) (fun _ s2 => wpAny (model prog w) A (assign target env v) (fun _ s3 =>
          wpAny (model prog w) A (forIn ifs true fun c r => if r = true then do let ok ← isTrue c env (eval c env); pure (ForInStep.yield ok) else pure (ForInStep.yield r)) (fun ok s4 =>
            if ok = true then wpAny (model prog w) A (eval elt env) (fun x s5 =>
              wpAny (model prog w) A (call (.builtin "list.append") [acc, x]) (fun _ s6 => ∃ m, m < n ∧ I m s6) (notedBy (model prog w) A env fun e s' => R (.error e) s') s5) (notedBy (model prog w) A env fun e s' => R (.error e) s') s4
            else ∃ m, m < n ∧ I m s4) (notedBy (model prog w) A env fun e s' => R (.error e) s') s3) (notedBy (model prog w) A env fun e s' => R (.error e) s') s2) (notedBy (model prog w) A env fun e s' => R (.error e) s') s1)
        (notedBy (model prog w) A env fun e s' => R (.error e) s') s)
    (n : Nat) (h : I n s) :
    codeAny (model prog w) A (.compLoop (.ListComp elt [⟨target, iter, ifs, 0⟩] scope pos) 0 it acc env) R s := by
  refine codeAny_loop rfl I (fun n s hI => ?_) n h
  show wpAny _ A ((compTurn (.ListComp elt [⟨target, iter, ifs, 0⟩] scope pos) 0 it acc env).onRaise (fun x => do noteFrame x env; theTreesLotGoes x)) _ _ s
  refine wpAny_noted ?_
  rw [compTurn_list]
  refine wpAny_bind (wpAny_standAt (wpAny_bind (wpAny_mono (turn n s hI) (fun r s1 h1 => ?_) fun _ _ h' => h')))
  cases r with
  | none => exact wpAny_pure h1
  | some v =>
    refine wpAny_bind (wpAny_mono h1 (fun _ s2 h2 => ?_) fun _ _ h' => h')
    refine wpAny_bind (wpAny_mono h2 (fun _ s3 h3 => wpAny_bind (wpAny_mono h3 (fun ok s4 h4 => ?_) fun _ _ h' => h')) fun _ _ h' => h')
    cases ok with
    | false => exact wpAny_pure ⟨rfl, h4⟩
    | true =>
      exact wpAny_bind (wpAny_bind (wpAny_mono h4 (fun x s5 h5 => wpAny_bind (wpAny_mono h5 (fun _ s6 h6 => wpAny_pure (wpAny_pure ⟨rfl, h6⟩)) fun _ _ h' => h')) fun _ _ h' => h'))
end

def clOf (cells : List (Str × Addr)) : List (Str × NameKind) → List (Str × Addr) → List (Str × Addr)
  | [], acc => acc
  | (n, k) :: r, acc => if k == .free then (match cells.lookup n with
      | some a => clOf cells r ((n, a) :: acc)
      | none => clOf cells r acc) else clOf cells r acc
theorem clos_go {env : Env} : ∀ (names : List (Str × NameKind)) (acc : List (Str × Addr)), (∀ y ∈ names, y.2 = .free → ∃ a, env.cells.lookup y.1 = some a) →
    (forIn names acc fun (x : Str × NameKind) r => (if x.2 == .free then do let a ← cellOf env x.1; pure (ForInStep.yield ((x.1, a) :: r)) else pure (ForInStep.yield r) : Sem (ForInStep (List (Str × Addr))))) = pure (clOf env.cells names acc)
  | [], acc, _ => rfl
  | (n, k) :: r, acc, h => by
    rw [List.forIn_cons]
    have ih := fun acc => clos_go r acc fun y hy => h y (List.mem_cons_of_mem _ hy)
    by_cases hk : k = .free
    · subst hk
      obtain ⟨a, e⟩ := h (n, .free) List.mem_cons_self rfl
      have e : env.cells.lookup n = some a := e
      simp only [beq_self_eq_true, if_true, cellOf, e, clOf, pure_bind]
      exact ih _
    · have hb : (k == NameKind.free) = false := by simpa using hk
      simp only [hb, Bool.false_eq_true, if_false, clOf, pure_bind]
      exact ih _
theorem clos_ok {env : Env} {scope : Scope} (h : ∀ y ∈ scope.names, y.2 = .free → ∃ a, env.cells.lookup y.1 = some a) : closureFor scope env = pure (clOf env.cells scope.names []) := by
  unfold closureFor
  have e := clos_go (env := env) scope.names [] h
  simp only [bind_pure]
  exact e
theorem clOf_sub {cells : List (Str × Addr)} {x : Str} {c : Addr} : ∀ (names : List (Str × NameKind)) (acc : List (Str × Addr)), (∀ y b, (y, b) ∈ acc → cells.lookup y = some b) → (x, c) ∈ clOf cells names acc → cells.lookup x = some c
  | [], acc, ha, hm => ha x c hm
  | (n, k) :: r, acc, ha, hm => by
    unfold clOf at hm
    split at hm
    · split at hm
      · rename_i a e
        refine clOf_sub r _ (fun y b hb => ?_) hm
        rcases List.mem_cons.mp hb with q | q
        · cases q; exact e
        · exact ha y b q
      · exact clOf_sub r _ ha hm
    · exact clOf_sub r _ ha hm
theorem lookup_mem {x : Str} {c : Addr} {l : List (Str × Addr)} (h : l.lookup x = some c) : (x, c) ∈ l := PySem.mem_of_lookup h
theorem clOf_in {cells : List (Str × Addr)} {x : Str} {c : Addr} (hx : cells.lookup x = some c) : ∀ (names : List (Str × NameKind)) (acc : List (Str × Addr)), ((x, NameKind.free) ∈ names ∨ (x, c) ∈ acc) → (x, c) ∈ clOf cells names acc
  | [], acc, hm => by
    rcases hm with q | q
    · exact absurd q (by simp)
    · exact q
  | (n, k) :: r, acc, hm => by
    unfold clOf
    by_cases hk : k = .free
    · subst hk
      simp only [beq_self_eq_true, if_true]
      split
      · rename_i a e
        refine clOf_in hx r _ ?_
        rcases hm with q | q
        · rcases List.mem_cons.mp q with q | q
          · cases q
            rw [hx] at e; cases e
            exact .inr List.mem_cons_self
          · exact .inl q
        · exact .inr (List.mem_cons_of_mem _ q)
      · rename_i e
        refine clOf_in hx r _ ?_
        rcases hm with q | q
        · rcases List.mem_cons.mp q with q | q
          · cases q
            rw [hx] at e; cases e
          · exact .inl q
        · exact .inr q
    · have hb : (k == NameKind.free) = false := by simpa using hk
      simp only [hb, Bool.false_eq_true, if_false]
      refine clOf_in hx r _ ?_
      rcases hm with q | q
      · rcases List.mem_cons.mp q with q | q
        · cases q; exact absurd rfl hk
        · exact .inl q
      · exact .inr q
theorem lookup_of_mem {x : Str} {c : Addr} : ∀ {l : List (Str × Addr)}, (x, c) ∈ l → ∃ d, l.lookup x = some d ∧ (x, d) ∈ l
  | [], h => absurd h (by simp)
  | (y, b) :: r, h => by
    by_cases e : x = y
    · subst e
      exact ⟨b, by simp, List.mem_cons_self⟩
    · rcases List.mem_cons.mp h with q | q
      · cases q; exact absurd rfl e
      · obtain ⟨d, e1, e2⟩ := lookup_of_mem q
        refine ⟨d, ?_, List.mem_cons_of_mem _ e2⟩
        rw [List.lookup_cons]
        have : (x == y) = false := by simpa using e
        rw [this]
        exact e1
theorem clOf_lookup {cells : List (Str × Addr)} {names : List (Str × NameKind)} {x : Str} {c : Addr} (hf : (x, NameKind.free) ∈ names) (hx : cells.lookup x = some c) : (clOf cells names []).lookup x = some c := by
  obtain ⟨d, e1, e2⟩ := lookup_of_mem (clOf_in hx names [] (.inl hf))
  have e3 := clOf_sub names [] (fun _ _ h => absurd h (by simp)) e2
  rw [hx] at e3; cases e3
  exact e1
theorem clOf_back {cells : List (Str × Addr)} {names : List (Str × NameKind)} {x : Str} {c : Addr} (h : (clOf cells names []).lookup x = some c) : cells.lookup x = some c :=
  clOf_sub names [] (fun _ _ h => absurd h (by simp)) (lookup_mem h)
theorem relab_free {env : Env} : ∀ {names : List (Str × NameKind)} {x : Str}, names.lookup x = some .free →
    (names.map fun (n, k) => if (k == NameKind.free && env.scope.kind == .function && env.kindOf n == some .cell) then (n, NameKind.cell) else (n, k)).lookup x = some .cell ∨
    (names.map fun (n, k) => if (k == NameKind.free && env.scope.kind == .function && env.kindOf n == some .cell) then (n, NameKind.cell) else (n, k)).lookup x = some .free
  | [], _, h => by simp at h
  | (n, k) :: r, x, h => by
    have ih := @relab_free env r x
    rw [List.map_cons]
    cases hx : x == n with
    | true =>
      simp only [List.lookup_cons, hx] at h
      cases h
      dsimp only
      by_cases hc : (NameKind.free == NameKind.free && env.scope.kind == .function && env.kindOf n == some .cell) = true
      · rw [if_pos hc]; simp [List.lookup_cons, hx]
      · rw [if_neg hc]; simp [List.lookup_cons, hx]
    | false =>
      simp only [List.lookup_cons, hx] at h
      dsimp only
      by_cases hc : (k == NameKind.free && env.scope.kind == .function && env.kindOf n == some .cell) = true
      · rw [if_pos hc]; simp only [List.lookup_cons, hx]; exact ih h
      · rw [if_neg hc]; simp only [List.lookup_cons, hx]; exact ih h
theorem relab_back {env : Env} : ∀ {names : List (Str × NameKind)} {x : Str}, (∀ y ∈ names, y.2 ≠ .cell) →
    ((names.map fun (n, k) => if (k == NameKind.free && env.scope.kind == .function && env.kindOf n == some .cell) then (n, NameKind.cell) else (n, k)).lookup x = some .cell ∨
    (names.map fun (n, k) => if (k == NameKind.free && env.scope.kind == .function && env.kindOf n == some .cell) then (n, NameKind.cell) else (n, k)).lookup x = some .free) → names.lookup x = some .free
  | [], _, _, h => by simp at h
  | (n, k) :: r, x, hn, h => by
    have ih := @relab_back env r x fun y hy => hn y (List.mem_cons_of_mem _ hy)
    rw [List.map_cons] at h
    dsimp only at h
    have hk : k ≠ .cell := hn (n, k) List.mem_cons_self
    cases hx : x == n with
    | true =>
      by_cases hc : (k == NameKind.free && env.scope.kind == .function && env.kindOf n == some .cell) = true
      · simp only [Bool.and_eq_true, beq_iff_eq] at hc
        obtain ⟨⟨hc, _⟩, _⟩ := hc
        subst hc
        simp only [List.lookup_cons, hx]
      · rw [if_neg hc] at h
        simp only [List.lookup_cons, hx] at h ⊢
        rcases h with h | h
        · cases h; exact absurd rfl hk
        · exact h
    | false =>
      by_cases hc : (k == NameKind.free && env.scope.kind == .function && env.kindOf n == some .cell) = true
      · rw [if_pos hc] at h
        simp only [List.lookup_cons, hx] at h ⊢
        exact ih h
      · rw [if_neg hc] at h
        simp only [List.lookup_cons, hx] at h ⊢
        exact ih h

structure CompSc (scope sc : Scope) (N0 xs ys : List Str) (js : List Nat) : Prop where
  kind : scope.kind = .function
  nocell : ∀ y ∈ scope.names, y.2 ≠ .cell
  loc : ∀ y ∈ scope.names, y.2 = .local → scope.names.lookup y.1 = some .local
  fr : ∀ y ∈ scope.names, y.2 = .free → sc.names.lookup y.1 = some .cell ∨ sc.names.lookup y.1 = some .free
  cap : ys.length = js.length ∧ ∀ p ∈ ys.zip js, N0[p.2]? = some p.1 ∧ scope.names.lookup p.1 = some .free ∧ (p.1, NameKind.free) ∈ scope.names ∧ (sc.names.lookup p.1 = some .cell ∨ sc.names.lookup p.1 = some .free)
def sigC (k : Nat) (js : List Nat) (σ : St) : St := List.replicate k none ++ js.map fun j => (σ[j]?).join
def cxC (X : Cx) (N : List Str) (scope : Scope) (C : Addr) (s2 : Shared) (H2 : Hp) (fp : List Addr) : Cx where
  prog := X.prog
  w := X.w
  K := X.K
  mg := X.mg
  base := X.base
  A := X.A
  N := N
  s₀ := s2
  H₀ := H2
  env := compEnvC scope (clOf X.env.cells scope.names []) C X.env
  outer := X.stack
  stack := X.stack
  ex := fp
  fn := fun _ => false
  calm := X.calm
  pn := []
  xe := fun _ _ => False
section
variable {X : Cx} {pins : List (Addr × Obj)} {σ : St} {H : Hp} {s2 : Shared} {scope sc : Scope} {N0 xs ys : List Str} {js : List Nat} {C D : Addr} {fp : List Addr} {h1 : Heap} {tk : Nat}
theorem fp_stk {b : Addr} (I : Inv X pins σ H s2) (f : FpOk X pins H b) : b ∉ frs X.stack := fun hb => by
  rcases List.mem_cons.mp (I.stkSub b hb) with e | e
  · exact f.2.1 e
  · exact f.2.2.1 e
theorem cxC_ok (I : Inv X pins σ H s2) (CS : CompSc scope sc N0 xs ys js) (hsc : X.env.scope = sc) (hC : s2.heap.objs.size ≤ C) (f : ∀ b ∈ fp, FpOk X pins H b) (fl : ∀ b ∈ fp, b < s2.heap.objs.size) :
    (cxC X (xs ++ ys) scope C s2 H fp).Ok where
  mod := I.ok.mod
  kind := CS.kind
  glob := I.ok.glob
  blt := I.ok.blt
  above := hC
  inj := fun x y c e1 e2 => I.ok.inj x y c (clOf_back e1) (clOf_back e2)
  has := fun x hx => by
    have hx : (relabel scope X.env).names.lookup x = some .cell ∨ (relabel scope X.env).names.lookup x = some .free := hx
    have q := relab_back (env := X.env) CS.nocell hx
    have m := PySem.mem_of_lookup q
    have hk := CS.fr _ m rfl
    rw [← hsc] at hk
    obtain ⟨c, e⟩ := I.ok.has x hk
    exact ⟨c, clOf_lookup m e⟩
  cab := fun x c e _ => by cases e
  hd := I.ok.hd
  frames := I.ok.frames
  stk := .inl rfl
  exf := fun b hb => ⟨Nat.ne_of_lt (Nat.lt_of_lt_of_le (fl b hb) hC), fun x c e => (f b hb).2.2.2.2.1 x c (clOf_back e)⟩
  bs := I.bs
  bsz := Nat.le_trans I.ok.bsz I.sz
  noex := fun b o e hb => by
    rcases (f b hb).2.2.2.1 with q | q
    · exact I.ok.noex b o e q
    · exact absurd (Nat.lt_of_lt_of_le (Heap.lt_size e) (Nat.le_trans I.ok.bsz q)) (Nat.lt_irrefl _)
  exfs := fun b hb => fp_stk I (f b hb)
  funs := I.stack
  frf := I.stkFree
theorem inv_comp {oD : Obj} (I : Inv X pins σ H s2) (CS : CompSc scope sc N0 xs ys js) (hsc : X.env.scope = sc) (hN : X.N = N0) (f : ∀ b ∈ fp, FpOk X pins H b) (fl : ∀ b ∈ fp, b < s2.heap.objs.size)
    (hC : s2.heap.objs.size ≤ C) (hD : s2.heap.objs.size ≤ D) (hDC : D ≠ C) {m : Str → Option Value} (hns : h1.Ns C m) (old : ∀ b o, s2.heap.get? b = some o → h1.get? b = some o) (hacc : h1.get? D = some oD) (hod : ∀ v, oD.data ≠ .cell v) :
    Inv (cxC X (xs ++ ys) scope C s2 H fp) [(D, oD)] (sigC xs.length js σ) H { s2 with heap := h1, toks := tk } where
  ok := cxC_ok I CS hsc hC f fl
  os := rfl
  bare := I.bare
  base := Un.kept old
  loc := by
    refine ⟨m, hns, fun i x v e1 e2 e3 => ?_⟩
    have e1 : (xs ++ ys)[i]? = some x := e1
    have hi : xs.length ≤ i := by
      refine Nat.le_of_not_lt fun q => ?_
      unfold sigC at e2
      rw [List.getElem?_append_left (by simpa using q), List.getElem?_replicate, if_pos q] at e2
      cases e2
    rw [List.getElem?_append_right hi] at e1
    unfold sigC at e2
    rw [List.getElem?_append_right (by simpa using hi), List.length_replicate, List.getElem?_map] at e2
    obtain ⟨j, ej⟩ : ∃ j, js[i - xs.length]? = some j := by
      cases e : js[i - xs.length]? with
      | none => rw [e] at e2; cases e2
      | some j => exact ⟨j, rfl⟩
    rw [ej] at e2
    have e2 : (σ[j]?).join = some v := Option.some.inj e2
    have e2' : σ[j]? = some (some v) := by
      cases e : σ[j]? with
      | none => rw [e] at e2; cases e2
      | some o => rw [e] at e2; exact congrArg some e2
    have hz : (x, j) ∈ ys.zip js := by
      have : (ys.zip js)[i - xs.length]? = some (x, j) := by rw [List.getElem?_zip_eq_some]; exact ⟨e1, ej⟩
      exact List.mem_of_getElem? this
    obtain ⟨c1, c2, c3, c4⟩ := CS.cap.2 _ hz
    have c1 : N0[j]? = some x := c1
    have c4' : X.env.kindOf x = some .cell ∨ X.env.kindOf x = some .free := by
      show X.env.scope.names.lookup x = some .cell ∨ X.env.scope.names.lookup x = some .free
      rw [hsc]; exact c4
    obtain ⟨m0, hn0, hl0⟩ := I.loc
    obtain ⟨u, ru, lu⟩ := hl0 j x v (by rw [hN]; exact c1) e2' (.inr c4')
    refine ⟨u, ru, .inr ⟨?_, ?_⟩⟩
    · exact relab_free c2
    · rcases lu with ⟨k, _⟩ | ⟨_, c, ec, hc⟩
      · rcases c4' with z | z <;> (rw [k] at z; cases z)
      · refine ⟨c, clOf_lookup c3 ec, ?_⟩
        obtain ⟨o, ho, hd⟩ := hc
        exact ⟨o, old _ _ ho, hd⟩
  cell := fun x c e => by
    obtain ⟨v, o, ho, hd⟩ := I.cell x c (clOf_back e)
    exact ⟨v, o, old _ _ ho, hd⟩
  free := I.hok.fresh hC
  freeC := fun x c e => I.freeC x c (clOf_back e)
  pin := fun p hp => by
    have hp : p ∈ ([] : List (Addr × Obj)) ++ [(D, oD)] := hp
    have e : p = (D, oD) := by simpa using hp
    subst e
    refine ⟨hacc, I.hok.fresh hD, hDC, fun hb => ?_, hod⟩
    obtain ⟨_, o, ho, _⟩ := I.stack.mem (show D ∈ frs X.stack from hb)
    exact absurd (Nat.lt_of_lt_of_le (Heap.lt_size ho) hD) (Nat.lt_irrefl _)
  hok := I.hok.kept old
  len := by
    unfold sigC
    show _ = (xs ++ ys).length
    rw [List.length_append, List.length_append, List.length_replicate, List.length_map, CS.cap.1]
end

theorem inv_reset {X : Cx} {pins pp : List (Addr × Obj)} {σ σ' : St} {H H' : Hp} {s2 s' : Shared} {scope sc : Scope} {N0 xs ys : List Str} {js : List Nat} {C : Addr} {fp : List Addr} (I : Inv X pins σ H s2) (CS : CompSc scope sc N0 xs ys js) (hsc : X.env.scope = sc) (hN : X.N = N0)
    (f : ∀ b ∈ fp, FpOk X pins H b) (J : Inv (cxC X (xs ++ ys) scope C s2 H fp) pp σ' H' s') : Inv (cxC X (xs ++ ys) scope C s2 H fp) pp (sigC xs.length js σ) H' s' where
  ok := J.ok
  os := J.os
  bare := J.bare
  base := J.base
  loc := by
    obtain ⟨m, hns, _⟩ := J.loc
    refine ⟨m, hns, fun i x v e1 e2 e3 => ?_⟩
    have e1 : (xs ++ ys)[i]? = some x := e1
    have hi : xs.length ≤ i := by
      refine Nat.le_of_not_lt fun q => ?_
      unfold sigC at e2
      rw [List.getElem?_append_left (by simpa using q), List.getElem?_replicate, if_pos q] at e2
      cases e2
    rw [List.getElem?_append_right hi] at e1
    unfold sigC at e2
    rw [List.getElem?_append_right (by simpa using hi), List.length_replicate, List.getElem?_map] at e2
    obtain ⟨j, ej⟩ : ∃ j, js[i - xs.length]? = some j := by
      cases e : js[i - xs.length]? with
      | none => rw [e] at e2; cases e2
      | some j => exact ⟨j, rfl⟩
    rw [ej] at e2
    have e2 : (σ[j]?).join = some v := Option.some.inj e2
    have e2' : σ[j]? = some (some v) := by
      cases e : σ[j]? with
      | none => rw [e] at e2; cases e2
      | some o => rw [e] at e2; exact congrArg some e2
    have hz : (x, j) ∈ ys.zip js := by
      have : (ys.zip js)[i - xs.length]? = some (x, j) := by rw [List.getElem?_zip_eq_some]; exact ⟨e1, ej⟩
      exact List.mem_of_getElem? this
    obtain ⟨c1, c2, c3, c4⟩ := CS.cap.2 _ hz
    have c1 : N0[j]? = some x := c1
    have c4' : X.env.kindOf x = some .cell ∨ X.env.kindOf x = some .free := by
      show X.env.scope.names.lookup x = some .cell ∨ X.env.scope.names.lookup x = some .free
      rw [hsc]; exact c4
    obtain ⟨m0, hn0, hl0⟩ := I.loc
    obtain ⟨u, ru, lu⟩ := hl0 j x v (by rw [hN]; exact c1) e2' (.inr c4')
    refine ⟨u, ru, .inr ⟨relab_free c2, ?_⟩⟩
    rcases lu with ⟨k, _⟩ | ⟨_, c, ec, hc⟩
    · rcases c4' with z | z <;> (rw [k] at z; cases z)
    · refine ⟨c, clOf_lookup c3 ec, ?_⟩
      obtain ⟨o, ho, hd⟩ := hc
      obtain ⟨sl, e⟩ := J.base.any ho (I.freeC x c ec) fun hb => (f c hb).2.2.2.2.1 x c ec rfl
      exact ⟨_, e, hd⟩
  cell := J.cell
  free := J.free
  freeC := J.freeC
  pin := J.pin
  hok := J.hok
  len := by
    unfold sigC
    show _ = (xs ++ ys).length
    rw [List.length_append, List.length_append, List.length_replicate, List.length_map, CS.cap.1]

def PQ (X : Cx) (ifs : List Expr) (t : TT) : Prop :=
  ∀ (pins : List (Addr × Obj)) (s : Shared) (σ : St) (H : Hp) (Q : Bool → Hp → Prop), Inv X pins σ H s → t σ H Q →
    wpAny (model X.prog X.w) X.A (forIn ifs true fun c r => if r = true then do let ok ← isTrue c X.env (eval c X.env); pure (ForInStep.yield ok) else pure (ForInStep.yield r)) (TP X pins σ Q) X.xe s
def tAlways : TT := fun _ H Q => Q true H
theorem pq_nil {X : Cx} : PQ X [] tAlways := fun _ _ _ H _ I h => wpAny_tests_nil ⟨H, I, h⟩
theorem pq_one {X : Cx} {c : Expr} {t : TT} (h : PT X c t) : PQ X [c] t := fun pins s σ H Q I hw => wpAny_tests_one (h pins s σ H Q I hw)

def compW (k : Nat) (js : List Nat) (g : TG) (tc : TT) (te : TE) (σ : St) (J : It) (H1 : Hp) (fin : List V → Hp → Prop) : Prop :=
  ∃ W : Nat → Nat → List V → Hp → Prop, (∃ m, W 0 m [] H1) ∧ ∀ i m ys H, W i m ys H →
    (J.stop i H ∧ ys.length ≤ sizeLine ∧ fin ys H) ∨
    (J.go i H ∧ ys.length < sizeLine ∧ ∃ N : List V → Hp → Prop, (∀ ys' H', N ys' H' → ∃ m', m' < m ∧ W (i + 1) m' ys' H') ∧ ∀ x H2, J.yld i H x H2 → g x (sigC k js σ) H2 fun σ2 H3 => tc σ2 H3 fun b H4 =>
      if b = true then te σ2 H4 fun y H5 => N (ys ++ [y]) H5 else N ys H4)
def tComp (k : Nat) (js : List Nat) (wi : TI) (g : TG) (tc : TT) (te : TE) : TE := fun σ H Q => wi σ H fun J H1 => compW k js g tc te σ J H1 fun ys H' => ∀ p, H' p = none → Q (.ref p) (upd H' p (.lst ys))

section
variable {X : Cx} {scope sc : Scope} {N0 xs ys : List Str} {js : List Nat} {elt tg iter : Expr} {ifs : List Expr} {pos : Pos} {wi : TI} {g : TG} {tc : TT} {te : TE}
theorem lst_push (its : List Value) (y : Value) : its.toArray.push y = (its ++ [y]).toArray := by simp
theorem comp_block {pins : List (Addr × Obj)} {σ : St} {H : Hp} {s2 : Shared} {it : Addr} {fp : List Addr} {tn : Nat → Heap → Prop} {J : It} {RR : Value → Addr → Result → Shared → Prop} {fin : List V → Hp → Prop} {E : Value → Shared → Prop}
    (CS : CompSc scope sc N0 xs ys js) (hsc : X.env.scope = sc) (hN : X.N = N0) (hc : X.calm = true)
    (I : Inv X pins σ H s2) (T : Turn X.prog X.w X.K tg J fp it tn) (t0 : tn 0 s2.heap) (f : ∀ b ∈ fp, FpOk X pins H b)
    (hg : ∀ C s2 H fp, PG (cxC X (xs ++ ys) scope C s2 H fp) tg g) (hq : ∀ C s2 H fp, PQ (cxC X (xs ++ ys) scope C s2 H fp) ifs tc) (he : ∀ C s2 H fp, PE (cxC X (xs ++ ys) scope C s2 H fp) elt te)
    (hw : compW xs.length js g tc te σ J H fin)
    (hR : ∀ (D C : Addr) (H' : Hp) (vs : List V) (s' : Shared), (∃ m, s'.heap.Ns C m) → Inv X pins σ (upd H' D (.lst vs)) s' → H' D = none → C ≠ D → H' C = none → C ≠ X.env.locals → X.s₀.heap.objs.size ≤ C → (∀ x c, X.env.cells.lookup x = some c → c ≠ C) → (∀ p ∈ X.pn ++ pins, p.1 ≠ C) → fin vs H' →
      RR (.ref D) C (.ok .next) s') :
    wpAny (model X.prog X.w) X.A (newList []) (fun acc s3 => wpAny (model X.prog X.w) X.A (newFunctionEnv scope X.env.globals (clOf X.env.cells scope.names []) [] X.env.qual none .none (some X.env)) (fun cenv s4 =>
      codeAny (model X.prog X.w) X.A (.compStart (.ListComp elt [⟨tg, iter, ifs, 0⟩] scope pos) 0 (.ref it) acc { cenv with scope := relabel scope X.env }) (RR acc cenv.locals) s4) E s3) E s2 := by
  obtain ⟨W, ⟨m0, w0⟩, turn⟩ := hw
  have fl : ∀ b ∈ fp, b < s2.heap.objs.size := fun b hb => by
    obtain ⟨o, e, _⟩ := T.obj 0 _ t0 b hb
    exact Heap.lt_size e
  refine wpAny_newObj_type (wpAny_newFunctionEnv CS.nocell (by intro y hy; simp at hy) (fun h1 hns1 hsb1 => ?_) CS.kind)
  dsimp only at hns1 hsb1 ⊢
  generalize hH2 : s2.heap.push { cls := .type "list", dict := none, data := .seq ([] : List Value).toArray } = H2 at hns1 hsb1 ⊢
  have hC : H2.objs.size = s2.heap.objs.size + 1 := by rw [← hH2, Heap.size_push]
  have hDC : s2.heap.objs.size ≠ H2.objs.size := by rw [hC]; exact Nat.ne_of_lt (Nat.lt_succ_self _)
  have hCle : s2.heap.objs.size ≤ H2.objs.size := by rw [hC]; exact Nat.le_succ _
  have below : ∀ b, b < s2.heap.objs.size → b ≠ H2.objs.size ∧ b ≠ s2.heap.objs.size := fun b hb => ⟨by rw [hC]; exact Nat.ne_of_lt (Nat.lt_succ_of_lt hb), Nat.ne_of_lt hb⟩
  have old : ∀ b o, s2.heap.get? b = some o → h1.get? b = some o := fun b o e => hsb1.extBut b o (below b (Heap.lt_size e)).1 (Heap.get?_push_of_some _ (hH2 ▸ Heap.get?_push_of_some _ e))
  have hacc : h1.get? s2.heap.objs.size = some { cls := .type "list", data := .seq ([] : List Value).toArray 0 } := hsb1.extBut _ _ hDC (Heap.get?_push_of_some _ (hH2 ▸ Heap.get?_push_size _ rfl))
  have t1 : tn 0 h1 := T.keep _ _ _ t0 fun b _ o e => old b o e
  have fC : ∀ {H' : Hp} {oD : Obj}, (∀ b ∈ fp, H' b = none) → ∀ b ∈ fp, FpOk (cxC X (xs ++ ys) scope H2.objs.size s2 H fp) [(s2.heap.objs.size, oD)] H' b := fun {H' oD} hn b hb =>
    ⟨hn b hb, (below b (fl b hb)).1, fp_stk I (f b hb), .inl hb, fun x c e => (f b hb).2.2.2.2.1 x c (clOf_back e), fun p hp => by
      have hp : p ∈ ([] : List (Addr × Obj)) ++ [(s2.heap.objs.size, oD)] := hp
      have e : p = (s2.heap.objs.size, oD) := by simpa using hp
      subst e
      exact Ne.symm (below b (fl b hb)).2⟩
  have loop : ∀ s3 : Shared, s3 = { s2 with heap := h1, toks := s2.toks + ([] : List (Str × Value)).length } →
      codeAny (model X.prog X.w) X.A (.compLoop (.ListComp elt [⟨tg, iter, ifs, 0⟩] scope pos) 0 (.ref it) (.ref s2.heap.objs.size) (compEnvC scope (clOf X.env.cells scope.names []) H2.objs.size X.env))
        (RR (.ref s2.heap.objs.size) H2.objs.size) s3 := by
    rintro s3 rfl
    refine comp_loop (fun k s' => ∃ (i : Nat) (vs : List V) (its : List Value) (n : Nat) (H' : Hp), Inv (cxC X (xs ++ ys) scope H2.objs.size s2 H fp) [(s2.heap.objs.size, { cls := .type "list", data := .seq its.toArray n })] (sigC xs.length js σ) H' s' ∧
      Vals vs its ∧ tn i s'.heap ∧ (∀ b ∈ fp, H' b = none) ∧ W i k vs H') ?_ m0 ⟨0, [], [], 0, H, ?_, .nil, t1, fun b hb => (f b hb).1, w0⟩
    · rintro k s3 ⟨i, vs, its, n, H3, I3, rv, t3, fr3, w3⟩
      have hno : ∀ (e : Value) (s' : Shared), False → notedBy (model X.prog X.w) X.A (compEnvC scope (clOf X.env.cells scope.names []) H2.objs.size X.env) (fun e s' => RR (.ref s2.heap.objs.size) H2.objs.size (.error e) s') e s' := fun _ _ z => z.elim
      rcases turn i k vs H3 w3 with ⟨stop, hz, fn⟩ | ⟨go, hz, N, hN', step⟩
      · refine wpAny_mono (T.done (cxC X (xs ++ ys) scope H2.objs.size s2 H fp) rfl rfl rfl hc i _ s3 _ H3 (fun _ _ => False) I3 (fC fr3) t3 stop) (fun r s4 ⟨hr, I4⟩ => ?_) hno
        subst hr
        have pD := I4.pin (s2.heap.objs.size, _) (List.mem_append_right _ List.mem_cons_self)
        obtain ⟨mC, hnC, _⟩ := I4.loc
        have u4 : Un (frs X.stack) fp H (upd H3 s2.heap.objs.size (.lst vs)) s2.heap s4.heap :=
          ⟨I4.base.keep, I4.base.slot, fun b o e n hb => by rw [upd_ne (below b (Heap.lt_size e)).2]; exact I4.base.free b o e n hb, I4.base.there,
            fun b x e => by rw [upd_ne (below b (I.hok.lt e)).2]; exact I4.base.tups b x e, fun b o x e => by rw [upd_ne (below b (I.hok.lt e)).2]; exact I4.base.frzs b o x e,
            fun b p e => by rw [upd_ne (below b (I.hok.lt e)).2]; exact I4.base.tbls b p e⟩
        have hk4 : HOk X.prog X.w (upd H3 s2.heap.objs.size (.lst vs)) s4.heap := fun b o e => by
          by_cases hb : b = s2.heap.objs.size
          · subst hb
            rw [upd_same] at e
            cases e
            exact ⟨hz, its, n, rv, pD.1⟩
          · rw [upd_ne hb] at e
            exact (I4.hok b o e).stay (fun _ _ _ q => q) (fun c q => by rw [upd_ne (ne_of_none q pD.2.1)]; exact q) fun c x q => by rw [upd_ne (ne_of_none q pD.2.1)]; exact q
        refine hR _ _ H3 vs s4 ⟨mC, hnC⟩ (I.call' I4.os u4 hk4 I4.bare fun b hb => ⟨(f b hb).2.2.2.1, (f b hb).2.1, (f b hb).2.2.2.2.1, (f b hb).2.2.2.2.2⟩) pD.2.1 (Ne.symm hDC) I4.free ?_ ?_ ?_ ?_ fn
        · exact Ne.symm (below _ I.lt).1
        · exact Nat.le_trans I.sz hCle
        · intro x c e
          obtain ⟨v, o, ho, _⟩ := I.cell x c e
          exact (below c (Heap.lt_size ho)).1
        · intro p hp
          exact (below p.1 (Heap.lt_size (I.pin p hp).1)).1
      · refine wpAny_mono (T.item (cxC X (xs ++ ys) scope H2.objs.size s2 H fp) rfl rfl rfl hc i _ s3 _ H3 (fun _ _ => False) I3 (fC fr3) t3 go) (fun r s4 ⟨u, hr, h4⟩ => ?_) hno
        subst hr
        refine wpAny_mono h4 (fun _ s5 ⟨x, H5, I5, r5, y5, t5, fr5⟩ => ?_) hno
        have I5' := I5.pinned (fC fr5) (T.obj _ _ t5)
        refine wpAny_mono (hg H2.objs.size s2 H fp _ s5 _ H5 x u _ I5' r5 (step x H5 y5)) (fun _ s6 ⟨σ6, H6, I6, q6⟩ => ?_) hno
        refine wpAny_mono (hq H2.objs.size s2 H fp _ s6 σ6 H6 _ I6 q6) (fun b s7 ⟨H7, I7, q7⟩ => ?_) hno
        have keepI : ∀ {σ' : St} {H' : Hp} {s' : Shared}, Inv (cxC X (xs ++ ys) scope H2.objs.size s2 H fp) ([(s2.heap.objs.size, { cls := .type "list", data := .seq its.toArray n })] ++ pinsAt fp s5.heap) σ' H' s' → tn (i + 1) s'.heap ∧ ∀ b ∈ fp, H' b = none := fun {σ' H' s'} J' =>
          ⟨T.keep _ _ _ t5 fun b hb o e => (J'.pin (b, o) (List.mem_append_right _ (List.mem_append_right _ (mem_pinsAt hb e)))).1, fun b hb => by
            obtain ⟨o, e, d⟩ := T.obj _ _ t5 b hb
            exact (J'.pin (b, o) (List.mem_append_right _ (List.mem_append_right _ (mem_pinsAt hb e)))).2.1⟩
        cases b with
        | false =>
          obtain ⟨m', hm, w7⟩ := hN' _ _ q7
          exact ⟨m', hm, i + 1, vs, its, n, H7, inv_reset I CS hsc hN f I7.unpinned, rv, (keepI I7).1, (keepI I7).2, w7⟩
        | true =>
          refine wpAny_mono (he H2.objs.size s2 H fp _ s7 σ6 H7 _ I7 q7) (fun y s8 ⟨yv, H8, I8, r8, n8⟩ => ?_) hno
          obtain ⟨m', hm, w8⟩ := hN' _ _ n8
          have pD := I8.pin (s2.heap.objs.size, _) (List.mem_append_right _ (List.mem_append_left _ List.mem_cons_self))
          refine append_at (hsz := by show its.toArray.size ≤ sizeLine; rw [List.size_toArray, ← rv.length]; exact Nat.le_of_lt hz) pD.1 fun h9 hs9 hD9 => ?_
          have hD9' : h9.get? s2.heap.objs.size = some { cls := .type "list", data := .seq (its ++ [y]).toArray (n + 1) } := by rw [hD9, lst_push]
          have J8 := inv_reset I CS hsc hN f I8.unpinned
          have hDf : s2.heap.objs.size ∉ fp := fun hb => Nat.lt_irrefl _ (fl _ hb)
          refine ⟨m', hm, i + 1, vs ++ [yv], its ++ [y], n + 1, H8, ?_, rv.append (.cons r8 .nil), T.keep _ _ _ (keepI I8).1 fun b hb o e => hs9.extBut b o (fun q => hDf (q ▸ hb)) e, (keepI I8).2, w8⟩
          -- the accumulator is another object now
          have J9 : Inv (cxC X (xs ++ ys) scope H2.objs.size s2 H fp) [] (sigC xs.length js σ) H8 s8 := J8.pins_of fun p hp => absurd hp (by simp)
          have J9' : Inv (cxC X (xs ++ ys) scope H2.objs.size s2 H fp) [] (sigC xs.length js σ) H8 { s8 with heap := h9, toks := s8.toks } := J9.turned (it := s2.heap.objs.size) (fun b o hb e => hs9.extBut b o hb e) pD.2.1 hDC (.inr (Nat.le_refl _))
            (fun x c e z => by
              obtain ⟨v, o, ho, _⟩ := I.cell x c (clOf_back e)
              exact (below c (Heap.lt_size ho)).2 z) (fun p hp => absurd (show p ∈ ([] : List (Addr × Obj)) ++ [] from hp) (by simp))
          refine J9'.pins_of fun p hp => ?_
          have e : p = (s2.heap.objs.size, { cls := .type "list", data := .seq (its ++ [y]).toArray (n + 1) }) := by simpa using hp
          subst e
          exact ⟨hD9', pD.2.1, hDC, pD.2.2.2.1, fun v z => by cases z⟩
    · exact inv_comp (fp := fp) I CS hsc hN f fl hCle (Nat.le_refl _) hDC hns1 old hacc (fun v z => by cases z)
  exact codeAny_compStart_list (loop _ rfl) (T.self X.A 0 _ _ _ t1 (loop _ rfl))

theorem comp_clos (ok : X.Ok) (CS : CompSc scope sc N0 xs ys js) (hsc : X.env.scope = sc) : closureFor scope X.env = pure (clOf X.env.cells scope.names []) := clos_ok fun y hy e => by
  have h := CS.fr y hy e
  rw [← hsc] at h
  exact ok.has y.1 h
theorem inv_gone {pins : List (Addr × Obj)} {σ : St} {H : Hp} {s : Shared} {C : Addr} {h' : Heap} (I : Inv X pins σ H s) (hn : H C = none) (hL : C ≠ X.env.locals) (h0 : X.s₀.heap.objs.size ≤ C) (hcl : ∀ x c, X.env.cells.lookup x = some c → c ≠ C) (hp : ∀ p ∈ X.pn ++ pins, p.1 ≠ C)
    (hs : Heap.SameBut C s.heap h') : Inv X pins σ H { s with heap := h' } := I.turned (t' := s.toks) (it := C) (fun b o hb e => hs.extBut b o hb e) hn hL (.inr h0) hcl hp
theorem pe_comp (CS : CompSc scope sc N0 xs ys js) (hc : X.calm = true) (hi : PI X tg iter wi) (hg : ∀ C s2 H fp, PG (cxC X (xs ++ ys) scope C s2 H fp) tg g) (hq : ∀ C s2 H fp, PQ (cxC X (xs ++ ys) scope C s2 H fp) ifs tc)
    (he : ∀ C s2 H fp, PE (cxC X (xs ++ ys) scope C s2 H fp) elt te) (hsc : X.env.scope = sc := by rfl) (hN : X.N = N0 := by rfl) (hs : ∀ x, foldedSetIterable iter X.env x = pure x := by intro _; rfl) :
    PE X (.ListComp elt [⟨tg, iter, ifs, 0⟩] scope pos) (tComp xs.length js wi g tc te) := by
  intro pins s σ H Q I h
  rw [eval_ListComp]
  refine wpAny_comprehension_free (use := none) rfl hs (comp_clos I.ok CS hsc) CS.kind CS.loc (thn (hi pins s σ H _ I h) fun v s1 h1 => thn h1 fun itv s2 h2 => ?_)
  obtain ⟨it, fp, tn, J, H2, e, I2, T, t2, f2, hw⟩ := h2
  subst e
  refine comp_block (RR := fun acc C => compPost (model X.prog X.w) X.A X.xe none (EP X pins σ Q) acc C) CS hsc hN hc I2 T t2 f2 hg hq he hw ?_
  intro D C H' vs s' hm I' hD hCD hC hL h0 hcl hp fn
  obtain ⟨m, hm⟩ := hm
  refine ⟨m, hm, fun h' hs' => ⟨.ref D, _, inv_gone I' (by rw [upd_ne hCD]; exact hC) hL h0 hcl hp hs', rfl, fn D hD⟩⟩
theorem ps_setComp {i : Nat} {y : Str} {py spos : Pos} (CS : CompSc scope sc N0 xs ys js) (hc : X.calm = true) (hNd : X.N.Nodup) (hiy : X.N[i]? = some y) (hy : X.env.scope.names.lookup y = some .local)
    (hi : PI X tg iter wi) (hg : ∀ C s2 H fp, PG (cxC X (xs ++ ys) scope C s2 H fp) tg g) (hq : ∀ C s2 H fp, PQ (cxC X (xs ++ ys) scope C s2 H fp) ifs tc)
    (he : ∀ C s2 H fp, PE (cxC X (xs ++ ys) scope C s2 H fp) elt te) (hsc : X.env.scope = sc := by rfl) (hN : X.N = N0 := by rfl) (hs : ∀ x, foldedSetIterable iter X.env x = pure x := by intro _; rfl)
    (hsw : swapsWith (.ListComp elt [⟨tg, iter, ifs, 0⟩] scope pos) (some (.Name y py)) spos.line X.env = pure true := by rfl) :
    PS X (.Assign [.Name y py] (.ListComp elt [⟨tg, iter, ifs, 0⟩] scope pos) spos) (tAsg (tComp xs.length js wi g tc te) (gName i)) := by
  intro pins s σ H Dn I h
  rw [exec_Assign_Name_used _ _ _ _ hsw]
  refine wpAny_bind (wpAny_standAt (wpAny_bind ?_))
  show wpAny _ X.A (do let _ ← comprehension (.ListComp elt [⟨tg, iter, ifs, 0⟩] scope pos) scope X.env _ (newList []) false (eval iter X.env) (some (assign (.Name y py) X.env))) _ _ s
  refine wpAny_bind (wpAny_mono (wpAny_comprehension_free (use := some (assign (.Name y py) X.env)) (Q := fun _ s' => SP X pins Dn .next s') rfl hs (comp_clos I.ok CS hsc) CS.kind CS.loc
    (thn (hi pins s σ H _ I h) fun v s1 h1 => thn h1 fun itv s2 h2 => ?_)) (fun _ s' hq => wpAny_pure (wpAny_pure hq)) fun _ _ e => e)
  obtain ⟨it, fp, tn, J, H2, e, I2, T, t2, f2, hw⟩ := h2
  subst e
  refine comp_block (RR := fun acc C => compPost (model X.prog X.w) X.A X.xe (some (assign (.Name y py) X.env)) (fun _ s' => SP X pins Dn .next s') acc C) CS hsc hN hc I2 T t2 f2 hg hq he hw ?_
  intro D C H' vs s' hm I' hD hCD hC hL h0 hcl hp fn
  obtain ⟨m, hm⟩ := hm
  show wpAny _ X.A (assign (.Name y py) X.env (.ref D)) _ _ _
  refine wpAny_assign_Name (store_ok2 (v := .ref D) I' hNd hiy (.inl hy) rfl (fun s2 I2 hch => ?_) (.inr hy))
  obtain ⟨a, sb, ha⟩ := hch
  have hCa : C ≠ a := by
    rcases ha with ha | ha
    · rw [ha]; exact hL
    · exact fun z => hcl y a ha z.symm
  refine ⟨m, hm.sameBut sb hCa, fun h' hs' => ?_⟩
  exact ⟨_, _, inv_gone I2 (by rw [upd_ne hCD]; exact hC) hL h0 hcl hp hs', fn D hD⟩
end
section
variable {k : Nat} {js : List Nat} {g : TG} {tc : TT} {te : TE} {σ : St} {fin : List V → Hp → Prop} {H : Hp}
theorem comp_range {lo : Int} {n : Nat} (Pv : Nat → List V → Hp → Prop) (h0 : Pv 0 [] H) (hn : n ≤ sizeLine) (hl : ∀ i ys H, Pv i ys H → ys.length ≤ i)
    (hs : ∀ i ys H, i < n → Pv i ys H → g (.int (lo + i)) (sigC k js σ) H fun σ2 H3 => tc σ2 H3 fun b H4 => if b = true then te σ2 H4 fun y H5 => Pv (i + 1) (ys ++ [y]) H5 else Pv (i + 1) ys H4)
    (hd : ∀ ys H, Pv n ys H → fin ys H) : compW k js g tc te σ (Itr lo n) H fin := by
  refine ⟨fun i m ys H => m = n - i ∧ i ≤ n ∧ Pv i ys H, ⟨n, by simp, Nat.zero_le _, h0⟩, ?_⟩
  rintro i m ys H ⟨rfl, hi, p⟩
  have hy := hl i ys H p
  by_cases hlt : i < n
  · refine .inr ⟨hlt, by omega, Pv (i + 1), fun ys' H' p' => ⟨n - (i + 1), by omega, rfl, hlt, p'⟩, fun x H' y => ?_⟩
    obtain ⟨e, y⟩ := y
    subst e y
    exact hs i ys _ hlt p
  · have e : i = n := by omega
    subst e
    exact .inl ⟨Nat.le_refl _, by omega, hd ys H p⟩
theorem comp_list {K : PySem.W.Frag} {a : Addr} {xs : List V} (Pv : Nat → List V → Hp → Prop) (h0 : Pv 0 [] H) (hn : xs.length ≤ sizeLine) (hl : ∀ i ys H, Pv i ys H → ys.length ≤ i) (hq : ∀ i ys H, i ≤ xs.length → Pv i ys H → SqL K H a xs)
    (hs : ∀ i x ys H, xs[i]? = some x → Pv i ys H → g x (sigC k js σ) H fun σ2 H3 => tc σ2 H3 fun b H4 => if b = true then te σ2 H4 fun y H5 => Pv (i + 1) (ys ++ [y]) H5 else Pv (i + 1) ys H4)
    (hd : ∀ ys H, Pv xs.length ys H → fin ys H) : compW k js g tc te σ (Itl K a) H fin := by
  refine ⟨fun i m ys H => m = xs.length - i ∧ i ≤ xs.length ∧ Pv i ys H, ⟨xs.length, by simp, Nat.zero_le _, h0⟩, ?_⟩
  rintro i m ys H ⟨rfl, hi, p⟩
  have hy := hl i ys H p
  have q := hq i ys H hi p
  by_cases hlt : i < xs.length
  · refine .inr ⟨⟨xs, xs[i], q, by simp [hlt]⟩, by omega, Pv (i + 1), fun ys' H' p' => ⟨xs.length - (i + 1), by omega, rfl, hlt, p'⟩, fun x H' y => ?_⟩
    obtain ⟨e, y⟩ := y
    subst e
    exact hs i x ys _ (y xs q) p
  · have e : i = xs.length := by omega
    subst e
    exact .inl ⟨⟨xs, q, Nat.le_refl _⟩, by omega, hd ys H p⟩
theorem comp_tup {K : PySem.W.Frag} {a : Addr} {xs : List V} (Pv : Nat → List V → Hp → Prop) (h0 : Pv 0 [] H) (hn : xs.length ≤ sizeLine) (hl : ∀ i ys H, Pv i ys H → ys.length ≤ i) (hq : ∀ i ys H, i ≤ xs.length → Pv i ys H → SqT K H a xs)
    (hs : ∀ i x ys H, xs[i]? = some x → Pv i ys H → g x (sigC k js σ) H fun σ2 H3 => tc σ2 H3 fun b H4 => if b = true then te σ2 H4 fun y H5 => Pv (i + 1) (ys ++ [y]) H5 else Pv (i + 1) ys H4)
    (hd : ∀ ys H, Pv xs.length ys H → fin ys H) : compW k js g tc te σ (Itt K a) H fin := by
  refine ⟨fun i m ys H => m = xs.length - i ∧ i ≤ xs.length ∧ Pv i ys H, ⟨xs.length, by simp, Nat.zero_le _, h0⟩, ?_⟩
  rintro i m ys H ⟨rfl, hi, p⟩
  have hy := hl i ys H p
  have q := hq i ys H hi p
  by_cases hlt : i < xs.length
  · refine .inr ⟨⟨xs, xs[i], q, by simp [hlt]⟩, by omega, Pv (i + 1), fun ys' H' p' => ⟨xs.length - (i + 1), by omega, rfl, hlt, p'⟩, fun x H' y => ?_⟩
    obtain ⟨e, y⟩ := y
    subst e
    exact hs i x ys _ (y xs q) p
  · have e : i = xs.length := by omega
    subst e
    exact .inl ⟨⟨xs, q, Nat.le_refl _⟩, by omega, hd ys H p⟩
end
end L2
namespace L2
open PySem PySem.Spec PyProof.Rows
def CDivB (i j : Int) : Prop := 0 < j ∧ j < 10000000000000000000000000000000000000000
theorem cdivB_no {i j : Int} (h : CDivB i j) : Builtin.divisionGoesByPylong i j = false := by
  obtain ⟨h1, h2⟩ := h
  refine PyProof.noPylong_of_log2 ?_
  have h0 : j.natAbs ≠ 0 := by omega
  have h3 : j.natAbs < 2 ^ 200 := by
    have e : (2 : Nat) ^ 200 = 1606938044258990275541962092341162602522202993782792835301376 := by decide
    rw [e]
    omega
  have := (Nat.log2_lt h0).mpr h3
  omega
section
variable {X : Cx}
theorem op_fdivB : OpR X (binaryOp .FloorDiv) (rI CDivB fun i j => .int (i / j)) := opI fun i j _ _ _ _ _ hc q => by
  have h1 : (0 : Int) < j := hc.1
  exact floordiv_int (by omega) (by rw [Int.fdiv_eq_ediv_of_nonneg i (by omega)]; exact q) (.inl (cdivB_no hc))
def clsV : V → Option Value
  | .ty n => some (.type n)
  | .ref C => some (.ref C)
  | _ => none
theorem clsV_rel {c : V} {cv u : Value} (h : clsV c = some cv) (r : RelV c u) : u = cv := by
  cases c with
  | ty n => cases h; exact r
  | ref C => cases h; exact r
  | _ => cases h
theorem call_isinst : CallR X (.builtin "isinstance") (fun xs H Q => ∃ x c t cv b, xs = [x, c] ∧ clsV c = some cv ∧ TyOf X.K H x t ∧ PySem.W.kitOne X.K t cv = some b ∧ Q (.bl b) H) := by
  intro pins s σ H xs us Q I r h
  obtain ⟨x, c, t, cv, b, rfl, hc, ht, hk, q⟩ := h
  obtain ⟨u, w', rfl, rx, rc⟩ := vals2 r
  have e := clsV_rel hc rc
  subst e
  exact isinst_ok I rx ht hk fun tk => ⟨.bl b, H, I.tok _, rfl, q⟩
theorem kit_same {K : PySem.W.Frag} {n : String} : PySem.W.kitOne K (.type n) (.type n) = some true := by
  unfold PySem.W.kitOne
  rw [if_pos (beq_self_eq_true _)]
theorem kit_ty {K : PySem.W.Frag} {a c : String} {b : Bool} (h1 : (Value.type a == Value.type c) = false) (h2 : PySem.W.kitMeta c = true) (h3 : (fastBuiltinMro a).map (·.contains (Value.type c)) = some b) :
    PySem.W.kitOne K (.type a) (.type c) = some b := by
  unfold PySem.W.kitOne
  rw [if_neg (by rw [h1]; exact Bool.false_ne_true)]
  show (if PySem.W.kitMeta c = true then PySem.W.subIn K (.type a) (.type c) else none) = some b
  rw [if_pos h2]
  exact h3
section
variable {K : PySem.W.Frag}
theorem kit_bool_int : PySem.W.kitOne K (.type "bool") (.type "int") = some true := kit_ty (by decide +kernel) (by decide +kernel) (by decide +kernel)
theorem kit_none_int : PySem.W.kitOne K (.type "NoneType") (.type "int") = some false := kit_ty (by decide +kernel) (by decide +kernel) (by decide +kernel)
theorem kit_str_int : PySem.W.kitOne K (.type "str") (.type "int") = some false := kit_ty (by decide +kernel) (by decide +kernel) (by decide +kernel)
theorem kit_list_int : PySem.W.kitOne K (.type "list") (.type "int") = some false := kit_ty (by decide +kernel) (by decide +kernel) (by decide +kernel)
theorem kit_tuple_int : PySem.W.kitOne K (.type "tuple") (.type "int") = some false := kit_ty (by decide +kernel) (by decide +kernel) (by decide +kernel)
theorem kit_dict_int : PySem.W.kitOne K (.type "dict") (.type "int") = some false := kit_ty (by decide +kernel) (by decide +kernel) (by decide +kernel)
theorem kit_int_bool : PySem.W.kitOne K (.type "int") (.type "bool") = some false := kit_ty (by decide +kernel) (by decide +kernel) (by decide +kernel)
theorem kit_none_bool : PySem.W.kitOne K (.type "NoneType") (.type "bool") = some false := kit_ty (by decide +kernel) (by decide +kernel) (by decide +kernel)
theorem kit_str_bool : PySem.W.kitOne K (.type "str") (.type "bool") = some false := kit_ty (by decide +kernel) (by decide +kernel) (by decide +kernel)
theorem kit_list_bool : PySem.W.kitOne K (.type "list") (.type "bool") = some false := kit_ty (by decide +kernel) (by decide +kernel) (by decide +kernel)
theorem kit_tuple_bool : PySem.W.kitOne K (.type "tuple") (.type "bool") = some false := kit_ty (by decide +kernel) (by decide +kernel) (by decide +kernel)
theorem kit_dict_bool : PySem.W.kitOne K (.type "dict") (.type "bool") = some false := kit_ty (by decide +kernel) (by decide +kernel) (by decide +kernel)
theorem kit_int_str : PySem.W.kitOne K (.type "int") (.type "str") = some false := kit_ty (by decide +kernel) (by decide +kernel) (by decide +kernel)
theorem kit_bool_str : PySem.W.kitOne K (.type "bool") (.type "str") = some false := kit_ty (by decide +kernel) (by decide +kernel) (by decide +kernel)
theorem kit_none_str : PySem.W.kitOne K (.type "NoneType") (.type "str") = some false := kit_ty (by decide +kernel) (by decide +kernel) (by decide +kernel)
theorem kit_list_str : PySem.W.kitOne K (.type "list") (.type "str") = some false := kit_ty (by decide +kernel) (by decide +kernel) (by decide +kernel)
theorem kit_tuple_str : PySem.W.kitOne K (.type "tuple") (.type "str") = some false := kit_ty (by decide +kernel) (by decide +kernel) (by decide +kernel)
theorem kit_dict_str : PySem.W.kitOne K (.type "dict") (.type "str") = some false := kit_ty (by decide +kernel) (by decide +kernel) (by decide +kernel)
theorem kit_int_tuple : PySem.W.kitOne K (.type "int") (.type "tuple") = some false := kit_ty (by decide +kernel) (by decide +kernel) (by decide +kernel)
theorem kit_bool_tuple : PySem.W.kitOne K (.type "bool") (.type "tuple") = some false := kit_ty (by decide +kernel) (by decide +kernel) (by decide +kernel)
theorem kit_none_tuple : PySem.W.kitOne K (.type "NoneType") (.type "tuple") = some false := kit_ty (by decide +kernel) (by decide +kernel) (by decide +kernel)
theorem kit_list_tuple : PySem.W.kitOne K (.type "list") (.type "tuple") = some false := kit_ty (by decide +kernel) (by decide +kernel) (by decide +kernel)
theorem kit_str_tuple : PySem.W.kitOne K (.type "str") (.type "tuple") = some false := kit_ty (by decide +kernel) (by decide +kernel) (by decide +kernel)
theorem kit_dict_tuple : PySem.W.kitOne K (.type "dict") (.type "tuple") = some false := kit_ty (by decide +kernel) (by decide +kernel) (by decide +kernel)
end
inductive Kd where
  | non | bl | int | str | lst | tup | dct
  deriving DecidableEq
def Kd.nm : Kd → String
  | .non => "NoneType" | .bl => "bool" | .int => "int" | .str => "str" | .lst => "list" | .tup => "tuple" | .dct => "dict"
def KdOf (K : PySem.W.Frag) (H : Hp) (x : V) (k : Kd) : Prop := TyOf K H x (.type k.nm)
def Kd.isA : Kd → Kd → Bool
  | .bl, .int => true
  | a, b => decide (a = b)
theorem kit_kd {K : PySem.W.Frag} {a c : Kd} (hc : c = .int ∨ c = .bl ∨ c = .str ∨ c = .tup) : PySem.W.kitOne K (.type a.nm) (.type c.nm) = some (a.isA c) := by
  rcases hc with rfl | rfl | rfl | rfl
  · cases a <;> first | exact kit_same | exact kit_bool_int | exact kit_none_int | exact kit_str_int | exact kit_list_int | exact kit_tuple_int | exact kit_dict_int
  · cases a <;> first | exact kit_same | exact kit_int_bool | exact kit_none_bool | exact kit_str_bool | exact kit_list_bool | exact kit_tuple_bool | exact kit_dict_bool
  · cases a <;> first | exact kit_same | exact kit_int_str | exact kit_none_str | exact kit_bool_str | exact kit_list_str | exact kit_tuple_str | exact kit_dict_str
  · cases a <;> first | exact kit_same | exact kit_int_tuple | exact kit_none_tuple | exact kit_bool_tuple | exact kit_list_tuple | exact kit_str_tuple | exact kit_dict_tuple
theorem call_isKd (c : Kd) (hc : c = .int ∨ c = .bl ∨ c = .str ∨ c = .tup) : CallR X (.builtin "isinstance") (fun xs H Q => ∃ x k, xs = [x, .ty c.nm] ∧ KdOf X.K H x k ∧ Q (.bl (k.isA c)) H) := by
  intro pins s σ H xs us Q I r h
  obtain ⟨x, k, rfl, hk, q⟩ := h
  exact call_isinst pins s σ H _ us Q I r ⟨x, _, _, _, _, rfl, rfl, hk, kit_kd hc, q⟩
end

def Its (x : Str) : It := ⟨fun i _ => i < x.cps.size, fun i H v H' => H' = H ∧ ∃ c, x.cps[i]? = some c ∧ v = .str ⟨#[c]⟩, fun i _ => i = x.cps.size⟩
theorem turn_str {P : Program} {w : World} {K : PySem.W.Frag} {tg : Expr} (it : Addr) (ty : String) (x : Str) (t : Tok) (hty : ["enumerate", "zip", "dict_itemiterator", "dict_reverseitemiterator", "odict_iterator", "itertools.zip_longest", "itertools.pairwise"].contains ty = false)
    (W : ∀ A' : Around, A'.handled = none → Walks P w A' it [it] [it] x.cps.size (SignAt x) (fun i h => h.IsStrIter it ty x t i))
    (slf : ∀ (A : Around) (i : Nat) (s : Shared) (Q : Value → Shared → Prop) (E : Value → Shared → Prop), s.heap.IsStrIter it ty x t i → Q (.ref it) s → wpAny (model P w) A (pyIter (.ref it)) Q E s) :
    Turn P w K tg (Its x) [it] it (fun i h => h.IsStrIter it ty x t i) where
  mem := by simp
  obj := fun i h st b hb => by
    have e : b = it := by simpa using hb
    subst e
    obtain ⟨o, e, c, d⟩ := st
    exact ⟨o, e, fun v z => by rw [d] at z; cases z⟩
  keep := fun i h h' st k => by
    obtain ⟨o, e, r⟩ := st
    exact ⟨o, k it (by simp) o e, r⟩
  item := by
    intro X hP hw hK hc i pins s σ H E I hf st hg
    subst hP hw hK
    obtain ⟨f0, f1, f2, f3, f4, f5⟩ := hf it (by simp)
    refine (W X.A (I.ok.hd hc)).item i s _ _ hg st fun v h' tk hv st' kk => ?_
    obtain ⟨c, u, ec, rfl⟩ := hv
    have I1 : Inv X pins σ H { s with heap := h', toks := tk } := I.turned (fun b o hb e => kk b o (by simpa using hb) e) f0 f1 f3 f4 f5
    obtain ⟨o, e, cc, d⟩ := id st'
    exact ⟨_, rfl, go_of (s := { s with heap := h', toks := tk }) e cc d hty ⟨.str ⟨#[c]⟩, H, I1, ⟨u, rfl⟩, ⟨rfl, c, ec, rfl⟩, st', fun b hb => (hf b hb).1⟩⟩
  done := by
    intro X hP hw hK hc i pins s σ H E I hf st hg
    subst hP hw hK
    obtain ⟨f0, f1, f2, f3, f4, f5⟩ := hf it (by simp)
    have e : i = x.cps.size := hg
    subst e
    exact (W X.A (I.ok.hd hc)).done s _ _ st fun h' tk kk => ⟨rfl, I.turned (fun b o hb e => kk b o (by simpa using hb) e) f0 f1 f3 f4 f5⟩
  self := slf
def iStr (tl : TE) : TI := fun σ H R => tl σ H fun x H1 => ∃ z, x = .str z ∧ R (Its z) H1
section
variable {X : Cx} {tg : Expr}
theorem pi_str {l : Expr} {tl : TE} (hl : PE X l tl) : PI X tg l (iStr tl) := by
  intro pins s σ H R I h
  refine thn (hl pins s σ H _ I h) fun v s1 ⟨x, H1, I1, r1, q1⟩ => ?_
  obtain ⟨z, e, q⟩ := q1
  subst e
  obtain ⟨t, rfl⟩ := r1
  have fp : ∀ b ∈ [s1.heap.objs.size], FpOk X pins H1 b := fun b hb => by
    have e : b = s1.heap.objs.size := by simpa using hb
    subst e
    exact I1.fpOk (Nat.le_refl _) (I1.hok.fresh (Nat.le_refl _))
  cases ha : z.cps.all (· < 128)
  · refine wpAny_pyIter_wide ha ?_
    exact ⟨s1.heap.objs.size, [s1.heap.objs.size], _, _, H1, rfl, I1.kept (t' := s1.toks) fun b o e => Heap.get?_push_of_some _ e, turn_str _ _ z t (by decide) (fun A' hA => Walks.strWide hA _ z t) (fun _ _ _ _ _ st h => wpAny_pyIter_striter_wide st h),
      ⟨_, Heap.get?_push_size _ rfl, rfl, rfl⟩, fp, q⟩
  · refine wpAny_pyIter_ascii ha ?_
    exact ⟨s1.heap.objs.size, [s1.heap.objs.size], _, _, H1, rfl, I1.kept (t' := s1.toks) fun b o e => Heap.get?_push_of_some _ e, turn_str _ _ z t (by decide) (fun A' hA => Walks.strAscii hA _ z t) (fun _ _ _ _ _ st h => wpAny_pyIter_striter_ascii st h),
      ⟨_, Heap.get?_push_size _ rfl, rfl, rfl⟩, fp, q⟩
def sgn (x : Str) (i : Nat) : Str := ⟨#[x.cps.getD i 0]⟩
theorem comp_str {k : Nat} {js : List Nat} {g : TG} {tc : TT} {te : TE} {σ : St} {fin : List V → Hp → Prop} {H : Hp} {z : Str} (Pv : Nat → List V → Hp → Prop) (h0 : Pv 0 [] H) (hn : z.cps.size ≤ sizeLine) (hl : ∀ i ys H, Pv i ys H → ys.length ≤ i)
    (hs : ∀ i ys H, i < z.cps.size → Pv i ys H → g (.str (sgn z i)) (sigC k js σ) H fun σ2 H3 => tc σ2 H3 fun b H4 => if b = true then te σ2 H4 fun y H5 => Pv (i + 1) (ys ++ [y]) H5 else Pv (i + 1) ys H4)
    (hd : ∀ ys H, Pv z.cps.size ys H → fin ys H) : compW k js g tc te σ (Its z) H fin := by
  refine ⟨fun i m ys H => m = z.cps.size - i ∧ i ≤ z.cps.size ∧ Pv i ys H, ⟨z.cps.size, by simp, Nat.zero_le _, h0⟩, ?_⟩
  rintro i m ys H ⟨rfl, hi, p⟩
  have hy := hl i ys H p
  by_cases hlt : i < z.cps.size
  · refine .inr ⟨hlt, by omega, Pv (i + 1), fun ys' H' p' => ⟨z.cps.size - (i + 1), by omega, rfl, hlt, p'⟩, fun x H' y => ?_⟩
    obtain ⟨e, c, ec, ex⟩ := y
    subst e ex
    have hh := hs i ys _ hlt p
    have e2 : sgn z i = ⟨#[c]⟩ := by unfold sgn; rw [Array.getD_eq_getD_getElem?, ec]; rfl
    rw [e2] at hh
    exact hh
  · have e : i = z.cps.size := by omega
    subst e
    exact .inl ⟨rfl, by omega, hd ys H p⟩
theorem vals_bl : ∀ {bs : List Bool} {its : List Value}, Vals (bs.map V.bl) its → its = bs.map Value.bool
  | [], _, .nil => rfl
  | b :: bs, _, .cons r t => by
    cases r
    rw [vals_bl t]
    rfl
theorem call_allB (hc : X.calm = true) : CallR X (.builtin "all") (fun xs H Q => ∃ (p : Addr) (bs : List Bool), xs = [.ref p] ∧ SqL X.K H p (bs.map V.bl) ∧ Q (.bl (bs.all id)) H) := by
  intro pins s σ H xs us Q I r h
  obtain ⟨p, bs, rfl, hq, q⟩ := h
  obtain ⟨u, rfl, ru⟩ := vals1 r
  cases ru
  obtain ⟨its, rv, pl, hz⟩ := I.list hq
  have e := vals_bl rv
  subst e
  have hlt : p < s.heap.objs.size := by obtain ⟨o, n, e, _⟩ := pl; exact Heap.lt_size e
  refine call_all_walk (wpAny_pyIter_list pl.isList ?_)
  refine ⟨s.heap.objs.size, _, [s.heap.objs.size], _, _, _, fun i => bs.getD i true, rfl, Walks.list (A := X.A.in1) (show X.A.in1.handled = none from I.ok.hd hc) s.heap.objs.size p (Nat.ne_of_lt hlt) (bs.map Value.bool).toArray, ⟨⟨_, Heap.get?_push_size _ rfl, rfl, rfl⟩, pl.isList.push _⟩, ?_, fun h' tk hk => ?_⟩
  · intro i v s' Q' E' hP hQ'
    have hP : ((bs.map Value.bool).toArray)[i]? = some v := hP
    rw [List.getElem?_toArray, List.getElem?_map] at hP
    cases e : bs[i]? with
    | none => rw [e] at hP; cases hP
    | some b =>
      rw [e] at hP
      cases hP
      refine wpAny_truthy_bool ?_
      have e' : bs.getD i true = b := by rw [List.getD_eq_getElem?_getD, e]; rfl
      have hQ' : Q' (bs.getD i true) s' := hQ'
      rw [e'] at hQ'
      exact hQ'
  · have e : (List.range (bs.map Value.bool).toArray.size).all (fun i => bs.getD i true) = bs.all id := by
      rw [Bool.eq_iff_iff]
      simp only [List.size_toArray, List.length_map, List.all_eq_true, List.mem_range, id]
      constructor
      · intro h b hb
        obtain ⟨i, hi, e⟩ := List.mem_iff_getElem.mp hb
        have := h i hi
        rw [List.getD_eq_getElem?_getD, List.getElem?_eq_getElem hi, e] at this
        exact this
      · intro h i hi
        rw [List.getD_eq_getElem?_getD, List.getElem?_eq_getElem hi]
        exact h _ (List.getElem_mem hi)
    rw [e]
    exact ⟨.bl (bs.all id), H, I.kept fun b o e => hk b o (by simp; exact Nat.ne_of_lt (Heap.lt_size e)) (Heap.get?_push_of_some _ e), rfl, q⟩
theorem mt_bitlen : MtR X "int.bit_length" (fun x xs H Q => ∃ i, x = .int i ∧ xs = [] ∧ Q (.int (Builtin.Int.intBits i)) H) := by
  intro pins s σ H x xs v us Q I rx rs h
  obtain ⟨i, rfl, rfl, q⟩ := h
  obtain ⟨t, rfl⟩ := rx
  cases rs
  exact call_int_bit_length ⟨.int _, H, I.tok _, ⟨_, rfl⟩, q⟩
end
end L2
namespace L2
open PySem PySem.Spec PyProof.Rows

section
variable {κ : Type} [DecidableEq κ]
def valV (kvs : List (κ × V)) (k : κ) : Option V := (kvs.find? fun kv => decide (kv.1 = k)).map (·.2)
def putK (kvs : List (κ × V)) (k : κ) (v : V) : List (κ × V) :=
  if (kvs.any fun kv => decide (kv.1 = k)) = true then kvs.map (fun kv => if kv.1 = k then (kv.1, v) else kv) else kvs ++ [(k, v)]
def dropK (kvs : List (κ × V)) (k : κ) : List (κ × V) := kvs.filter fun kv => decide (kv.1 ≠ k)

theorem valV_pos {p : κ × V} {r : List (κ × V)} {k : κ} (e : p.1 = k) : valV (p :: r) k = some p.2 := by simp [valV, List.find?_cons, e]
theorem valV_neg {p : κ × V} {r : List (κ × V)} {k : κ} (e : ¬ p.1 = k) : valV (p :: r) k = valV r k := by simp [valV, List.find?_cons, e]
theorem valV_any (k : κ) : ∀ kvs : List (κ × V), (kvs.any fun kv => decide (kv.1 = k)) = (valV kvs k).isSome
  | [] => rfl
  | p :: r => by
    rw [List.any_cons]
    by_cases e : p.1 = k
    · simp only [valV_pos e, decide_eq_true e, Bool.true_or, Option.isSome_some]
    · rw [valV_neg e, decide_eq_false e, Bool.false_or]; exact valV_any k r
theorem length_putK (kvs : List (κ × V)) (k : κ) (v : V) : (putK kvs k v).length ≤ kvs.length + 1 := by
  unfold putK
  split
  · rw [List.length_map]; omega
  · rw [List.length_append, List.length_cons, List.length_nil]; omega
theorem putK_new {kvs : List (κ × V)} {k : κ} (v : V) (h : valV kvs k = none) : putK kvs k v = kvs ++ [(k, v)] := by
  unfold putK
  rw [valV_any, h]
  exact if_neg (by decide)

theorem RelO.isSome_eq {o : Option V} {u : Option Value} (r : RelO o u) : o.isSome = u.isSome := by
  cases o with
  | none => cases u with
    | none => rfl
    | some _ => exact (show False from r).elim
  | some _ => cases u with
    | none => exact (show False from r).elim
    | some _ => rfl
theorem KV.val {kvs : List (κ × V)} {vs : List (κ × Value)} (r : KV kvs vs) (k : κ) : RelO (valV kvs k) (valueAt vs k) := by
  unfold KV at r
  induction r with
  | nil => exact True.intro
  | @cons p q ps qs h t ih =>
    obtain ⟨h1, h2⟩ := h
    by_cases e : p.1 = k
    · have e' : q.1 = k := h1.symm.trans e
      have b : valueAt (q :: qs) k = some q.2 := by simp [valueAt, List.find?_cons, e']
      rw [valV_pos e, b]; exact h2
    · have e' : ¬ q.1 = k := fun z => e (h1.trans z)
      have b : valueAt (q :: qs) k = valueAt qs k := by simp [valueAt, List.find?_cons, e']
      rw [valV_neg e, b]; exact ih
theorem KV.any {kvs : List (κ × V)} {vs : List (κ × Value)} (r : KV kvs vs) (k : κ) : (kvs.any fun kv => decide (kv.1 = k)) = vs.any fun kv => decide (kv.1 = k) := by
  unfold KV at r
  induction r with
  | nil => rfl
  | cons h t ih => rw [List.any_cons, List.any_cons, ih, h.1]
theorem KV.repl {kvs : List (κ × V)} {vs : List (κ × Value)} (r : KV kvs vs) (k : κ) {y : V} {u : Value} (ry : RelV y u) :
    KV (kvs.map fun kv => if kv.1 = k then (kv.1, y) else kv) (vs.map fun kv => if kv.1 = k then (kv.1, u) else kv) := by
  unfold KV at r ⊢
  induction r with
  | nil => exact .nil
  | @cons p q ps qs h t ih =>
    rw [List.map_cons, List.map_cons]
    refine .cons ?_ ih
    obtain ⟨h1, h2⟩ := h
    by_cases e : p.1 = k
    · rw [if_pos e, if_pos (h1.symm.trans e)]; exact ⟨h1, ry⟩
    · rw [if_neg e, if_neg (fun z => e (h1.trans z))]; exact ⟨h1, h2⟩
theorem KV.put {kvs : List (κ × V)} {vs : List (κ × Value)} (r : KV kvs vs) (k : κ) {y : V} {u : Value} (ry : RelV y u) : KV (putK kvs k y) (stored vs k u) := by
  unfold putK stored
  rw [r.any k]
  by_cases e : (vs.any fun kv => decide (kv.1 = k)) = true
  · rw [if_pos e, if_pos e]; exact r.repl k ry
  · rw [if_neg e, if_neg e]; exact Paired.snoc r ⟨rfl, ry⟩
theorem KV.length {kvs : List (κ × V)} {vs : List (κ × Value)} (r : KV kvs vs) : kvs.length = vs.length := Paired.length r
end


theorem kV_is {P : Program} {w : World} {k : Key} {u : Value} (r : RelV (kV k) u) : (mixKind P w).is k u = true := by
  cases k with
  | inl i => obtain ⟨t, e⟩ := (show ∃ t, u = Value.int i t from r); subst e; exact mixKind_int P w i t
  | inr x => obtain ⟨t, e⟩ := (show ∃ t, u = Value.str x t from r); subst e; exact mixKind_str P w x t
theorem items_are {P : Program} {w : World} : ∀ {ks : List Key} {us : List Value}, Vals (ks.map kV) us → ItemsAre (mixKind P w) ks us
  | [], _, r => by rw [List.map_nil] at r; cases r; exact .nil
  | k :: ks, _, r => by
    rw [List.map_cons] at r
    cases r with
    | cons h t => exact .cons (kV_is h) (items_are t)

abbrev KT (H : Hp) : List (List Key × V) → List (List Key × Addr × Value) → Prop := Paired fun p q => p.1 = q.1 ∧ H q.2.1 = some (.tup (p.1.map kV)) ∧ RelV p.2 q.2.2
theorem KT.val {H : Hp} {kvs : List (List Key × V)} {xs : List (List Key × Addr × Value)} (r : KT H kvs xs) (k : List Key) : RelO (valV kvs k) ((atKey xs k).map (·.2)) := by
  induction r with
  | nil => exact True.intro
  | @cons p q ps qs h t ih =>
    obtain ⟨h1, _, h2⟩ := h
    by_cases e : p.1 = k
    · have e' : q.1 = k := h1.symm.trans e
      have b : atKey (q :: qs) k = some q.2 := by simp [atKey, List.find?_cons, e']
      rw [valV_pos e, b]; exact h2
    · have e' : ¬ q.1 = k := fun z => e (h1.trans z)
      have b : atKey (q :: qs) k = atKey qs k := by simp [atKey, List.find?_cons, e']
      rw [valV_neg e, b]; exact ih
theorem KT.repl {H : Hp} {kvs : List (List Key × V)} {xs : List (List Key × Addr × Value)} (r : KT H kvs xs) (k : List Key) {y : V} {u : Value} (ry : RelV y u) :
    KT H (kvs.map fun kv => if kv.1 = k then (kv.1, y) else kv) (xs.map (putAt k u)) := by
  induction r with
  | nil => exact .nil
  | @cons p q ps qs h t ih =>
    rw [List.map_cons, List.map_cons]
    refine .cons ?_ ih
    obtain ⟨h1, h2, h3⟩ := h
    unfold putAt
    by_cases e : p.1 = k
    · rw [if_pos e, if_pos (h1.symm.trans e)]; exact ⟨h1, h2, ry⟩
    · rw [if_neg e, if_neg (fun z => e (h1.trans z))]; exact ⟨h1, h2, h3⟩
theorem KT.put {H : Hp} {kvs : List (List Key × V)} {xs : List (List Key × Addr × Value)} (r : KT H kvs xs) (k : List Key) {b : Addr} {y : V} {u : Value} (hb : H b = some (.tup (k.map kV))) (ry : RelV y u) :
    KT H (putK kvs k y) (storedH xs k b u) := by
  have e : (kvs.any fun kv => decide (kv.1 = k)) = (atKey xs k).isSome := by
    rw [valV_any, (r.val k).isSome_eq, Option.isSome_map]
  unfold putK storedH
  rw [e]
  by_cases q : (atKey xs k).isSome = true
  · rw [if_pos q, if_pos q]; exact r.repl k ry
  · rw [if_neg q, if_neg q]; exact Paired.snoc r ⟨rfl, hb, ry⟩
theorem KT.keeps {H H' : Hp} {kvs : List (List Key × V)} {xs : List (List Key × Addr × Value)} (r : KT H kvs xs) (ht : ∀ b ys, H b = some (.tup ys) → H' b = some (.tup ys)) : KT H' kvs xs :=
  Paired.mapP r fun _ _ z => ⟨z.1, ht _ _ z.2.1, z.2.2⟩

section
variable {P : Program} {w : World} {H : Hp} {h : Heap} {a : Addr}
theorem rd_of {u : HO} (ok : HOk P w H h) (e : Rd H a u) : ObjOk P w H h a u := e.ok ok
theorem dk_rd {kvs : List (Key × V)} (ok : HOk P w H h) (e : Rd H a (.dK kvs)) : kvs.length ≤ sizeLine ∧ (a == sysModules) = false ∧ ∃ vs, KV kvs vs ∧ h.DictOf (mixKind P w) a vs :=
  show ObjOk P w H h a (.dK kvs) from rd_of ok e
theorem dk_of {kvs : List (Key × V)} (ok : HOk P w H h) (e : H a = some (.dK kvs)) : kvs.length ≤ sizeLine ∧ (a == sysModules) = false ∧ ∃ vs, KV kvs vs ∧ h.DictOf (mixKind P w) a vs := dk_rd ok (.inl e)
theorem key_of {ks : List Key} (ok : HOk P w H h) (e : H a = some (.tup (ks.map kV))) : (tupleKind (mixKind P w)).is h ks a := by
  obtain ⟨_, its, r, o, h1, h2, n, h3⟩ := (show ObjOk P w H h a (.tup (ks.map kV)) from ok a _ e)
  exact ⟨o, its.toArray, n, h1, h2, h3, by simpa using items_are r⟩
theorem dt_rd {kvs : List (List Key × V)} (ok : HOk P w H h) (e : Rd H a (.dT kvs)) : kvs.length ≤ sizeLine ∧ (a == sysModules) = false ∧
    ∃ xs, KT H kvs xs ∧ h.DictOfH (tupleKind (mixKind P w)) a xs := by
  obtain ⟨z, y, xs, r, o, es, ep, h1, h2, h3, h4, h5⟩ := (show ObjOk P w H h a (.dT kvs) from rd_of ok e)
  refine ⟨z, y, xs, r, o, es, ep, h1, h2, h3, h4, fun x hx => ?_, h5⟩
  have all : ∀ {l : List (List Key × V)} {m : List (List Key × Addr × Value)}, KT H l m → ∀ x ∈ m, (tupleKind (mixKind P w)).is h x.1 x.2.1 := by
    intro l m q
    induction q with
    | nil => intro x hx; exact nomatch hx
    | @cons p q ps qs hq t ih =>
      intro x hx
      rcases List.mem_cons.mp hx with e | hx
      · subst e
        exact key_of ok (by rw [← hq.1]; exact hq.2.1)
      · exact ih x hx
  exact all r x hx
theorem dt_of {kvs : List (List Key × V)} (ok : HOk P w H h) (e : H a = some (.dT kvs)) : kvs.length ≤ sizeLine ∧ (a == sysModules) = false ∧
    ∃ xs, KT H kvs xs ∧ h.DictOfH (tupleKind (mixKind P w)) a xs := dt_rd ok (.inl e)
end

def DGet (H : Hp) (a : Addr) (y : V) (r : Option V) : Prop :=
  (∃ kvs k, Rd H a (.dK kvs) ∧ y = kV k ∧ r = valV kvs k) ∨ ∃ kvs k b, Rd H a (.dT kvs) ∧ y = .ref b ∧ H b = some (.tup (k.map kV)) ∧ r = valV kvs k
def DPut (H : Hp) (a : Addr) (y v : V) (H' : Hp) : Prop :=
  (∃ kvs k, H a = some (.dK kvs) ∧ y = kV k ∧ kvs.length < sizeLine ∧ H' = upd H a (.dK (putK kvs k v))) ∨
  ∃ kvs k b, H a = some (.dT kvs) ∧ y = .ref b ∧ H b = some (.tup (k.map kV)) ∧ kvs.length < sizeLine ∧ H' = upd H a (.dT (putK kvs k v))
theorem DGet.t {H : Hp} {a b : Addr} {kvs : List (List Key × V)} {k : List Key} (e : H a = some (.dT kvs)) (eb : H b = some (.tup (k.map kV))) : DGet H a (.ref b) (valV kvs k) := .inr ⟨kvs, k, b, .inl e, rfl, eb, rfl⟩
theorem DPut.t {H : Hp} {a b : Addr} {kvs : List (List Key × V)} {k : List Key} {v : V} (e : H a = some (.dT kvs)) (eb : H b = some (.tup (k.map kV))) (hl : kvs.length < sizeLine) :
    DPut H a (.ref b) v (upd H a (.dT (putK kvs k v))) := .inr ⟨kvs, k, b, e, rfl, eb, hl, rfl⟩


section
variable {X : Cx} {pins : List (Addr × Obj)} {σ : St} {H : Hp} {s : Shared} {a : Addr} {y v : V} {u r : Value} {o : Option V} {A : Around} {E : Value → Shared → Prop}

theorem Inv.big (I : Inv X pins σ H s) : sysModules < s.heap.objs.size := by
  have h : mainGlobals < s.heap.objs.size := (I.mod.glob.keeps I.bk).lt
  exact Nat.lt_trans (by decide) h

theorem d_getItem {Q : Value → Shared → Prop} (hu : A.units + 1 < cLine) (I : Inv X pins σ H s) (g : DGet H a y (some v)) (ry : RelV y u) (h : ∀ w' s', Inv X pins σ H s' → RelV v w' → Q w' s') :
    wpAny (model X.prog X.w) A (getItem (.ref a) u) Q E s := by
  rcases g with ⟨kvs, k, e, ey, l⟩ | ⟨kvs, k, b, e, ey, eb, l⟩
  · subst ey
    obtain ⟨z, hd, vs, rel, dd⟩ := dk_rd I.hok e
    obtain ⟨w', hw, rw'⟩ := RelO.some_of (v := v) (o := valueAt vs k) (by rw [l]; exact rel.val k)
    exact wpAny_getItem_of (kV_is ry) dd.mapOf hw (h w' _ (I.tok _) rw')
  · subst ey
    cases (show u = Value.ref b from ry)
    obtain ⟨z, hd, xs, rel, dd⟩ := dt_rd I.hok e
    obtain ⟨w', hw, rw'⟩ := RelO.some_of (v := v) (o := (atKey xs k).map (·.2)) (by rw [l]; exact rel.val k)
    obtain ⟨p, hp, hp2⟩ := Option.map_eq_some_iff.mp hw
    refine wpAny_getItem_heap (tupleKind_room_in1 hu) (key_of I.hok eb) dd hp ?_
    rw [hp2]
    exact h w' _ (I.tok _) rw'
theorem d_in {Q : Value → Shared → Prop} (hu : A.units + 1 < cLine) (I : Inv X pins σ H s) (g : DGet H a y o) (ry : RelV y u) (h : ∀ s', Inv X pins σ H s' → Q (.bool o.isSome) s') :
    wpAny (model X.prog X.w) A (compareOp .In u (.ref a)) Q E s := by
  rcases g with ⟨kvs, k, e, ey, l⟩ | ⟨kvs, k, b, e, ey, eb, l⟩
  · subst ey
    obtain ⟨z, hd, vs, rel, dd⟩ := dk_rd I.hok e
    refine wpAny_in_of (kV_is ry) hd dd.mapOf ?_
    rw [← (rel.val k).isSome_eq, ← l]
    exact h _ (I.tok _)
  · subst ey
    cases (show u = Value.ref b from ry)
    obtain ⟨z, hd, xs, rel, dd⟩ := dt_rd I.hok e
    refine wpAny_in_heap (tupleKind_room_in1 hu) (key_of I.hok eb) hd dd ?_
    have q := (rel.val k).isSome_eq
    rw [Option.isSome_map] at q
    rw [← q, ← l]
    exact h _ (I.tok _)
theorem d_notIn {Q : Value → Shared → Prop} (hu : A.units + 1 < cLine) (I : Inv X pins σ H s) (g : DGet H a y o) (ry : RelV y u) (h : ∀ s', Inv X pins σ H s' → Q (.bool (!o.isSome)) s') :
    wpAny (model X.prog X.w) A (compareOp .NotIn u (.ref a)) Q E s := by
  rcases g with ⟨kvs, k, e, ey, l⟩ | ⟨kvs, k, b, e, ey, eb, l⟩
  · subst ey
    obtain ⟨z, hd, vs, rel, dd⟩ := dk_rd I.hok e
    refine wpAny_notIn_of (kV_is ry) hd dd.mapOf ?_
    rw [← (rel.val k).isSome_eq, ← l]
    exact h _ (I.tok _)
  · subst ey
    cases (show u = Value.ref b from ry)
    obtain ⟨z, hd, xs, rel, dd⟩ := dt_rd I.hok e
    refine wpAny_notIn_heap (tupleKind_room_in1 hu) (key_of I.hok eb) hd dd ?_
    have q := (rel.val k).isSome_eq
    rw [Option.isSome_map] at q
    rw [← q, ← l]
    exact h _ (I.tok _)
theorem d_write {h' : Heap} {t' : Nat} {ob : HO} (I : Inv X pins σ H s) (mu : Mut (H a)) (hs : Heap.SameBut a s.heap h') (he : ∃ q, h'.get? a = some q) (new : ObjOk X.prog X.w (upd H a ob) h' a ob) :
    Inv X pins σ (upd H a ob) { s with heap := h', toks := t' } :=
  I.write (x := a) (e := a) mu (.inl rfl) (fun b q hb z => (hs.2 b hb).trans z) he new
theorem dk_new {P : Program} {w : World} {H' : Hp} {h' : Heap} {kvs : List (Key × V)} {vs : List (Key × Value)} (z : kvs.length ≤ sizeLine) (hd : (a == sysModules) = false) (rel : KV kvs vs) (dd : h'.DictOf (mixKind P w) a vs) :
    ObjOk P w H' h' a (.dK kvs) := ⟨z, hd, vs, rel, dd⟩
theorem d_setItem {H' : Hp} {Q : Unit → Shared → Prop} (hu : A.units + 1 < cLine) (I : Inv X pins σ H s) (g : DPut H a y v H') (ry : RelV y u) (rv : RelV v r) (h : ∀ s', Inv X pins σ H' s' → Q () s') :
    wpAny (model X.prog X.w) A (setItem (.ref a) u r) Q E s := by
  rcases g with ⟨kvs, k, e, ey, l, eH⟩ | ⟨kvs, k, b, e, ey, eb, l, eH⟩
  · subst ey eH
    obtain ⟨z, hd, vs, rel, dd⟩ := dk_of I.hok e
    have hz : vs.length ≤ sizeLine := by rw [← rel.length]; exact z
    have hl : (putK kvs k v).length ≤ sizeLine := by have := length_putK kvs k v; omega
    refine wpAny_setItem_pairs (hsz := hz) (kV_is ry) dd fun h' dd' hs => h _ ?_
    have he : ∃ q, h'.get? a = some q := let ⟨q, _, _, hq, _⟩ := dd'; ⟨q, hq⟩
    exact d_write I (by rw [e]; exact True.intro) hs he (dk_new hl hd (rel.put k rv) dd')
  · subst ey eH
    cases (show u = Value.ref b from ry)
    obtain ⟨z, hd, xs, rel, dd⟩ := dt_of I.hok e
    have hz : xs.length ≤ sizeLine := by rw [← Paired.length rel]; exact z
    have hl : (putK kvs k v).length ≤ sizeLine := by have := length_putK kvs k v; omega
    refine wpAny_setItem_heap (hsz := hz) (tupleKind_room_in1 hu) (key_of I.hok eb) dd fun h' dd' hs => h _ ?_
    obtain ⟨q, es, ep, hq, h2, h3, h4, _, h5⟩ := dd'
    refine d_write I (by rw [e]; exact True.intro) hs ⟨q, hq⟩ ⟨hl, hd, _, (rel.put k eb rv).keeps fun c ys ec => ?_, q, es, ep, hq, h2, h3, h4, h5⟩
    rw [upd_ne (ne_of ec e (fun z => nomatch z))]
    exact ec
end

section
variable {X : Cx} {pins : List (Addr × Obj)} {σ : St} {H : Hp} {s : Shared} {a : Addr} {kvs : List (Key × V)} {k : Key} {u : Value} {A : Around} {E : Value → Shared → Prop}
end


def NoSl (i : Expr) : Prop := ∀ ov iv, subscripted i false ov iv = operate [ov, iv] (getItem ov iv)
theorem subD_of {prog : Program} {w : World} {A : Around} {E : Value → Shared → Prop} {s : Shared} {env : Env} {value slice : Expr} {pos : Pos} {T id : String} {Q : Value → Shared → Prop}
    (hl : typeLookup (.type T) "__getitem__" = pure (some (.builtin id))) (hs : NoSl slice)
    (h : wpAny (model prog w) A (eval value env) (fun o s₁ => wpAny (model prog w) A (eval slice env) (fun i s₂ => s₂.TypeIs o T ∧ wpAny (model prog w) A (getItem o i) Q E s₂) E s₁) E s) :
    wpAny (model prog w) A (eval (.Subscript value slice pos) env) Q E s := by
  refine Subscript_ (wpAny_mono h (fun o s₁ h₁ => wpAny_mono h₁ (fun i s₂ h₂ => ?_) fun _ _ x => x) fun _ _ x => x)
  obtain ⟨hT, h₂⟩ := h₂
  unfold subscriptTail
  refine wpAny_bind ?_
  rw [getitemInPython_of_ne hT.not_modules]
  refine wpAny_bind (wpAny_specialOf hT hl ?_)
  have fin : wpAny (model prog w) A (subscripted slice false o i) (fun r s₃ => wpAny (model prog w) A (letTemporaryGo value o r >>= fun _ => pure r) Q E s₃) E s₂ := by
    rw [hs o i]
    exact wpAny_operating (wpAny_mono h₂ (fun r s₃ h₃ => wpAny_bind (wpAny_letTemporaryGo (wpAny_pure h₃))) fun _ _ x => x)
  first
    | exact wpAny_pure (wpAny_bind fin)
    | exact wpAny_bind (wpAny_pure (wpAny_bind fin))
    | exact wpAny_bind fin

theorem dict_typeIs {X : Cx} {pins : List (Addr × Obj)} {σ : St} {H : Hp} {s : Shared} {a : Addr} {y : V} {o : Option V} (I : Inv X pins σ H s) (g : DGet H a y o) : s.TypeIs (.ref a) "dict" := by
  rcases g with ⟨kvs, k, e, _, _⟩ | ⟨kvs, k, b, e, _, _, _⟩
  · obtain ⟨_, _, vs, _, dd⟩ := dk_rd I.hok e
    exact dd.typeIs
  · obtain ⟨_, _, xs, _, dd⟩ := dt_rd I.hok e
    exact dd.typeIs
def tDGet (td ty : TE) : TE := fun σ H Q => td σ H fun x H1 => ty σ H1 fun y H2 => ∃ a v, x = .ref a ∧ DGet H2 a y (some v) ∧ Q v H2
def tDIn (ty td : TE) : TE := fun σ H Q => ty σ H fun y H1 => td σ H1 fun x H2 => ∃ a o, x = .ref a ∧ DGet H2 a y o ∧ Q (.bl o.isSome) H2
def tDNotIn (ty td : TE) : TE := fun σ H Q => ty σ H fun y H1 => td σ H1 fun x H2 => ∃ a o, x = .ref a ∧ DGet H2 a y o ∧ Q (.bl (!o.isSome)) H2
def sDPut (td ty tv : TE) : TS := fun D σ H => tv σ H fun v H1 => td σ H1 fun x H2 => ty σ H2 fun y H3 => ∃ a H4, x = .ref a ∧ DPut H3 a y v H4 ∧ D.nx σ H4
def sDAug (td ty tv : TE) (rd : V → V → Hp → VK → Prop) : TS := fun D σ H => td σ H fun x H1 => ty σ H1 fun y H2 => ∃ a v, x = .ref a ∧ DGet H2 a y (some v) ∧
  tv σ H2 fun y2 H3 => rd v y2 H3 fun z H4 => ∃ H5, DPut H4 a y z H5 ∧ D.nx σ H5
def sDDel (td ty : TE) : TS := fun D σ H => td σ H fun x H1 => ty σ H1 fun y H2 => ∃ a kvs k, x = .ref a ∧ H2 a = some (.dK kvs) ∧ y = kV k ∧ (valV kvs k).isSome = true ∧ D.nx σ (upd H2 a (.dK (dropK kvs k)))

section
variable {X : Cx} {o i e value : Expr} {pos pos' tpos : Pos} {td ty tv : TE}
theorem pe_dget (hu : X.A.units + 1 < cLine) (ho : PE X o td) (hi : PE X i ty) (hs : NoSl i) : PE X (.Subscript o i pos) (tDGet td ty) := by
  intro pins s σ H Q I h
  refine subD_of PySem.F.slot_dict_getitem.lookup hs (thn (ho pins s σ H _ I h) fun u s1 ⟨x, H1, I1, rx, q1⟩ => thn (hi pins s1 σ H1 _ I1 q1) fun iv s2 ⟨y, H2, I2, ry, a, v, ex, g, q2⟩ => ?_)
  subst ex
  obtain rfl : u = Value.ref a := rx
  exact ⟨dict_typeIs I2 g, d_getItem hu I2 g ry fun w' s3 I3 rw' => ⟨v, H2, I3, rw', q2⟩⟩
theorem pc_din (hu : X.A.units + 1 < cLine) (hi : PE X i ty) (ho : PE X o td) : PC X .In i o (tDIn ty td) := by
  intro pins s σ H Q I h
  refine thn (hi pins s σ H _ I h) fun iv s1 ⟨y, H1, I1, ry, q1⟩ => thn (ho pins s1 σ H1 _ I1 q1) fun u s2 ⟨x, H2, I2, rx, a, ov, ex, g, q2⟩ => ?_
  subst ex
  obtain rfl : u = Value.ref a := rx
  exact d_in hu I2 g ry fun s3 I3 => ⟨.bl ov.isSome, H2, I3, rfl, q2⟩
theorem pc_dnotin (hu : X.A.units + 1 < cLine) (hi : PE X i ty) (ho : PE X o td) : PC X .NotIn i o (tDNotIn ty td) := by
  intro pins s σ H Q I h
  refine thn (hi pins s σ H _ I h) fun iv s1 ⟨y, H1, I1, ry, q1⟩ => thn (ho pins s1 σ H1 _ I1 q1) fun u s2 ⟨x, H2, I2, rx, a, ov, ex, g, q2⟩ => ?_
  subst ex
  obtain rfl : u = Value.ref a := rx
  exact d_notIn hu I2 g ry fun s3 I3 => ⟨.bl (!ov.isSome), H2, I3, rfl, q2⟩
theorem ps_dput (hu : X.A.units + 1 < cLine) (ho : PE X o td) (hi : PE X i ty) (hv : PE X value tv) (hs : swapsWith value (some (.Subscript o i pos')) pos.line X.env = pure false) :
    PS X (.Assign [.Subscript o i pos'] value pos) (sDPut td ty tv) := by
  intro pins s σ H D I h
  refine wpAny_Assign_Subscript (thn (hv pins s σ H _ I h) fun r s1 ⟨v, H1, I1, rv, q1⟩ => thn (ho pins s1 σ H1 _ I1 q1) fun u s2 ⟨x, H2, I2, rx, q2⟩ => thn (hi pins s2 σ H2 _ I2 q2) fun iv s3 ⟨y, H3, I3, ry, a, H4, ex, g, q3⟩ => ?_) hs
  subst ex
  obtain rfl : u = Value.ref a := rx
  exact d_setItem hu I3 g ry rv fun s4 I4 => ⟨σ, H4, I4, q3⟩
end


theorem dk_empty {P : Program} {w : World} {H : Hp} (h : Heap) (hb : sysModules < h.objs.size) : ObjOk P w H (h.push { cls := .type "dict", data := .dict #[] }) h.objs.size (.dK []) :=
  ⟨Nat.zero_le _, beq_eq_false_iff_ne.mpr (Ne.symm (Nat.ne_of_lt hb)), [], .nil, Heap.DictOf.new h⟩
theorem dt_empty {P : Program} {w : World} {H : Hp} (h : Heap) (hb : sysModules < h.objs.size) : ObjOk P w H (h.push { cls := .type "dict", data := .dict #[] }) h.objs.size (.dT []) :=
  ⟨Nat.zero_le _, beq_eq_false_iff_ne.mpr (Ne.symm (Nat.ne_of_lt hb)), [], .nil, _, #[], 0, Heap.get?_push_size _ rfl, ⟨rfl, rfl, rfl⟩, rfl, rfl, List.nodup_nil⟩
def tDNewK : TE := fun _ H Q => ∀ p, H p = none → Q (.ref p) (upd H p (.dK []))
def tDNewT : TE := fun _ H Q => ∀ p, H p = none → Q (.ref p) (upd H p (.dT []))
section
variable {X : Cx} {pos : Pos}
theorem pe_dnewK : PE X (.Dict [] [] pos) tDNewK := fun pins s σ H Q I h =>
  wpAny_Dict_empty ⟨.ref s.heap.objs.size, _, I.laid (a := s.heap.objs.size) (o := .dK []) (t' := s.toks) (fun _ _ q => Heap.get?_push_of_some _ q) (Nat.le_refl _) (dk_empty s.heap I.big), rfl, h _ (I.hok.fresh (Nat.le_refl _))⟩
theorem pe_dnewT : PE X (.Dict [] [] pos) tDNewT := fun pins s σ H Q I h =>
  wpAny_Dict_empty ⟨.ref s.heap.objs.size, _, I.laid (a := s.heap.objs.size) (o := .dT []) (t' := s.toks) (fun _ _ q => Heap.get?_push_of_some _ q) (Nat.le_refl _) (dt_empty s.heap I.big), rfl, h _ (I.hok.fresh (Nat.le_refl _))⟩
end

def tPairs : List (TE × TE) → St → Hp → (List (V × V) → Hp → Prop) → Prop
  | [], _, H, Q => Q [] H
  | (tk, tv) :: r, σ, H, Q => tk σ H fun x H1 => tv σ H1 fun y H2 => tPairs r σ H2 fun ps H3 => Q ((x, y) :: ps) H3
abbrev VV : List (V × V) → List (Value × Value) → Prop := Paired fun p q => RelV p.1 q.1 ∧ RelV p.2 q.2
def PPs (X : Cx) (pos : Pos) (keys : List (Option Expr)) (values : List Expr) (trs : List (TE × TE)) : Prop :=
  ∀ (pins : List (Addr × Obj)) (s : Shared) (σ : St) (H : Hp) (Q : List (V × V) → Hp → Prop), Inv X pins σ H s → tPairs trs σ H Q →
    wpAny (model X.prog X.w) X.A (evalPairs (pairTrees keys values X.env pos)) (fun vs s' => ∃ ps H', Inv X pins σ H' s' ∧ VV ps vs ∧ Q ps H') X.xe s
def mergeK (kvs more : List (Key × V)) : List (Key × V) := more.foldl (fun acc kv => putK acc kv.1 kv.2) kvs
def tDisp (trs : List (TE × TE)) : TE := fun σ H Q => ∀ p, H p = none → tPairs trs σ (upd H p (.dK [])) fun ps H2 => H2 p = some (.dK []) ∧ ∃ kvs : List (Key × V), ps = kvs.map (fun kv => (kV kv.1, kv.2)) ∧ kvs.length ≤ 15 ∧ Q (.ref p) (upd H2 p (.dK (mergeK [] kvs)))
structure M1 (X : Cx) (o : Expr) (m : Str) (apos : Pos) (e : Expr) (cpos : Pos) : Prop where
  base : attributeBase o m X.env (eval o X.env) = eval o X.env
  few : ((backTo cpos (starEach [e] X.env)).all (fun x => !x.1) && (backToKw cpos (keywordEach [] X.env)).all (fun x => x.1.isSome)
    && decide (([e] : List Expr).length + ([] : List Keyword).length + (if ([] : List Keyword).isEmpty then 0 else 1) < 30)) = true
  line : (apos.endLine == cpos.line) = true
  trees : backTo cpos (starEach [e] X.env) = [(false, eval e X.env)]
structure M2 (X : Cx) (o : Expr) (m : Str) (apos : Pos) (e f : Expr) (cpos : Pos) : Prop where
  base : attributeBase o m X.env (eval o X.env) = eval o X.env
  few : ((backTo cpos (starEach [e, f] X.env)).all (fun x => !x.1) && (backToKw cpos (keywordEach [] X.env)).all (fun x => x.1.isSome)
    && decide (([e, f] : List Expr).length + ([] : List Keyword).length + (if ([] : List Keyword).isEmpty then 0 else 1) < 30)) = true
  line : (apos.endLine == cpos.line) = true
  trees : backTo cpos (starEach [e, f] X.env) = [(false, eval e X.env), (false, eval f X.env)]

def IsD (H : Hp) (a : Addr) : Prop := (∃ kvs, Rd H a (.dK kvs)) ∨ ∃ kvs, Rd H a (.dT kvs)
section
variable {X : Cx} {pins : List (Addr × Obj)} {σ : St} {H : Hp} {s : Shared} {a : Addr} {y d : V} {u r : Value} {o : Option V} {A : Around} {E : Value → Shared → Prop}
end

def tDGet1 (td ty : TE) : TE := fun σ H Q => td σ H fun x H1 => ∃ a, x = .ref a ∧ IsD H1 a ∧ ty σ H1 fun y H2 => ∃ o, DGet H2 a y o ∧ Q (o.getD .non) H2
def tDGet2 (td ty tx : TE) : TE := fun σ H Q => td σ H fun x H1 => ∃ a, x = .ref a ∧ IsD H1 a ∧ ty σ H1 fun y H2 => tx σ H2 fun z H3 => ∃ o, DGet H3 a y o ∧ Q (o.getD z) H3
def tDPop1 (td ty : TE) : TE := fun σ H Q => td σ H fun x H1 => ∃ a, x = .ref a ∧ IsD H1 a ∧ ty σ H1 fun y H2 => ∃ kvs k v, H2 a = some (.dK kvs) ∧ y = kV k ∧ valV kvs k = some v ∧ Q v (upd H2 a (.dK (dropK kvs k)))
def tDPop2 (td ty tx : TE) : TE := fun σ H Q => td σ H fun x H1 => ∃ a, x = .ref a ∧ IsD H1 a ∧ ty σ H1 fun y H2 => tx σ H2 fun z H3 => ∃ kvs k, H3 a = some (.dK kvs) ∧ y = kV k ∧
  (∀ v, valV kvs k = some v → Q v (upd H3 a (.dK (dropK kvs k)))) ∧ (valV kvs k = none → Q z H3)
section
variable {X : Cx} {o e f : Expr} {apos cpos : Pos} {td ty tx : TE}
end

section
variable {X : Cx} {pins : List (Addr × Obj)} {σ : St} {H : Hp} {s : Shared} {a : Addr} {kvs : List (Key × V)} {A : Around} {E : Value → Shared → Prop}
end


section
variable {X : Cx} {pins : List (Addr × Obj)} {σ : St} {H : Hp} {s : Shared} {a : Addr} {y : V} {u : Value} {A : Around} {E : Value → Shared → Prop}
end
end L2
namespace L2
open PySem PySem.Spec PyProof.Rows
section
variable {X : Cx}
end
section
variable {κ : Type} [DecidableEq κ]
end
end L2
namespace L2
open PySem PySem.Spec PyProof.Rows PySem.SeqAt
mutual
inductive RdD (K : PySem.W.Frag) (H : Hp) : V → PyData → Prop
  | non : RdD K H .non .none
  | bl (b : Bool) : RdD K H (.bl b) (.bool b)
  | int (i : Int) : RdD K H (.int i) (.int i)
  | str (x : Str) : RdD K H (.str x) (.str x)
  | lst {a : Addr} {xs : List V} {ds : List PyData} : SqL K H a xs → RdDs K H xs ds → RdD K H (.ref a) (.list ds)
  | tup {a : Addr} {xs : List V} {ds : List PyData} : SqT K H a xs → RdDs K H xs ds → RdD K H (.ref a) (.tuple ds)
inductive RdDs (K : PySem.W.Frag) (H : Hp) : List V → List PyData → Prop
  | nil : RdDs K H [] []
  | cons {x : V} {d : PyData} {xs : List V} {ds : List PyData} : RdD K H x d → RdDs K H xs ds → RdDs K H (x :: xs) (d :: ds)
end
section
variable {X : Cx} {pins : List (Addr × Obj)} {σ : St} {H : Hp} {s : Shared}
mutual
theorem RdD.reads (I : Inv X pins σ H s) : ∀ {x : V} {d : PyData} {u : Value}, RdD X.K H x d → RelV x u → ∃ as, Reads s.heap u d as
  | _, _, _, .non, r => by cases r; exact ⟨_, .none⟩
  | _, _, _, .bl b, r => by cases r; exact ⟨_, .bool b⟩
  | _, _, _, .int i, r => by obtain ⟨t, rfl⟩ := r; exact ⟨_, .int i t⟩
  | _, _, _, .str x, r => by obtain ⟨t, rfl⟩ := r; exact ⟨_, .str x t⟩
  | _, _, _, .lst hq hs, r => by
    cases r
    obtain ⟨its, rv, pl, hz⟩ := I.list hq
    obtain ⟨as, ra⟩ := RdDs.reads I hs rv
    obtain ⟨o, n, e, hc, hd, dd⟩ := pl
    exact ⟨_, .list e hc dd (by simpa using ra)⟩
  | _, _, _, .tup hq hs, r => by
    cases r
    obtain ⟨its, rv, pl, hz⟩ := I.tuple hq
    obtain ⟨as, ra⟩ := RdDs.reads I hs rv
    obtain ⟨o, e, hc, n, dd⟩ := pl
    exact ⟨_, .tuple e hc dd (by simpa using ra)⟩
theorem RdDs.reads (I : Inv X pins σ H s) : ∀ {xs : List V} {ds : List PyData} {us : List Value}, RdDs X.K H xs ds → Vals xs us → ∃ as, ReadsAll s.heap us ds as
  | _, _, _, .nil, .nil => ⟨_, .nil⟩
  | _, _, _, .cons h hs, .cons r rs => by
    obtain ⟨as, ra⟩ := RdD.reads I h r
    obtain ⟨bs, rb⟩ := RdDs.reads I hs rs
    exact ⟨_, .cons ra rb⟩
end
end
section
variable {X : Cx}
def rEqD (K : PySem.W.Frag) (neg : Bool) : R2 := fun x y H Q => ∃ dx dy, RdD K H x dx ∧ RdD K H y dy ∧ shaped dx = true ∧ shaped dy = true ∧ Q (.bl (if neg then !PyData.eqv dx dy else PyData.eqv dx dy)) H
theorem op_neD (hu : X.A.units + 64 < cLine) : OpR X (compareOp .NotEq) (rEqD X.K true) := by
  intro pins s σ H x y v u Q I rx ry h
  obtain ⟨dx, dy, hx, hy, sx, sy, q⟩ := h
  obtain ⟨as, ra⟩ := hx.reads I rx
  obtain ⟨bs, rb⟩ := hy.reads I ry
  exact ne_dataH ra rb sx sy hu (fin_bl I q rfl)
end
section
variable {X : Cx}
end
end L2
namespace L2
open PySem PySem.Spec PyProof.Rows
structure FnAt (P : Program) (w : World) (K : PySem.W.Frag) (mg : Str → Option Value) (base : Heap) (x : Str) (k : Nat) (ps : List Str) (sp : Sp) : Prop where
  ex : ∃ (f : Addr) (fd : FuncData), FnOk P w K mg base CX0 k f fd ps sp ∧ mg x = some (.ref f) ∧ PySem.W.keepIn K (.ref f) = true ∧ Binds K fd ps []
theorem pe_fn {X : Cx} {x : Str} {ps : List Str} {sp : Sp} {k j : Nat} {p pos : Pos} {e : Expr} {es : List Expr} {t : TA} (F : FnAt X.prog X.w X.K X.mg X.base x k ps sp) (hr : Room j X.A) (hj : k ≤ j) (hg : Gl X x) (ha : PA X (e :: es) t)
    (hdb : (x == ("__debug__" : Str)) = false := by decide) (he : starEach (e :: es) X.env = (false, eval e X.env) :: starEach es X.env := by rfl) (hpl : (backTo pos (starEach es X.env)).any (·.1) = false := by rfl) :
    PE X (.Call (.Name x p) (e :: es) [] pos) (tCall sp [] E0 t) := by
  obtain ⟨f, fd, G, hm, hk, hb⟩ := F.ex
  exact pe_call G (hr.mono hj) hg hm hk hb .nil pass0 ha hdb he hpl
structure TopFn (K : PySem.W.Frag) (mg : Str → Option Value) (x : Str) (st : Stmt) (ps : List Str) : Prop where
  ex : ∃ (f : Addr) (fd : FuncData), Fun K x x st f fd ∧ mg x = some (.ref f) ∧ ∀ us : List Value, us.length = ps.length → bindArgs fd ⟨us, []⟩ = pure (ps.zip us)
theorem topFn_mk {K : PySem.W.Frag} {mg : Str → Option Value} {h : Heap} {x : Str} {st : Stmt} {ps : List Str} {f : Addr} {oc : Value} {od an : Option Addr} {osl : Array (Option Value)} {kV doc pm cdv ct : Value} (X : K.In h) (G : h.Ns mainGlobals mg)
    (hb : ∀ (kV doc pm : Value) (an : Option Addr) (cdv ct : Value) (us : List Value), us.length = ps.length → bindArgs (PySem.W.fnOf x x (defArgs st) (defBody st) (defScope st) .none kV doc pm an cdv ct) ⟨us, []⟩ = pure (ps.zip us))
    (a : PySem.W.nsIn K mainGlobals x = some (some (.ref f))) (l : K.lookup f = some ⟨oc, od, .func (PySem.W.fnOf x x (defArgs st) (defBody st) (defScope st) .none kV doc pm an cdv ct), osl⟩)
    (c : PySem.W.codeIn K cdv x = true) (k : PySem.W.keepIn K (.ref f) = true) : TopFn K mg x st ps :=
  ⟨f, _, fun_mk l c k, PySem.W.mg_of X G a, fun us => hb kV doc pm an cdv ct us⟩
theorem topFn_of {K : PySem.W.Frag} {mg : Str → Option Value} {h : Heap} {x : Str} {st : Stmt} {ps : List Str} {f : Addr} {oc : Value} {od an : Option Addr} {osl : Array (Option Value)} {kV doc pm cdv ct : Value} (X : K.In h) (G : h.Ns mainGlobals mg)
    (hb : ∀ (kV doc pm : Value) (an : Option Addr) (cdv ct : Value) (us : List Value), us.length = ps.length → bindArgs (PySem.W.fnOf x x (defArgs st) (defBody st) (defScope st) .none kV doc pm an cdv ct) ⟨us, []⟩ = pure (ps.zip us))
    (a : PySem.W.nsIn K mainGlobals x = some (some (.ref f))) (l : K.lookup f = some ⟨oc, od, .func (PySem.W.fnOf x x (defArgs st) (defBody st) (defScope st) .none kV doc pm an cdv ct), osl⟩)
    (c : PySem.W.codeIn K cdv x = true) (k : PySem.W.keepIn K (.ref f) = true) : TopFn (KOf X) mg x st ps := topFn_mk X G hb a l c k
section
variable {P : Program} {w : World} {K : PySem.W.Frag} {mg : Str → Option Value} {base : Heap}
theorem TopFn.at {x : Str} {st : Stmt} {N ps : List Str} {k : Nat} {sp : Sp} (T : TopFn K mg x st ps) (S : FnScope N ps (defScope st)) (len : ∀ vs H Q E, sp vs H Q E → vs.length = ps.length)
    (hbody : ∀ (f : Addr) (cdv : Value) (A : Around) (outer : List Env) (s : Shared) (H : Hp) (vs : List V) (Q : VK) (E : XK), Room k (A.deeper (envOfC x (defScope st) s.heap.objs.size f cdv)) → sp vs H Q E →
      ∃ t, PSs (cxOf CX0 P w K mg base N x (defScope st) f cdv A outer s H E).nox (defBody st) t ∧ t { nx := fun _ H' => Q .non H', rt := Q } (start N vs) H) : FnAt P w K mg base x (k + 1) ps sp := by
  obtain ⟨f, fd, F, hm, hb⟩ := T.ex
  exact ⟨f, fd, F.ok S len fun cdv A outer s H vs Q E hr h => hbody f cdv A outer s H vs Q E hr h, hm, F.kp, .all hb⟩
end
def Box (H : Hp) (b : Addr) : Prop := ∃ x y z : Int, H b = some (.lst [.int x, .int y, .int z])
structure Oth (b : Addr) (H H' : Hp) : Prop where
  box : Box H' b
  oth : ∀ c o, H c = some o → c ≠ b → H' c = some o
theorem Oth.refl {b : Addr} {H : Hp} (h : Box H b) : Oth b H H := ⟨h, fun _ _ h _ => h⟩
theorem Oth.trans {b : Addr} {H H1 H2 : Hp} (a : Oth b H H1) (c : Oth b H1 H2) : Oth b H H2 := ⟨c.box, fun d o h n => c.oth d o (a.oth d o h n) n⟩
theorem Oth.free {b c : Addr} {H H' : Hp} (a : Oth b H H') (h : H' c = none) : H c = none := by
  cases e : H c with
  | none => rfl
  | some o =>
    by_cases hb : c = b
    · subst hb
      obtain ⟨x, y, z, q⟩ := a.box
      rw [q] at h; cases h
    · rw [a.oth c o e hb] at h; cases h
theorem Box.ne {H : Hp} {b c : Addr} (h : Box H b) (n : H c = none) : c ≠ b := fun e => by
  subst e
  obtain ⟨x, y, z, q⟩ := h
  rw [q] at n; cases n
theorem Oth.new {b p : Addr} {H H1 : Hp} {o : HO} (a : Oth b H H1) (h : H1 p = none) : Oth b H (upd H1 p o) := by
  have hb := a.box.ne h
  refine ⟨?_, fun c u e n => ?_⟩
  · obtain ⟨x, y, z, q⟩ := a.box
    exact ⟨x, y, z, by rw [upd_ne (Ne.symm hb)]; exact q⟩
  · rw [upd_ne (ne_of_none (a.oth c u e n) h)]
    exact a.oth c u e n
theorem Oth.same {b : Addr} {H H1 H2 : Hp} (a : Oth b H H1) (s : Same H1 H2) : Oth b H H2 := by
  refine ⟨?_, fun c o e n => s c o (a.oth c o e n)⟩
  obtain ⟨x, y, z, q⟩ := a.box
  exact ⟨x, y, z, s _ _ q⟩
theorem Same.new {H : Hp} {p : Addr} {o : HO} (h : H p = none) : Same H (upd H p o) := fun b u e => by
  rw [upd_ne (ne_of_none e h)]
  exact e
def bigLine : Int := 10000000000000000000000000000000000000000
def spCell (K : PySem.W.Frag) : Sp := fun vs H Q _ => ∃ (a : Addr) (ns : List Int) (k : Nat), vs = [.ref a, .int k] ∧ SqL K H a (ns.map V.int) ∧ ∀ c : Int, Q (.int c) H
def spMixed : Sp := fun vs H Q _ => ∃ a k : Int, vs = [.int a, .int k] ∧ ∀ r : Int, Q (.int r) H
def spBox : Sp := fun vs H Q _ => ∃ c : Int, vs = [.int c] ∧ ∀ (b : Addr) (x y z : Int), H b = none → Q (.ref b) (upd H b (.lst [.int x, .int y, .int z]))
def spTake : Sp := fun vs H Q _ => ∃ (b : Addr) (n : Int), vs = [.ref b, .int n] ∧ Box H b ∧ 0 < n ∧ n < bigLine ∧ ∀ (r : Int) (H' : Hp), 0 ≤ r → r < n → Oth b H H' → Q (.int r) H'
section
variable {X : Cx} {x : Str} {pos : Pos}
theorem pe_globS {z : Str} (hg : Gl X x) (h : ∃ t, X.mg x = some (.str z t)) (hd : (x == ("__debug__" : Str)) = false := by decide) : PE X (.Name x pos) (tC (.str z)) := by
  obtain ⟨t, e⟩ := h
  exact pe_glob hg e ⟨t, rfl⟩ hd
theorem pe_globI {i : Int} (hg : Gl X x) (h : ∃ t, X.mg x = some (.int i t)) (hd : (x == ("__debug__" : Str)) = false := by decide) : PE X (.Name x pos) (tC (.int i)) := by
  obtain ⟨t, e⟩ := h
  exact pe_glob hg e ⟨t, rfl⟩ hd
end
def spLaw (K : PySem.W.Frag) : Sp := fun vs H Q _ => ∃ (a : Addr) (ns : List Int), vs = [.ref a] ∧ SqL K H a (ns.map V.int) ∧ ns.length ≤ 63 ∧ ∀ H', Q (.bl true) H'
theorem law_len {K : PySem.W.Frag} {x : Str} : ∀ vs H Q E, spLaw K vs H Q E → vs.length = [x].length := fun vs H Q E h => by
  obtain ⟨a, ns, rfl, _⟩ := h
  rfl
theorem law_mk {P : Program} {w : World} {K : PySem.W.Frag} {mg : Str → Option Value} {fa : Addr} {st : Stmt} {x : Str} {N : List Str} {k : Nat} (T : TopFn K mg "law" st [x]) (hfa : mg "law" = some (.ref fa)) (S : FnScope N [x] (defScope st))
    (body : ∀ (base : Heap), K.In base → base.Ns mainGlobals mg → ∀ (f : Addr) (cdv : Value) (A : Around) (outer : List Env) (s : Shared) (H : Hp) (vs : List V) (Q : VK) (E : XK), Room k (A.deeper (envOfC "law" (defScope st) s.heap.objs.size f cdv)) → spLaw K vs H Q E →
      ∃ t, PSs (cxOf CX0 P w K mg base N "law" (defScope st) f cdv A outer s H E).nox (defBody st) t ∧ t { nx := fun _ H' => Q .non H', rt := Q } (start N vs) H) :
    ∃ fd : FuncData, (∀ (s : Shared) (v : Value), BindsTo s fd ⟨[v], []⟩ [(x, v)]) ∧ ∀ base : Heap, K.In base → base.Ns mainGlobals mg → FnOk P w K mg base CX0 (k + 1) fa fd [x] (spLaw K) := by
  obtain ⟨f, fd, F, hm, hb⟩ := T.ex
  rw [hfa] at hm
  cases hm
  exact ⟨fd, fun s v => .of_eq (hb [v] rfl), fun base h1 h2 => F.ok S law_len fun cdv A outer s H vs Q E hr h => body base h1 h2 fa cdv A outer s H vs Q E hr h⟩
theorem law_walk {l : PySem.W.OpenLaw} {q : Program} {loose : List Str} {XP : (Str → Option Value) → Heap → Prop} {YP : World → Heap → Prop} {d : DefRec} {K : Params → PySem.W.Frag} {x : Str} {k : Nat} (hn : l.most = some 63) (hdf : d.params.defaults = []) (hk : Room k callerA)
    (hY : ∀ (w : World) (h : Heap), YP w h → (K w.params).In h)
    (F : ∀ (w : World) (mg : Str → Option Value) (fa : Addr) (h : Heap), (K w.params).In h → h.Ns mainGlobals mg → mg d.name = some (.ref fa) →
      ∃ fd : FuncData, (∀ (s : Shared) (u : Value), BindsTo s fd ⟨[u], []⟩ [(x, u)]) ∧ ∀ base : Heap, (K w.params).In base → base.Ns mainGlobals mg → FnOk l.prog w (K w.params) mg base CX0 k fa fd [x] (spLaw (K w.params))) :
    PySem.W.WalkO q loose XP YP l.row.toRowW d [] (fun f vs => PySem.call f vs) :=
  L2.walk_of (n := 63) (k := k) (x := x) (CX := fun _ => CX0) (sp := fun w => spLaw (K w.params)) hn (by decide) hdf hk hY F (fun _ _ a ns hl _ hS => ⟨a, ns, rfl, hS, hl, fun _ => rfl⟩) fun _ _ _ _ _ z => z
theorem glob_I {K : PySem.W.Frag} {h : Heap} {mg : Str → Option Value} {n : Str} {v : Value} {i : Int} (X : K.In h) (G : h.Ns mainGlobals mg) (e : PySem.W.nsIn K mainGlobals n = some (some v)) (hv : ∃ t, v = .int i t) : ∃ t, mg n = some (.int i t) := by
  obtain ⟨t, rfl⟩ := hv
  exact ⟨t, PySem.W.mg_of X G e⟩
theorem glob_S {K : PySem.W.Frag} {h : Heap} {mg : Str → Option Value} {n : Str} {x z : Str} {t : Tok} (X : K.In h) (G : h.Ns mainGlobals mg) (e : PySem.W.nsIn K mainGlobals n = some (some (.str x t))) (hv : x = z) : ∃ t, mg n = some (.str z t) := by
  subst hv
  exact ⟨t, PySem.W.mg_of X G e⟩
end L2
namespace L2
open PySem PySem.Spec PyProof.Rows
theorem atI_ex {α : Type} {xs : List α} {r : Int} (h0 : 0 ≤ r) (h1 : r < xs.length) : ∃ v, atI xs r = some v ∧ v ∈ xs := by
  obtain ⟨k, rfl⟩ : ∃ k : Nat, r = (k : Int) := ⟨r.toNat, by omega⟩
  have hk : k < xs.length := by omega
  exact ⟨xs[k], atI_nat (List.getElem?_eq_getElem hk), List.getElem_mem hk⟩
def isLow (c : Nat) : Bool := decide (97 ≤ c ∧ c ≤ 122)
theorem low_in (c : Nat) : (!(Builtin.Str.occurrences (Str.ofString "abcdefghijklmnopqrstuvwxyz") ⟨#[c]⟩ 0 (Str.ofString "abcdefghijklmnopqrstuvwxyz").length 1).isEmpty) = isLow c := by
  rw [PySem.StrLaws.found_one]
  have e : (Str.ofString "abcdefghijklmnopqrstuvwxyz").cps.toList = [97, 98, 99, 100, 101, 102, 103, 104, 105, 106, 107, 108, 109, 110, 111, 112, 113, 114, 115, 116, 117, 118, 119, 120, 121, 122] := by decide +kernel
  rw [e, Bool.eq_iff_iff]
  unfold isLow
  simp only [decide_eq_true_eq, List.mem_cons, List.not_mem_nil, or_false]
  omega
def isWordZ (z : Str) : Bool := decide (1 ≤ z.length ∧ z.length ≤ 8) && z.cps.toList.all isLow
def wholeV : V → Bool
  | .int _ => true
  | _ => false
def wordV : V → Bool
  | .str z => isWordZ z
  | _ => false
def dayV : V → Bool
  | .int i => decide (0 ≤ i ∧ i ≤ 9999)
  | _ => false
def maskV (m : Nat) : V → Bool
  | .int i => decide (0 ≤ i ∧ i < 2 ^ m)
  | _ => false
def numV : V → Bool
  | .int i => decide (0 ≤ i ∧ i ≤ 99)
  | _ => false
def keyV (H : Hp) : V → Bool
  | .ref a => match H a with
    | some (.tup [x, y]) => wordV x && numV y
    | _ => false
  | _ => false
theorem bits_le {i : Int} {m : Nat} (h : 0 ≤ i) : decide (((Builtin.Int.intBits i : Nat) : Int) ≤ (m : Int)) = decide (i < 2 ^ m) := by
  rw [Bool.eq_iff_iff]
  simp only [decide_eq_true_eq]
  obtain ⟨n, rfl⟩ : ∃ n : Nat, i = (n : Int) := ⟨i.toNat, by omega⟩
  have e : ((2 : Int) ^ m) = ((2 ^ m : Nat) : Int) := by simp
  rw [e]
  unfold Builtin.Int.intBits
  by_cases h0 : n = 0
  · subst h0
    have hp : 0 < 2 ^ m := Nat.pow_pos (by decide)
    have hq : ((0 : Nat) : Int) < ((2 ^ m : Nat) : Int) := Int.ofNat_lt.mpr hp
    constructor
    · intro _; exact hq
    · intro _; simp
  · have hb : (((n : Nat) : Int) == 0) = false := by simpa using h0
    rw [hb]
    simp only [Bool.false_eq_true, if_false, Int.natAbs_natCast]
    have hl := Nat.log2_lt (k := m) h0
    constructor
    · intro hx
      have : n < 2 ^ m := hl.mp (by omega)
      exact Int.ofNat_lt.mpr this
    · intro hx
      have : n.log2 < m := hl.mpr (Int.ofNat_lt.mp hx)
      omega
end L2
namespace L2
open PySem PySem.Spec PyProof.Rows PySem.W
open Builtin Builtin.ObjectAttr

abbrev bmVE : List Value := [.type "ValueError", .type "Exception", .type "BaseException", .type "object"]
def excMk (K : Frag) (C : Addr) : Bool := match K.lookup C with
  | some ⟨.type "type", _, .cls cd, sl⟩ => (match cd.mro, sl.toList with
    | .ref C' :: bm, [_, _, _, _, some (.builtin n), _] => C' == C && n == "ValueError.__new__" && !cd.hasDel && cd.hasDict && tailIn K bmVE bm
    | _, _ => false) && specialIn K (.ref C) "__call__" == some (some (.builtin "type.__call__")) && instIn K (.ref C) (.type "type") == some true
  | _ => false
structure ExcCls (h : Heap) (C : Addr) (bm : List Value) : Prop where
  at_ : ∃ (N : Addr) (nm qn : Str) (bs : List Value) (sn : List Str) (sub : List Value) (ab : Bool) (col : Option Bool) (dd : Option Addr) (k0 k1 k2 k3 k5 : Option Value),
    h.get? C = some (excClassObj nm qn C N bs bm true sn sub ab col dd k0 k1 k2 k3 k5 "ValueError.__new__")
  tl : OwnTail h bmVE bm
theorem excMk_of {K : Frag} {h : Heap} {C : Addr} (X : K.In h) (q : excMk K C = true) :
    ∃ bm, ExcCls h C bm ∧ specialIn K (.ref C) "__call__" = some (some (.builtin "type.__call__")) ∧ instIn K (.ref C) (.type "type") = some true := by
  unfold excMk at q
  split at q
  · rename_i dd cd sl ho
    simp only [Bool.and_eq_true, beq_iff_eq] at q
    obtain ⟨⟨q, hcall⟩, hinst⟩ := q
    split at q
    · rename_i C' bm k0 k1 k2 k3 n k5 hm hs
      simp only [Bool.and_eq_true, beq_iff_eq, Bool.not_eq_true'] at q
      obtain ⟨⟨⟨⟨rfl, rfl⟩, hdel⟩, hhd⟩, ht⟩ := q
      obtain ⟨nm, bs, mro, ns, qn, hd, sn, sub, ab, col, del⟩ := cd
      dsimp only at hm hdel hhd
      subst hm hdel hhd
      have hsl : sl = #[k0, k1, k2, k3, some (.builtin "ValueError.__new__"), k5] := by
        obtain ⟨l⟩ := sl
        simp only at hs
        rw [hs]
      subst hsl
      exact ⟨bm, ⟨⟨ns, nm, qn, bs, sn, sub, ab, col, dd, k0, k1, k2, k3, k5, X _ _ ho⟩, tail_of_in X ht⟩, hcall, hinst⟩
    · cases q
  · cases q
abbrev excObj (C t : Addr) : Obj := { cls := .ref C, data := .fields #[.ref t, .none, .none, .none, .bool false, .none] }
abbrev argsObj (vs : List Value) : Obj := { cls := .type "tuple", data := .seq vs.toArray }
section
variable {prog : Program} {w : World} {A : Around} {E : Value → Shared → Prop} {K : Frag} {C f : Addr} {R : Result → Shared → Prop} {h : Heap} {g : Array GenState} {d : Drawn} {t : Nat} {os : OsState}
theorem exc_make {vs : List Value} (X : K.In h) (hm : excMk K C = true) (hi : findIn K (.ref C) "__init__" = some (some (.ref f))) (hf : typeIn K (.ref f) = some (.type "function")) (hl : vs.length ≤ sizeLine)
    (hq : codeAny (model prog w) (A.under (.builtin "type.__call__" ⟨.ref C :: vs, []⟩)) (.call (.ref f) ⟨.ref (h.objs.size + 1) :: vs, []⟩) (InitBack (h.objs.size + 1) R)
      ⟨(h.push (argsObj vs)).push (excObj C h.objs.size), g, d, t, os⟩) :
    codeAny (model prog w) A (.call (.ref C) ⟨vs, []⟩) R ⟨h, g, d, t, os⟩ := by
  have F := PySem.F.excBase_ValueError
  obtain ⟨bm, ⟨⟨N, nm, qn, bs, sn, sub, ab, col, dd, k0, k1, k2, k3, k5, hC⟩, T⟩, hcall, hinst⟩ := excMk_of X hm
  have call := looks_specialIn (M := model prog w) X hcall
  have typ := looks_instIn (M := model prog w) X hinst
  refine codeAny_of_tree ?_
  show wpAny _ _ (callAny (.ref C) _) _ _ _
  refine nd_load hC ?_
  show wpAny _ _ (callAny.viaDunder (.ref C) _) _ _ _
  unfold callAny.viaDunder
  refine wpAny_bind (call.at ?_)
  dsimp only
  rw [tc_bind]
  refine wpAny_bind (wpAny_pure (wpAny_bind (wpAny_pure ?_)))
  refine wpAny_pure (a := Fin.again (.call (.builtin "type.__call__") ⟨.ref C :: vs, []⟩)) (And.intro rfl ?_)
  refine codeAny_call_builtin_at (Code.quiet_builtin _ (by decide +kernel)) entry_typeCall (check_slot tc_kind tc_split typ (tc_args _ _ _) ?_)
  repeat (first | with_reducible refine wpAny_loadPart_at hC ?_ | with_reducible refine wpAny_madeBy_exc hC ?_ | wp_step)
  refine codeAny_call_builtin_code (Code.quiet_builtin _ F.quiet) (wpAny_check_new_subT F T hC ?_)
  refine codeAny_exc_new_subT F T hC ?_ hl
  show wpAny _ _ _ _ _ _
  have k : ∀ b o, h.get? b = some o → ((h.push (argsObj vs)).push (excObj C h.objs.size)).get? b = some o := fun b o e => Heap.get?_push_of_some _ (Heap.get?_push_of_some _ e)
  have hC₁ := k _ _ hC
  have hget : ((h.push (argsObj vs)).push (excObj C h.objs.size)).get? (h.objs.size + 1) = some (excObj C h.objs.size) := by heap_get
  have hcC : (Value.ref C :: bm).contains (.ref C) = true := by simp
  have X1 : K.In ((h.push (argsObj vs)).push (excObj C h.objs.size)) := X.keeps k
  unfold isInstance
  repeat (first | with_reducible refine wpAny_loadPart_at hget ?_ | (with_reducible refine wpAny_isSubtype_exc hC₁ ?_; rw [hcC]) | wp_step)
  show wpAny _ _ (typeLookup (.ref C) _) _ _ _
  refine (looks_findIn X1 hi).at ?_
  refine wpAny_holding (wpAny_bind ((bind_fn X1 _ hf).at ?_))
  refine wpAny_bind (wpAny_call (codeAny_mono hq fun r s' z => ?_))
  rcases r with e | (v | _ | _ | _) <;> first | exact z | exact z.elim | skip
  obtain ⟨rfl, z⟩ := z
  wp_walk
  exact z
end
end L2
namespace L2
open PySem PySem.Spec PyProof.Rows PySem.W
open Builtin Builtin.ObjectAttr
section
variable {prog : Program} {w : World} {A : Around} {E : Value → Shared → Prop} {K : Frag} {C e : Addr} {R : Result → Shared → Prop} {h : Heap} {g : Array GenState} {d : Drawn} {t : Nat} {os : OsState}
theorem base_init {bm : List Value} {oe : Obj} {t0 : Addr} {rest : List Value} {u : Value} {Q : Value → Shared → Prop} (c : ExcCls h C bm) (he : h.get? e = some oe) (hcl : oe.cls = .ref C) (hd : oe.data = .fields (.ref t0 :: rest).toArray)
    (hq : ∀ h', (∀ b o, b ≠ e → h.get? b = some o → h'.get? b = some o) → (∃ t1 : Addr, h'.get? e = some { cls := .ref C, dict := oe.dict, data := .fields (.ref t1 :: rest).toArray, slots := oe.slots }) → h.objs.size ≤ h'.objs.size → Q .none ⟨h', g, d, t, os⟩) :
    wpAny (model prog w) A (call (.builtin "ValueError.__init__") [.ref e, u]) Q E ⟨h, g, d, t, os⟩ := by
  have F := PySem.F.excBase_ValueError
  obtain ⟨⟨N, nm, qn, bs, sn, sub, ab, col, dd, k0, k1, k2, k3, k5, hC⟩, T⟩ := c
  obtain ⟨oc, od, odt, osl⟩ := oe
  dsimp only at hcl hd
  subst hcl hd
  refine wpAny_call (codeAny_call_builtin F.init.plain F.initEntry (wpAny_check_init_subT F T hC he rfl ?_))
  wp_walk
  refine hq _ (fun b o hb e1 => ?_) ⟨h.objs.size, ?_⟩ ?_
  · rw [Heap.get?_update_other _ _ (Ne.symm hb)]
    exact Heap.get?_push_of_some _ e1
  · rw [Heap.get?_update_self _ (Heap.get?_push_of_some _ he) rfl]
    rfl
  · rw [Heap.size_update, Heap.size_push]; omega
def overVE : List Value → Bool
  | .ref _ :: r => overVE r
  | l => l == bmVE
theorem refuse_VE (self : Value) : ∀ {l : List Value}, overVE l = true → refuseLoop self "__setattr__" l = pure ()
  | .ref c :: r, e => by rw [refuseLoop_ref]; exact refuse_VE self (by simpa [overVE] using e)
  | [], e => by simp [overVE] at e
  | .type n :: r, e => by
    have e' : (Value.type n :: r) = bmVE := by simpa [overVE] using e
    rw [e']; exact PySem.F.store_ValueError.passes self
  | .none :: r, e => by simp [overVE] at e
  | .bool b :: r, e => by simp [overVE] at e
  | .int i k :: r, e => by simp [overVE] at e
  | .str i k :: r, e => by simp [overVE] at e
  | .bytes i k :: r, e => by simp [overVE] at e
  | .float i k :: r, e => by simp [overVE] at e
  | .builtin i :: r, e => by simp [overVE] at e
theorem over_tail {h : Heap} {bm : List Value} (T : OwnTail h bmVE bm) : overVE bm = true := by
  induction T with
  | base => rfl
  | own _ _ _ _ ih => simpa [overVE] using ih
end
end L2
namespace L2
open PySem PySem.Spec PyProof.Rows PySem.W
open Builtin Builtin.ObjectAttr
section
variable {prog : Program} {w : World} {A : Around} {E : Value → Shared → Prop} {K : Frag} {C x : Addr} {R : Result → Shared → Prop} {s : Shared}
theorem exc_sa_open {ox : Obj} {od : Option Obj} {name : Str} {tk : Tok} {v : Value} (X : K.In s.heap) (I : InstAt s.heap x ox C od) (hm : excMk K C = true) (ho : mroIn K C (.type "object") = some true) (ht : findIn K (.ref C) name = some none)
    (h : wpAny (model prog w) A.in1 (storeInOwnDict (.ref x) (.ref C) (.str name tk) name v false)
      (fun fin s' => match fin with | .done f => R (.ok f) s' | .again c' => c'.quiet = true ∧ codeAny (model prog w) A c' R s') (fun e s' => R (.error e) s') s) :
    codeAny (model prog w) A (.call (.builtin "object.__setattr__") ⟨[.ref x, .str name tk, v], []⟩) R s := by
  have SF := PySem.F.store_object
  obtain ⟨bm, ⟨⟨N, nm, qn, bs, sn, sub', ab, col, dd, k0, k1, k2, k3, k5, hC⟩, T⟩, hcall, hinst⟩ := excMk_of X hm
  have sub : Looks (model prog w) s.heap (isInstance (.ref x) (.type "object")) true := I.type.andThen (looks_mroIn X ho)
  refine codeAny_call_builtin SF.slot.plain SF.entry (@check_slot (model prog w) _ _ s "object.__setattr__" "object" "__setattr__" (.ref x) [.str name tk, v] [] _ SF.kind SF.split sub (SF.args (.ref x) (.str name tk) v) ?_)
  have hmro : Looks (model prog w) s.heap (mroOf (.ref C)) (.ref C :: bm) := ((Looks.ld (part := none) hC).andThen .now).andThen .now
  have L3 : Looks (model prog w) s.heap (storeTaker? none) none := .now
  rw [osa_eq, refuse_eq]
  refine wpAny_bind (wpAny_bind (I.type.here (wpAny_bind (hmro.here ?_))))
  rw [refuse_VE _ (show overVE (.ref C :: bm) = true by unfold overVE; exact over_tail T)]
  refine wpAny_pure (wpAny_bind (I.type.here (wpAny_bind ((looks_findIn X ht).here (wpAny_bind (L3.here ?_))))))
  exact h
theorem exc_set {oe : Obj} {vs : Array Value} {name : Str} {v : Value} {Q : Unit → Shared → Prop} (X : K.In s.heap) (he : s.heap.get? x = some oe) (hcl : oe.cls = .ref C) (hdc : oe.dict = none) (hdt : oe.data = .fields vs)
    (hm : excMk K C = true) (ho : mroIn K C (.type "object") = some true) (hs : findIn K (.ref C) "__setattr__" = some (some (.builtin "object.__setattr__"))) (ht : findIn K (.ref C) name = some none)
    (h : ∀ h', h'.get? x = some { oe with dict := some s.heap.objs.size } → h'.Ns1 s.heap.objs.size (fun y => if y = name then some v else none) → (∀ b o, b ≠ x → s.heap.get? b = some o → h'.get? b = some o) → Q () { s with heap := h', toks := s.toks + 2 }) :
    wpAny (model prog w) A (setAttr (.ref x) name v) Q E s := by
  have J : InstAt s.heap x oe C none := ⟨he, hcl, by unfold notCls; rw [hdt], by rw [hdc]; trivial⟩
  refine set_plain X J hs (exc_sa_open (s := { s with toks := s.toks + 1 }) X J hm ho ht ?_)
  obtain ⟨bm, ⟨⟨N, nm, qn, bs, sn, sub', ab, col, dd, k0, k1, k2, k3, k5, hC⟩, T⟩, hcall, hinst⟩ := excMk_of X hm
  obtain ⟨hp, g, d, t, os⟩ := s
  obtain ⟨oc, odd, odt, osl⟩ := oe
  dsimp only at he hcl hdc hdt X h
  subst hcl hdc hdt
  unfold storeInOwnDict
  have hx₁ : (hp.push { cls := .type "dict", data := .dict #[] }).get? x = some ⟨.ref C, none, .fields vs, osl⟩ := Heap.get?_push_of_some _ he
  have hxs : x ≠ hp.objs.size := Nat.ne_of_lt (Heap.lt_size he)
  have hcd : Looks (model prog w) hp (classData C) _ := (Looks.ld (part := none) hC).andThen .now
  refine wpAny_bind (wpAny_pure (wpAny_bind ?_))
  show wpAny _ _ (instanceDict x true) _ _ _
  unfold instanceDict
  refine wpAny_bind (wpAny_loadPart he ?_)
  dsimp only
  refine wpAny_bind (hcd.at ?_)
  dsimp only
  simp only [Bool.not_true, Bool.false_eq_true, if_false, Bool.false_or, typeHasDict]
  refine wpAny_bind (wpAny_alloc' ?_)
  refine wpAny_bind (wpAny_update' hx₁ ?_)
  refine wpAny_pure ?_
  have hgd : ((hp.push { cls := .type "dict", data := .dict #[] }).update x fun o => { cls := o.cls, dict := some hp.objs.size, data := o.data, slots := o.slots }).get? hp.objs.size
      = some { cls := .type "dict", data := .dict #[] } :=
    (Heap.get?_update_ne _ _ _ _ hxs.symm).trans (Heap.get?_push_at rfl rfl)
  have hnd : ((hp.push { cls := .type "dict", data := .dict #[] }).update x fun o => { cls := o.cls, dict := some hp.objs.size, data := o.data, slots := o.slots }).Ns hp.objs.size (fun _ => none) :=
    ⟨_, #[], _, hgd, rfl, fun e he => absurd he (by simp), fun _ => rfl⟩
  show wpAny _ _ (storeInDict hp.objs.size (.str name _) name v) _ _ _
  unfold storeInDict newKeyGuard
  refine wpAny_bind (wpAny_pure (wpAny_bind (wpAny_nsSet1 (Heap.Ns1.of_empty hnd) fun h' hn' hs => ?_)))
  obtain ⟨oD, esD, epD, hoD, hdD, hcD⟩ := hn'.count (Within.cons name v Within.nil)
  refine wpAny_bind (wpAny_lookBehind hoD (by rw [hdD]; exact pastItsLine_dict (Nat.le_trans hcD (by rw [List.length_cons, List.length_nil, sizeLine_eq]; omega))) ?_)
  wp_walk
  refine h h' ?_ hn' fun b o hb e1 => ?_
  · refine (hs.2 x hxs).trans (Heap.get?_update_self _ hx₁ rfl)
  · exact (hs.2 b (Nat.ne_of_lt (Heap.lt_size e1))).trans ((Heap.get?_update_ne _ _ _ _ hb).trans (Heap.get?_push_of_some _ e1))
end
end L2
namespace L2
open PySem PySem.Spec PyProof.Rows PySem.W
open Builtin Builtin.ObjectAttr
def excGet (K : Frag) (C : Addr) : Bool := findIn K (.ref C) "__getattribute__" == some (some (.builtin "BaseException.__getattribute__")) && findIn K (.ref C) "__getattr__" == some none && mroIn K C (.type "BaseException") == some true
section
variable {prog : Program} {w : World} {A : Around} {E : Value → Shared → Prop} {K : Frag} {C x : Addr} {R : Result → Shared → Prop} {s : Shared} {name : Str}
theorem exc_ga {ox : Obj} {od : Option Obj} {tk : Tok} {r : Found} (X : K.In s.heap) (I : InstAt s.heap x ox C od) (hg : excGet K C = true) (hf : findObj K C od name = some r)
    (h : match r with | .value v => R (.ok (.ret v)) s | .bind g a => wpAny (model prog w) A.in1 (call g [a, .ref x, .ref C]) (fun v s' => R (.ok (.ret v)) s') (fun e s' => R (.error e) s') s | .missing => False) :
    codeAny (model prog w) A (.call (.builtin "BaseException.__getattribute__") ⟨[.ref x, .str name tk], []⟩) R s := by
  unfold excGet at hg
  simp only [Bool.and_eq_true, beq_iff_eq] at hg
  obtain ⟨⟨hga, hgk⟩, hb⟩ := hg
  have sub : Looks (model prog w) s.heap (isInstance (.ref x) (.type "BaseException")) true := I.type.andThen (looks_mroIn X hb)
  refine codeAny_call_builtin PySem.F.attrBase_ValueError.ga.plain PySem.F.entry_bexc_ga ?_
  refine @check_slot (model prog w) _ _ s "BaseException.__getattribute__" "BaseException" "__getattribute__" (.ref x) [.str name tk] [] _ (by decide +kernel) (by decide +kernel) sub (PySem.F.args_bexc_ga (.ref x) (.str name tk)) ?_
  unfold Builtin.«object.__getattribute__»
  have L0 := I.type (M := model prog w)
  have L1 := looks_find (M := model prog w) X I hf
  refine wpAny_bind (wpAny_pure (wpAny_bind (wpAny_pure (wpAny_bind (L0.here (wpAny_bind (L1.here ?_)))))))
  cases r with
  | value v => exact wpAny_pure h
  | bind g a =>
    show wpAny _ _ (holding [a] (call g [a, .ref x, .ref C]) >>= ret) _ _ _
    exact wpAny_bind (wpAny_holding (wpAny_mono h (fun v s' z => wpAny_pure z) fun _ _ z => z))
  | missing => exact h.elim
theorem exc_getAttr {ox : Obj} {od : Option Obj} {v : Value} {expr : Bool} {Q : Value → Shared → Prop} (X : K.In s.heap) (I : InstAt s.heap x ox C od) (hg : excGet K C = true) (hf : findObj K C od name = some (.value v)) (hv : handedIn v = true)
    (h : Q v { s with toks := s.toks + 1 }) : wpAny (model prog w) A (getAttr (.ref x) name expr) Q E s := by
  have hg' := hg
  unfold excGet at hg'
  simp only [Bool.and_eq_true, beq_iff_eq] at hg'
  obtain ⟨⟨hga, hgk⟩, hb⟩ := hg'
  refine wpAny_bind (wpAny_mkText (wpAny_holding (wpAny_bind (I.type _ _ _ _ (fun _ _ e => e) (wpAny_bind (looks_findIn X hga _ _ _ _ (fun _ _ e => e) ?_))))))
  dsimp only
  have hx2 : (Value.builtin "BaseException.__getattribute__" == Value.builtin "object.__getattribute__") = false := by decide +kernel
  rw [show (onTheHeap (Value.ref C) && Value.builtin "BaseException.__getattribute__" == Value.builtin "object.__getattribute__") = false from by rw [hx2, Bool.and_false], if_neg (by decide)]
  refine wpAny_bind (looks_hook X (mc := .ref C) (r := none) hgk _ _ _ _ (fun _ _ e => e) (wpAny_bind (wpAny_attempt (wpAny_holding ?_))))
  unfold callGetattribute
  rw [show (expr && onTheHeap (Value.builtin "BaseException.__getattribute__")) = false from Bool.and_false _, if_neg (by decide)]
  unfold boundAndCalled
  rw [PySem.F.attrBase_ValueError.ga.bind]
  refine wpAny_bind (wpAny_pure ?_)
  show wpAny _ _ (call (.builtin "BaseException.__getattribute__") [.ref x, .str name s.toks]) _ _ _
  refine wpAny_call (exc_ga (s := { s with toks := s.toks + 1 }) X I hg hf ?_)
  show wpAny _ _ (handedOut v) _ _ _
  rw [handedOut_of hv]; exact wpAny_pure h
theorem exc_class {ox : Obj} {od : Obj} {Q : Option Value → Shared → Prop} (X : K.In s.heap) (I : InstAt s.heap x ox C (some od)) (hg : excGet K C = true)
    (hcd : (clsIn K C).isSome = true) (ha : findIn K (.ref C) "__class__" = some (some (.builtin "object.__class__"))) (hn : specialIn K (.builtin "object.__class__") "__get__" = some (some (.builtin "getset_descriptor.__get__")))
    (htk : takesIn K (.builtin "object.__class__") = some true) (hm : mroIn K C (.type "object") = some true)
    (h : Q (some (.ref C)) { s with toks := s.toks + 1 }) : wpAny (model prog w) A (getAttr? (.ref x) "__class__") Q E s := by
  have hg' := hg
  unfold excGet at hg'
  simp only [Bool.and_eq_true, beq_iff_eq] at hg'
  obtain ⟨⟨hga, hgk⟩, hb⟩ := hg'
  have hf : findObj K C (some od) "__class__" = some (.bind (.builtin "getset_descriptor.__get__") (.builtin "object.__class__")) := findObj_data (by obtain ⟨cd, hc⟩ := Option.isSome_iff_exists.mp hcd; rw [hc]; rfl) ha hn htk
  unfold getAttr? getAttrBy? getAttrBy
  refine wpAny_bind (wpAny_mkText (wpAny_bind (wpAny_attempt (wpAny_holding (wpAny_bind (I.type _ _ _ _ (fun _ _ e => e) (wpAny_bind (looks_findIn X hga _ _ _ _ (fun _ _ e => e) ?_))))))))
  dsimp only
  have hx2 : (Value.builtin "BaseException.__getattribute__" == Value.builtin "object.__getattribute__") = false := by decide +kernel
  rw [show (onTheHeap (Value.ref C) && Value.builtin "BaseException.__getattribute__" == Value.builtin "object.__getattribute__") = false from by rw [hx2, Bool.and_false], if_neg (by decide)]
  refine wpAny_bind (looks_hook X (mc := .ref C) (r := none) hgk _ _ _ _ (fun _ _ e => e) (wpAny_bind (wpAny_attempt (wpAny_holding ?_))))
  unfold callGetattribute
  rw [show (false && onTheHeap (Value.builtin "BaseException.__getattribute__")) = false from rfl, if_neg (by decide)]
  unfold boundAndCalled
  rw [PySem.F.attrBase_ValueError.ga.bind]
  refine wpAny_bind (wpAny_pure ?_)
  show wpAny _ _ (call (.builtin "BaseException.__getattribute__") [.ref x, .str "__class__" s.toks]) _ _ _
  refine wpAny_call (exc_ga (s := { s with toks := s.toks + 1 }) X I hg hf ?_)
  refine wpAny_call (class_get (s := { s with toks := s.toks + 1 }) (ox := ox) (od := some od) X I hm ?_)
  show wpAny _ _ (handedOut (.ref C)) _ _ _
  refine handed_on rfl ?_
  exact wpAny_pure h
theorem kitx_exc {x D : Addr} {ox : Obj} {od : Obj} (hg : excGet K D = true) (hcd : (clsIn K D).isSome = true) (ha : findIn K (.ref D) "__class__" = some (some (.builtin "object.__class__")))
    (hn : specialIn K (.builtin "object.__class__") "__get__" = some (some (.builtin "getset_descriptor.__get__"))) (htk : takesIn K (.builtin "object.__class__") = some true) (hm : mroIn K D (.type "object") = some true) :
    KitX K (.ref x) (.ref D) (fun h => InstAt h x ox D (some od)) where
  ty := fun _ _ _ I => I.type
  it := fun _ _ X _ => by
    obtain ⟨cdD, hcD⟩ := Option.isSome_iff_exists.mp hcd
    unfold clsIn at hcD
    split at hcD
    · rename_i c' d' cd' sl' ho
      intro A' Q' E' s' k q
      unfold isType loadHead
      exact wpAny_bind (wpAny_loadPart (k _ _ (X _ _ ho)) (wpAny_pure q))
    · cases hcD
  ne := fun h tp dd its n sl X htp => by
    obtain ⟨cdD, hcD⟩ := Option.isSome_iff_exists.mp hcd
    refine Bool.eq_false_iff.mpr fun q => ?_
    have e : D = tp := Value.ref.inj (beq_iff_eq.mp q)
    subst e
    unfold clsIn at hcD
    split at hcD
    · rename_i c' d' cd' sl' ho
      have z := (X _ _ ho).symm.trans htp
      cases z
    · cases hcD
  ca := fun X I k => exc_class X I hg hcd ha hn htk hm k
end
end L2
namespace L2
open PySem PySem.Spec PyProof.Rows
def ExcIs (e C : Addr) (d : Option Addr) (h : Heap) : Prop := ∃ (t : Addr) (rest : List Value) (sl : Array (Option Value)), h.get? e = some { cls := .ref C, dict := d, data := .fields (.ref t :: .none :: rest).toArray, slots := sl }
def ExcRs (e C : Addr) (d : Option Addr) (h : Heap) : Prop := ∃ (t : Addr) (rest : List Value) (sl : Array (Option Value)), h.get? e = some { cls := .ref C, dict := d, data := .fields (.ref t :: rest).toArray, slots := sl }
def excR (e C : Addr) (d : Option Addr) : HO := .ext (ExcRs e C d)
theorem excR_ok {P : Program} {w : World} {H : Hp} {h : Heap} {e C : Addr} {d : Option Addr} (x : ExcRs e C d h) : ObjOk P w H h e (excR e C d) := by
  refine ⟨x, ?_, fun h1 h2 p k => ?_⟩
  · obtain ⟨t, r, sl, q⟩ := x; exact ⟨_, q⟩
  · obtain ⟨t, r, sl, q⟩ := p; exact ⟨t, r, sl, k _ q⟩
theorem excR_is {P : Program} {w : World} {H : Hp} {h : Heap} {e C : Addr} {d : Option Addr} (x : ObjOk P w H h e (excR e C d)) : ExcRs e C d h := x.1
def excO (e C : Addr) (d : Option Addr) : HO := .ext (ExcIs e C d)
theorem excO_ok {P : Program} {w : World} {H : Hp} {h : Heap} {e C : Addr} {d : Option Addr} (x : ExcIs e C d h) : ObjOk P w H h e (excO e C d) := by
  refine ⟨x, ?_, fun h1 h2 p k => ?_⟩
  · obtain ⟨t, r, sl, q⟩ := x; exact ⟨_, q⟩
  · obtain ⟨t, r, sl, q⟩ := p; exact ⟨t, r, sl, k _ q⟩
theorem excO_is {P : Program} {w : World} {H : Hp} {h : Heap} {e C : Addr} {d : Option Addr} (x : ObjOk P w H h e (excO e C d)) : ExcIs e C d h := x.1
structure Exc (H : Hp) (e C dx : Addr) (fs : List (Str × V)) : Prop where
  at_ : H e = some (excO e C (some dx)) ∨ H e = some (excR e C (some dx))
  dct : H dx = some (.xd fs)
theorem Exc.is {P : Program} {w : World} {H : Hp} {h : Heap} {e C dx : Addr} {fs : List (Str × V)} (x : Exc H e C dx fs) (k : HOk P w H h) : ExcRs e C (some dx) h := by
  rcases x.at_ with z | z
  · obtain ⟨t, r, sl, q⟩ := excO_is (k e _ z)
    exact ⟨t, _, sl, q⟩
  · exact excR_is (k e _ z)
def xOk (K : PySem.W.Frag) (C : Addr) (n : Str) : Bool := excMk K C && excGet K C && (PySem.W.clsIn K C).isSome && PySem.W.findIn K (.ref C) "__setattr__" == some (some (.builtin "object.__setattr__")) &&
  PySem.W.findIn K (.ref C) "__class__" == some (some (.builtin "object.__class__")) && PySem.W.specialIn K (.builtin "object.__class__") "__get__" == some (some (.builtin "getset_descriptor.__get__")) &&
  PySem.W.takesIn K (.builtin "object.__class__") == some true && PySem.W.mroIn K C (.type "object") == some true && PySem.W.findIn K (.ref C) n == some none && (PySem.W.clsIn K C).any (·.hasDict)
structure XOk (K : PySem.W.Frag) (C : Addr) (n : Str) : Prop where
  mkk : excMk K C = true
  get : excGet K C = true
  cls : (PySem.W.clsIn K C).isSome = true
  sa : PySem.W.findIn K (.ref C) "__setattr__" = some (some (.builtin "object.__setattr__"))
  ca : PySem.W.findIn K (.ref C) "__class__" = some (some (.builtin "object.__class__"))
  cg : PySem.W.specialIn K (.builtin "object.__class__") "__get__" = some (some (.builtin "getset_descriptor.__get__"))
  ct : PySem.W.takesIn K (.builtin "object.__class__") = some true
  mo : PySem.W.mroIn K C (.type "object") = some true
  nm : PySem.W.findIn K (.ref C) n = some none
  hd : (PySem.W.clsIn K C).any (·.hasDict) = true
theorem xOk_of {K : PySem.W.Frag} {C : Addr} {n : Str} (h : xOk K C n = true) : XOk K C n := by
  unfold xOk at h
  simp only [Bool.and_eq_true, beq_iff_eq] at h
  obtain ⟨⟨⟨⟨⟨⟨⟨⟨⟨a, b⟩, c⟩, d⟩, e⟩, f⟩, g⟩, i⟩, j⟩, k⟩ := h
  exact ⟨a, b, c, d, e, f, g, i, j, k⟩
structure GBase (K : PySem.W.Frag) (mg : Str → Option Value) (x : Str) (G : Addr) : Prop where
  mg : mg x = some (.ref G)
  rd : PySem.W.readsIn K G (.type "type") = true
  fc : PySem.W.findCls K (.ref G) (.type "type") "__init__" = some (.val (.builtin "ValueError.__init__"))
  ga : PySem.W.specialIn K (.ref G) "__getattribute__" = some (some (.builtin "type.__getattribute__"))
section
variable {X : Cx} {pins : List (Addr × Obj)} {σ : St} {H : Hp} {s : Shared} {A : Around} {E : Value → Shared → Prop}
def tBInit (K : PySem.W.Frag) (t : TA) : TE := fun σ H Q => t σ H fun vs H1 => ∃ e C d v, vs = [.ref e, v] ∧ H1 e = some (excO e C d) ∧ excMk K C = true ∧ Q .non H1
theorem binit_ok {e C : Addr} {d : Option Addr} {u : Value} {Q : Value → Shared → Prop} (I : Inv X pins σ H s) (ea : H e = some (excO e C d)) (hm : excMk X.K C = true) (h : ∀ s', Inv X pins σ H s' → Q .none s') :
    wpAny (model X.prog X.w) A (call (.builtin "ValueError.__init__") [.ref e, u]) Q E s := by
  obtain ⟨t0, rest, sl, q⟩ := excO_is (I.hok e _ ea)
  obtain ⟨bm, c, _, _⟩ := excMk_of I.kIn hm
  obtain ⟨hp, g, dr, t, os⟩ := s
  refine base_init c q rfl rfl fun h' k ⟨t1, q1⟩ _ => h _ ?_
  have I2 := I.write (x := e) (e := e) (o := excO e C d) (h' := h') (t' := t) (by rw [ea]; exact True.intro) (.inl rfl) (fun b o hb z => k b o hb z) ⟨_, q1⟩ (excO_ok ⟨t1, rest, sl, q1⟩)
  have eH : upd H e (excO e C d) = H := by
    funext b
    unfold upd
    split
    · rename_i z; rw [z, ea]
    · rfl
  rw [eH] at I2
  exact I2
theorem pe_binit {x : Str} {G : Addr} {p apos pos : Pos} {a : Expr} {es : List Expr} {t : TA} {pl : Sem Bool} (B : GBase X.K X.mg x G) (hg : Gl X x) (ha : PA X (a :: es) t) (hdb : (x == ("__debug__" : Str)) = false := by decide)
    (hst : starEach (a :: es) X.env = (false, eval a X.env) :: starEach es X.env := by rfl) (hpl : (backTo pos (starEach es X.env)).any (·.1) = false := by rfl)
    (ht : eval (.Call (.Attribute (.Name x p) "__init__" apos) (a :: es) [] pos) X.env = (do
      let ov ← eval (.Name x p) X.env
      standAt apos.atName
      let (f, first) ← holding [ov] (getMethod ov "__init__" pl)
      callWith pos f first (backTo pos (starEach (a :: es) X.env)) (backToKw pos (keywordEach [] X.env))) := by rfl) :
    PE X (.Call (.Attribute (.Name x p) "__init__" apos) (a :: es) [] pos) (tBInit X.K t) := by
  intro pins s σ H Q I h
  refine PySem.W.methodCall_KW (pl := pl) (thn (pe_glob hg B.mg (show RelV (.ref G) (.ref G) from rfl) hdb pins s σ H (fun v H1 => v = .ref G ∧ H1 = H) I ⟨rfl, rfl⟩) fun u s1 ⟨v, H1, I1, rv, ev, eH⟩ => ?_) ht
  subst ev eH
  obtain rfl : u = Value.ref G := rv
  refine PySem.W.method_cls I1.kIn B.ga (PySem.W.cls_value I1.kIn B.rd B.fc rfl ?_)
  have hA := ha pos pins _ σ H1 _ (I1.tok (s1.toks + 1)) h
  rw [hst] at hA ⊢
  refine Calls.callWith_builtin (by show (false || (backTo pos (starEach es X.env)).any (·.1)) = false; rw [hpl] <;> rfl) (Calls.evalArgs_plain ?_)
  refine thn hA fun us s2 ⟨vs, H2, I2, r2, e, C, d, v, ev, ea, hm, q⟩ => ?_
  subst ev
  obtain ⟨u1, u2, rfl, r1, r2'⟩ := vals2 r2
  obtain rfl : u1 = Value.ref e := r1
  exact binit_ok I2 ea hm fun s' I' => ⟨.non, H2, I', rfl, q⟩
theorem xset_ok {e C : Addr} {n : Str} {y : V} {u : Value} {Q : Unit → Shared → Prop} (I : Inv X pins σ H s) (ea : H e = some (excO e C none)) (xo : XOk X.K C n) (ry : RelV y u)
    (h : ∀ s' dx, H dx = none → dx ≠ e → Inv X pins σ (upd (upd H e (excO e C (some dx))) dx (.xd [(n, y)])) s' → Q () s') : wpAny (model X.prog X.w) A (setAttr (.ref e) n u) Q E s := by
  obtain ⟨t0, rest, sl, q⟩ := excO_is (I.hok e _ ea)
  refine exc_set I.kIn q rfl rfl rfl xo.mkk xo.mo xo.sa xo.nm fun h' q1 hn k => ?_
  have hf : H s.heap.objs.size = none := I.hok.fresh (Nat.le_refl _)
  have hne : s.heap.objs.size ≠ e := (ne_of_none ea hf).symm
  refine h _ _ hf hne (I.un (t' := s.toks + 2) ⟨fun b o e1 n1 _ _ => ?_, fun b o e1 n1 _ _ => ?_, fun b o e1 n1 _ => ?_, fun b o e1 _ => ?_, fun b xs e1 => ?_, fun b o' u' e1 => ?_, fun b ps e1 => ?_⟩ fun b o e1 => ?_)
  · exact k b o (fun z => by rw [z, ea] at n1; cases n1) e1
  · exact ⟨o.slots, k b o (fun z => by rw [z, ea] at n1; cases n1) e1⟩
  · rw [upd_ne (Nat.ne_of_lt (Heap.lt_size e1)), upd_ne (fun z => by rw [z, ea] at n1; cases n1)]
    exact n1
  · by_cases hb : b = e
    · rw [hb]; exact ⟨_, q1⟩
    · exact ⟨o, k b o hb e1⟩
  · rw [upd_ne (ne_of_none e1 hf), upd_ne (fun z => by rw [z, ea] at e1; cases e1)]; exact e1
  · rw [upd_ne (ne_of_none e1 hf), upd_ne (fun z => by rw [z, ea] at e1; cases e1)]; exact e1
  · exact ⟨#[], by rw [upd_ne (ne_of_none e1 hf), upd_ne (fun z => by rw [z, ea] at e1; cases e1), e1]; simp⟩
  · by_cases h1 : b = s.heap.objs.size
    · subst h1
      rw [upd_same] at e1
      cases e1
      refine ⟨_, hn, fun f => ?_⟩
      show RelO (List.lookup f [(n, y)]) (if f = n then some u else none)
      by_cases z : f = n
      · subst z
        rw [if_pos rfl]
        simp only [List.lookup, beq_self_eq_true]
        exact ry
      · rw [if_neg z]
        have z' : (f == n) = false := beq_eq_false_iff_ne.mpr z
        simp [List.lookup, z', RelO]
    · rw [upd_ne h1] at e1
      by_cases h2 : b = e
      · subst h2
        rw [upd_same] at e1
        cases e1
        exact excO_ok ⟨t0, rest, sl, q1⟩
      · rw [upd_ne h2] at e1
        refine (I.hok b o e1).stay (fun c v hc q => k c v ?_ q) (fun c z => ?_) fun c xs z => ?_
        · rcases hc with z | z
          · rw [z]; exact h2
          · intro z2; rw [z2, ea] at z; cases z
        · rw [upd_ne (ne_of_none z hf), upd_ne (fun z2 => by rw [z2, ea] at z; cases z)]; exact z
        · rw [upd_ne (ne_of_none z hf), upd_ne (fun z2 => by rw [z2, ea] at z; cases z)]; exact z
theorem xget_ok {e C dx : Addr} {fs : List (Str × V)} {n : Str} {y : V} {b : Bool} {Q : Value → Shared → Prop} (I : Inv X pins σ H s) (x : Exc H e C dx fs) (xo : XOk X.K C n) (l : fs.lookup n = some y)
    (h : ∀ u s', Inv X pins σ H s' → RelV y u → Q u s') : wpAny (model X.prog X.w) A (getAttr (.ref e) n b) Q E s := by
  obtain ⟨t0, rest, sl, q⟩ := x.is I.hok
  obtain ⟨mA, hn, hr⟩ := (show ∃ mA, s.heap.Ns1 dx mA ∧ ∀ f, RelO (fs.lookup f) (mA f) from I.hok dx _ x.dct)
  obtain ⟨od, ho, hl⟩ := lookIn_ns hn
  have r1 := hr n
  rw [l] at r1
  obtain ⟨u, eu, ru⟩ := RelO.some_of r1
  have J : PySem.W.InstAt s.heap e _ C (some od) := ⟨q, rfl, rfl, ho⟩
  exact exc_getAttr I.kIn J xo.get (PySem.W.findObj_own xo.hd xo.nm rfl (by rw [hl, eu])) (handed_of ru) (h _ _ (I.tok _) ru)
theorem xisinst_ok {e C dx : Addr} {fs : List (Str × V)} {n : Str} {c : Value} {b : Bool} {Q : Value → Shared → Prop} (I : Inv X pins σ H s) (x : Exc H e C dx fs) (xo : XOk X.K C n) (k : PySem.W.kitOne X.K (.ref C) c = some b)
    (h : ∀ tk, Q (.bool b) { s with toks := tk }) : wpAny (model X.prog X.w) A (call (.builtin "isinstance") [.ref e, c]) Q E s := by
  obtain ⟨t0, rest, sl, q⟩ := x.is I.hok
  obtain ⟨mA, hn, hr⟩ := (show ∃ mA, s.heap.Ns1 dx mA ∧ ∀ f, RelO (fs.lookup f) (mA f) from I.hok dx _ x.dct)
  obtain ⟨od, ho, hl⟩ := lookIn_ns hn
  have J : PySem.W.InstAt s.heap e _ C (some od) := ⟨q, rfl, rfl, ho⟩
  exact PySem.W.kia_one (kitx_exc xo.get xo.cls xo.ca xo.cg xo.ct xo.mo) I.kIn J k (fun z => nomatch z) h
theorem call_isX : CallR X (.builtin "isinstance") (fun xs H Q => ∃ e C dx fs n c cv b, xs = [.ref e, c] ∧ clsV c = some cv ∧ Exc H e C dx fs ∧ XOk X.K C n ∧ PySem.W.kitOne X.K (.ref C) cv = some b ∧ Q (.bl b) H) := by
  intro pins s σ H xs us Q I r h
  obtain ⟨e, C, dx, fs, n, c, cv, b, rfl, hc, x, xo, hk, q⟩ := h
  obtain ⟨u, w', rfl, rx, rc⟩ := vals2 r
  have e1 := clsV_rel hc rc
  subst e1
  obtain rfl : u = Value.ref e := rx
  exact xisinst_ok I x xo hk fun tk => ⟨.bl b, H, I.tok _, rfl, q⟩
end
def tXFld (K : PySem.W.Frag) (ta : TE) (f : Str) : TE := fun σ H Q => ta σ H fun x H1 => ∃ e C dx fs v, x = .ref e ∧ Exc H1 e C dx fs ∧ XOk K C f ∧ fs.lookup f = some v ∧ Q v H1
def sXFld (K : PySem.W.Frag) (ta tv : TE) (f : Str) : TS := fun D σ H => tv σ H fun y H1 => ta σ H1 fun x H2 => ∃ e C, x = .ref e ∧ H2 e = some (excO e C none) ∧ XOk K C f ∧
  ∀ dx, H2 dx = none → dx ≠ e → D.nx σ (upd (upd H2 e (excO e C (some dx))) dx (.xd [(f, y)]))
section
variable {X : Cx} {o e value : Expr} {f : Str} {pos pos' tpos : Pos} {ta tv : TE}
theorem pe_xfld (he : PE X e ta) (hb : attributeBase e f X.env (eval e X.env) = eval e X.env := by rfl) : PE X (.Attribute e f pos) (tXFld X.K ta f) := by
  intro pins s σ H Q I h
  refine attr_of hb (thn (he pins s σ H _ I h) fun u s1 ⟨x, H1, I1, rx, a, C, dx, fs, v, ex, ea, c, l, q⟩ => ?_)
  subst ex
  obtain rfl : u = Value.ref a := rx
  exact xget_ok I1 ea c l fun u' s2 I2 ru => ⟨v, H1, I2, ru, q⟩
theorem ps_xfld (ha : PE X o ta) (hv : PE X value tv) (hs : swapsWith value (some (.Attribute o f pos')) pos.line X.env = pure false := by rfl) : PS X (.Assign [.Attribute o f pos'] value pos) (sXFld X.K ta tv f) := by
  intro pins s σ H D I h
  refine plainObj_wpAny_Assign_Attribute (thn (hv pins s σ H _ I h) fun u s1 ⟨y, H1, I1, ry, q⟩ => thn (ha pins s1 σ H1 _ I1 q) fun ov s2 ⟨x, H2, I2, rx, a, C, ex, ea, c, q2⟩ => ?_) hs
  subst ex
  obtain rfl : ov = Value.ref a := rx
  exact xset_ok I2 ea c ry fun s3 dx n1 n2 I3 => ⟨σ, _, I3, q2 dx n1 n2⟩
end
end L2
namespace L2
open PySem PySem.Spec PyProof.Rows
def spInit (K : PySem.W.Frag) (C : Addr) (n : Str) : Sp := fun vs H Q _ => ∃ e v, vs = [.ref e, v] ∧ H e = some (excO e C none) ∧ ∀ dx, H dx = none → dx ≠ e → Q .non (upd (upd H e (excO e C (some dx))) dx (.xd [(n, v)]))
def tXMake (C : Addr) (n : Str) (t : TA) : TE := fun σ H Q => t σ H fun vs H1 => ∃ v, vs = [v] ∧ ∀ e dx, H1 e = none → H1 dx = none → dx ≠ e → Q (.ref e) (upd (upd H1 e (excO e C (some dx))) dx (.xd [(n, v)]))
structure XDef (K : PySem.W.Frag) (mg : Str → Option Value) (x n : Str) (C : Addr) : Prop where
  mg : mg x = some (.ref C)
  ok : XOk K C n
  kp : PySem.W.keepIn K (.ref C) = true
section
variable {X : Cx} {k : Nat} {f C : Addr} {fd : FuncData} {ps : List Str} {x n : Str} {p pos : Pos} {a : Expr} {t : TA}
theorem run_xmake {pins : List (Addr × Obj)} {σ : St} {H : Hp} {s : Shared} {Q : VK} {us : List Value} {v : V} (M : XOk X.K C n) (hi : PySem.W.findIn X.K (.ref C) "__init__" = some (some (.ref f))) (hfn : PySem.W.isFn X.K (.ref f) = true)
    (F : FnOk X.prog X.w X.K X.mg X.base CX0 k f fd ps (spInit X.K C n)) (hr : Room (k + 1) X.A) (hb : Binds X.K fd ps []) (I : Inv X pins σ H s) (r : Vals [v] us)
    (h : ∀ e dx, H e = none → H dx = none → dx ≠ e → Q (.ref e) (upd (upd H e (excO e C (some dx))) dx (.xd [(n, v)]))) :
    wpAny (model X.prog X.w) X.A (call (.ref C) us) (EP X pins σ Q) X.xe s := by
  have hfe : H (s.heap.objs.size + 1) = none := I.hok.fresh (Nat.le_succ _)
  have I1 : Inv X pins σ H { s with heap := s.heap.push (argsObj us) } := I.kept (t' := s.toks) fun b u q => Heap.get?_push_of_some _ q
  have e2 : ((s.heap.push (argsObj us)).push (excObj C s.heap.objs.size)).get? (s.heap.objs.size + 1) = some (excObj C s.heap.objs.size) := by
    have := Heap.get?_push_size (s.heap.push (argsObj us)) (o := excObj C s.heap.objs.size) rfl
    rwa [Heap.size_push] at this
  have I2 : Inv X pins σ (upd H (s.heap.objs.size + 1) (excO (s.heap.objs.size + 1) C none)) { s with heap := (s.heap.push (argsObj us)).push (excObj C s.heap.objs.size) } :=
    I1.laid (a := s.heap.objs.size + 1) (o := excO (s.heap.objs.size + 1) C none) (t' := s.toks) (fun b u q => Heap.get?_push_of_some _ q) (Nat.le_of_eq (Heap.size_push _ _)) (excO_ok ⟨s.heap.objs.size, _, _, e2⟩)
  have r2 : Vals [V.ref (s.heap.objs.size + 1), v] (Value.ref (s.heap.objs.size + 1) :: us) := .cons rfl r
  have hq : spInit X.K C n [V.ref (s.heap.objs.size + 1), v] (upd H (s.heap.objs.size + 1) (excO (s.heap.objs.size + 1) C none)) (fun v H2 => v = .non ∧ Q (.ref (s.heap.objs.size + 1)) H2) E0 := by
    refine ⟨_, _, rfl, upd_same, fun dx n1 n2 => ⟨rfl, ?_⟩⟩
    rw [upd_upd]
    rw [upd_ne n2] at n1
    exact h _ _ hfe n1 n2
  have hl : (Value.ref (s.heap.objs.size + 1) :: us ++ []).length = ps.length := by
    have e := r2.length
    rw [F.len _ _ _ _ hq] at e
    rw [List.append_nil]
    exact e.symm
  have hlen : us.length ≤ sizeLine := by
    have e := r.length
    rw [← e, sizeLine_eq]; simp
  obtain ⟨hp, g, d, tt, os⟩ := s
  have hb2 := hb _ (Value.ref (hp.objs.size + 1) :: us) I2.kIn hl
  rw [List.append_nil] at hb2
  refine wpAny_call (exc_make I.kIn M.mkk hi (beq_iff_eq.mp hfn) hlen (codeAny_mono (F.run _ X.stack _ _ ⟨Value.ref (hp.objs.size + 1) :: us, []⟩ (Value.ref (hp.objs.size + 1) :: us) _ _ E0 (hr.make C us [])
    (I2.env0.make C us []) hb2 r2 hq) fun r s' hq' => ?_))
  cases r with
  | error e => exact hq'.elim
  | ok fl =>
    cases fl with
    | ret u =>
      obtain ⟨v', H', I3, rv, ev, q3⟩ := I2.after hq'
      subst ev
      have e5 : upd H (hp.objs.size + 1) (excO (hp.objs.size + 1) C none) = upd H (hp.objs.size + 1) (excO (hp.objs.size + 1) C none) := rfl
      exact ⟨rv, ⟨V.ref (hp.objs.size + 1), H', I3, rfl, q3⟩⟩
    | next => exact False.elim hq'
    | brk => exact False.elim hq'
    | cont => exact False.elim hq'
theorem pe_xmake (D : XDef X.K X.mg x n C) (hi : PySem.W.findIn X.K (.ref C) "__init__" = some (some (.ref f))) (hfn : PySem.W.isFn X.K (.ref f) = true)
    (F : FnOk X.prog X.w X.K X.mg X.base CX0 k f fd ps (spInit X.K C n)) (hb : Binds X.K fd ps []) (hr : Room (k + 1) X.A) (hg : Gl X x)
    (ha : PA X [a] t) (hdb : (x == ("__debug__" : Str)) = false := by decide) (he : starEach [a] X.env = (false, eval a X.env) :: starEach [] X.env := by rfl) (hpl : (backTo pos (starEach [] X.env)).any (·.1) = false := by rfl) :
    PE X (.Call (.Name x p) [a] [] pos) (tXMake C n t) := by
  intro pins s σ H Q I h
  refine wpAny_Call_Name_kw (ld_glob I hg D.mg ?_ hdb)
  refine PySem.W.callWith_K (h₀ := X.base) I.ok.mod.kin D.kp (thn (ha pos pins s σ H _ I h) fun us s1 ⟨vs, H1, I1, r, v, ev, q⟩ => ⟨I1.kIn, ?_⟩) he hpl
  subst ev
  exact run_xmake D.ok hi hfn F hr hb I1 r q
end
structure XAt (P : Program) (w : World) (K : PySem.W.Frag) (mg : Str → Option Value) (base : Heap) (x : Str) (k : Nat) (n : Str) (C : Addr) : Prop where
  df : XDef K mg x n C
  ex : ∃ (f : Addr) (fd : FuncData), PySem.W.findIn K (.ref C) "__init__" = some (some (.ref f)) ∧ PySem.W.isFn K (.ref f) = true ∧ FnOk P w K mg base CX0 k f fd ["self", n] (spInit K C n) ∧ Binds K fd ["self", n] []
theorem pe_x {X : Cx} {k j : Nat} {C : Addr} {x n : Str} {p pos : Pos} {a : Expr} {t : TA} (D : XAt X.prog X.w X.K X.mg X.base x k n C) (hr : Room (j + 1) X.A) (hj : k ≤ j) (hg : Gl X x)
    (ha : PA X [a] t) (hdb : (x == ("__debug__" : Str)) = false := by decide) (he : starEach [a] X.env = (false, eval a X.env) :: starEach [] X.env := by rfl) (hpl : (backTo pos (starEach [] X.env)).any (·.1) = false := by rfl) :
    PE X (.Call (.Name x p) [a] [] pos) (tXMake C n t) := by
  obtain ⟨f, fd, hi, hfn, F, hb⟩ := D.ex
  exact pe_xmake D.df hi hfn F hb (hr.mono (Nat.succ_le_succ hj)) hg ha hdb he hpl
def initBody (g n z : Str) (p1 p2 p3 p4 p5 p6 p7 p8 p9 p10 : Pos) (k : Nat) : List Stmt :=
  [.Expr (.Call (.Attribute (.Name g p1) "__init__" p2) [.Name "self" p3, .Constant (.str z) k p4] [] p5) p6, .Assign [.Attribute (.Name "self" p7) n p8] (.Name n p9) p10]
end L2
namespace L2
open PySem PySem.Spec PyProof.Rows
section
variable {X : Cx}
theorem strsAre_of : ∀ {ys : List Str} {us : List Value}, Vals (ys.map V.str) us → StrsAre us ys
  | [], _, .nil => .nil
  | y :: r, _, .cons h t => by
    obtain ⟨k, rfl⟩ := h
    exact .cons y k (strsAre_of t)
theorem mt_join : MtR X "str.join" (fun x xs H Q => ∃ z a ys, x = .str z ∧ xs = [.ref a] ∧ SqL X.K H a (ys.map V.str) ∧ (ys.map (·.length)).sum + ys.length * z.length ≤ 16777216 ∧ Q (.str (Txt.join z ys)) H) := by
  intro pins s σ H x xs v us Q I rx rs h
  obtain ⟨z, a, ys, rfl, rfl, hq, hz, q⟩ := h
  obtain ⟨t, rfl⟩ := rx
  obtain ⟨u, rfl, ru⟩ := vals1 rs
  cases ru
  obtain ⟨its, rv, pl, _⟩ := I.list hq
  exact join_list pl.isList (by simpa using strsAre_of rv) hz fun t' k => ⟨.str _, H, I.tok _, ⟨_, rfl⟩, q⟩
def Ite (K : PySem.W.Frag) (a : Addr) : It :=
  ⟨fun i H => ∃ xs x, SqL K H a xs ∧ xs[i]? = some x, fun i H v H' => ∃ p x, v = .ref p ∧ H p = none ∧ (∀ xs, SqL K H a xs → xs[i]? = some x) ∧ H' = upd H p (.tup [.int i, x]), fun i H => ∃ xs, SqL K H a xs ∧ xs.length ≤ i⟩
theorem turn_enum {P : Program} {w : World} {K : PySem.W.Frag} {es : List Expr} {x1} {tp : Pos} (a e it : Addr) (hne : e ≠ it) : Turn P w K (.Tuple es x1 tp) (Ite K a) [e, it] e (fun i h => (∃ old, IsEnum h e it i old) ∧ h.IsListIter it a i) where
  mem := by simp
  obj := fun i h st b hb => by
    obtain ⟨⟨old, st1⟩, st2⟩ := st
    rcases List.mem_cons.mp hb with z | z
    · subst z
      exact ⟨_, st1, fun v z => by
        have z' : Data.fields _ = Data.cell v := z
        cases z'⟩
    · have z : b = it := by simpa using z
      subst z
      obtain ⟨o, e, c, d⟩ := st2
      exact ⟨o, e, fun v z => by rw [d] at z; cases z⟩
  keep := fun i h h' st k => by
    obtain ⟨⟨old, st1⟩, st2⟩ := st
    exact ⟨⟨old, k e (by simp) _ st1⟩, st2.at fun o q => k it (by simp) o q⟩
  item := by
    intro X hP hw hK hc i pins s σ H E I hf st hg
    subst hP hw hK
    obtain ⟨xs, x, hq, hx⟩ := hg
    obtain ⟨⟨old, st1⟩, st2⟩ := st
    obtain ⟨its, rv, p, hz⟩ := I.list hq
    obtain ⟨u, hu, ru⟩ := rv.get hx
    obtain ⟨f0, f1, f2, f3, f4, f5⟩ := hf e (by simp)
    obtain ⟨g0, g1, g2, g3, g4, g5⟩ := hf it (by simp)
    have hfp : H s.heap.objs.size = none := I.hok.fresh (Nat.le_refl _)
    refine wpAny_pyNext_enum_item st1 st2 p.isList (x := u) (by simpa using hu) hne fun h' eo it' tp' sz kk => ⟨_, rfl, ?_⟩
    refine wpAny_letOwnedTupleGo_enum (s := { s with heap := h', toks := s.toks + 1 }) eo fun h2 e2 sb => ?_
    have eP : e ≠ s.heap.objs.size := Nat.ne_of_lt (Heap.lt_size st1)
    have iP : it ≠ s.heap.objs.size := by obtain ⟨o, q, _⟩ := st2; exact Nat.ne_of_lt (Heap.lt_size q)
    have k2 : ∀ b o, b ≠ e → b ≠ it → s.heap.get? b = some o → h2.get? b = some o := fun b o h1 h3 q => (sb.2 b h1).trans (kk b o h1 h3 q)
    have tp2 : h2.get? s.heap.objs.size = some { cls := .type "tuple", data := .seq #[.int i s.toks, u] } := (sb.2 _ (Ne.symm eP)).trans tp'
    have it2 : h2.IsListIter it a (i + 1) := it'.at fun o q => (sb.2 _ (Ne.symm hne)).trans q
    have nin : ∀ b o, b ∉ [e, it] → s.heap.get? b = some o → h2.get? b = some o := fun b o hb q => k2 b o (fun z => hb (by simp [z])) (fun z => hb (by simp [z])) q
    refine ⟨.ref s.heap.objs.size, upd H s.heap.objs.size (.tup [.int i, x]), ?_, rfl, ⟨_, x, rfl, hfp, fun ys hy => by rw [I.list_inj hy hq]; exact hx, rfl⟩, ⟨⟨_, e2⟩, it2⟩, fun b hb => ?_⟩
    · show Inv X pins σ (upd H s.heap.objs.size (.tup [.int i, x])) { s with heap := h2, gens := s.gens, drawn := s.drawn, toks := s.toks + 1 }
      refine I.step (h' := h2) (t' := s.toks + 1) (g' := s.gens) (d' := s.drawn) (ch := [e, it]) (fun b hb => ?_) (fun b o _ _ hb q _ => nin b o hb q) (fun b o _ _ hb q _ => ⟨o.slots, nin b o hb q⟩) (fun b o hb q n => ?_) (fun b o hb q => ⟨o, nin b o hb q⟩)
        (fun b xs q => ?_) (fun b o' u' q => ?_) (fun b ps q => ?_) (fun m hm => ?_) (fun b o q => ?_) I.bare
      · rcases List.mem_cons.mp hb with z | z
        · subst z; exact ⟨f3, f1, f4, f5⟩
        · have z : b = it := by simpa using z
          subst z; exact ⟨g3, g1, g4, g5⟩
      · rw [upd_ne (Nat.ne_of_lt (Heap.lt_size q))]; exact n
      · rw [upd_ne (ne_of_none q hfp)]; exact q
      · rw [upd_ne (ne_of_none q hfp)]; exact q
      · exact ⟨#[], by rw [upd_ne (ne_of_none q hfp), q]; simp⟩
      · obtain ⟨o, es', ep', ho, r⟩ := hm
        exact ⟨o, es', ep', nin _ o (by simp [Ne.symm f1, Ne.symm g1]) ho, r⟩
      · by_cases hb : b = s.heap.objs.size
        · subst hb
          rw [upd_same] at q
          cases q
          refine ⟨by rw [sizeLine_eq]; simp, [.int i s.toks, u], .cons ⟨_, rfl⟩ (.cons ru .nil), ?_⟩
          exact ⟨_, tp2, rfl, _, rfl⟩
        · rw [upd_ne hb] at q
          refine (I.hok b o q).stay (fun c v hc r => nin c v (fun z => ?_) r) (fun c z => by rw [upd_ne (ne_of_none z hfp)]; exact z) fun c xs z => by rw [upd_ne (ne_of_none z hfp)]; exact z
          have hcn : H c ≠ none := by
            rcases hc with z2 | z2
            · rw [z2, q]; simp
            · rw [z2]; simp
          rcases List.mem_cons.mp z with z | z
          · rw [z, f0] at hcn; exact hcn rfl
          · have z : c = it := by simpa using z
            rw [z, g0] at hcn; exact hcn rfl
    · rcases List.mem_cons.mp hb with z | z
      · subst z; rw [upd_ne eP]; exact f0
      · have z : b = it := by simpa using z
        subst z; rw [upd_ne iP]; exact g0
  done := by
    intro X hP hw hK hc i pins s σ H E I hf st hg
    subst hP hw hK
    obtain ⟨xs, hq, hx⟩ := hg
    obtain ⟨⟨old, st1⟩, st2⟩ := st
    obtain ⟨its, rv, p, hz⟩ := I.list hq
    obtain ⟨g0, g1, g2, g3, g4, g5⟩ := hf it (by simp)
    have hl := rv.length
    exact wpAny_pyNext_enum_end (I.ok.hd hc) st1 st2 p.isList (by simp; omega) fun h' eb => ⟨rfl, I.turned (t' := s.toks) (fun b o hb e => eb b o hb e) g0 g1 g3 g4 g5⟩
  self := fun A i s Q E st h => by
    obtain ⟨⟨old, st1⟩, st2⟩ := st
    exact wpAny_pyIter_enum st1 h
def iEnum (K : PySem.W.Frag) (t : TA) : TI := fun σ H R => t σ H fun vs H1 => ∃ a, vs = [.ref a] ∧ (∃ xs, SqL K H1 a xs) ∧ R (Ite K a) H1
theorem pi_enum {a : Expr} {ta : TA} {p pos : Pos} {es : List Expr} {x1} {tp : Pos} (hg : Gl X "enumerate") (hm : X.mg "enumerate" = none) (ha : PA X [a] ta) (hs : starEach [a] X.env = [(false, eval a X.env)] := by rfl) : PI X (.Tuple es x1 tp) (.Call (.Name "enumerate" p) [a] [] pos) (iEnum X.K ta) := by
  intro pins s σ H R I h
  refine Call_ (ld_blt I hg hm boot_enumerate (PyProof.Rows.callWith_type1 (thn (ha pos pins s σ H _ I h) fun us s1 ⟨vs, H1, I1, r1, q1⟩ => ?_) hs rfl))
  obtain ⟨l, e, ⟨xs, hq⟩, q⟩ := q1
  subst e
  obtain ⟨u, rfl, ru⟩ := vals1 r1
  cases ru
  obtain ⟨its, rv, pl, hz⟩ := I1.list hq
  refine call_enumerate_list pl.isList fun h' he hi hsz hk => ?_
  refine wpAny_pyIter_enum (s := { s1 with heap := h' }) he ?_
  refine ⟨s1.heap.objs.size + 1, [s1.heap.objs.size + 1, s1.heap.objs.size], _, _, H1, rfl, I1.kept (t' := s1.toks) hk, turn_enum l _ _ (Nat.succ_ne_self _), ⟨⟨_, he⟩, hi⟩, fun b hb => ?_, q⟩
  rcases List.mem_cons.mp hb with z | z
  · subst z; exact I1.fpOk (Nat.le_succ _) (I1.hok.fresh (Nat.le_succ _))
  · have z : b = s1.heap.objs.size := by simpa using z
    subst z; exact I1.fpOk (Nat.le_refl _) (I1.hok.fresh (Nat.le_refl _))
end
theorem for_enum {K : PySem.W.Frag} {a : Addr} {xs : List V} {g : TG} {tb : TS} {D : Ends} {σ : St} {H : Hp} (Pv : Nat → St → Hp → Prop) (h0 : Pv 0 σ H) (hl : ∀ i σ H, i ≤ xs.length → Pv i σ H → SqL K H a xs)
    (hs : ∀ i x p σ H, xs[i]? = some x → Pv i σ H → H p = none → g (.ref p) σ (upd H p (.tup [.int i, x])) fun σ2 H2 => tb { D with nx := Pv (i + 1), ct := Pv (i + 1), bk := D.nx } σ2 H2) (hd : ∀ σ H, Pv xs.length σ H → D.nx σ H) :
    ∃ W : Nat → Nat → St → Hp → Prop, (∃ m, W 0 m σ H) ∧ ∀ i m σ H, W i m σ H →
      ((Ite K a).stop i H ∧ D.nx σ H) ∨ ((Ite K a).go i H ∧ ∃ N : St → Hp → Prop, (∀ σ' H', N σ' H' → ∃ m', m' < m ∧ W (i + 1) m' σ' H') ∧ ∀ x H', (Ite K a).yld i H x H' → g x σ H' fun σ2 H2 => tb { D with nx := N, ct := N, bk := D.nx } σ2 H2) := by
  refine ⟨fun i m σ H => m = xs.length - i ∧ i ≤ xs.length ∧ Pv i σ H, ⟨xs.length, by simp, Nat.zero_le _, h0⟩, ?_⟩
  rintro i m σ H ⟨rfl, hi, p⟩
  have q := hl i σ H hi p
  by_cases hlt : i < xs.length
  · refine .inr ⟨⟨xs, xs[i], q, by simp [hlt]⟩, Pv (i + 1), fun σ' H' p' => ⟨xs.length - (i + 1), by omega, rfl, hlt, p'⟩, fun v H' y => ?_⟩
    obtain ⟨b, x, rfl, hn, y, rfl⟩ := y
    exact hs i x b σ _ (y xs q) p hn
  · have e : i = xs.length := by omega
    subst e
    exact .inl ⟨⟨xs, q, Nat.le_refl _⟩, hd σ H p⟩
def Plain : V → Prop
  | .non => True | .bl _ => True | .int _ => True | .str _ => True | .ref _ => True
  | _ => False
theorem eqAt_rel {A : Around} {s : Shared} {x : V} {u v : Value} (hp : Plain x) (r1 : RelV x u) (r2 : RelV x v) : SeqAt.EqAt A s u v true := by
  cases x with
  | non => cases r1; cases r2; exact SeqAt.EqAt.same _
  | bl b => cases r1; cases r2; exact SeqAt.EqAt.same _
  | int i =>
    obtain ⟨t, rfl⟩ := r1
    obtain ⟨t', rfl⟩ := r2
    have := SeqAt.EqAt.int_int (A := A) (s := s) i t i t'
    rwa [beq_self_eq_true] at this
  | str z =>
    obtain ⟨t, rfl⟩ := r1
    obtain ⟨t', rfl⟩ := r2
    have := SeqAt.EqAt.str_str (A := A) (s := s) z t z t'
    rwa [beq_self_eq_true] at this
  | ref a => cases r1; cases r2; exact SeqAt.EqAt.same _
  | _ => exact hp.elim
section
variable {X : Cx}
end
end L2
namespace L2
open PySem PySem.Spec PyProof.Rows
def mroX (K : PySem.W.Frag) (C G : Addr) : Bool := (PySem.W.clsIn K C).any (fun cd => cd.mro == (.ref C :: .ref G :: bmVE)) && PySem.W.typeIn K (.ref C) == some (.type "type")
def mroG (K : PySem.W.Frag) (G : Addr) : Bool := (PySem.W.clsIn K G).any (fun cd => cd.mro == (.ref G :: bmVE)) && PySem.W.typeIn K (.ref G) == some (.type "type")
structure MroX (K : PySem.W.Frag) (C G : Addr) : Prop where
  cd : ∃ cd, PySem.W.clsIn K C = some cd ∧ cd.mro = .ref C :: .ref G :: bmVE
  ty : PySem.W.typeIn K (.ref C) = some (.type "type")
theorem mroX_of {K : PySem.W.Frag} {C G : Addr} (h : mroX K C G = true) : MroX K C G := by
  unfold mroX at h
  rw [Bool.and_eq_true] at h
  obtain ⟨cd, e1, e2⟩ := PySem.W.any_some h.1
  exact ⟨⟨cd, e1, beq_iff_eq.mp e2⟩, beq_iff_eq.mp h.2⟩
structure XTop (K : PySem.W.Frag) (mg : Str → Option Value) (x n : Str) (st : Stmt) (C G : Addr) : Prop where
  df : XDef K mg x n C
  mro : MroX K C G
  ex : ∃ (f : Addr) (fd : FuncData), PySem.W.findIn K (.ref C) "__init__" = some (some (.ref f)) ∧ PySem.W.isFn K (.ref f) = true ∧ Fun K "__init__" (x ++ ".__init__") st f fd ∧ Binds K fd ["self", n] []
theorem xtop_of {K : PySem.W.Frag} {mg : Str → Option Value} {h : Heap} {x n : Str} {st : Stmt} {C G f : Addr} {oc : Value} {od an : Option Addr} {osl : Array (Option Value)} {kV doc pm cdv ct : Value} (X : K.In h) (N : h.Ns mainGlobals mg)
    (hb : ∀ (kV doc pm : Value) (an : Option Addr) (cdv ct : Value) (us : List Value), us.length = 2 → bindArgs (PySem.W.fnOf "__init__" (x ++ ".__init__") (defArgs st) (defBody st) (defScope st) .none kV doc pm an cdv ct) ⟨us, []⟩ = pure ((["self", n] : List Str).zip us))
    (a : PySem.W.nsIn K mainGlobals x = some (some (.ref C))) (kp : PySem.W.keepIn K (.ref C) = true) (i : PySem.W.findIn K (.ref C) "__init__" = some (some (.ref f)))
    (l : K.lookup f = some ⟨oc, od, .func (PySem.W.fnOf "__init__" (x ++ ".__init__") (defArgs st) (defBody st) (defScope st) .none kV doc pm an cdv ct), osl⟩) (c : PySem.W.codeIn K cdv (x ++ ".__init__") = true) (k : PySem.W.keepIn K (.ref f) = true)
    (fn : PySem.W.isFn K (.ref f) = true) (o : xOk K C n = true) (m : mroX K C G = true) : XTop (KOf X) mg x n st C G :=
  ⟨⟨PySem.W.mg_of X N a, xOk_of o, kp⟩, mroX_of m, f, _, i, fn, fun_mk l c k, .all fun us hl => hb kV doc pm an cdv ct us hl⟩
theorem gbase_of {K : PySem.W.Frag} {mg : Str → Option Value} {h : Heap} {x : Str} {G : Addr} (X : K.In h) (N : h.Ns mainGlobals mg) (a : PySem.W.nsIn K mainGlobals x = some (some (.ref G))) (b : PySem.W.readsIn K G (.type "type") = true)
    (c : PySem.W.findCls K (.ref G) (.type "type") "__init__" = some (.val (.builtin "ValueError.__init__"))) (d : PySem.W.specialIn K (.ref G) "__getattribute__" = some (some (.builtin "type.__getattribute__"))) : GBase (KOf X) mg x G :=
  ⟨PySem.W.mg_of X N a, b, c, d⟩
end L2
namespace L2
open PySem PySem.Spec PyProof.Rows
structure Gone (l : List Env) (e : Addr) (oe : Obj) (vs : Array Value) (h h' : Heap) : Prop where
  keep : ∀ b o, b ≠ e → b ∉ frs l → h.get? b = some o → h'.get? b = some o
  slot : ∀ b o, b ∈ frs l → h.get? b = some o → ∃ sl, h'.get? b = some { o with slots := sl }
  head : ∃ (T : Addr) (oT : Obj) (ts : Array Value), h'.get? e = some { oe with data := .fields (vs.setIfInBounds 1 (.ref T)) } ∧ h.objs.size ≤ T ∧ T ≠ e ∧ h'.get? T = some oT ∧ oT.data = .fields ts ∧ ts[3]? = some .none
section
variable {M : Model} {A : Around} {E : Value → Shared → Prop} {s : Shared} {base : Heap} {env : Env} {outer : List Env} {L e : Addr} {oe : Obj} {vs : Array Value} {Q : Unit → Shared → Prop}
theorem enter {hd : Value} {b : Bool} (hfr : A.frames = some (env :: outer)) (hl : s.heap.FunFrames base (env :: outer)) (hf : env.frame = some L) (he : s.heap.get? e = some oe) (hdt : oe.data = .fields vs) (h1 : 1 < vs.size)
    (hq : ∀ h', Gone (env :: outer) e oe vs s.heap h' → Q () { s with heap := h' }) :
    wpAny M A (do
      let fr ← frameOf env
      let pl ← entryPlaceOf L b
      let r ← EntryCells.newEntry hd fr .none (rawInt L) .none pl
      setField (.ref e) 1 r) (fun _ s' => wpAny M A (setFlight (.ref e) none) Q E s') E s := by
  have ne : e ∉ frs (env :: outer) := fun z => by
    obtain ⟨_, o, ho, nf⟩ := hl.mem z
    rw [he] at ho
    cases ho
    exact nf vs hdt
  refine wpAny_bind (wpAny_frameOf_fun hfr hl hf fun h1' sl1 => wpAny_bind (wpAny_entryPlaceOf fun pl hpl => ?_))
  have e1 : h1'.get? e = some oe := (sl1.2.1 e ne).trans he
  unfold EntryCells.newEntry newFields
  refine wpAny_bind (wpAny_newObj_type ?_ (hpl.sizeOk5 _ _ _ _ _))
  generalize hob : ({ cls := .type "traceback", dict := none, data := .fields ([hd, .ref L, .none, rawInt L, .none] ++ (if pl.isEmpty then List.replicate 6 Value.none else pl)).toArray } : Obj) = ob
  have hobd : ob.data = .fields ([hd, .ref L, .none, rawInt L, .none] ++ (if pl.isEmpty then List.replicate 6 Value.none else pl)).toArray := by rw [← hob]
  have e2 : (h1'.push ob).get? e = some oe := Heap.get?_push_of_some _ e1
  have eT : h1'.objs.size ≠ e := Nat.ne_of_gt (Heap.lt_size e1)
  have t2 : (h1'.push ob).get? h1'.objs.size = some ob := Heap.get?_push_size h1' (by rw [← hob]; rfl)
  refine wpAny_setField e2 hdt h1 ?_
  dsimp only
  have d3 := Obj.data_mapFields hdt (·.setIfInBounds 1 (Value.ref h1'.objs.size))
  have e3 := Heap.get?_update_self (Obj.mapFields (·.setIfInBounds 1 (Value.ref h1'.objs.size))) e2 (Obj.isFreed_of_fields d3)
  have t3 := (Heap.get?_update_other (h1'.push ob) (Obj.mapFields (·.setIfInBounds 1 (Value.ref h1'.objs.size))) (Ne.symm eT)).trans t2
  have o3 : ∀ c, c ≠ e → c ≠ h1'.objs.size → ∀ o, h1'.get? c = some o → ((h1'.push ob).update e (Obj.mapFields (·.setIfInBounds 1 (Value.ref h1'.objs.size)))).get? c = some o := fun c n1 n2 o q =>
    (Heap.get?_update_other _ _ (Ne.symm n1)).trans (Heap.get?_push_of_some _ q)
  generalize (h1'.push ob).update e (Obj.mapFields (·.setIfInBounds 1 (Value.ref h1'.objs.size))) = h3 at e3 t3 o3
  unfold setFlight
  refine wpAny_bind (wpAny_field e3 d3 (x := .ref h1'.objs.size) (by rw [Array.getElem?_setIfInBounds_self_of_lt h1]) ?_)
  rw [if_pos (by simp)]
  have sz : 3 < ([hd, .ref L, .none, rawInt L, .none] ++ (if pl.isEmpty then List.replicate 6 Value.none else pl)).toArray.size := by
    rw [List.size_toArray, List.length_append]; simp; omega
  refine wpAny_setField t3 hobd sz (hq _ ?_)
  have d4 := Obj.data_mapFields hobd (·.setIfInBounds 3 ((none : Option Addr).elim Value.none fun f => rawInt f))
  have t4 := Heap.get?_update_self (Obj.mapFields (·.setIfInBounds 3 ((none : Option Addr).elim Value.none fun f => rawInt f))) t3 (Obj.isFreed_of_fields d4)
  have o4 : ∀ c, c ≠ h1'.objs.size → (h3.update h1'.objs.size (Obj.mapFields (·.setIfInBounds 3 ((none : Option Addr).elim Value.none fun f => rawInt f)))).get? c = h3.get? c := fun c n => Heap.get?_update_other _ _ (Ne.symm n)
  have lt1 : ∀ c o, s.heap.get? c = some o → c ≠ h1'.objs.size := fun c o q => by
    rw [sl1.1]; exact Nat.ne_of_lt (Heap.lt_size q)
  refine ⟨fun c o n1 n2 q => ?_, fun c o n1 q => ?_, h1'.objs.size, _, _, ?_, ?_, eT, t4, d4, ?_⟩
  · rw [o4 c (lt1 c o q)]
    exact o3 c n1 (lt1 c o q) o ((sl1.2.1 c n2).trans q)
  · obtain ⟨sl, z⟩ := sl1.2.2 c o q
    refine ⟨sl, ?_⟩
    rw [o4 c (lt1 c o q)]
    exact o3 c (fun z2 => ne (z2 ▸ n1)) (lt1 c o q) _ z
  · rw [o4 e (Ne.symm eT), e3]
    obtain ⟨a1, a2, a3, a4⟩ := oe
    dsimp only at hdt
    subst hdt
    rfl
  · rw [sl1.1]
    exact Nat.le_refl _
  · rw [Array.getElem?_setIfInBounds_self_of_lt sz]
    rfl
theorem leave_new (hfr : A.frames = some (env :: outer)) (hl : s.heap.FunFrames base (env :: outer)) (hf : env.frame = some L) (he : s.heap.get? e = some oe) (hdt : oe.data = .fields vs) (h1 : vs[1]? = some .none)
    (hq : ∀ h', Gone (env :: outer) e oe vs s.heap h' → Q () { s with heap := h' }) : wpAny M A (leaving env (.ref e)) Q E s := by
  unfold leaving noteFrame
  rw [hf]
  refine wpAny_bind (wpAny_bind (wpAny_field he hdt h1 ?_))
  rw [if_neg (by decide)]
  exact enter hfr hl hf he hdt (Array.getElem?_eq_some_iff.mp h1).1 hq
theorem note_on {T : Addr} {oT : Obj} {ts : Array Value} (hfr : A.frames = some (env :: outer)) (hl : s.heap.FunFrames base (env :: outer)) (hf : env.frame = some L) (he : s.heap.get? e = some oe) (hdt : oe.data = .fields vs) (h1 : vs[1]? = some (.ref T))
    (hT : s.heap.get? T = some oT) (hTe : T ≠ e) (hdT : oT.data = .fields ts) (h3 : ts[3]? = some .none)
    (hq : ∀ h1 h', (∀ b o, b ≠ T → s.heap.get? b = some o → h1.get? b = some o) → h1.objs.size = s.heap.objs.size → (∃ o, h1.get? T = some o) → Gone (env :: outer) e oe vs h1 h' → Q () { s with heap := h' }) : wpAny M A (noteFrame (.ref e) env) (fun _ s' => wpAny M A (setFlight (.ref e) none) Q E s') E s := by
  unfold noteFrame
  rw [hf]
  refine wpAny_bind (wpAny_field he hdt h1 ?_)
  rw [if_pos (by simp)]
  refine wpAny_bind (wpAny_field hT hdT h3 ?_)
  rw [if_neg (by simp [rawInt])]
  refine wpAny_bind (wpAny_setField hT hdT (Array.getElem?_eq_some_iff.mp h3).1 ?_)
  have ot : ∀ c, c ≠ T → (s.heap.update T (Obj.mapFields (·.setIfInBounds 3 Value.none))).get? c = s.heap.get? c := fun c n => Heap.get?_update_other _ _ (Ne.symm n)
  have nf : ∀ c o, s.heap.get? c = some o → (∀ xs, o.data ≠ .fields xs) → c ≠ T := fun c o q z n => by
    rw [n, hT] at q; cases q; exact z ts hdT
  have tT := Heap.get?_update_self (Obj.mapFields (·.setIfInBounds 3 Value.none)) hT (Obj.isFreed_of_fields (Obj.data_mapFields hdT _))
  exact enter (s := { s with heap := s.heap.update T (Obj.mapFields (·.setIfInBounds 3 Value.none)) }) hfr (hl.of_keeps fun c o q z => ⟨o, (ot c (nf c o q z)).trans q, rfl⟩) hf ((ot e (Ne.symm hTe)).trans he) hdt (Array.getElem?_eq_some_iff.mp h1).1
    fun h' g => hq _ h' (fun c o n q => (ot c n).trans q) (Heap.size_after_update ..) ⟨_, tT⟩ g
theorem leave_on {T : Addr} {oT : Obj} {ts : Array Value} (hfr : A.frames = some (env :: outer)) (hl : s.heap.FunFrames base (env :: outer)) (hf : env.frame = some L) (he : s.heap.get? e = some oe) (hdt : oe.data = .fields vs) (h1 : vs[1]? = some (.ref T))
    (hT : s.heap.get? T = some oT) (hTe : T ≠ e) (hdT : oT.data = .fields ts) (h3 : ts[3]? = some .none)
    (hq : ∀ h1 h', (∀ b o, b ≠ T → s.heap.get? b = some o → h1.get? b = some o) → h1.objs.size = s.heap.objs.size → (∃ o, h1.get? T = some o) → Gone (env :: outer) e oe vs h1 h' → Q () { s with heap := h' }) : wpAny M A (leaving env (.ref e)) Q E s := by
  unfold leaving
  exact wpAny_bind (note_on hfr hl hf he hdt h1 hT hTe hdT h3 hq)
end
end L2
namespace L2
open PySem PySem.Spec PyProof.Rows
def Head (g : Heap) (H : Hp) (h : Heap) (a : Addr) : Prop := ∃ (C : Addr) (d : Option Addr) (t T : Addr) (rest : List Value) (sl : Array (Option Value)) (oT : Obj) (ts : Array Value),
  H a = some (excR a C d) ∧ h.get? a = some { cls := .ref C, dict := d, data := .fields (.ref t :: .ref T :: rest).toArray, slots := sl } ∧ T ≠ a ∧ h.get? T = some oT ∧ oT.data = .fields ts ∧ ts[3]? = some .none ∧ H T = none ∧ g.objs.size ≤ T
def CXR (P : Program) (w : World) : CXT := fun outer H s E e s' => ∃ (a : Addr) (H' : Hp), e = .ref a ∧ s'.os = s.os ∧ AllBare s'.gens ∧ Un (frs outer) [] H H' s.heap s'.heap ∧ HOk P w H' s'.heap ∧ Head s.heap H' s'.heap a ∧ E (.ref a) none H'
section
variable {X : Cx} {pins : List (Addr × Obj)} {σ : St} {H : Hp} {s : Shared}
theorem gone_un {H₀ H' H'' : Hp} {g h1 h' : Heap} {a : Addr} {oe : Obj} {vs : Array Value} {env : Env} {outer : List Env} (u : Un (frs outer) [] H₀ H' g h1) (gn : Gone (env :: outer) a oe vs h1 h')
    (ha : ∀ b o, g.get? b = some o → H₀ b = none → b ≠ a) (hL : ∀ b o, g.get? b = some o → b ∈ frs (env :: outer) → b ∈ frs outer)
    (hs : ∀ b o, H' b = some o → b ≠ a → H'' b = some o) (hn : ∀ b, H' b = none → H'' b = none) (hx : H' a = H'' a ∨ (∃ φ, H' a = some (.ext φ))) : Un (frs outer) [] H₀ H'' g h' := by
  have nx : ∀ b o, H' b = some o → (∀ φ, o ≠ .ext φ) → H'' b = some o := fun b o q z => by
    by_cases hb : b = a
    · subst hb
      rcases hx with e | ⟨φ, e⟩
      · rw [← e]; exact q
      · rw [e] at q; cases q; exact absurd rfl (z φ)
    · exact hs b o q hb
  have thr : ∀ b o, h1.get? b = some o → ∃ o', h'.get? b = some o' := fun b o q => by
    by_cases hb : b = a
    · subst hb
      obtain ⟨T, oT, ts, e1, _⟩ := gn.head
      exact ⟨_, e1⟩
    · by_cases hf : b ∈ frs (env :: outer)
      · obtain ⟨sl, z⟩ := gn.slot b o hf q
        exact ⟨_, z⟩
      · exact ⟨o, gn.keep b o hb hf q⟩
  refine ⟨fun b o q n hf he => ?_, fun b o q n hf he => ?_, fun b o q n he => hn b (u.free b o q n he), fun b o q he => ?_, fun b xs q => nx b _ (u.tups b xs q) (fun φ z => by cases z), fun b o x q => nx b _ (u.frzs b o x q) (fun φ z => by cases z), fun b ps q => ?_⟩
  · exact gn.keep b o (ha b o q n) (fun z => hf (hL b o q z)) (u.keep b o q n hf he)
  · obtain ⟨sl, z⟩ := u.slot b o q n hf he
    have hf' : b ∈ frs (env :: outer) := by
      unfold frs at hf ⊢
      rw [List.filterMap_cons]
      split
      · exact hf
      · exact List.mem_cons_of_mem _ hf
    obtain ⟨sl', z'⟩ := gn.slot b _ hf' z
    exact ⟨sl', z'⟩
  · obtain ⟨o', z⟩ := u.there b o q he
    exact thr b o' z
  · obtain ⟨m, z⟩ := u.tbls b ps q
    exact ⟨m, nx b _ z (fun φ z => by cases z)⟩
end
end L2
namespace L2
open PySem PySem.Spec PyProof.Rows
section
variable {P : Program} {w : World} {K : PySem.W.Frag} {mg : Str → Option Value} {base : Heap} {N : List Str} {qual : Str} {scope : Scope} {f : Addr} {cdv : Value} {A : Around} {outer : List Env} {s₀ : Shared} {H₀ : Hp} {E : XK} {pins : List (Addr × Obj)} {σ : St} {H : Hp} {s : Shared}
theorem raise_xe {a C : Addr} {d : Option Addr} (I : Inv (cxOf (CXR P w) P w K mg base N qual scope f cdv A outer s₀ H₀ E) pins σ H s) (ea : H a = some (excO a C d)) (hE : E (.ref a) none (upd H a (excR a C d))) :
    (cxOf (CXR P w) P w K mg base N qual scope f cdv A outer s₀ H₀ E).xe (.ref a) s := by
  obtain ⟨t0, rest, sl, q⟩ := excO_is (I.hok a _ ea)
  have hst : s.heap.FunFrames base (envOfC qual scope s₀.heap.objs.size f cdv :: outer) := I.stack
  have hfr : (A.deeper (envOfC qual scope s₀.heap.objs.size f cdv)).frames = some (envOfC qual scope s₀.heap.objs.size f cdv :: outer) := I.ok.frames
  have sf : ∀ b ∈ frs (envOfC qual scope s₀.heap.objs.size f cdv :: outer), H b = none := I.stkFree
  have hu : Un (frs outer) [] H₀ H s₀.heap s.heap := I.base
  refine leave_new (s := s) (L := s₀.heap.objs.size) hfr hst rfl q rfl rfl fun h' gn => ?_
  obtain ⟨T, oT, ts, g1, g2, g3, g4, g5, g6⟩ := id gn.head
  have hT : H T = none := I.hok.fresh g2
  refine ⟨a, upd H a (excR a C d), rfl, I.os, I.bare, gone_un hu gn (fun b o z n => ?_) (fun b o z m => ?_) (fun b o z n => by rw [upd_ne n]; exact z) (fun b z => by rw [upd_ne (fun n => by rw [n, ea] at z; cases z)]; exact z) (.inr ⟨_, ea⟩), fun b o z => ?_, ?_, hE⟩
  · intro n
    have := hu.free b o z ‹_› (by simp)
    rw [n, ea] at this; cases this
  · rcases List.mem_cons.mp (show b ∈ s₀.heap.objs.size :: frs outer from m) with n | n
    · rw [n] at z; exact absurd (Heap.lt_size z) (Nat.lt_irrefl _)
    · exact n
  · by_cases hb : b = a
    · subst hb
      rw [upd_same] at z
      cases z
      exact excR_ok ⟨t0, _, sl, g1⟩
    · rw [upd_ne hb] at z
      refine (I.hok b o z).stay (fun c v hc r => gn.keep c v (fun n => ?_) (fun n => ?_) r) (fun c r => by rw [upd_ne (fun n => by rw [n, ea] at r; cases r)]; exact r) fun c xs r => by rw [upd_ne (fun n => by rw [n, ea] at r; cases r)]; exact r
      · rcases hc with m | m
        · exact hb (m ▸ n)
        · rw [n, ea] at m; cases m
      · have := sf c n
        rcases hc with m | m
        · rw [m, z] at this; cases this
        · rw [m] at this; cases this
  · refine ⟨C, d, t0, T, rest, sl, oT, ts, upd_same, g1, g3, g4, g5, g6, by rw [upd_ne g3]; exact hT, Nat.le_trans I.sz g2⟩
theorem pass_xe {e : Value} {s' : Shared} {E1 : XK} (I : Inv (cxOf (CXR P w) P w K mg base N qual scope f cdv A outer s₀ H₀ E) pins σ H s)
    (hc : CXR P w (envOfC qual scope s₀.heap.objs.size f cdv :: outer) H s E1 e s') (hE : ∀ a H', E1 (.ref a) none H' → E (.ref a) none H') :
    (cxOf (CXR P w) P w K mg base N qual scope f cdv A outer s₀ H₀ E).xe e s' := by
  obtain ⟨a, H', rfl, ho, hg, u, hok, ⟨C, d, t, T, rest, sl, oT, ts, ha, q, hTa, hT, hdT, h3, hnT, hgT⟩, e1⟩ := hc
  have I' : Inv (cxOf (CXR P w) P w K mg base N qual scope f cdv A outer s₀ H₀ E) pins σ H' s' := I.call' (ch := []) ho u hok hg (fun _ z => nomatch z)
  have hst : s'.heap.FunFrames base (envOfC qual scope s₀.heap.objs.size f cdv :: outer) := I'.stack
  have hfr : (A.deeper (envOfC qual scope s₀.heap.objs.size f cdv)).frames = some (envOfC qual scope s₀.heap.objs.size f cdv :: outer) := I'.ok.frames
  have sf : ∀ b ∈ frs (envOfC qual scope s₀.heap.objs.size f cdv :: outer), H' b = none := I'.stkFree
  have hu : Un (frs outer) [] H₀ H' s₀.heap s'.heap := I'.base
  have hu0 : Un (frs outer) [] H₀ H s₀.heap s.heap := I.base
  have s0T : s₀.heap.get? T = none := Heap.get?_none_of_le (Nat.le_trans I.sz hgT)
  refine leave_on (s := s') (L := s₀.heap.objs.size) hfr hst rfl q rfl rfl hT hTa hdT h3 fun h1 h' k1 sz1 hT1 gn => ?_
  obtain ⟨T2, oT2, ts2, g1, g2, g3, g4, g5, g6⟩ := id gn.head
  have k1' : ∀ b o, s₀.heap.get? b = some o → b ≠ T := fun b o z n => by rw [n, s0T] at z; cases z
  have u1 : Un (frs outer) [] H₀ H' s₀.heap h1 := by
    refine ⟨fun b o z n m1 m2 => k1 b o (k1' b o z) (hu.keep b o z n m1 m2), fun b o z n m1 m2 => ?_, fun b o z n m => hu.free b o z n m, fun b o z m => ?_, hu.tups, hu.frzs, hu.tbls⟩
    · obtain ⟨sl, y⟩ := hu.slot b o z n m1 m2
      exact ⟨sl, k1 b _ (k1' b o z) y⟩
    · obtain ⟨o', y⟩ := hu.there b o z m
      exact ⟨o', k1 b _ (k1' b o z) y⟩
  have hok1 : HOk P w H' h1 := fun b o z => (hok b o z).stay (fun c v hc r => k1 c v (fun n => by
    rcases hc with m | m
    · rw [← m, n, hnT] at z; cases z
    · rw [n, hnT] at m; cases m) r) (fun _ z => z) fun _ _ z => z
  refine ⟨a, H', rfl, I'.os, I'.bare, gone_un u1 gn (fun b o z n m => ?_) (fun b o z m => ?_) (fun b o z _ => z) (fun b z => z) (.inl rfl), fun b o z => ?_, ?_, hE a H' e1⟩
  · have := hu.free b o z n (by simp)
    rw [m, ha] at this; cases this
  · rcases List.mem_cons.mp (show b ∈ s₀.heap.objs.size :: frs outer from m) with n | n
    · rw [n] at z; exact absurd (Heap.lt_size z) (Nat.lt_irrefl _)
    · exact n
  · by_cases hb : b = a
    · subst hb
      rw [ha] at z
      cases z
      exact excR_ok ⟨t, _, sl, g1⟩
    · refine (hok1 b o z).stay (fun c v hc r => gn.keep c v (fun n => ?_) (fun n => ?_) r) (fun _ r => r) fun _ _ r => r
      · rcases hc with m | m
        · exact hb (m ▸ n)
        · rw [n, ha] at m; cases m
      · have := sf c n
        rcases hc with m | m
        · rw [m, z] at this; cases this
        · rw [m] at this; cases this
  · refine ⟨C, d, t, T2, rest, sl, oT2, ts2, ha, g1, g3, g4, g5, g6, hok1.fresh g2, Nat.le_trans (by rw [sz1]; exact I'.sz) g2⟩
end
end L2
namespace L2
open PySem PySem.Spec PyProof.Rows
section
variable {M : Model} {A : Around} {E : Value → Shared → Prop} {s : Shared} {env : Env}
theorem raise_made {x : Sem Value} {Q : Flow → Shared → Prop} (hh : A.handled = none)
    (h : wpAny M A x (fun v s₁ => ∃ (e C : Addr) (bm : List Value) (d : Option Addr) (t : Addr) (rest : List Value) (sl : Array (Option Value)), v = .ref e ∧ ExcCls s₁.heap C bm ∧ s₁.heap.get? e = some { cls := .ref C, dict := d, data := .fields (.ref t :: .none :: rest).toArray, slots := sl } ∧ E (.ref e) s₁) E s) :
    wpAny M A (raiseStmt env (some x) none) Q E s := by
  unfold raiseStmt
  refine wpAny_bind (wpAny_mono h (fun v s₁ h₁ => ?_) fun _ _ x => x)
  obtain ⟨e, C, bm, d, t, rest, sl, rfl, ⟨⟨N, nm, qn, bs, sn, sub, ab, col, dd, k0, k1, k2, k3, k5, hC⟩, T⟩, he, hE⟩ := h₁
  have hcB : (Value.ref C :: bm).contains (.type "BaseException") = true := by rw [List.contains_cons, T.hasType PySem.F.excBase_ValueError.hasBase, Bool.or_true]
  obtain ⟨hp, g, dr, tk, os⟩ := s₁
  repeat (first | with_reducible refine wpAny_loadPart_at he ?_ | with_reducible refine wpAny_loadPart_at hC ?_ | (with_reducible refine wpAny_isSubtype_exc hC ?_; rw [hcB]) | wp_step)
  exact wpAny_raiseNew_none hh hE
end
def Raises (X : Cx) (E : XK) : Prop := ∀ (pins : List (Addr × Obj)) (σ : St) (H : Hp) (s : Shared) (a C : Addr) (d : Option Addr), Inv X pins σ H s → H a = some (excO a C d) → E (.ref a) none (upd H a (excR a C d)) → X.xe (.ref a) s
def tRaise (K : PySem.W.Frag) (E : XK) (te : TE) : TS := fun _ σ H => te σ H fun x H1 => ∃ a C d, x = .ref a ∧ H1 a = some (excO a C d) ∧ excMk K C = true ∧ E (.ref a) none (upd H1 a (excR a C d))
section
variable {X : Cx} {E : XK} {e : Expr} {te : TE} {pos : Pos}
theorem ps_raise (hr : Raises X E) (hh : X.A.handled = none) (he : PE X e te) : PS X (.Raise (some e) none pos) (tRaise X.K E te) := by
  intro pins s σ H D I h
  rw [arm_exec_Raise]
  refine wpAny_bind (wpAny_standAt (raise_made hh (wpAny_bind (wpAny_mono (he pins s σ H _ I h) (fun v s1 ⟨x, H1, I1, rx, a, C, d, ex, ea, hm, q⟩ => wpAny_bind (wpAny_standAt (wpAny_pure ?_))) fun _ _ z => z))))
  subst ex
  obtain rfl : v = Value.ref a := rx
  obtain ⟨t0, rest, sl, q1⟩ := excO_is (I1.hok a _ ea)
  obtain ⟨bm, c, _, _⟩ := excMk_of I1.kIn hm
  exact ⟨a, C, bm, d, t0, rest, sl, rfl, c, q1, hr pins σ H1 s1 a C d I1 ea q⟩
end
structure FnAtX (P : Program) (w : World) (K : PySem.W.Frag) (mg : Str → Option Value) (base : Heap) (x : Str) (k : Nat) (ps : List Str) (sp : Sp) : Prop where
  ex : ∃ (f : Addr) (fd : FuncData), FnOk P w K mg base (CXR P w) k f fd ps sp ∧ mg x = some (.ref f) ∧ PySem.W.keepIn K (.ref f) = true ∧ Binds K fd ps []
section
variable {P : Program} {w : World} {K : PySem.W.Frag} {mg : Str → Option Value} {base : Heap}
theorem Fun.okX {x qual : Str} {st : Stmt} {f : Addr} {fd : FuncData} {N ps : List Str} {k : Nat} {sp : Sp} (F : Fun K x qual st f fd) (S : FnScope N ps (defScope st)) (len : ∀ vs H Q E, sp vs H Q E → vs.length = ps.length)
    (hbody : ∀ (cdv : Value) (A : Around) (outer : List Env) (s : Shared) (H : Hp) (vs : List V) (Q : VK) (E : XK), Room k (A.deeper (envOfC qual (defScope st) s.heap.objs.size f cdv)) → sp vs H Q E →
      ∃ t, PSs (cxOf (CXR P w) P w K mg base N qual (defScope st) f cdv A outer s H E) (defBody st) t ∧ t { nx := fun _ H' => Q .non H', rt := Q } (start N vs) H) : FnOk P w K mg base (CXR P w) (k + 1) f fd ps sp := by
  obtain ⟨oc, od, kV, doc, pm, an, cdv, ct, osl, rfl, lk, hcd⟩ := F.ex
  exact fn_of lk hcd S len fun A outer s H vs Q E hr hsp => hbody cdv A outer s H vs Q E hr hsp
variable {N : List Str} {qual : Str} {scope : Scope} {f : Addr} {cdv : Value} {A : Around} {outer : List Env} {s₀ : Shared} {H₀ : Hp} {E E1 : XK}
theorem raises_def : Raises (cxOf (CXR P w) P w K mg base N qual scope f cdv A outer s₀ H₀ E) E := fun pins σ H s a C d I ea q => raise_xe I ea q
theorem passes_def (h : ∀ a H', E1 (.ref a) none H' → E (.ref a) none H') : Passes (CXR P w) (cxOf (CXR P w) P w K mg base N qual scope f cdv A outer s₀ H₀ E) E1 := fun pins σ H s e s' I hc => pass_xe I hc h
end
end L2
namespace L2
open PySem PySem.Spec PyProof.Rows
def Raw (X : Cx) (pins : List (Addr × Obj)) (H : Hp) (h : Heap) (a C : Addr) (d : Option Addr) : Prop := ∃ (t T : Addr) (rest : List Value) (sl : Array (Option Value)) (oT : Obj) (ts : Array Value),
  H a = some (excR a C d) ∧ h.get? a = some { cls := .ref C, dict := d, data := .fields (.ref t :: .ref T :: rest).toArray, slots := sl } ∧ T ≠ a ∧ h.get? T = some oT ∧ oT.data = .fields ts ∧ 3 < ts.size ∧ H T = none ∧
  X.s₀.heap.objs.size ≤ T ∧ T ≠ X.env.locals ∧ (∀ x c, X.env.cells.lookup x = some c → c ≠ T) ∧ ∀ p ∈ X.pn ++ pins, p.1 ≠ T
section
variable {X : Cx} {pins : List (Addr × Obj)} {σ : St} {H : Hp} {s s' : Shared} {M : Model} {A : Around} {E : Value → Shared → Prop}
theorem caught {a : Addr} {E1 : XK} {R : Unit → Shared → Prop} (I : Inv X pins σ H s) (hsk : X.stack = X.env :: X.outer) (hfe : X.env.frame = some X.env.locals) (hA : X.A.frames = some X.stack) (hc : CXR X.prog X.w X.stack H s E1 (.ref a) s')
    (hR : ∀ (s3 : Shared) (H' : Hp) (C : Addr) (d : Option Addr), Inv X pins σ H' s3 → Raw X pins H' s3.heap a C d → E1 (.ref a) none H' → R () s3) :
    wpAny M X.A (noteFrame (.ref a) X.env) (fun _ s2 => wpAny M X.A (setFlight (.ref a) none) R E s2) E s' := by
  obtain ⟨a', H', ea', ho, hg, u, hok, ⟨C, d, t, T, rest, sl, oT, ts, ha, q, hTa, hT, hdT, h3, hnT, hgT⟩, e1⟩ := hc
  cases ea'
  have I' : Inv X pins σ H' s' := I.call' (ch := []) ho u hok hg (fun _ z => nomatch z)
  have hst : s'.heap.FunFrames X.base (X.env :: X.outer) := by rw [← hsk]; exact I'.stack
  have sf : ∀ b ∈ frs (X.env :: X.outer), H' b = none := by rw [← hsk]; exact I'.stkFree
  have hfr : ∀ b, b ∈ frs (X.env :: X.outer) ↔ b = X.env.locals ∨ b ∈ X.fs := fun b => by
    show b ∈ List.filterMap (·.frame) (X.env :: X.outer) ↔ _
    rw [List.filterMap_cons, hfe]
    exact List.mem_cons
  have ltT : ∀ b o, s.heap.get? b = some o → b ≠ T := fun b o z n => by
    rw [n] at z; exact absurd (Nat.lt_of_lt_of_le (Heap.lt_size z) hgT) (Nat.lt_irrefl _)
  refine note_on (s := s') (L := X.env.locals) (hA.trans (by rw [hsk])) hst hfe q rfl rfl hT hTa hdT h3 fun h1 h' k1 sz1 hT1 gn => ?_
  obtain ⟨T2, oT2, ts2, g1, g2, g3, g4, g5, g6⟩ := id gn.head
  rw [sz1] at g2
  have hok1 : HOk X.prog X.w H' h1 := fun b o z => (hok b o z).stay (fun c v hc r => k1 c v (fun n => by
    rcases hc with m | m
    · rw [← m, n, hnT] at z; cases z
    · rw [n, hnT] at m; cases m) r) (fun _ z => z) fun _ _ z => z
  have na : ∀ b, H' b = none → b ≠ a := fun b z n => by rw [n, ha] at z; cases z
  have inv2 : Inv X pins σ H' { s' with heap := h', gens := s'.gens, drawn := s'.drawn, toks := s'.toks } := by
    refine I'.step (h' := h') (t' := s'.toks) (g' := s'.gens) (d' := s'.drawn) (ch := [T]) (fun b hb => ?_) (fun b o n1 n2 n3 z n => ?_) (fun b o n1 n2 n3 z n => ?_) (fun b o _ _ n => n) (fun b o n3 z => ?_) (fun _ _ z => z) (fun _ _ _ z => z) (fun b ps z => ⟨#[], by rw [z]; simp⟩) (fun m hm => ?_) (fun b o z => ?_) I'.bare
    · have e : b = T := by simpa using hb
      subst e
      refine ⟨.inr (Nat.le_trans I.sz hgT), fun n => ?_, fun x c z n => ?_, fun p hp n => ?_⟩
      · have := I.lt
        rw [← n] at this
        exact absurd (Nat.lt_of_lt_of_le this hgT) (Nat.lt_irrefl _)
      · obtain ⟨v, o, z2, _⟩ := I.cell x c z
        exact ltT c o z2 n
      · exact ltT p.1 p.2 (I.pin p hp).1 n
    · exact gn.keep b o (na b n) (fun m => ((hfr b).mp m).elim n1 n2) (k1 b o (fun e => n3 (by simp [e])) z)
    · obtain ⟨sl, y⟩ := gn.slot b o ((hfr b).mpr (.inr n2)) (k1 b o (fun e => n3 (by simp [e])) z)
      exact ⟨sl, y⟩
    · have z1 := k1 b o (fun e => n3 (by simp [e])) z
      by_cases hb : b = a
      · subst hb; exact ⟨_, g1⟩
      · by_cases hf : b ∈ frs (X.env :: X.outer)
        · obtain ⟨sl, y⟩ := gn.slot b o hf z1
          exact ⟨_, y⟩
        · exact ⟨o, gn.keep b o hb hf z1⟩
    · obtain ⟨o, es, ep, z, r⟩ := hm
      have nT : X.env.locals ≠ T := by
        intro n
        have := I.lt
        rw [n] at this
        exact absurd (Nat.lt_of_lt_of_le this hgT) (Nat.lt_irrefl _)
      obtain ⟨sl, y⟩ := gn.slot _ o ((hfr _).mpr (.inl rfl)) (k1 _ o nT z)
      exact ⟨_, es, ep, y, r⟩
    · by_cases hb : b = a
      · subst hb
        rw [ha] at z
        cases z
        exact excR_ok ⟨t, _, sl, g1⟩
      · refine (hok1 b o z).stay (fun c v hc r => gn.keep c v (fun n => ?_) (fun n => ?_) r) (fun _ r => r) fun _ _ r => r
        · rcases hc with m | m
          · exact hb (m ▸ n)
          · rw [n, ha] at m; cases m
        · have := sf c n
          rcases hc with m | m
          · rw [m, z] at this; cases this
          · rw [m] at this; cases this
  refine hR _ H' C d inv2 ⟨t, T2, rest, sl, oT2, ts2, ha, g1, g3, g4, g5, (Array.getElem?_eq_some_iff.mp g6).1, hok.fresh g2, Nat.le_trans I'.sz g2, fun n => ?_, fun x c z n => ?_, fun p hp n => ?_⟩ e1
  · have := I'.lt
    rw [← n] at this
    exact absurd (Nat.lt_of_lt_of_le this g2) (Nat.lt_irrefl _)
  · obtain ⟨v, o, z2, _⟩ := I'.cell x c z
    rw [n] at z2
    exact absurd (Nat.lt_of_lt_of_le (Heap.lt_size z2) g2) (Nat.lt_irrefl _)
  · have z2 := (I'.pin p hp).1
    rw [n] at z2
    exact absurd (Nat.lt_of_lt_of_le (Heap.lt_size z2) g2) (Nat.lt_irrefl _)
theorem flight_ends {a C : Addr} {d : Option Addr} {R : Unit → Shared → Prop} (I : Inv X pins σ H s) (r : Raw X pins H s.heap a C d) (hR : ∀ s3, Inv X pins σ H s3 → R () s3) : wpAny M A (setFlight (.ref a) none) R E s := by
  obtain ⟨t, T, rest, sl, oT, ts, ha, q, hTa, hT, hdT, h3, hnT, f1, f2, f3, f4⟩ := r
  unfold setFlight
  refine wpAny_bind (wpAny_field q rfl (x := .ref T) rfl ?_)
  rw [if_pos (by simp)]
  refine wpAny_setField hT hdT h3 (hR _ ?_)
  exact I.turned (t' := s.toks) (fun b o hb e => (Heap.get?_update_other _ _ (Ne.symm hb)).trans e) hnT f2 (.inr f1) f3 f4
end
end L2
namespace L2
open PySem PySem.Spec PyProof.Rows
abbrev Cx.hdl (X : Cx) (a : Addr) : Cx := { X with A := X.A.mark (some (.ref a)), calm := false, xe := fun _ _ => False }
abbrev Cx.tr (X : Cx) (pn : List (Addr × Obj)) (E' : Value → Shared → Prop) : Cx := { X with pn := pn, xe := E' }
section
variable {X : Cx} {pins : List (Addr × Obj)} {σ : St} {H : Hp} {s : Shared} {a : Addr} {E' : Value → Shared → Prop}
theorem Inv.hdl (I : Inv X pins σ H s) : Inv (X.hdl a) pins σ H s :=
  ⟨⟨I.ok.mod, I.ok.kind, I.ok.glob, I.ok.blt, I.ok.above, I.ok.inj, I.ok.has, I.ok.cab, (fun z => nomatch z), I.ok.frames, I.ok.stk, I.ok.exf, I.ok.bs, I.ok.bsz, I.ok.noex, I.ok.exfs, I.ok.funs, I.ok.frf⟩, I.os, I.bare, I.base, I.loc, I.cell, I.free, I.freeC, I.pin, I.hok, I.len⟩
theorem Inv.back (ok : X.Ok) (I : Inv (X.hdl a) pins σ H s) : Inv X pins σ H s := ⟨ok, I.os, I.bare, I.base, I.loc, I.cell, I.free, I.freeC, I.pin, I.hok, I.len⟩
theorem Inv.tr (I : Inv X pins σ H s) : Inv (X.tr (X.pn ++ pins) E') [] σ H s :=
  ⟨⟨I.ok.mod, I.ok.kind, I.ok.glob, I.ok.blt, I.ok.above, I.ok.inj, I.ok.has, I.ok.cab, I.ok.hd, I.ok.frames, I.ok.stk, I.ok.exf, I.ok.bs, I.ok.bsz, I.ok.noex, I.ok.exfs, I.ok.funs, I.ok.frf⟩, I.os, I.bare, I.base, I.loc, I.cell, I.free, I.freeC, (fun p hp => I.pin p (by simpa using hp)), I.hok, I.len⟩
theorem Inv.untr {pins' : List (Addr × Obj)} (ok : X.Ok) (I : Inv (X.tr (X.pn ++ pins) E') pins' σ H s) : Inv X pins σ H s :=
  ⟨ok, I.os, I.bare, I.base, I.loc, I.cell, I.free, I.freeC, (fun p hp => I.pin p (List.mem_append_left _ hp)), I.hok, I.len⟩
theorem x_match {M : Model} {A : Around} {E : Value → Shared → Prop} {Q : Bool → Shared → Prop} {K : PySem.W.Frag} {C D : Addr} {oe : Obj} {b : Bool} (KX : K.In s.heap) (he : s.heap.get? a = some oe) (hcl : oe.cls = .ref C) (hD : PySem.W.typeIn K (.ref D) = some (.type "type")) (hc : (PySem.W.clsIn K D).isSome = true)
    (hB : PySem.W.mroIn K D (.type "BaseException") = some true) (hm : PySem.W.mroIn K C (.ref D) = some b) (hq : Q b s) : wpAny M A (excMatches (.ref a) (.ref D)) Q E s := by
  obtain ⟨hp, g, d, t, os⟩ := s
  have l1 : PySem.W.Looks M hp (typeOf (.ref D)) (.type "type") := PySem.W.looks_typeIn KX hD
  have l2 : PySem.W.Looks M hp (isSubtype (.type "type") (.type "tuple")) false := PySem.W.Looks.of_pure tc_notTuple
  have l3 : PySem.W.Looks M hp (isSubtype (.ref D) (.type "BaseException")) true := PySem.W.looks_mroIn KX hB
  have l4 : PySem.W.Looks M hp (typeOf (.ref a)) (.ref C) := by rw [← hcl]; exact (PySem.W.Looks.ld he).andThen .now
  have l5 : PySem.W.Looks M hp (isSubtype (.ref C) (.ref D)) b := PySem.W.looks_mroIn KX hm
  have l6 : PySem.W.Looks M hp (isType (.ref D)) true := by
    obtain ⟨cd, z⟩ := Option.isSome_iff_exists.mp hc
    unfold PySem.W.clsIn at z
    split at z
    · rename_i c' d' cd' sl' ho
      intro A' Q' E' s' k q
      unfold isType loadHead
      exact wpAny_bind (wpAny_loadPart (k _ _ (KX _ _ ho)) (wpAny_pure q))
    · cases z
  have l7 : PySem.W.Looks M hp (isInstance (.ref D) (.type "tuple")) false := l1.andThen l2
  have l8 : PySem.W.Looks M hp (isExcClass (.ref D)) true := l6.andThen (by rw [if_pos rfl]; exact l3)
  unfold excMatches
  refine wpAny_bind (l7.at ?_)
  rw [if_neg (by decide)]
  refine wpAny_bind (wpAny_pure (wpAny_bind ?_))
  rw [List.forIn_cons]
  refine wpAny_bind (wpAny_bind (l8.at ?_))
  simp only [Bool.not_true, Bool.false_eq_true, if_false]
  refine wpAny_pure ?_
  dsimp only
  rw [List.forIn_nil]
  refine wpAny_pure (wpAny_bind (l4.at (wpAny_bind ?_)))
  rw [List.forIn_cons]
  refine wpAny_bind (wpAny_bind (l5.at ?_))
  cases b with
  | true =>
    rw [if_pos rfl]
    exact wpAny_pure (wpAny_pure (wpAny_pure hq))
  | false =>
    rw [if_neg (by decide)]
    refine wpAny_pure ?_
    dsimp only
    rw [List.forIn_nil]
    exact wpAny_pure (wpAny_pure hq)
theorem name_goes {M : Model} {A : Around} {E : Value → Shared → Prop} {i : Nat} {x : Str} {pos : Pos} {Q : Unit → Shared → Prop} (I : Inv X pins σ H s) (hN : X.N.Nodup) (hi : X.N[i]? = some x) (hx : X.env.scope.names.lookup x = some .local)
    (h : ∀ s', Inv X pins (σ.set i none) H s' → Q () s') : wpAny M A (do bindName X.env x .none; unbindBehindTheSuite X.env x pos) Q E s := by
  have hiσ : i < σ.length := by rw [I.len]; exact (List.getElem?_eq_some_iff.mp hi).1
  refine wpAny_bind (wpAny_bindName (store_ok (v := .non) I hN hi (.inl hx) rfl (fun s1 I1 => ?_) (.inr hx)))
  obtain ⟨m, hn, hl⟩ := id I1.loc
  have hk : X.env.kindOf x = some .local := hx
  have hcls : (X.env.scope.kind == .class || (X.env.scope.kind == .module && X.env.locals != X.env.globals)) = false := by rw [I.ok.kind]; rfl
  obtain ⟨u, ru, lu⟩ := hl i x .non hi (by rw [List.getElem?_set_self hiσ]) (.inl hx)
  have mx : m x = some u := by
    rcases lu with ⟨_, z⟩ | ⟨z, _⟩
    · exact z
    · rw [hk] at z; rcases z with z | z <;> cases z
  unfold unbindBehindTheSuite
  refine wpAny_onRaise ?_
  unfold unbindName
  refine wpAny_bind (wpAny_point (wpAny_bind ?_))
  unfold deleteName
  simp only [hk, hcls]
  rw [if_neg (by decide)]
  refine wpAny_bind (wpAny_nsDel_keeps hn fun h2 v hn2 hs2 => ?_)
  simp only [mx, Option.isSome_some, Bool.not_true, Bool.false_eq_true, if_false]
  refine wpAny_pure (wpAny_point (h _ ?_))
  have oL : ∃ o, s1.heap.get? X.env.locals = some o := by obtain ⟨o, _, _, z, _⟩ := hn; exact ⟨o, z⟩
  have cne := I1.cne
  refine ⟨I1.ok, I1.os, I1.bare, ⟨fun b o e n hb hx => ?_, fun b o e n hb hx => ?_, I1.base.free, fun b o e hx => ?_, I1.base.tups, I1.base.frzs, I1.base.tbls⟩, ⟨_, hn2, fun j y v' e1 e2 e3 => ?_⟩, fun y c e => ?_, I1.free, I1.freeC, fun p hp => ?_, fun b ob e => ?_, by rw [List.length_set]; exact I.len⟩
  · exact (hs2.2 b (Nat.ne_of_lt (Nat.lt_of_lt_of_le (Heap.lt_size e) I1.ok.above))).trans (I1.base.keep b o e n hb hx)
  · obtain ⟨sl, e1⟩ := I1.base.slot b o e n hb hx
    exact ⟨sl, (hs2.2 b (Nat.ne_of_lt (Nat.lt_of_lt_of_le (Heap.lt_size e) I1.ok.above))).trans e1⟩
  · obtain ⟨o', e1⟩ := I1.base.there b o e hx
    exact ⟨o', (hs2.2 b (Nat.ne_of_lt (Nat.lt_of_lt_of_le (Heap.lt_size e) I1.ok.above))).trans e1⟩
  · have hj : j ≠ i := fun z => by
      subst z
      rw [List.getElem?_set_self hiσ] at e2
      cases e2
    rw [List.getElem?_set_ne (Ne.symm hj)] at e2
    obtain ⟨u', r', q⟩ := hl j y v' e1 (by rw [List.getElem?_set_ne (Ne.symm hj)]; exact e2) e3
    refine ⟨u', r', ?_⟩
    rcases q with ⟨k, e⟩ | ⟨k, c, e, z⟩
    · refine .inl ⟨k, ?_⟩
      have : y ≠ x := fun e => hj (nodup_ix hN e1 (e ▸ hi))
      simp [this, e]
    · exact .inr ⟨k, c, e, z.sameBut hs2 (cne y c e)⟩
  · obtain ⟨w', z⟩ := I1.cell y c e
    exact ⟨w', z.sameBut hs2 (cne y c e)⟩
  · obtain ⟨e, n, ne, nf, d⟩ := I1.pin p hp
    exact ⟨(hs2.2 p.1 ne).trans e, n, ne, nf, d⟩
  · refine (I1.hok b ob e).stay (fun c w' hc q => (hs2.2 c ?_).trans q) (fun _ q => q) fun _ _ q => q
    rintro rfl
    rcases hc with rfl | hc
    · rw [I1.free] at e; cases e
    · rw [I1.free] at hc; cases hc
end
end L2
namespace L2
open PySem PySem.Spec PyProof.Rows
def Catches (X : Cx) (RX : St → Addr → Hp → Prop) : Prop := ∀ (pins : List (Addr × Obj)) (σ : St) (H : Hp) (s : Shared) (e : Value) (s' : Shared), Inv X pins σ H s → CXR X.prog X.w X.stack H s (fun e _ H' => ∃ a, e = .ref a ∧ RX σ a H') e s' → X.xe e s'
def tCallT (RX : St → Addr → Hp → Prop) (sp : Sp) (t : TA) : TE := fun σ H Q => t σ H fun vs H1 => sp vs H1 Q (fun e _ H' => ∃ a, e = .ref a ∧ RX σ a H')
def tTry (K : PySem.W.Frag) (i : Nat) (D : Addr) (tb : (St → Addr → Hp → Prop) → TS) (th : TS) : TS := fun Dn σ H =>
  tb (fun σ' a H' => ∃ C d, H' a = some (excR a C d) ∧ PySem.W.mroIn K C (.ref D) = some true ∧
    th { nx := fun σ2 H2 => Dn.nx (σ2.set i none) H2, rt := Dn.rt, bk := fun σ2 H2 => Dn.bk (σ2.set i none) H2, ct := fun σ2 H2 => Dn.ct (σ2.set i none) H2 } (σ'.set i (some (.ref a))) H') Dn σ H
section
variable {X : Cx}
theorem ps_try {body suite : List Stmt} {b₀ : Stmt} {n x : Str} {D : Addr} {pos hpos tpos : Pos} {i : Nat} {tb : (St → Addr → Hp → Prop) → TS} {th : TS} (hsk : X.stack = X.env :: X.outer) (hfe : X.env.frame = some X.env.locals)
    (hN : X.N.Nodup) (hi : X.N[i]? = some n) (hl : X.env.scope.names.lookup n = some .local) (hg : Gl X x) (hm : X.mg x = some (.ref D))
    (hD : PySem.W.typeIn X.K (.ref D) = some (.type "type")) (hcl : (PySem.W.clsIn X.K D).isSome = true) (hB : PySem.W.mroIn X.K D (.type "BaseException") = some true)
    (hb : ∀ RX pn E', Catches (X.tr pn E') RX → PSs (X.tr pn E') body (tb RX)) (hs : ∀ a, PSs (X.hdl a) (b₀ :: suite) th) (hdb : (x == ("__debug__" : Str)) = false := by decide) :
    PS X (.Try body [.ExceptHandler (some (.Name x tpos)) (some n) (b₀ :: suite) hpos] [] [] pos) (tTry X.K i D tb th) := by
  intro pins s σ H Dn I h
  refine wpAny_Try_except ?_
  refine wpAny_mono (hb _ (X.pn ++ pins) (fun e s₁ => wpAny (model X.prog X.w) X.A (noteFrame e X.env) (fun _ s₂ => wpAny (model X.prog X.w) X.A (setFlight e none) (fun _ s₃ => wpAny (model X.prog X.w) X.A (handleBy e X.env [.ExceptHandler (some (.Name x tpos)) (some n) (b₀ :: suite) hpos]) (SP X pins Dn) X.xe s₃) X.xe s₂) X.xe s₁) ?_ [] s σ H Dn I.tr h) (fun f s1 hf => ?_) fun _ _ z => z
  · intro pins' σ1 H1 s1 e s' I1 hc
    have J1 : Inv X pins σ1 H1 s1 := I1.untr I.ok
    obtain ⟨a, _, rfl, _⟩ := id hc
    refine caught J1 hsk hfe I.ok.frames hc fun s3 H3 C d I3 raw hE => ?_
    obtain ⟨a', ea, C', d', hC', hmr, hth⟩ := hE
    cases ea
    have raw' := raw
    obtain ⟨t, T, rest, sl, oT, ts, ha, q, _⟩ := raw'
    have eC : C' = C := by
      have z1 := excR_is (P := X.prog) (w := X.w) (I3.hok a _ hC')
      obtain ⟨_, _, _, z⟩ := z1
      rw [q] at z
      cases z
      rfl
    subst eC
    refine wpAny_handleBy_cons (codeAny_handlers_test (ld_glob (X := X.hdl a) I3.hdl hg hm ?_ hdb)) (by intro q; cases q)
    refine x_match I3.kIn q rfl hD hcl hB hmr ?_
    refine codeAny_handlers_suite_as ?_
    refine flight_ends I3 raw fun s4 I4 => ?_
    refine store_ok (X := X.hdl a) (v := .ref a) I4.hdl hN hi (.inl hl) rfl (fun s5 I5 => ?_) (.inr hl)
    refine wpAny_mono (hs a pins s5 _ H3 _ I5 hth) (fun f s6 hf => ?_) fun _ _ z => z.elim
    cases f with
    | next =>
      obtain ⟨σ2, H2, I6, q6⟩ := hf
      exact name_goes (I6.back I.ok) hN hi hl fun s7 I7 => ⟨_, H2, I7, q6⟩
    | brk =>
      obtain ⟨σ2, H2, I6, q6⟩ := hf
      exact name_goes (I6.back I.ok) hN hi hl fun s7 I7 => ⟨_, H2, I7, q6⟩
    | cont =>
      obtain ⟨σ2, H2, I6, q6⟩ := hf
      exact name_goes (I6.back I.ok) hN hi hl fun s7 I7 => ⟨_, H2, I7, q6⟩
    | ret u =>
      obtain ⟨v, σ2, H2, I6, rv, q6⟩ := hf
      exact name_goes (I6.back I.ok) hN hi hl fun s7 I7 => ⟨v, _, H2, I7, rv, q6⟩
  · cases f with
    | next =>
      obtain ⟨σ2, H2, I6, q6⟩ := hf
      exact wpAny_execs_nil ⟨σ2, H2, I6.untr I.ok, q6⟩
    | brk =>
      obtain ⟨σ2, H2, I6, q6⟩ := hf
      exact ⟨σ2, H2, I6.untr I.ok, q6⟩
    | cont =>
      obtain ⟨σ2, H2, I6, q6⟩ := hf
      exact ⟨σ2, H2, I6.untr I.ok, q6⟩
    | ret u =>
      obtain ⟨v, σ2, H2, I6, rv, q6⟩ := hf
      exact ⟨v, σ2, H2, I6.untr I.ok, rv, q6⟩
end
end L2
namespace L2
open PySem PySem.Spec PyProof.Rows
section
variable {X : Cx}
end
theorem pe_xfldK {X : Cx} (K : PySem.W.Frag) {e : Expr} {f : Str} {pos : Pos} {ta : TE} (he : PE X e ta) (hK : X.K = K := by rfl) (hb : attributeBase e f X.env (eval e X.env) = eval e X.env := by rfl) : PE X (.Attribute e f pos) (tXFld K ta f) := by
  subst hK
  exact pe_xfld he hb
def rIsX (K : PySem.W.Frag) : List V → Hp → VK → Prop := fun xs H Q => ∃ e C dx fs n c cv b, xs = [.ref e, c] ∧ clsV c = some cv ∧ Exc H e C dx fs ∧ XOk K C n ∧ PySem.W.kitOne K (.ref C) cv = some b ∧ Q (.bl b) H
def rIsXT (K : PySem.W.Frag) : List V → Hp → VK → Prop := fun xs H Q => ∃ (e C dx : Addr) (fs : List (Str × V)) (n : Str) (tp : Addr) (cs : List Addr) (b : Bool), xs = [.ref e, .ref tp] ∧ SqT K H tp (cs.map V.ref) ∧ Exc H e C dx fs ∧ XOk K C n ∧ PySem.W.kitAny K (.ref C) (cs.map Value.ref) = some b ∧ Q (.bl b) H
theorem call_isXK {X : Cx} (K : PySem.W.Frag) (hK : X.K = K := by rfl) : CallR X (.builtin "isinstance") (rIsX K) := by
  subst hK
  exact call_isX
end L2
namespace L2
open PySem PySem.Spec PyProof.Rows
section
variable {X : Cx}
def findZ (z y : Str) : Int := match Builtin.Str.occurrences z y 0 z.length 1 with | i :: _ => (i : Int) | [] => -1
theorem op_neNil (hu : X.A.units < cLine) : OpR X (compareOp .NotEq) (fun x y H Q => ∃ a b xs, x = .ref a ∧ y = .ref b ∧ SqL X.K H a xs ∧ SqL X.K H b [] ∧ Q (.bl (!xs.isEmpty)) H) := by
  intro pins s σ H x y v u Q I rx ry h
  obtain ⟨a, b, xs, rfl, rfl, ha, hb, q⟩ := h
  cases rx
  cases ry
  obtain ⟨its, rv, pl, _⟩ := I.list ha
  obtain ⟨its', rv', pl', _⟩ := I.list hb
  have l1 := rv.length
  cases rv'
  cases xs with
  | nil =>
    cases rv
    exact SeqAt.RcNeAt.lists (e := fun _ => true) pl.isList pl'.isList rfl hu (fun j h1 h2 => absurd h2 (by simp)) _ _ _ _ (fin_bl I q (by simp))
  | cons x r =>
    exact SeqAt.RcNeAt.lists_lengths pl.isList pl'.isList (by simp at l1; simp [← l1]) hu _ _ _ _ (fin_bl I q (by simp))
end
end L2
namespace L2
open PySem PySem.Spec PyProof.Rows
section
variable {X : Cx}
def rSlS : V → Option Int → Option Int → Hp → VK → Prop := fun x lo hi H Q => ∃ z, x = .str z ∧ z.length ≤ sizeLine ∧ Q (.str (Txt.slice z lo hi)) H
theorem sl_str : SlR X rSlS := by
  intro pins s σ H x v vl vu lo hi sl Q I rx hs pl pu h
  obtain ⟨z, rfl, hz, q⟩ := h
  obtain ⟨t, rfl⟩ := rx
  refine ⟨"str", _, PySem.F.slot_str_getitem.lookup, typeIs_str _ _ _, ?_⟩
  have fin : ∀ t' k, EP X pins σ Q (.str (Txt.slice z lo hi) t') { s with toks := k } := fun t' k => ⟨.str _, H, I.tok _, ⟨_, rfl⟩, q⟩
  cases pl with
  | none => cases pu with
    | none => exact wpAny_getItem_str_slice (l := none) (u := none) (st := none) hs rfl (post_val_or_str ⟨Nat.le_trans (Txt.slice_le z _ _) hz, fin⟩)
    | int j uj => exact wpAny_getItem_str_slice (l := none) (u := some (j, uj)) (st := none) hs rfl (post_val_or_str ⟨Nat.le_trans (Txt.slice_le z _ _) hz, fin⟩)
  | int i ui => cases pu with
    | none => exact wpAny_getItem_str_slice (l := some (i, ui)) (u := none) (st := none) hs rfl (post_val_or_str ⟨Nat.le_trans (Txt.slice_le z _ _) hz, fin⟩)
    | int j uj => exact wpAny_getItem_str_slice (l := some (i, ui)) (u := some (j, uj)) (st := none) hs rfl (post_val_or_str ⟨Nat.le_trans (Txt.slice_le z _ _) hz, fin⟩)
def tF3 (ta tb : TE) (y : Str) : TE := fun σ H Q => ta σ H fun x H1 => ∃ z, x = .str z ∧ z.length + y.length ≤ sizeLine ∧ tb σ H1 fun v H2 => ∃ n, v = .int n ∧ n.natAbs.log2 < 1920 ∧ (z ++ y ++ Str.ofString (toString n)).length ≤ sizeLine ∧ Q (.str (z ++ y ++ Str.ofString (toString n))) H2
end
end L2
namespace L2
open PySem PySem.Spec PyProof.Rows
theorem pass_none {X : Cx} : Passes (CXR X.prog X.w) X E0 := fun pins σ H s e s' I hc => by
  obtain ⟨_, _, _, _, _, _, _, _, z⟩ := hc
  exact z.elim
section
variable {X : Cx} {pins : List (Addr × Obj)} {σ : St} {H : Hp} {s : Shared}
inductive Like (K : PySem.W.Frag) (H : Hp) : V → V → Prop
  | same {x : V} : Plain x → Like K H x x
  | lists {a b : Addr} {xs : List V} : SqL K H a xs → SqL K H b xs → (∀ v ∈ xs, Plain v) → Like K H (.ref a) (.ref b)
theorem Like.eqAt {A : Around} (I : Inv X pins σ H s) (hu : A.units < cLine) {x y : V} {u v : Value} (l : Like X.K H x y) (rx : RelV x u) (ry : RelV y v) : SeqAt.EqAt A s u v true := by
  cases l with
  | same hp => exact eqAt_rel hp rx ry
  | @lists a b xs ha hb hp =>
    cases rx
    cases ry
    by_cases hab : a = b
    · subst hab; exact SeqAt.EqAt.same _
    · obtain ⟨its, rv, pl, _⟩ := I.list ha
      obtain ⟨its', rv', pl', _⟩ := I.list hb
      have l1 := rv.length
      have l2 := rv'.length
      have := SeqAt.RcAt.lists (A := A) (e := fun _ => true) pl.isList pl'.isList (by simp; omega) hu (fun j h1 h2 => by
        have hj : j < xs.length := by simp at h1; omega
        have e1 : xs[j]? = some xs[j] := by simp [hj]
        obtain ⟨u1, q1, r1⟩ := rv.get e1
        obtain ⟨u2, q2, r2⟩ := rv'.get e1
        have z1 : its.toArray[j] = u1 := by simpa [List.getElem?_eq_some_iff] using (List.getElem?_eq_some_iff.mp q1).2
        have z2 : its'.toArray[j] = u2 := by simpa [List.getElem?_eq_some_iff] using (List.getElem?_eq_some_iff.mp q2).2
        rw [z1, z2]
        exact eqAt_rel (hp _ (List.getElem_mem hj)) r1 r2)
      refine SeqAt.EqAt.of_refs hab ?_
      have e : ((List.range its.toArray.size).all fun _ => true) = true := List.all_eq_true.mpr fun _ _ => rfl
      rw [e] at this
      exact this
def rTupLike (K : PySem.W.Frag) (b : Bool) : R2 := fun x y H Q => ∃ p q xs ys, x = .ref p ∧ y = .ref q ∧ SqT K H p xs ∧ SqT K H q ys ∧ Paired (Like K H) xs ys ∧ Q (.bl b) H
theorem paired_get {α β : Type} {F : α → β → Prop} : ∀ {l : List α} {m : List β} {i : Nat} {x : α}, Paired F l m → l[i]? = some x → ∃ y, m[i]? = some y ∧ F x y
  | _, _, i, _, .nil, e => by simp at e
  | _, _, 0, _, .cons r _, e => by simp at e; subst e; exact ⟨_, rfl, r⟩
  | _, _, i + 1, x, .cons _ t, e => by
    obtain ⟨y, h1, h2⟩ := paired_get (i := i) (x := x) t (by simpa using e)
    exact ⟨y, by simpa using h1, h2⟩
theorem in1_room {A : Around} (hu : A.units + 2 < cLine) : A.in1.units < cLine := Nat.lt_of_le_of_lt (show A.in1.units ≤ A.units + 1 by first | exact Nat.le_refl _ | exact Nat.le_succ _ | simp [Around.in1]) (by omega)
theorem tup_like {A : Around} (I : Inv X pins σ H s) (hu : A.units < cLine) {its its' : List Value} {xs ys : List V} (rv : Vals xs its) (rv' : Vals ys its') (pr : Paired (Like X.K H) xs ys) :
    ∀ j (h1 : j < its.toArray.size) (h2 : j < its'.toArray.size), SeqAt.EqAt A s its.toArray[j] its'.toArray[j] true := fun j h1 h2 => by
  have l1 := rv.length
  have hj : j < xs.length := by simp at h1; omega
  have e1 : xs[j]? = some xs[j] := by simp [hj]
  obtain ⟨y, e2, lk⟩ := paired_get pr e1
  obtain ⟨u1, q1, r1⟩ := rv.get e1
  obtain ⟨u2, q2, r2⟩ := rv'.get e2
  have z1 : its.toArray[j] = u1 := by simpa [List.getElem?_eq_some_iff] using (List.getElem?_eq_some_iff.mp q1).2
  have z2 : its'.toArray[j] = u2 := by simpa [List.getElem?_eq_some_iff] using (List.getElem?_eq_some_iff.mp q2).2
  rw [z1, z2]
  exact lk.eqAt I hu r1 r2
theorem op_neTupLike (hu : X.A.units + 2 < cLine) : OpR X (compareOp .NotEq) (rTupLike X.K false) := by
  intro pins s σ H x y v u Q I rx ry h
  obtain ⟨p, q, xs, ys, rfl, rfl, hp, hq, pr, h⟩ := h
  cases rx
  cases ry
  obtain ⟨its, rv, pl, _⟩ := I.tuple hp
  obtain ⟨its', rv', pl', _⟩ := I.tuple hq
  have l1 := rv.length
  have l2 := rv'.length
  have l3 := Paired.length pr
  exact SeqAt.RcNeAt.tuples (e := fun _ => true) pl pl' (by omega) (tup_like I (in1_room hu) rv rv' pr) _ _ _ _ (fin_bl I h (by simp; omega))
theorem op_eqTupLike (hu : X.A.units + 2 < cLine) : OpR X (compareOp .Eq) (rTupLike X.K true) := by
  intro pins s σ H x y v u Q I rx ry h
  obtain ⟨p, q, xs, ys, rfl, rfl, hp, hq, pr, h⟩ := h
  cases rx
  cases ry
  obtain ⟨its, rv, pl, _⟩ := I.tuple hp
  obtain ⟨its', rv', pl', _⟩ := I.tuple hq
  have l1 := rv.length
  have l2 := rv'.length
  have l3 := Paired.length pr
  exact SeqAt.RcAt.tuples (e := fun _ => true) pl pl' (by omega) (tup_like I (in1_room hu) rv rv' pr) _ _ _ _ (fin_bl I h (by simp; omega))
end
end L2
namespace L2
open PySem PySem.Spec PyProof.Rows
structure New0 (K : PySem.W.Frag) (mg : Str → Option Value) (x : Str) (C : Addr) : Prop where
  mg : mg x = some (.ref C)
  makes : PySem.W.makesIn K C = true
  init : PySem.W.findIn K (.ref C) "__init__" = some (some (.builtin "object.__init__"))
  kp : PySem.W.keepIn K (.ref C) = true
def tNew0 (C : Addr) : TE := fun _ H Q => ∀ x dx, H x = none → H dx = none → dx ≠ x → Q (.ref x) (upd (upd H dx (.own x)) x (.ins C dx []))
section
variable {X : Cx} {C : Addr} {x m : Str} {p pos apos : Pos} {o : Expr} {ta : TE}
structure MethD (P : Program) (w : World) (K : PySem.W.Frag) (mg : Str → Option Value) (base : Heap) (CX : CXT) (k : Nat) (C : Addr) (m : Str) (ps : List Str) (sp : Sp) : Prop where
  out : ∃ (f : Addr) (fd : FuncData), Cls K C ∧ Meth K C m f ∧ FnOk P w K mg base CX k f fd ps sp ∧ Binds K fd ps []
def tMethD (D : Addr → Sp → Prop) (m : Str) (E : XK) (ta : TE) : TE := fun σ H Q => ta σ H fun x H1 => ∃ a C dx fs sp, x = .ref a ∧ H1 a = some (.ins C dx fs) ∧ fs.lookup m = none ∧ D C sp ∧ sp [x] H1 Q E
theorem pe_methD {CX : CXT} {k : Nat} {D : Addr → Sp → Prop} {E : XK} {pl : Sem Bool} (he : PE X o ta) (hD : ∀ C sp, D C sp → MethD X.prog X.w X.K X.mg X.base CX k C m ["self"] sp) (hr : Room k X.A) (hx : Passes CX X E)
    (ht : eval (.Call (.Attribute o m apos) [] [] pos) X.env = (do
      let ov ← eval o X.env
      standAt apos.atName
      let (f, first) ← holding [ov] (getMethod ov m pl)
      callWith pos f first (backTo pos (starEach [] X.env)) (backToKw pos (keywordEach [] X.env))) := by rfl) :
    PE X (.Call (.Attribute o m apos) [] [] pos) (tMethD D m E ta) := by
  intro pins s σ H Q I h
  refine PySem.W.methodCall_KW (pl := pl) (thn (he pins s σ H _ I h) fun u s1 ⟨x, H1, I1, rx, a, C, dx, fs, sp, ex, ea, l, d, q⟩ => ?_) ht
  subst ex
  obtain rfl : u = Value.ref a := rx
  obtain ⟨f, fd, c, hm, F, hb⟩ := (hD C sp d).out
  refine getmeth_ok I1 ea c hm l ?_
  exact PySem.W.callWith_K0 (first := [.ref a]) I1.kIn hm.kp (run_fn (us := [.ref a]) (vs := [.ref a]) F hr hb .nil hx I1 (.cons rfl .nil) q)
def rRange1 : List V → Hp → VK → Prop := fun xs H Q => ∃ j : Int, xs = [.int j] ∧ ∀ p, H p = none → Q (.ref p) (upd H p (.rng 0 j))
def rListRng : List V → Hp → VK → Prop := fun xs H Q => ∃ (p : Addr) (n : Nat), xs = [.ref p] ∧ H p = some (.rng 0 n) ∧ n ≤ 1000 ∧ ∀ l, H l = none → Q (.ref l) (upd H l (.lst ((List.range n).map fun (i : Nat) => V.int i)))
def upZ (x : Str) : Str := ⟨PySem.placed x fun _ c => Unicode.upperOf c⟩
end
end L2
namespace PySem
namespace SeqAt
open AutoSeq1 (wpAny_loadPart')
open PySem.Spec PyProof.Rows
end SeqAt
end PySem
namespace L2
open PySem PySem.Spec PyProof.Rows
inductive RdX (K : PySem.W.Frag) (H : Hp) : V → PyData → Prop
  | non : RdX K H .non .none
  | bl (b : Bool) : RdX K H (.bl b) (.bool b)
  | int (i : Int) : RdX K H (.int i) (.int i)
  | str (z : Str) : RdX K H (.str z) (.str z)
  | lst1 {a : Addr} {z : Str} : SqL K H a [.str z] → RdX K H (.ref a) (.list [.str z])
  | tup1 {a : Addr} {z : Str} : SqT K H a [.str z] → RdX K H (.ref a) (.tuple [.str z])
  | dk {a : Addr} {k : Str} {i : Int} : H a = some (.dK [(.inr k, .int i)]) → RdX K H (.ref a) (.dict [(.str k, .int i)])
section
variable {X : Cx}
end
end L2
namespace L2
open PySem PySem.Spec PyProof.Rows
structure FunD (K : PySem.W.Frag) (x qual : Str) (st : Stmt) (f : Addr) (fd : FuncData) : Prop where
  ex : ∃ (oc : Value) (od : Option Addr) (dV kV doc pm : Value) (an : Option Addr) (cdv ct : Value) (osl : Array (Option Value)),
    fd = PySem.W.fnOf x qual (defArgs st) (defBody st) (defScope st) dV kV doc pm an cdv ct ∧ K.lookup f = some ⟨oc, od, .func fd, osl⟩ ∧ PySem.W.codeIn K cdv qual = true
  kp : PySem.W.keepIn K (.ref f) = true
section
variable {P : Program} {w : World} {K : PySem.W.Frag} {mg : Str → Option Value} {base : Heap}
theorem FunD.ok {x qual : Str} {st : Stmt} {f : Addr} {fd : FuncData} {N ps : List Str} {k : Nat} {sp : Sp} (F : FunD K x qual st f fd) (S : FnScope N ps (defScope st)) (len : ∀ vs H Q E, sp vs H Q E → vs.length = ps.length)
    (hbody : ∀ (cdv : Value) (A : Around) (outer : List Env) (s : Shared) (H : Hp) (vs : List V) (Q : VK) (E : XK), Room k (A.deeper (envOfC qual (defScope st) s.heap.objs.size f cdv)) → sp vs H Q E →
      ∃ t, PSs (cxOf CX0 P w K mg base N qual (defScope st) f cdv A outer s H E).nox (defBody st) t ∧ t { nx := fun _ H' => Q .non H', rt := Q } (start N vs) H) : FnOk P w K mg base CX0 (k + 1) f fd ps sp := by
  obtain ⟨oc, od, dV, kV, doc, pm, an, cdv, ct, osl, rfl, lk, hcd⟩ := F.ex
  refine fn_of lk hcd S len fun A outer s H vs Q E hr hsp => ?_
  obtain ⟨t, h, q⟩ := hbody cdv A outer s H vs Q E hr hsp
  exact ⟨t, h.nox, q⟩
structure CFn (P : Program) (w : World) (K : PySem.W.Frag) (mg : Str → Option Value) (base : Heap) (x m : Str) (k : Nat) (ps : List Str) (sp : Sp) : Prop where
  ex : ∃ (G f : Addr) (fd : FuncData), FnOk P w K mg base CX0 k f fd ps sp ∧ mg x = some (.ref G) ∧ PySem.W.readsIn K G (.type "type") = true ∧ PySem.W.findCls K (.ref G) (.type "type") m = some (.val (.ref f)) ∧
    PySem.W.specialIn K (.ref G) "__getattribute__" = some (some (.builtin "type.__getattribute__")) ∧ PySem.W.keepIn K (.ref f) = true ∧ Binds K fd ps []
end
section
variable {X : Cx}
theorem pe_cfn {x m : Str} {k j : Nat} {ps : List Str} {sp : Sp} {p apos pos : Pos} {a : Expr} {es : List Expr} {t : TA} {pl : Sem Bool} (F : CFn X.prog X.w X.K X.mg X.base x m k ps sp) (hr : Room j X.A) (hj : k ≤ j) (hg : Gl X x) (ha : PA X (a :: es) t) (hdb : (x == ("__debug__" : Str)) = false := by decide)
    (hst : starEach (a :: es) X.env = (false, eval a X.env) :: starEach es X.env := by rfl) (hpl : (backTo pos (starEach es X.env)).any (·.1) = false := by rfl)
    (ht : eval (.Call (.Attribute (.Name x p) m apos) (a :: es) [] pos) X.env = (do
      let ov ← eval (.Name x p) X.env
      standAt apos.atName
      let (f, first) ← holding [ov] (getMethod ov m pl)
      callWith pos f first (backTo pos (starEach (a :: es) X.env)) (backToKw pos (keywordEach [] X.env))) := by rfl) :
    PE X (.Call (.Attribute (.Name x p) m apos) (a :: es) [] pos) (tCall sp [] E0 t) := by
  obtain ⟨G, f, fd, Ff, hm, hrd, hfc, hga, hk, hb⟩ := F.ex
  intro pins s σ H Q I h
  refine PySem.W.methodCall_KW (pl := pl) (thn (pe_glob hg hm (show RelV (.ref G) (.ref G) from rfl) hdb pins s σ H (fun v H1 => v = .ref G ∧ H1 = H) I ⟨rfl, rfl⟩) fun u s1 ⟨v, H1, I1, rv, ev, eH⟩ => ?_) ht
  subst ev eH
  obtain rfl : u = Value.ref G := rv
  refine PySem.W.method_cls I1.kIn hga (PySem.W.cls_value I1.kIn hrd hfc rfl ?_)
  refine PySem.W.callWith_K (first := []) (h₀ := X.base) I.ok.mod.kin hk (thn (ha pos pins _ σ H1 _ (I1.tok (s1.toks + 1)) h) fun us s2 ⟨vs, H2, I2, r, q2⟩ => ⟨I2.kIn, ?_⟩) hst hpl
  exact run_fn Ff (hr.mono hj) hb .nil pass0 I2 r q2
def tMethA (D : Addr → Sp → Prop) (m : Str) (E : XK) (ta : TE) (t : TA) : TE := fun σ H Q => ta σ H fun x H1 => ∃ a C dx fs sp, x = .ref a ∧ H1 a = some (.ins C dx fs) ∧ fs.lookup m = none ∧ D C sp ∧ t σ H1 fun vs H2 => sp (x :: vs) H2 Q E
theorem pe_methA {m : Str} {pos apos : Pos} {o e : Expr} {es : List Expr} {ta : TE} {t : TA} {CX : CXT} {k : Nat} {ps : List Str} {D : Addr → Sp → Prop} {E : XK} {pl : Sem Bool} (he : PE X o ta) (hD : ∀ C sp, D C sp → MethD X.prog X.w X.K X.mg X.base CX k C m ps sp) (hr : Room k X.A) (hx : Passes CX X E) (ha : PA X (e :: es) t)
    (hst : starEach (e :: es) X.env = (false, eval e X.env) :: starEach es X.env := by rfl) (hpl : (backTo pos (starEach es X.env)).any (·.1) = false := by rfl)
    (ht : eval (.Call (.Attribute o m apos) (e :: es) [] pos) X.env = (do
      let ov ← eval o X.env
      standAt apos.atName
      let (f, first) ← holding [ov] (getMethod ov m pl)
      callWith pos f first (backTo pos (starEach (e :: es) X.env)) (backToKw pos (keywordEach [] X.env))) := by rfl) :
    PE X (.Call (.Attribute o m apos) (e :: es) [] pos) (tMethA D m E ta t) := by
  intro pins s σ H Q I h
  refine PySem.W.methodCall_KW (pl := pl) (thn (he pins s σ H _ I h) fun u s1 ⟨x, H1, I1, rx, a, C, dx, fs, sp, ex, ea, l, d, q⟩ => ?_) ht
  subst ex
  obtain rfl : u = Value.ref a := rx
  obtain ⟨f, fd, c, hm, F, hb⟩ := (hD C sp d).out
  refine getmeth_ok I1 ea c hm l ?_
  refine PySem.W.callWith_K (first := [.ref a]) (h₀ := X.base) I.ok.mod.kin hm.kp (thn (ha pos pins s1 σ H1 _ I1 q) fun us s2 ⟨vs, H2, I2, r, q2⟩ => ⟨I2.kIn, ?_⟩) hst hpl
  exact run_fn (us := .ref a :: us) (vs := .ref a :: vs) F hr hb .nil hx I2 (.cons rfl r) (by simpa using q2)
end
end L2
namespace L2
open PySem PySem.Spec PyProof.Rows
def Itz (K : PySem.W.Frag) (a b : Addr) : It :=
  ⟨fun i H => ∃ xs ys x y, SqL K H a xs ∧ SqL K H b ys ∧ xs[i]? = some x ∧ ys[i]? = some y,
   fun i H v H' => ∃ p x y, v = .ref p ∧ H p = none ∧ (∀ xs, SqL K H a xs → xs[i]? = some x) ∧ (∀ ys, SqL K H b ys → ys[i]? = some y) ∧ H' = upd H p (.tup [x, y]),
   fun i H => ∃ xs ys, SqL K H a xs ∧ SqL K H b ys ∧ (xs.length ≤ i ∨ ys.length ≤ i)⟩
end L2
namespace L2
open PySem PySem.Spec PyProof.Rows
def iZip (K : PySem.W.Frag) (t : TA) : TI := fun σ H R => t σ H fun vs H1 => ∃ a b, vs = [.ref a, .ref b] ∧ (∃ xs, SqL K H1 a xs) ∧ (∃ ys, SqL K H1 b ys) ∧ R (Itz K a b) H1
section
variable {X : Cx}
end
end L2
namespace L2
open PySem PySem.Spec PyProof.Rows
open Builtin.SmallTypes (nextOf)
structure Nx (P : Program) (w : World) (it l : Addr) (us : Array Value) (S : Nat → Heap → Prop) : Prop where
  keep : ∀ k g g', S k g → (∀ o, g.get? it = some o → g'.get? it = some o) → (∀ o, g.get? l = some o → g'.get? l = some o) → S k g'
  item : ∀ (A : Around) (E : Value → Shared → Prop) (Q : Value → Shared → Prop) (s : Shared) (k : Nat) (u : Value), S k s.heap → us[k]? = some u → (∀ g, S (k + 1) g → Heap.SameBut it s.heap g → Q u { s with heap := g }) → wpAny (model P w) A (nextOf (.ref it)) Q E s
  fin : ∀ (A : Around) (E : Value → Shared → Prop) (Q : Value → Shared → Prop) (s : Shared) (k : Nat), A.handled = none → S k s.heap → us[k]? = none →
    (∀ g e, Heap.ExtBut it s.heap g → (∃ o, g.get? e = some o ∧ o.cls = .type "StopIteration") → E (.ref e) { s with heap := g }) → wpAny (model P w) A (nextOf (.ref it)) Q E s
  there : ∀ k g, S k g → ∃ o, g.get? it = some o ∧ ∀ v, o.data ≠ .cell v
section
variable {P : Program} {w : World}
theorem nx_list {it l : Addr} {us : Array Value} (hne : l ≠ it) : Nx P w it l us (fun k g => g.IsListIter it l k ∧ g.IsList l us) where
  keep := fun k g g' h h1 h2 => ⟨h.1.at h1, h.2.at h2⟩
  item := fun A E Q s k u h e q => wpAny_nextOf_list_item h.1 h.2 e fun g h1 sb => q g ⟨h1, h.2.extBut sb.extBut hne⟩ sb
  fin := fun A E Q s k hh h e q => wpAny_nextOf_list_end hh h.1 h.2 e q
  there := fun k g h => by
    obtain ⟨o, e, _, d⟩ := h.1
    exact ⟨o, e, fun v z => by rw [d] at z; cases z⟩
theorem tup_item {A : Around} {E : Value → Shared → Prop} {s : Shared} {it t : Addr} {k : Nat} {us : Array Value} {u : Value} {Q : Value → Shared → Prop} (h1 : s.heap.IsTupleIter it t k) (h2 : s.heap.IsTuple t us) (hu : us[k]? = some u)
    (q : ∀ g, g.IsTupleIter it t (k + 1) → Heap.SameBut it s.heap g → Q u { s with heap := g }) : wpAny (model P w) A (nextOf (.ref it)) Q E s := by
  obtain ⟨oi, ei, ci, di⟩ := id h1
  obtain ⟨ot, et, _, nt, dt⟩ := h2
  unfold nextOf
  refine wpAny_bind (wpAny_callSpecial?_slot (name := Str.ofString "__next__") h1.typeIs F.slot_tuple_iterator_next (wpAny_call_entry F.slot_tuple_iterator_next h1.typeIs F.entry_tuple_iterator_next ?_ (F.args_tuple_iterator_next_1 _)))
  show wpAny _ _ (field (.ref it) 0 >>= _) _ _ _
  refine wpAny_bind (wpAny_field ei di (x := .ref t) rfl ?_)
  show wpAny _ _ (if (Value.ref t == Value.none) = true then _ else _) _ _ _
  rw [if_neg (fun z => by cases z)]
  show wpAny _ _ (field (.ref it) 1 >>= _) _ _ _
  refine wpAny_bind (wpAny_field ei di (x := .int k 0) rfl ?_)
  show wpAny _ _ (seqItems? (.ref t) >>= _) _ _ _
  refine wpAny_bind (wpAny_seqItems et dt ?_)
  simp only [Int.toNat_natCast, hu]
  refine wpAny_bind (wpAny_setField ei di (by simp) (wpAny_pure ⟨u, rfl, wpAny_pure (q _ ?_ (Heap.SameBut.update ..))⟩))
  refine ⟨_, Heap.get?_update_self _ ei (Obj.isFreed_of_fields (Obj.data_mapFields di _)), (Obj.cls_mapFields ..).trans ci, ?_⟩
  rw [Obj.data_mapFields di] <;> simp [rawInt]
theorem tup_fin {A : Around} {E : Value → Shared → Prop} {s : Shared} {it t : Addr} {k : Nat} {us : Array Value} {Q : Value → Shared → Prop} (hh : A.handled = none) (h1 : s.heap.IsTupleIter it t k) (h2 : s.heap.IsTuple t us) (hu : us[k]? = none)
    (q : ∀ g e, Heap.ExtBut it s.heap g → (∃ o, g.get? e = some o ∧ o.cls = .type "StopIteration") → E (.ref e) { s with heap := g }) : wpAny (model P w) A (nextOf (.ref it)) Q E s := by
  obtain ⟨oi, ei, ci, di⟩ := id h1
  obtain ⟨ot, et, _, nt, dt⟩ := h2
  unfold nextOf
  refine wpAny_bind (wpAny_callSpecial?_slot (name := Str.ofString "__next__") h1.typeIs F.slot_tuple_iterator_next (wpAny_call_entry F.slot_tuple_iterator_next h1.typeIs F.entry_tuple_iterator_next ?_ (F.args_tuple_iterator_next_1 _)))
  show wpAny _ _ (field (.ref it) 0 >>= _) _ _ _
  refine wpAny_bind (wpAny_field ei di (x := .ref t) rfl ?_)
  show wpAny _ _ (if (Value.ref t == Value.none) = true then _ else _) _ _ _
  rw [if_neg (fun z => by cases z)]
  show wpAny _ _ (field (.ref it) 1 >>= _) _ _ _
  refine wpAny_bind (wpAny_field ei di (x := .int k 0) rfl ?_)
  show wpAny _ _ (seqItems? (.ref t) >>= _) _ _ _
  refine wpAny_bind (wpAny_seqItems et dt ?_)
  simp only [Int.toNat_natCast, hu]
  refine wpAny_bind (wpAny_rule (wpAny_bind (wpAny_setField ei di (by simp) ?_)))
  show wpAny _ _ (newExc (.type "StopIteration") [] >>= _) _ _ _
  refine wpAny_bind ?_
  simp only [newExc, newTuple]
  refine wpAny_bind (wpAny_newObj_type ?_ (by size_fits)); refine wpAny_bind (m := firstArgMember _ _) (wpAny_of_eq (a := Value.none) (by first | rfl | (simp only [firstArgMember]; rfl)) ?_)
  refine wpAny_newObj_type ?_ (by size_fits); simp only [raiseNew]
  refine wpAny_bind (wpAny_handled ?_)
  first | rw [show A.in1.handled = none from hh] | rw [hh]
  refine wpAny_bind (wpAny_pure (wpAny_throw ?_))
  exact q _ _ (((Heap.SameBut.update ..).extBut.push _).push _) ⟨_, Heap.get?_push_size _ rfl, rfl⟩
theorem nx_tup {it l : Addr} {us : Array Value} (hne : l ≠ it) : Nx P w it l us (fun k g => g.IsTupleIter it l k ∧ g.IsTuple l us) where
  keep := fun k g g' h h1 h2 => ⟨h.1.at h1, let ⟨o, e, r⟩ := h.2; ⟨o, h2 o e, r⟩⟩
  item := fun A E Q s k u h e q => tup_item h.1 h.2 e fun g h1 sb => q g ⟨h1, h.2.extBut sb.extBut hne⟩ sb
  fin := fun A E Q s k hh h e q => tup_fin hh h.1 h.2 e q
  there := fun k g h => by
    obtain ⟨o, e, _, d⟩ := h.1
    exact ⟨o, e, fun v z => by rw [d] at z; cases z⟩
end
end L2
namespace L2
open PySem PySem.Spec PyProof.Rows
open Builtin.SmallTypes (nextOf ownedTupleIsFree ownedTupleHandOut)
structure ZA (z TI TO i1 i2 l1 l2 : Addr) : Prop where
  a : TI ≠ z ∧ TO ≠ z ∧ i1 ≠ z ∧ i2 ≠ z ∧ l1 ≠ z ∧ l2 ≠ z
  b : TI ≠ TO ∧ i1 ≠ TO ∧ i2 ≠ TO ∧ l1 ≠ TO ∧ l2 ≠ TO
  c : TI ≠ i1 ∧ i2 ≠ i1 ∧ l1 ≠ i1 ∧ l2 ≠ i1
  d : TI ≠ i2 ∧ l1 ≠ i2 ∧ l2 ≠ i2
section
variable {P : Program} {w : World} {A : Around} {E : Value → Shared → Prop} {s : Shared} {z TI TO i1 i2 l1 l2 : Addr} {us vs : Array Value} {S1 S2 : Nat → Heap → Prop}
theorem zipG_item {k : Nat} {u v a b : Value} {Q : Value → Shared → Prop} (D : ZA z TI TO i1 i2 l1 l2) (N1 : Nx P w i1 l1 us S1) (N2 : Nx P w i2 l2 vs S2)
    (hz : IsZip s.heap z TI TO .none) (hTI : IsPair s.heap TI (.ref i1) (.ref i2)) (hTO : IsPair s.heap TO a b) (h1 : S1 k s.heap) (h2 : S2 k s.heap) (hu : us[k]? = some u) (hv : vs[k]? = some v)
    (q : ∀ g, IsZip g z TI TO (rawInt s.heap.objs.size) → IsPair g TO u v → S1 (k + 1) g → S2 (k + 1) g → IsPair g s.heap.objs.size u v → g.objs.size = s.heap.objs.size + 1 →
      (∀ c o, c ≠ z → c ≠ TO → c ≠ i1 → c ≠ i2 → s.heap.get? c = some o → g.get? c = some o) → Q (.ref s.heap.objs.size) { s with heap := g }) :
    wpAny (model P w) A (Builtin.«zip.__next__» ⟨[.ref z], []⟩) (fun fin s' => ∃ v, fin = .done (.ret v) ∧ Q v s') E s := by
  obtain ⟨⟨d1, d2, d3, d4, d5, d6⟩, ⟨d7, d8, d9, d10, d11⟩, ⟨d12, d13, d14, d15⟩, d16, d17, d18⟩ := D
  show wpAny _ _ (field (.ref z) 2 >>= _) _ _ _; refine wpAny_bind (wpAny_field hz rfl (x := .bool false) rfl ?_)
  show wpAny _ _ (field (.ref z) 3 >>= _) _ _ _; refine wpAny_bind (wpAny_field hz rfl (x := .ref TI) rfl (wpAny_bind (wpAny_seqItems hTI rfl ?_)))
  show wpAny _ _ (ownedTupleIsFree (.ref z) >>= _) _ _ _
  refine wpAny_bind ?_
  unfold ownedTupleIsFree
  refine wpAny_bind (wpAny_field hz rfl (x := .none) rfl (wpAny_pure ?_)); simp only [if_true]
  refine wpAny_bind (wpAny_rule (wpAny_bind (wpAny_field hz rfl (x := .ref TO) rfl (wpAny_bind (wpAny_setField_rec hz (by simp) fun g1 z1 b1 => ?_)))))
  replace z1 : IsZip g1 z TI TO .ellipsis := z1
  refine wpAny_bind ?_
  simp only [List.zipIdx_cons, List.zipIdx_nil, List.forIn_cons, List.forIn_nil]; refine wpAny_bind (wpAny_bind (wpAny_onRaise ?_))
  show wpAny _ _ (nextOf (.ref i1) >>= _) _ _ _
  refine wpAny_bind (N1.item _ _ _ _ k u (N1.keep k _ _ h1 (fun o e => b1.extBut _ _ d3 e) fun o e => b1.extBut _ _ d5 e) hu fun g2 n2 b2 => wpAny_pure ?_)
  have t2 : IsPair g2 TO a b := b2.extBut _ _ (Ne.symm d8) (b1.extBut _ _ d2 hTO)
  refine wpAny_bind (wpAny_seqItems t2 rfl (wpAny_bind (wpAny_updateSeq_pair t2 fun g3 t3 b3 => ?_)))
  replace t3 : IsPair g3 TO u b := t3
  refine wpAny_bind (wpAny_letGo (wpAny_pure (wpAny_bind (wpAny_bind (wpAny_onRaise ?_)))))
  show wpAny _ _ (nextOf (.ref i2) >>= _) _ _ _
  have y2 : S2 k g3 := N2.keep k _ _ h2 (fun o e => b3.extBut _ _ d9 (b2.extBut _ _ d13 (b1.extBut _ _ d4 e))) fun o e => b3.extBut _ _ d11 (b2.extBut _ _ d15 (b1.extBut _ _ d6 e))
  refine wpAny_bind (N2.item _ _ _ _ k v y2 hv fun g4 n4 b4 => wpAny_pure ?_)
  have t4 : IsPair g4 TO u b := b4.extBut _ _ (Ne.symm d9) t3
  refine wpAny_bind (wpAny_seqItems t4 rfl (wpAny_bind (wpAny_updateSeq_pair t4 fun g5 t5 b5 => ?_)))
  replace t5 : IsPair g5 TO u v := t5
  refine wpAny_bind (wpAny_letGo (wpAny_pure (wpAny_pure (wpAny_bind (wpAny_seqItems t5 rfl (wpAny_bind (wpAny_newTuple ?_)))))))
  have sz : g5.objs.size = s.heap.objs.size := by rw [b5.1, b4.1, b3.1, b2.1, b1.1]
  have z5 : IsZip g5 z TI TO .ellipsis := b5.extBut _ _ (Ne.symm d2) (b4.extBut _ _ (Ne.symm d4) (b3.extBut _ _ (Ne.symm d2) (b2.extBut _ _ (Ne.symm d3) z1)))
  have k5 : ∀ c o, c ≠ z → c ≠ TO → c ≠ i1 → c ≠ i2 → s.heap.get? c = some o → g5.get? c = some o := fun c o c1 c2 c3 c4 e => b5.extBut _ _ c2 (b4.extBut _ _ c4 (b3.extBut _ _ c2 (b2.extBut _ _ c3 (b1.extBut _ _ c1 e))))
  have m1 : S1 (k + 1) g5 := N1.keep _ _ _ n2 (fun o e => b5.extBut _ _ d8 (b4.extBut _ _ (Ne.symm d13) (b3.extBut _ _ d8 e))) fun o e => b5.extBut _ _ d10 (b4.extBut _ _ d17 (b3.extBut _ _ d10 e))
  have m2 : S2 (k + 1) g5 := N2.keep _ _ _ n4 (fun o e => b5.extBut _ _ d9 e) fun o e => b5.extBut _ _ d11 e
  have lz : z < g5.objs.size := Heap.lt_size z5
  show wpAny _ _ (ownedTupleHandOut (.ref z) (.ref g5.objs.size) >>= _) _ _ _
  refine wpAny_bind ?_
  unfold ownedTupleHandOut
  have z6 : IsZip (g5.push { cls := .type "tuple", data := .seq #[u, v] }) z TI TO .ellipsis := Heap.get?_push_of_some _ z5
  refine wpAny_bind (wpAny_setField_rec z6 (by simp) fun g7 z7 b7 => ?_)
  replace z7 : IsZip g7 z TI TO (rawInt g5.objs.size) := z7
  refine wpAny_setField_rec z7 (by simp) fun g8 z8 b8 => ?_
  replace z8 : IsZip g8 z TI TO (rawInt g5.objs.size) := z8
  have up : ∀ c o, c ≠ z → g5.get? c = some o → g8.get? c = some o := fun c o c1 e => b8.extBut _ _ c1 (b7.extBut _ _ c1 (Heap.get?_push_of_some _ e))
  have t8 : IsPair g8 g5.objs.size u v := b8.extBut _ _ (Nat.ne_of_gt lz) (b7.extBut _ _ (Nat.ne_of_gt lz) (Heap.get?_push_size _ rfl))
  have sz8 : g8.objs.size = g5.objs.size + 1 := by rw [b8.1, b7.1, Heap.size_push]
  rw [sz] at z8 t8 sz8
  refine wpAny_pure ⟨_, rfl, ?_⟩
  show Q (.ref g5.objs.size) _
  rw [sz]
  exact q g8 z8 (up _ _ d2 t5) (N1.keep _ _ _ m1 (fun o e => up _ o d3 e) fun o e => up _ o d5 e) (N2.keep _ _ _ m2 (fun o e => up _ o d4 e) fun o e => up _ o d6 e) t8 sz8 fun c o c1 c2 c3 c4 e => up c o c1 (k5 c o c1 c2 c3 c4 e)
theorem zipG_end {k : Nat} {a b : Value} {Q : Fin → Shared → Prop} (hh : A.handled = none) (D : ZA z TI TO i1 i2 l1 l2) (N1 : Nx P w i1 l1 us S1) (N2 : Nx P w i2 l2 vs S2)
    (hz : IsZip s.heap z TI TO .none) (hTI : IsPair s.heap TI (.ref i1) (.ref i2)) (hTO : IsPair s.heap TO a b) (h1 : S1 k s.heap) (h2 : S2 k s.heap) (hend : us[k]? = none ∨ vs[k]? = none)
    (q : ∀ g e, (∀ c o, c ≠ z → c ≠ TO → c ≠ i1 → c ≠ i2 → s.heap.get? c = some o → g.get? c = some o) → (∃ o, g.get? e = some o ∧ o.cls = .type "StopIteration") → E (.ref e) { s with heap := g }) :
    wpAny (model P w) A (Builtin.«zip.__next__» ⟨[.ref z], []⟩) Q E s := by
  obtain ⟨⟨d1, d2, d3, d4, d5, d6⟩, ⟨d7, d8, d9, d10, d11⟩, ⟨d12, d13, d14, d15⟩, d16, d17, d18⟩ := D
  show wpAny _ _ (field (.ref z) 2 >>= _) _ _ _; refine wpAny_bind (wpAny_field hz rfl (x := .bool false) rfl ?_)
  show wpAny _ _ (field (.ref z) 3 >>= _) _ _ _; refine wpAny_bind (wpAny_field hz rfl (x := .ref TI) rfl (wpAny_bind (wpAny_seqItems hTI rfl ?_)))
  show wpAny _ _ (ownedTupleIsFree (.ref z) >>= _) _ _ _
  refine wpAny_bind ?_
  unfold ownedTupleIsFree
  refine wpAny_bind (wpAny_field hz rfl (x := .none) rfl (wpAny_pure ?_)); simp only [if_true]
  refine wpAny_bind (wpAny_rule (wpAny_bind (wpAny_field hz rfl (x := .ref TO) rfl (wpAny_bind (wpAny_setField_rec hz (by simp) fun g1 z1 b1 => ?_)))))
  replace z1 : IsZip g1 z TI TO .ellipsis := z1
  refine wpAny_bind ?_
  simp only [List.zipIdx_cons, List.zipIdx_nil, List.forIn_cons, List.forIn_nil]; refine wpAny_bind (wpAny_bind (wpAny_onRaise ?_))
  show wpAny _ _ (nextOf (.ref i1) >>= _) _ _ _
  have y1 : S1 k g1 := N1.keep k _ _ h1 (fun o e => b1.extBut _ _ d3 e) fun o e => b1.extBut _ _ d5 e
  cases hu : us[k]? with
  | none =>
    refine wpAny_bind (N1.fin _ _ _ _ k hh y1 hu fun g2 e b2 he => ?_)
    obtain ⟨oe, eo, ec⟩ := he
    have z2 : IsZip g2 z TI TO .ellipsis := b2 _ _ (Ne.symm d3) z1
    have nez : e ≠ z := fun y => by subst y; rw [z2] at eo; cases eo; simp at ec
    exact wpAny_setField_rec z2 (by simp) fun g3 _ b3 => q g3 e (fun c o c1 _ c3 _ y => b3.extBut _ _ c1 (b2 _ _ c3 (b1.extBut _ _ c1 y))) ⟨oe, b3.extBut _ _ nez eo, ec⟩
  | some u =>
    have hv : vs[k]? = none := hend.resolve_left fun y => by rw [hu] at y; cases y
    refine wpAny_bind (N1.item _ _ _ _ k u y1 hu fun g2 n2 b2 => wpAny_pure ?_)
    have t2 : IsPair g2 TO a b := b2.extBut _ _ (Ne.symm d8) (b1.extBut _ _ d2 hTO)
    refine wpAny_bind (wpAny_seqItems t2 rfl (wpAny_bind (wpAny_updateSeq_pair t2 fun g3 t3 b3 => ?_)))
    refine wpAny_bind (wpAny_letGo (wpAny_pure (wpAny_bind (wpAny_bind (wpAny_onRaise ?_)))))
    show wpAny _ _ (nextOf (.ref i2) >>= _) _ _ _
    have y2 : S2 k g3 := N2.keep k _ _ h2 (fun o e => b3.extBut _ _ d9 (b2.extBut _ _ d13 (b1.extBut _ _ d4 e))) fun o e => b3.extBut _ _ d11 (b2.extBut _ _ d15 (b1.extBut _ _ d6 e))
    refine wpAny_bind (N2.fin _ _ _ _ k hh y2 hv fun g4 e b4 he => ?_)
    obtain ⟨oe, eo, ec⟩ := he
    have z4 : IsZip g4 z TI TO .ellipsis := b4 _ _ (Ne.symm d4) (b3.extBut _ _ (Ne.symm d2) (b2.extBut _ _ (Ne.symm d3) z1))
    have nez : e ≠ z := fun y => by subst y; rw [z4] at eo; cases eo; simp at ec
    exact wpAny_setField_rec z4 (by simp) fun g5 _ b5 => q g5 e (fun c o c1 c2 c3 c4 y => b5.extBut _ _ c1 (b4 _ _ c4 (b3.extBut _ _ c2 (b2.extBut _ _ c3 (b1.extBut _ _ c1 y))))) ⟨oe, b5.extBut _ _ nez eo, ec⟩
theorem nextG_item {k : Nat} {u v a b : Value} {Q : Option Value → Shared → Prop} (D : ZA z TI TO i1 i2 l1 l2) (N1 : Nx P w i1 l1 us S1) (N2 : Nx P w i2 l2 vs S2)
    (hz : IsZip s.heap z TI TO .none) (hTI : IsPair s.heap TI (.ref i1) (.ref i2)) (hTO : IsPair s.heap TO a b) (h1 : S1 k s.heap) (h2 : S2 k s.heap) (hu : us[k]? = some u) (hv : vs[k]? = some v)
    (q : ∀ g, IsZip g z TI TO (rawInt s.heap.objs.size) → IsPair g TO u v → S1 (k + 1) g → S2 (k + 1) g → IsPair g s.heap.objs.size u v → g.objs.size = s.heap.objs.size + 1 →
      (∀ c o, c ≠ z → c ≠ TO → c ≠ i1 → c ≠ i2 → s.heap.get? c = some o → g.get? c = some o) → Q (some (.ref s.heap.objs.size)) { s with heap := g }) : wpAny (model P w) A (pyNext (.ref z)) Q E s := by
  have hT : s.TypeIs (.ref z) "zip" := ⟨_, hz, rfl⟩
  unfold pyNext
  exact wpAny_bind (wpAny_attempt (wpAny_callSpecial?_slot (name := Str.ofString "__next__") hT F.slot_zip_next (wpAny_call_entry F.slot_zip_next hT F.entry_zip_next
    (zipG_item D N1 N2 hz hTI hTO h1 h2 hu hv fun g a1 a2 a3 a4 a5 a6 a7 => wpAny_pure (q g a1 a2 a3 a4 a5 a6 a7)) (F.args_zip_next_1 _))))
theorem nextG_end {k : Nat} {a b : Value} {Q : Option Value → Shared → Prop} (hh : A.handled = none) (D : ZA z TI TO i1 i2 l1 l2) (N1 : Nx P w i1 l1 us S1) (N2 : Nx P w i2 l2 vs S2)
    (hz : IsZip s.heap z TI TO .none) (hTI : IsPair s.heap TI (.ref i1) (.ref i2)) (hTO : IsPair s.heap TO a b) (h1 : S1 k s.heap) (h2 : S2 k s.heap) (hend : us[k]? = none ∨ vs[k]? = none)
    (q : ∀ g, (∀ c o, c ≠ z → c ≠ TO → c ≠ i1 → c ≠ i2 → s.heap.get? c = some o → g.get? c = some o) → Q none { s with heap := g }) : wpAny (model P w) A (pyNext (.ref z)) Q E s := by
  have hT : s.TypeIs (.ref z) "zip" := ⟨_, hz, rfl⟩
  unfold pyNext
  refine wpAny_bind (wpAny_attempt (wpAny_callSpecial?_slot (name := Str.ofString "__next__") hT F.slot_zip_next (wpAny_call_entry F.slot_zip_next hT F.entry_zip_next
    (zipG_end hh D N1 N2 hz hTI hTO h1 h2 hend fun g e kk he => ?_) (F.args_zip_next_1 _))))
  obtain ⟨o, eo, ec⟩ := he
  exact wpAny_bind (wpAny_isInstance (T := "StopIteration") (b := true) ⟨o, eo, ec⟩ isSubtype_stop (wpAny_pure (q _ kk)))
end
end L2
namespace L2
open PySem PySem.Spec PyProof.Rows
def itTy : Bool → String
  | false => "list_iterator"
  | true => "tuple_iterator"
def IsSq : Bool → Heap → Addr → Array Value → Prop
  | false => Heap.IsList
  | true => Heap.IsTuple
def IsIt : Bool → Heap → Addr → Addr → Nat → Prop
  | false => Heap.IsListIter
  | true => Heap.IsTupleIter
theorem IsSq.push {b : Bool} {g : Heap} {l : Addr} {us : Array Value} (h : IsSq b g l us) (o : Obj) : IsSq b (g.push o) l us := by
  cases b
  · exact Heap.IsList.push h o
  · exact Heap.IsTuple.push h o
theorem IsSq.lt {b : Bool} {g : Heap} {l : Addr} {us : Array Value} (h : IsSq b g l us) : l < g.objs.size := by
  cases b <;> (obtain ⟨o, e, _⟩ := h; exact Heap.lt_size e)
theorem isIt_of {b : Bool} {g : Heap} {it l : Addr} {dd : Option Addr} {sl : Array (Option Value)} (h : g.get? it = some ⟨.type (itTy b), dd, .fields #[.ref l, .int 0 0], sl⟩) : IsIt b g it l 0 := by
  cases b <;> exact ⟨_, h, rfl, rfl⟩
theorem nx_of {P : Program} {w : World} {b : Bool} {it l : Addr} {us : Array Value} (hne : l ≠ it) : Nx P w it l us (fun k g => IsIt b g it l k ∧ IsSq b g l us) := by
  cases b
  · exact nx_list hne
  · exact nx_tup hne
abbrev itO (b : Bool) (l : Addr) : Obj := { cls := .type (itTy b), data := .fields #[.ref l, .int 0 0] }
abbrev zg1 (g : Heap) (b1 : Bool) (l1 : Addr) : Heap := g.push (itO b1 l1)
abbrev zg2 (g : Heap) (b1 b2 : Bool) (l1 l2 : Addr) : Heap := (zg1 g b1 l1).push (itO b2 l2)
abbrev zg3 (g : Heap) (b1 b2 : Bool) (l1 l2 : Addr) : Heap := (zg2 g b1 b2 l1 l2).push { cls := .type "tuple", data := .seq #[.ref g.objs.size, .ref (zg1 g b1 l1).objs.size] }
abbrev zg4 (g : Heap) (b1 b2 : Bool) (l1 l2 : Addr) : Heap := (zg3 g b1 b2 l1 l2).push { cls := .type "tuple", data := .seq #[.none, .none] }
abbrev zg5 (g : Heap) (b1 b2 : Bool) (l1 l2 : Addr) : Heap := (zg4 g b1 b2 l1 l2).push { cls := .type "zip", data := .fields #[.none, .bool false, .bool false, .ref (zg2 g b1 b2 l1 l2).objs.size, .ref (zg3 g b1 b2 l1 l2).objs.size] }
theorem iter_sq {P : Program} {w : World} {A : Around} {E : Value → Shared → Prop} {s : Shared} {b : Bool} {l : Addr} {us : Array Value} {Q : Value → Shared → Prop} (h : IsSq b s.heap l us) (q : Q (.ref s.heap.objs.size) { s with heap := s.heap.push (itO b l) }) : wpAny (model P w) A (pyIter (.ref l)) Q E s := by
  cases b
  · exact wpAny_pyIter_list h q
  · exact wpAny_pyIter_tuple h q
theorem zip_made (b1 b2 : Bool) (l1 l2 : Addr) (us vs : Array Value) : Meets (Builtin.«zip.__new__» ⟨[.type "zip", .ref l1, .ref l2], []⟩) (fun _ R s => IsSq b1 s.heap l1 us ∧ IsSq b2 s.heap l2 vs ∧ R (.ok (.ret (.ref (zg4 s.heap b1 b2 l1 l2).objs.size))) { s with heap := zg5 s.heap b1 b2 l1 l2 }) :=
  .of_wp fun P w A R s h => by
    obtain ⟨hp, g, d, tk, os⟩ := s
    obtain ⟨y1, y2, h⟩ := h
    have ez := sub_zip
    have e1 : IsSq b1 (Shared.heap ⟨hp, g, d, tk, os⟩) l1 us := y1
    have e2 : IsSq b2 (Shared.heap ⟨hp.push (itO b1 l1), g, d, tk, os⟩) l2 vs := IsSq.push y2 _
    wp_walk using iter_sq e1, iter_sq e2
    exact ⟨_, rfl, h⟩
theorem call_zipG {P : Program} {w : World} {A : Around} {E : Value → Shared → Prop} {s : Shared} {b1 b2 : Bool} {l1 l2 : Addr} {us vs : Array Value} {Q : Value → Shared → Prop} (y1 : IsSq b1 s.heap l1 us) (y2 : IsSq b2 s.heap l2 vs)
    (q : ∀ g, IsZip g (s.heap.objs.size + 4) (s.heap.objs.size + 2) (s.heap.objs.size + 3) .none → IsPair g (s.heap.objs.size + 2) (.ref s.heap.objs.size) (.ref (s.heap.objs.size + 1)) → IsPair g (s.heap.objs.size + 3) .none .none →
      IsIt b1 g s.heap.objs.size l1 0 → IsIt b2 g (s.heap.objs.size + 1) l2 0 → (∀ c o, s.heap.get? c = some o → g.get? c = some o) → Q (.ref (s.heap.objs.size + 4)) { s with heap := g }) : wpAny (model P w) A (call (.type "zip") [.ref l1, .ref l2]) Q E s := by
  refine callType_new F.called_zip (by decide) (F.typeCall_zip_2 _ _) (F.newCall_zip_2 _ _) (fun obj => F.args_object_init_3 obj _ _) F.entry_zip_new (zip_made b1 b2 l1 l2 us vs) ⟨y1, y2, ?_⟩
  have n1 : (zg1 s.heap b1 l1).objs.size = s.heap.objs.size + 1 := Heap.size_push ..
  have n2 : (zg2 s.heap b1 b2 l1 l2).objs.size = s.heap.objs.size + 2 := by rw [Heap.size_push, n1]
  have n3 : (zg3 s.heap b1 b2 l1 l2).objs.size = s.heap.objs.size + 3 := by rw [Heap.size_push, n2]
  have n4 : (zg4 s.heap b1 b2 l1 l2).objs.size = s.heap.objs.size + 4 := by rw [Heap.size_push, n3]
  have up := fun (g : Heap) (o : Obj) (c : Addr) (x : Obj) (e : g.get? c = some x) => Heap.get?_push_of_some (h := g) o e
  have p5 : (zg5 s.heap b1 b2 l1 l2).get? (zg4 s.heap b1 b2 l1 l2).objs.size = some _ := Heap.get?_push_size _ rfl
  have p4 : (zg5 s.heap b1 b2 l1 l2).get? (zg3 s.heap b1 b2 l1 l2).objs.size = some _ := up _ _ _ _ (Heap.get?_push_size _ rfl)
  have p3 : (zg5 s.heap b1 b2 l1 l2).get? (zg2 s.heap b1 b2 l1 l2).objs.size = some _ := up _ _ _ _ (up _ _ _ _ (Heap.get?_push_size _ rfl))
  have p2 : (zg5 s.heap b1 b2 l1 l2).get? (zg1 s.heap b1 l1).objs.size = some _ := up _ _ _ _ (up _ _ _ _ (up _ _ _ _ (Heap.get?_push_size _ rfl)))
  have p1 : (zg5 s.heap b1 b2 l1 l2).get? s.heap.objs.size = some _ := up _ _ _ _ (up _ _ _ _ (up _ _ _ _ (up _ _ _ _ (Heap.get?_push_size _ rfl))))
  show _ ∧ _
  rw [n2, n3, n4] at p5
  rw [n1, n2] at p3
  rw [n3] at p4
  rw [n1] at p2
  rw [n4]
  exact ⟨⟨_, p5, rfl⟩, q _ p5 p3 p4 (isIt_of p1) (isIt_of p2) fun c o x => up _ _ _ _ (up _ _ _ _ (up _ _ _ _ (up _ _ _ _ (up _ _ _ _ x))))⟩
end L2
namespace L2
open PySem PySem.Spec PyProof.Rows
def SqB (K : PySem.W.Frag) (H : Hp) : Bool → Addr → List V → Prop
  | false => SqL K H
  | true => SqT K H
theorem Inv.sqb {X : Cx} {pins : List (Addr × Obj)} {σ : St} {H : Hp} {s : Shared} {b : Bool} {a : Addr} {xs : List V} (I : Inv X pins σ H s) (h : SqB X.K H b a xs) : ∃ its : List Value, Vals xs its ∧ IsSq b s.heap a its.toArray ∧ xs.length ≤ sizeLine := by
  cases b
  · obtain ⟨its, r, p, z⟩ := I.list h
    exact ⟨its, r, p.isList, z⟩
  · obtain ⟨its, r, p, z⟩ := I.tuple h
    exact ⟨its, r, p, z⟩
theorem Inv.sqb_inj {X : Cx} {pins : List (Addr × Obj)} {σ : St} {H : Hp} {s : Shared} {b : Bool} {a : Addr} {xs ys : List V} (I : Inv X pins σ H s) (h : SqB X.K H b a xs) (h' : SqB X.K H b a ys) : xs = ys := by
  cases b
  · exact I.list_inj h h'
  · exact I.tuple_inj h h'
theorem IsIt.at {b : Bool} {g g' : Heap} {it l : Addr} {k : Nat} (h : IsIt b g it l k) (e : ∀ o, g.get? it = some o → g'.get? it = some o) : IsIt b g' it l k := by
  cases b
  · exact Heap.IsListIter.at h e
  · exact Heap.IsTupleIter.at h e
theorem IsIt.obj {b : Bool} {g : Heap} {it l : Addr} {k : Nat} (h : IsIt b g it l k) : ∃ o, g.get? it = some o ∧ ∀ v, o.data ≠ .cell v := by
  cases b <;> (obtain ⟨o, e, _, d⟩ := h; exact ⟨o, e, fun v z => by rw [d] at z; cases z⟩)
def Itg (K : PySem.W.Frag) (b1 b2 : Bool) (a b : Addr) : It :=
  ⟨fun i H => ∃ xs ys x y, SqB K H b1 a xs ∧ SqB K H b2 b ys ∧ xs[i]? = some x ∧ ys[i]? = some y,
   fun i H v H' => ∃ p x y, v = .ref p ∧ H p = none ∧ (∀ xs, SqB K H b1 a xs → xs[i]? = some x) ∧ (∀ ys, SqB K H b2 b ys → ys[i]? = some y) ∧ H' = upd H p (.tup [x, y]),
   fun i H => ∃ xs ys, SqB K H b1 a xs ∧ SqB K H b2 b ys ∧ (xs.length ≤ i ∨ ys.length ≤ i)⟩
theorem turn_zipG {P : Program} {w : World} {K : PySem.W.Frag} {es : List Expr} {x1} {tp : Pos} (b1 b2 : Bool) (a b z TI TO i1 i2 : Addr) (D : ZA z TI TO i1 i2 a b) :
    Turn P w K (.Tuple es x1 tp) (Itg K b1 b2 a b) [z, TI, TO, i1, i2] z (fun i h => IsZip h z TI TO .none ∧ IsPair h TI (.ref i1) (.ref i2) ∧ (∃ u v, IsPair h TO u v) ∧ IsIt b1 h i1 a i ∧ IsIt b2 h i2 b i) where
  mem := by simp
  obj := fun i h st c hc => by
    obtain ⟨s1, s2, ⟨u, v, s3⟩, s4, s5⟩ := st
    simp only [List.mem_cons, List.not_mem_nil, or_false] at hc
    rcases hc with q | q | q | q | q
    · subst q
      exact ⟨_, s1, fun v q => by
        have q' : Data.fields _ = Data.cell v := q
        cases q'⟩
    · subst q
      exact ⟨_, s2, fun v q => by
        have q' : Data.seq _ _ = Data.cell v := q
        cases q'⟩
    · subst q
      exact ⟨_, s3, fun v q => by
        have q' : Data.seq _ _ = Data.cell v := q
        cases q'⟩
    · subst q; exact s4.obj
    · subst q; exact s5.obj
  keep := fun i h h' st k => by
    obtain ⟨s1, s2, ⟨u, v, s3⟩, s4, s5⟩ := st
    exact ⟨k z (by simp) _ s1, k TI (by simp) _ s2, ⟨u, v, k TO (by simp) _ s3⟩, s4.at fun o q => k i1 (by simp) o q, s5.at fun o q => k i2 (by simp) o q⟩
  item := by
    intro X hP hw hK hc i pins s σ H E I hf st hg
    subst hP hw hK
    obtain ⟨xs, ys, x, y, hq, hq2, hx, hy⟩ := hg
    obtain ⟨s1, s2, ⟨u0, v0, s3⟩, s4, s5⟩ := st
    obtain ⟨its, rv, p, _⟩ := I.sqb hq
    obtain ⟨its2, rv2, p2, _⟩ := I.sqb hq2
    obtain ⟨u, hu, ru⟩ := rv.get hx
    obtain ⟨v, hv, rv'⟩ := rv2.get hy
    obtain ⟨z0, z1, _, z3, z4, z5⟩ := hf z (by simp)
    obtain ⟨t0, t1, _, t3, t4, t5⟩ := hf TO (by simp)
    obtain ⟨f0, f1, _, f3, f4, f5⟩ := hf i1 (by simp)
    obtain ⟨g0, g1, _, g3, g4, g5⟩ := hf i2 (by simp)
    have hfp : H s.heap.objs.size = none := I.hok.fresh (Nat.le_refl _)
    have D' := D
    obtain ⟨⟨d1, d2, d3, d4, d5, d6⟩, ⟨d7, d8, d9, d10, d11⟩, ⟨d12, d13, d14, d15⟩, d16, d17, d18⟩ := D
    refine nextG_item D' (nx_of (b := b1) d14) (nx_of (b := b2) d18) s1 s2 s3 ⟨s4, p⟩ ⟨s5, p2⟩ (u := u) (v := v) (by simpa using hu) (by simpa using hv) fun h' e1 e2 e3 e4 e5 sz kk => ⟨_, rfl, ?_⟩
    refine wpAny_letOwnedTupleGo_zip (s := { s with heap := h' }) e1 fun h2 e6 sb => ?_
    have zP : z ≠ s.heap.objs.size := Nat.ne_of_lt (Heap.lt_size s1)
    have tP : TO ≠ s.heap.objs.size := Nat.ne_of_lt (Heap.lt_size s3)
    have TP : TI ≠ s.heap.objs.size := Nat.ne_of_lt (Heap.lt_size s2)
    have iP : i1 ≠ s.heap.objs.size := by obtain ⟨o, q, _⟩ := s4.obj; exact Nat.ne_of_lt (Heap.lt_size q)
    have jP : i2 ≠ s.heap.objs.size := by obtain ⟨o, q, _⟩ := s5.obj; exact Nat.ne_of_lt (Heap.lt_size q)
    have nin : ∀ c o, c ∉ [z, TO, i1, i2] → s.heap.get? c = some o → h2.get? c = some o := fun c o hc q => by
      simp only [List.mem_cons, List.not_mem_nil, or_false, not_or] at hc
      exact (sb.2 c hc.1).trans (kk c o hc.1 hc.2.1 hc.2.2.1 hc.2.2.2 q)
    have tp2 : h2.get? s.heap.objs.size = some { cls := .type "tuple", data := .seq #[u, v] } := (sb.2 _ (Ne.symm zP)).trans e5
    have c1 : IsIt b1 h2 i1 a (i + 1) := e3.1.at fun o q => (sb.2 _ d3).trans q
    have c2 : IsIt b2 h2 i2 b (i + 1) := e4.1.at fun o q => (sb.2 _ d4).trans q
    have cTO : IsPair h2 TO u v := (sb.2 _ d2).trans e2
    have cTI : IsPair h2 TI (.ref i1) (.ref i2) := (sb.2 _ d1).trans (kk TI _ d1 d7 d12 d16 s2)
    refine ⟨.ref s.heap.objs.size, upd H s.heap.objs.size (.tup [x, y]), ?_, rfl, ⟨_, x, y, rfl, hfp, fun zs hz => by rw [I.sqb_inj hz hq]; exact hx, fun zs hz => by rw [I.sqb_inj hz hq2]; exact hy, rfl⟩, ⟨e6, cTI, ⟨u, v, cTO⟩, c1, c2⟩, fun c hc => ?_⟩
    · show Inv X pins σ (upd H s.heap.objs.size (.tup [x, y])) { s with heap := h2, gens := s.gens, drawn := s.drawn, toks := s.toks }
      refine I.step (h' := h2) (t' := s.toks) (g' := s.gens) (d' := s.drawn) (ch := [z, TO, i1, i2]) (fun c hc => ?_) (fun c o _ _ hc q _ => nin c o hc q) (fun c o _ _ hc q _ => ⟨o.slots, nin c o hc q⟩) (fun c o hc q n => ?_) (fun c o hc q => ⟨o, nin c o hc q⟩)
        (fun c xs q => ?_) (fun c o' u' q => ?_) (fun c ps q => ?_) (fun m hm => ?_) (fun c o q => ?_) I.bare
      · simp only [List.mem_cons, List.not_mem_nil, or_false] at hc
        rcases hc with q | q | q | q
        · subst q; exact ⟨z3, z1, z4, z5⟩
        · subst q; exact ⟨t3, t1, t4, t5⟩
        · subst q; exact ⟨f3, f1, f4, f5⟩
        · subst q; exact ⟨g3, g1, g4, g5⟩
      · rw [upd_ne (Nat.ne_of_lt (Heap.lt_size q))]; exact n
      · rw [upd_ne (ne_of_none q hfp)]; exact q
      · rw [upd_ne (ne_of_none q hfp)]; exact q
      · exact ⟨#[], by rw [upd_ne (ne_of_none q hfp), q]; simp⟩
      · obtain ⟨o, es', ep', ho, r⟩ := hm
        exact ⟨o, es', ep', nin _ o (by simp [Ne.symm z1, Ne.symm t1, Ne.symm f1, Ne.symm g1]) ho, r⟩
      · by_cases hc : c = s.heap.objs.size
        · subst hc
          rw [upd_same] at q
          cases q
          refine ⟨by rw [sizeLine_eq]; simp, [u, v], .cons ru (.cons rv' .nil), ?_⟩
          exact ⟨_, tp2, rfl, _, rfl⟩
        · rw [upd_ne hc] at q
          refine (I.hok c o q).stay (fun d v hd r => nin d v (fun q2 => ?_) r) (fun d q2 => by rw [upd_ne (ne_of_none q2 hfp)]; exact q2) fun d xs q2 => by rw [upd_ne (ne_of_none q2 hfp)]; exact q2
          have hcn : H d ≠ none := by
            rcases hd with q3 | q3
            · rw [q3, q]; simp
            · rw [q3]; simp
          simp only [List.mem_cons, List.not_mem_nil, or_false] at q2
          rcases q2 with q3 | q3 | q3 | q3
          · rw [q3, z0] at hcn; exact hcn rfl
          · rw [q3, t0] at hcn; exact hcn rfl
          · rw [q3, f0] at hcn; exact hcn rfl
          · rw [q3, g0] at hcn; exact hcn rfl
    · obtain ⟨w0, _⟩ := hf c hc
      simp only [List.mem_cons, List.not_mem_nil, or_false] at hc
      rcases hc with q | q | q | q | q
      · subst q; rw [upd_ne zP]; exact z0
      · rw [upd_ne (by rw [q]; exact TP)]; exact w0
      · subst q; rw [upd_ne tP]; exact t0
      · subst q; rw [upd_ne iP]; exact f0
      · subst q; rw [upd_ne jP]; exact g0
  done := by
    intro X hP hw hK hc i pins s σ H E I hf st hg
    subst hP hw hK
    obtain ⟨xs, ys, hq, hq2, hx⟩ := hg
    obtain ⟨s1, s2, ⟨u0, v0, s3⟩, s4, s5⟩ := st
    obtain ⟨its, rv, p, _⟩ := I.sqb hq
    obtain ⟨its2, rv2, p2, _⟩ := I.sqb hq2
    obtain ⟨z0, z1, _, z3, z4, z5⟩ := hf z (by simp)
    obtain ⟨t0, t1, _, t3, t4, t5⟩ := hf TO (by simp)
    obtain ⟨f0, f1, _, f3, f4, f5⟩ := hf i1 (by simp)
    obtain ⟨g0, g1, _, g3, g4, g5⟩ := hf i2 (by simp)
    have hl := rv.length
    have hl2 := rv2.length
    refine nextG_end (I.ok.hd hc) D (nx_of (b := b1) D.c.2.2.1) (nx_of (b := b2) D.d.2.2) s1 s2 s3 ⟨s4, p⟩ ⟨s5, p2⟩ (by
      rcases hx with h | h
      · left; simp; omega
      · right; simp; omega) fun h' eb => ⟨rfl, ?_⟩
    have nin : ∀ c o, c ∉ [z, TO, i1, i2] → s.heap.get? c = some o → h'.get? c = some o := fun c o hc q => by
      simp only [List.mem_cons, List.not_mem_nil, or_false, not_or] at hc
      exact eb c o hc.1 hc.2.1 hc.2.2.1 hc.2.2.2 q
    show Inv X pins σ H { s with heap := h', gens := s.gens, drawn := s.drawn, toks := s.toks }
    refine I.step (h' := h') (t' := s.toks) (g' := s.gens) (d' := s.drawn) (ch := [z, TO, i1, i2]) (fun c hc => ?_) (fun c o _ _ hc q _ => nin c o hc q) (fun c o _ _ hc q _ => ⟨o.slots, nin c o hc q⟩) (fun c o hc q n => n) (fun c o hc q => ⟨o, nin c o hc q⟩)
      (fun c xs q => q) (fun c o' u' q => q) (fun c ps q => ⟨#[], by rw [q]; simp⟩) (fun m hm => ?_) (fun c o q => ?_) I.bare
    · simp only [List.mem_cons, List.not_mem_nil, or_false] at hc
      rcases hc with q | q | q | q
      · subst q; exact ⟨z3, z1, z4, z5⟩
      · subst q; exact ⟨t3, t1, t4, t5⟩
      · subst q; exact ⟨f3, f1, f4, f5⟩
      · subst q; exact ⟨g3, g1, g4, g5⟩
    · obtain ⟨o, es', ep', ho, r⟩ := hm
      exact ⟨o, es', ep', nin _ o (by simp [Ne.symm z1, Ne.symm t1, Ne.symm f1, Ne.symm g1]) ho, r⟩
    · refine (I.hok c o q).stay (fun d v hd r => nin d v (fun q2 => ?_) r) (fun d q2 => q2) fun d xs q2 => q2
      have hcn : H d ≠ none := by
        rcases hd with q3 | q3
        · rw [q3, q]; simp
        · rw [q3]; simp
      simp only [List.mem_cons, List.not_mem_nil, or_false] at q2
      rcases q2 with q3 | q3 | q3 | q3
      · rw [q3, z0] at hcn; exact hcn rfl
      · rw [q3, t0] at hcn; exact hcn rfl
      · rw [q3, f0] at hcn; exact hcn rfl
      · rw [q3, g0] at hcn; exact hcn rfl
  self := fun A i s Q E st h => wpAny_pyIter_zip st.1 h
theorem bootZipG : bootBuiltins "zip" = some (.type "zip") := by decide +kernel
theorem za_new {n a b : Nat} (ha : a < n) (hb : b < n) : ZA (n + 4) (n + 2) (n + 3) n (n + 1) a b :=
  have e : ∀ {x y : Nat}, x < y → x ≠ y := fun h => Nat.ne_of_lt h
  have e' : ∀ {x y : Nat}, y < x → x ≠ y := fun h => Nat.ne_of_gt h
  ⟨⟨e (by omega), e (by omega), e (by omega), e (by omega), e (by omega), e (by omega)⟩, ⟨e (by omega), e (by omega), e (by omega), e (by omega), e (by omega)⟩, ⟨e' (by omega), e' (by omega), e (by omega), e (by omega)⟩, e' (by omega), e (by omega), e (by omega)⟩
def iZipG (K : PySem.W.Frag) (t : TA) : TI := fun σ H R => t σ H fun vs H1 => ∃ b1 b2 a b, vs = [.ref a, .ref b] ∧ (∃ xs, SqB K H1 b1 a xs) ∧ (∃ ys, SqB K H1 b2 b ys) ∧ R (Itg K b1 b2 a b) H1
section
variable {X : Cx}
theorem pi_zipG {a b : Expr} {ta : TA} {p pos : Pos} {es : List Expr} {x1} {tp : Pos} (hg : Gl X "zip") (hm : X.mg "zip" = none) (ha : PA X [a, b] ta) (hs : starEach [a, b] X.env = [(false, eval a X.env), (false, eval b X.env)] := by rfl) (hs2 : starEach [b] X.env = [(false, eval b X.env)] := by rfl) :
    PI X (.Tuple es x1 tp) (.Call (.Name "zip" p) [a, b] [] pos) (iZipG X.K ta) := by
  intro pins s σ H R I h
  refine Call_ (ld_blt I hg hm bootZipG (PyProof.Rows.callWith_type1 (thn (ha pos pins s σ H _ I h) fun us s1 ⟨vs, H1, I1, r1, q1⟩ => ?_) (by rw [hs, hs2]) (by rw [hs2]; rfl)))
  obtain ⟨b1, b2, l, m, e, ⟨xs, hq⟩, ⟨ys, hq2⟩, q⟩ := q1
  subst e
  obtain ⟨u, v, rfl, ru, rv0⟩ := vals2 r1
  obtain rfl : u = Value.ref l := ru
  obtain rfl : v = Value.ref m := rv0
  obtain ⟨its, rv, pl, _⟩ := I1.sqb hq
  obtain ⟨its2, rv2, pl2, _⟩ := I1.sqb hq2
  refine call_zipG pl pl2 fun h' e1 e2 e3 e4 e5 hk => ?_
  refine wpAny_pyIter_zip (s := { s1 with heap := h' }) e1 ?_
  refine ⟨s1.heap.objs.size + 4, [s1.heap.objs.size + 4, s1.heap.objs.size + 2, s1.heap.objs.size + 3, s1.heap.objs.size, s1.heap.objs.size + 1], _, _, H1, rfl, I1.kept (t' := s1.toks) hk, turn_zipG b1 b2 l m _ _ _ _ _ (za_new pl.lt pl2.lt), ⟨e1, e2, ⟨_, _, e3⟩, e4, e5⟩, fun c hc => ?_, q⟩
  simp only [List.mem_cons, List.not_mem_nil, or_false] at hc
  have le : s1.heap.objs.size ≤ c := by rcases hc with z | z | z | z | z <;> (rw [z]; first | exact Nat.le_refl _ | exact Nat.le_add_right _ _)
  exact I1.fpOk le (I1.hok.fresh le)
end
theorem comp_zipG {k : Nat} {js : List Nat} {g : TG} {tc : TT} {te : TE} {σ : St} {fin : List V → Hp → Prop} {H : Hp} {K : PySem.W.Frag} {b1 b2 : Bool} {a b : Addr} {xs ys : List V} (Pv : Nat → List V → Hp → Prop) (h0 : Pv 0 [] H) (hn : xs.length ≤ sizeLine) (hxy : xs.length = ys.length) (hl : ∀ i us H, Pv i us H → us.length ≤ i)
    (hq : ∀ i us H, i ≤ xs.length → Pv i us H → SqB K H b1 a xs ∧ SqB K H b2 b ys)
    (hs : ∀ i x y p us H, xs[i]? = some x → ys[i]? = some y → Pv i us H → H p = none → g (.ref p) (sigC k js σ) (upd H p (.tup [x, y])) fun σ2 H3 => tc σ2 H3 fun c H4 => if c = true then te σ2 H4 fun u H5 => Pv (i + 1) (us ++ [u]) H5 else Pv (i + 1) us H4)
    (hd : ∀ us H, Pv xs.length us H → fin us H) : compW k js g tc te σ (Itg K b1 b2 a b) H fin := by
  refine ⟨fun i m us H => m = xs.length - i ∧ i ≤ xs.length ∧ Pv i us H, ⟨xs.length, by simp, Nat.zero_le _, h0⟩, ?_⟩
  rintro i m us H ⟨rfl, hi, p⟩
  have hy := hl i us H p
  obtain ⟨q1, q2⟩ := hq i us H hi p
  by_cases hlt : i < xs.length
  · have hlt2 : i < ys.length := by omega
    refine .inr ⟨⟨xs, ys, xs[i], ys[i], q1, q2, by simp [hlt], by simp [hlt2]⟩, by omega, Pv (i + 1), fun us' H' p' => ⟨xs.length - (i + 1), by omega, rfl, hlt, p'⟩, fun v H' y => ?_⟩
    obtain ⟨c, x, y, rfl, hn, ex, ey, rfl⟩ := y
    exact hs i x y c us _ (ex xs q1) (ey ys q2) p hn
  · have e : i = xs.length := by omega
    subst e
    exact .inl ⟨⟨xs, ys, q1, q2, .inl (Nat.le_refl _)⟩, by omega, hd us H p⟩
end L2
namespace L2
open PySem PySem.Spec PyProof.Rows
def tMakeT (RX : St → Addr → Hp → Prop) (C : Addr) (sp : Sp) (dvs : List V) (t : TA) : TE := fun σ H Q => tMake C sp dvs (fun e _ H' => ∃ a, e = .ref a ∧ RX σ a H') t σ H Q
section
variable {X : Cx} {k : Nat} {f C : Addr} {fd : FuncData} {ps : List Str} {sp : Sp} {dvs : List V} {ds : List Value} {E : XK} {x m : Str} {p pos apos : Pos} {e : Expr} {es : List Expr} {t : TA} {RX : St → Addr → Hp → Prop}
structure CFnX (P : Program) (w : World) (K : PySem.W.Frag) (mg : Str → Option Value) (base : Heap) (x m : Str) (k : Nat) (ps : List Str) (sp : Sp) : Prop where
  ex : ∃ (G f : Addr) (fd : FuncData), FnOk P w K mg base (CXR P w) k f fd ps sp ∧ mg x = some (.ref G) ∧ PySem.W.readsIn K G (.type "type") = true ∧ PySem.W.findCls K (.ref G) (.type "type") m = some (.val (.ref f)) ∧
    PySem.W.specialIn K (.ref G) "__getattribute__" = some (some (.builtin "type.__getattribute__")) ∧ PySem.W.keepIn K (.ref f) = true ∧ Binds K fd ps []
end
def RoomH (k : Nat) (A : Around) : Prop := Room k { A with handled := none }
structure FnOkH (P : Program) (w : World) (K : PySem.W.Frag) (mg : Str → Option Value) (base : Heap) (k : Nat) (f : Addr) (fd : FuncData) (ps : List Str) (sp : Sp) : Prop where
  len : ∀ vs H Q E, sp vs H Q E → vs.length = ps.length
  run : ∀ (A : Around) (outer : List Env) (s : Shared) (H : Hp) (args : Args) (us : List Value) (vs : List V) (Q : VK) (E : XK), RoomH k A → Env0 P w K mg base A outer s H → BindsTo s fd args (ps.zip us) → Vals vs us → sp vs H Q E →
    codeAny (model P w) A (.call (.ref f) args) (CR CX0 outer P w H s Q E) s
abbrev cxH (P : Program) (w : World) (K : PySem.W.Frag) (mg : Str → Option Value) (base : Heap) (N : List Str) (qual : Str) (scope : Scope) (f : Addr) (cd : Value) (A : Around) (outer : List Env) (s : Shared) (H : Hp) (E : XK) : Cx :=
  { cxOf CX0 P w K mg base N qual scope f cd A outer s H E with calm := false, xe := fun _ _ => False }
section
variable {P : Program} {w : World} {K : PySem.W.Frag} {mg : Str → Option Value} {base : Heap}
structure FnAtH (P : Program) (w : World) (K : PySem.W.Frag) (mg : Str → Option Value) (base : Heap) (x : Str) (k : Nat) (ps : List Str) (sp : Sp) : Prop where
  ex : ∃ (f : Addr) (fd : FuncData), FnOkH P w K mg base k f fd ps sp ∧ mg x = some (.ref f) ∧ PySem.W.keepIn K (.ref f) = true ∧ Binds K fd ps []
end
end L2
namespace L2
open PySem PySem.Spec PyProof.Rows
def gLst (K : PySem.W.Frag) (n : Nat) (t : TGs) : TG := fun v σ H Q => ∃ a xs, v = .ref a ∧ SqL K H a xs ∧ xs.length = n ∧ t xs σ H Q
end L2
namespace PySem
open Sem (wp)
open Builtin
end PySem
namespace L2
open PySem PySem.Spec PyProof.Rows
end L2
namespace L2
open PySem PySem.Spec PyProof.Rows
theorem kit_none_list {K : PySem.W.Frag} : PySem.W.kitOne K (.type "NoneType") (.type "list") = some false := kit_ty (by decide +kernel) (by decide +kernel) (by decide +kernel)
theorem kit_bool_list {K : PySem.W.Frag} : PySem.W.kitOne K (.type "bool") (.type "list") = some false := kit_ty (by decide +kernel) (by decide +kernel) (by decide +kernel)
theorem kit_int_list {K : PySem.W.Frag} : PySem.W.kitOne K (.type "int") (.type "list") = some false := kit_ty (by decide +kernel) (by decide +kernel) (by decide +kernel)
theorem kit_str_list {K : PySem.W.Frag} : PySem.W.kitOne K (.type "str") (.type "list") = some false := kit_ty (by decide +kernel) (by decide +kernel) (by decide +kernel)
theorem kit_dict_list {K : PySem.W.Frag} : PySem.W.kitOne K (.type "dict") (.type "list") = some false := kit_ty (by decide +kernel) (by decide +kernel) (by decide +kernel)
def Kd.noSeq : Kd → Bool
  | .lst => false
  | .tup => false
  | _ => true
def Keep (av : List Addr) (H H' : Hp) : Prop := ∀ b o, H b = some o → b ∉ av → H' b = some o
def Xat (av : List Addr) (C : Addr) (v : V) (H : Hp) (E : XK) : Prop := ∀ (a dx : Addr) (H' : Hp), Keep av H H' → H' a = some (excR a C (some dx)) → H' dx = some (.xd [("found", v)]) → E (.ref a) none H'
section
variable {P : Program} {w : World} {K : PySem.W.Frag} {mg : Str → Option Value} {base : Heap}
end
theorem op_eqNil {X : Cx} (hu : X.A.units < cLine) : OpR X (compareOp .Eq) (fun x y H Q => ∃ a b xs, x = .ref a ∧ y = .ref b ∧ SqL X.K H a xs ∧ SqL X.K H b [] ∧ Q (.bl xs.isEmpty) H) := by
  intro pins s σ H x y v u Q I rx ry h
  obtain ⟨a, b, xs, rfl, rfl, ha, hb, q⟩ := h
  cases rx
  cases ry
  obtain ⟨its, rv, pl, _⟩ := I.list ha
  obtain ⟨its', rv', pl', _⟩ := I.list hb
  have l1 := rv.length
  cases rv'
  cases xs with
  | nil =>
    cases rv
    exact SeqAt.RcAt.lists (e := fun _ => true) pl.isList pl'.isList rfl hu (fun j h1 h2 => absurd h2 (by simp)) _ _ _ _ (fin_bl I q (by simp))
  | cons x r => exact SeqAt.RcAt.lists_lengths pl.isList pl'.isList (by simp at l1; simp [← l1]) hu _ _ _ _ (fin_bl I q (by simp))
theorem ix_listK {X : Cx} (K : PySem.W.Frag) (hK : X.K = K) : IxR X (rIxL K) := by
  subst hK
  exact ix_list
theorem ix_tupK {X : Cx} (K : PySem.W.Frag) (hK : X.K = K) : IxR X (rIxT K) := by
  subst hK
  exact ix_tup
section
variable {X : Cx} {pins : List (Addr × Obj)} {σ : St} {H : Hp} {s : Shared}
inductive Like2 (K : PySem.W.Frag) (H : Hp) : V → V → Prop
  | same {x : V} : Plain x → Like2 K H x x
  | tups {a b : Addr} {xs : List V} : SqT K H a xs → SqT K H b xs → (∀ v ∈ xs, Plain v) → Like2 K H (.ref a) (.ref b)
def rTupLike2 (K : PySem.W.Frag) : R2 := fun x y H Q => ∃ p q xs ys, x = .ref p ∧ y = .ref q ∧ SqT K H p xs ∧ SqT K H q ys ∧ Paired (Like2 K H) xs ys ∧ Q (.bl true) H
end
end L2
namespace L2
open PySem PySem.Spec PyProof.Rows
abbrev enO (it : Addr) : Obj := { cls := .type "enumerate", data := .fields #[.none, .bool false, .ref it, rawInt 0, .none, .none] }
def IteG (K : PySem.W.Frag) (b : Bool) (a : Addr) : It :=
  ⟨fun i H => ∃ xs x, SqB K H b a xs ∧ xs[i]? = some x, fun i H v H' => ∃ p x, v = .ref p ∧ H p = none ∧ (∀ xs, SqB K H b a xs → xs[i]? = some x) ∧ H' = upd H p (.tup [.int i, x]), fun i H => ∃ xs, SqB K H b a xs ∧ xs.length ≤ i⟩
def iEnumG (K : PySem.W.Frag) (t : TA) : TI := fun σ H R => t σ H fun vs H1 => ∃ b a, vs = [.ref a] ∧ (∃ xs, SqB K H1 b a xs) ∧ R (IteG K b a) H1
section
variable {X : Cx}
end
def KeyIn (H : Hp) (xs : List Addr) (w : Str) (n : Int) : Prop := ∃ a ∈ xs, H a = some (.tup [.str w, .int n])
def rInK (K : PySem.W.Frag) : R2 := fun x y H Q => ∃ p q xs w n, x = .ref q ∧ y = .ref p ∧ SqL K H p (xs.map V.ref) ∧ H q = some (.tup [.str w, .int n]) ∧ (∀ a ∈ xs, ∃ w n, H a = some (.tup [.str w, .int n])) ∧ ∀ b : Bool, (b = true ↔ KeyIn H xs w n) → Q (.bl b) H
theorem vals_refs : ∀ {xs : List Addr} {us : List Value}, Vals (xs.map V.ref) us → us = xs.map Value.ref
  | [], _, .nil => rfl
  | x :: r, _, .cons h t => by
    cases h
    rw [vals_refs t]
    rfl
theorem key_eqAt {X : Cx} {pins : List (Addr × Obj)} {σ : St} {H : Hp} {s : Shared} {A : Around} (I : Inv X pins σ H s) (hu : A.units < cLine) {a q : Addr} {w w' : Str} {n n' : Int} (hab : a ≠ q) (ha : H a = some (.tup [.str w', .int n'])) (hq : H q = some (.tup [.str w, .int n])) {b : Bool} (hb : b = true ↔ w' = w ∧ n' = n) : SeqAt.EqAt A s (.ref a) (.ref q) b := by
  obtain ⟨its, rv, pl, _⟩ := I.tuple (SqT.of (K := X.K) ha)
  obtain ⟨its', rv', pl', _⟩ := I.tuple (SqT.of (K := X.K) hq)
  obtain ⟨u1, u2, rfl, r1, r2⟩ := vals2 rv
  obtain ⟨v1, v2, rfl, t1, t2⟩ := vals2 rv'
  have := SeqAt.RcAt.tuples (A := A) (e := fun j => if j = 0 then eqV (.str w') (.str w) else eqV (.int n') (.int n)) pl pl' hu (fun j h1 h2 => by
    have hj : j < 2 := by simpa using h1
    match j, hj with
    | 0, _ => exact eqAt_V r1 t1 rfl rfl
    | 1, _ => exact eqAt_V r2 t2 rfl rfl)
  refine SeqAt.EqAt.of_refs hab ?_
  have e : ((List.range (min [u1, u2].toArray.size [v1, v2].toArray.size)).all (fun j => if j = 0 then eqV (.str w') (.str w) else eqV (.int n') (.int n)) && [u1, u2].toArray.size == [v1, v2].toArray.size) = b := by
    rw [Bool.eq_iff_iff, hb]
    simp [List.range_succ, eqV]
  rw [e] at this
  exact this
open Classical in
theorem op_in_keys {X : Cx} (hu : X.A.units + 2 < cLine) : OpR X (compareOp .In) (rInK X.K) := by
  intro pins s σ H x y v u Q I rx ry h
  obtain ⟨p, q, xs, w, n, rfl, rfl, hp, hq, hx, h⟩ := h
  cases rx
  cases ry
  obtain ⟨its, r, pl, hz⟩ := I.list hp
  obtain rfl := vals_refs r
  refine SeqAt.in_listAt (fun v => match v with | .ref a => decide (H a = some (.tup [.str w, .int n])) | _ => false) pl.isList (fun u hu' => ?_) ⟨.bl _, H, I, rfl, h _ ?_⟩
  · have hu' : u ∈ xs.map Value.ref := by simpa using hu'
    obtain ⟨a, ha, rfl⟩ := List.mem_map.mp hu'
    by_cases haq : a = q
    · subst haq
      show SeqAt.EqAt _ _ _ _ (decide (H a = some (.tup [.str w, .int n])))
      rw [decide_eq_true hq]
      exact SeqAt.EqAt.same _
    · obtain ⟨w', n', ea⟩ := hx a ha
      refine key_eqAt I (in1_room hu) haq ea hq ?_
      show decide (H a = some (.tup [.str w, .int n])) = true ↔ _
      rw [ea]
      simp
  · rw [List.any_toArray, List.any_eq_true]
    constructor
    · rintro ⟨u, hu', e⟩
      obtain ⟨a, ha, rfl⟩ := List.mem_map.mp hu'
      exact ⟨a, ha, of_decide_eq_true e⟩
    · rintro ⟨a, ha, e⟩
      exact ⟨.ref a, List.mem_map.mpr ⟨a, ha, rfl⟩, decide_eq_true e⟩
end L2
namespace L2
open PySem PySem.Spec PyProof.Rows
structure RawD (h : Heap) (d : Addr) (ob : Obj) (es : Array DictEntry) (ep : Nat) : Prop where
  get : h.get? d = some ob
  exa : ob.ExactDict
  dat : ob.data = .dict es ep
theorem RawD.at {h h' : Heap} {d : Addr} {ob : Obj} {es : Array DictEntry} {ep : Nat} (r : RawD h d ob es ep) (k : ∀ o, h.get? d = some o → h'.get? d = some o) : RawD h' d ob es ep := ⟨k _ r.get, r.exa, r.dat⟩
section
variable {P : Program} {w : World} {A : Around} {E : Value → Shared → Prop} {s : Shared} {it d : Addr} {ob : Obj} {es : Array DictEntry} {ep i : Nat}
theorem RawD.typeIs (r : RawD s.heap d ob es ep) : s.TypeIs (.ref d) "dict" := ⟨ob, r.get, r.exa.1⟩
theorem iter_raw {Q : Value → Shared → Prop} (hd : (d == sysModules) = false) (r : RawD s.heap d ob es ep) (q : Q (.ref s.heap.objs.size) { s with heap := s.heap.push { cls := .type "dict_keyiterator", data := .fields #[.ref d, .int 0 0, .int es.size 0, .int ep 0] } }) :
    wpAny (model P w) A (pyIter (.ref d)) Q E s := by
  have ty := r.typeIs
  refine wpAny_pyIter_slot ty F.slot_dict_iter (wpAny_call_entry F.slot_dict_iter ty F.entry_dict_iter ?_ (F.args_dict_iter_1 _))
  unfold Builtin.«dict.__iter__»; refine wpAny_bind ?_
  unfold Builtin.Dict.dictSlotNone; refine wpAny_bind (wpAny_notOrdered_dict ty ?_)
  show wpAny _ _ (pure (Value.ref d)) _ _ s; refine wpAny_pure ?_
  show wpAny _ _ (Builtin.Dict.showsAll d >>= _) _ _ s; unfold Builtin.Dict.showsAll
  rw [if_neg (by rw [hd]; exact Bool.false_ne_true)]; refine wpAny_bind (wpAny_pure ?_)
  refine wpAny_bind (wpAny_dictEntries r.get r.dat (wpAny_bind (wpAny_dictEpoch r.get r.dat ?_)))
  refine wpAny_bind (wpAny_newObj_type (wpAny_pure ⟨_, rfl, "dict_keyiterator", _, ⟨_, Heap.get?_push_size _ rfl, rfl⟩, F.slot_dict_keyiterator_next.lookup, ?_⟩)); simpa [rawInt] using q
theorem next_raw_item {Q : Option Value → Shared → Prop} (hit : s.heap.IsKeyIter it d i es.size ep) (r : RawD s.heap d ob es ep) (hi : i < es.size)
    (q : ∀ g, g.IsKeyIter it d (i + 1) es.size ep → Heap.SameBut it s.heap g → Q (some es[i].key) { s with heap := g }) : wpAny (model P w) A (pyNext (.ref it)) Q E s := by
  obtain ⟨oi, ei, ci, di⟩ := id hit
  have ty := hit.typeIs
  unfold pyNext
  refine wpAny_bind (wpAny_attempt (wpAny_callSpecial?_slot (name := Str.ofString "__next__") ty F.slot_dict_keyiterator_next (wpAny_call_entry F.slot_dict_keyiterator_next ty F.entry_dict_keyiterator_next ?_ (F.args_dict_keyiterator_next_1 _))))
  refine wpAny_bind (wpAny_pure (wpAny_bind (wpAny_bind ?_)))
  first | refine wpAny_bind (wpAny_typeNameOfWhole_keyiter ty (wpAny_pure ?_)) | refine wpAny_bind (wpAny_typeNameOf_keyiter ty (wpAny_pure ?_))
  refine wpAny_bind (wpAny_fieldsOf ei di ?_)
  simp only [show Builtin.Dict_items.ownsTuple "dict_keyiterator" = false from by decide, Bool.false_eq_true, if_false]
  show wpAny _ _ (if (Value.ref d == Value.none) = true then _ else _) _ _ s
  rw [if_neg (fun z => by cases z)]; refine wpAny_bind (wpAny_pure (wpAny_bind (wpAny_dictEntries r.get r.dat ?_)))
  rw [if_neg (by simp)]; refine wpAny_bind (wpAny_pure (wpAny_bind (wpAny_dictEpoch r.get r.dat ?_)))
  rw [if_neg (by simp)]; refine wpAny_pure ?_
  simp only [show ¬ ((i : Int) < 0) from by omega, if_false, Int.toNat_natCast, Array.getElem?_eq_getElem hi]; refine wpAny_bind ?_
  first | refine wpAny_bind (wpAny_typeNameOfWhole_keyiter ty (wpAny_pure ?_)) | refine wpAny_bind (wpAny_typeNameOf_keyiter ty (wpAny_pure ?_))
  refine wpAny_bind (wpAny_isOneOf_keyiter ty ?_)
  show wpAny _ _ (setField (.ref it) 1 (rawInt ((i : Int) + 1)) >>= _) _ _ s; refine wpAny_bind (wpAny_setField ei di (by simp) ?_)
  have hit' : (s.heap.update it (Obj.mapFields (·.setIfInBounds 1 (rawInt ((i : Int) + 1))))).IsKeyIter it d (i + 1) es.size ep := ⟨_, Heap.get?_update_self _ ei (Obj.isFreed_of_fields (Obj.data_mapFields di _)), (Obj.cls_mapFields ..).trans ci, by rw [Obj.data_mapFields di]; simp [rawInt]⟩
  refine wpAny_bind (wpAny_holding (wpAny_bind (wpAny_isOneOf_keyiter (s := { s with heap := s.heap.update it (Obj.mapFields (·.setIfInBounds 1 (rawInt ((i : Int) + 1)))) }) hit'.typeIs ?_)))
  show wpAny _ _ (pure es[i].key) _ _ _
  exact wpAny_pure (wpAny_pure ⟨_, rfl, wpAny_pure (q _ hit' (Heap.SameBut.update ..))⟩)
theorem next_raw_end {Q : Option Value → Shared → Prop} (hh : A.handled = none) (hit : s.heap.IsKeyIter it d i es.size ep) (r : RawD s.heap d ob es ep) (hi : es.size ≤ i) (q : ∀ g, Heap.ExtBut it s.heap g → Q none { s with heap := g }) : wpAny (model P w) A (pyNext (.ref it)) Q E s := by
  obtain ⟨oi, ei, ci, di⟩ := id hit
  have ty := hit.typeIs
  unfold pyNext
  refine wpAny_bind (wpAny_attempt (wpAny_callSpecial?_slot (name := Str.ofString "__next__") ty F.slot_dict_keyiterator_next (wpAny_call_entry F.slot_dict_keyiterator_next ty F.entry_dict_keyiterator_next ?_ (F.args_dict_keyiterator_next_1 _))))
  refine wpAny_bind (wpAny_pure (wpAny_bind (wpAny_bind ?_)))
  first | refine wpAny_bind (wpAny_typeNameOfWhole_keyiter ty (wpAny_pure ?_)) | refine wpAny_bind (wpAny_typeNameOf_keyiter ty (wpAny_pure ?_))
  refine wpAny_bind (wpAny_fieldsOf ei di ?_)
  simp only [show Builtin.Dict_items.ownsTuple "dict_keyiterator" = false from by decide, Bool.false_eq_true, if_false]
  show wpAny _ _ (if (Value.ref d == Value.none) = true then _ else _) _ _ s
  rw [if_neg (fun z => by cases z)]; refine wpAny_bind (wpAny_pure (wpAny_bind (wpAny_dictEntries r.get r.dat ?_)))
  rw [if_neg (by simp)]; refine wpAny_bind (wpAny_pure (wpAny_bind (wpAny_dictEpoch r.get r.dat ?_)))
  rw [if_neg (by simp)]; refine wpAny_pure ?_
  simp only [show ¬ ((i : Int) < 0) from by omega, if_false, Int.toNat_natCast, Array.getElem?_eq_none hi]; refine wpAny_bind ?_
  first | refine wpAny_bind (wpAny_typeNameOfWhole_keyiter ty (wpAny_pure ?_)) | refine wpAny_bind (wpAny_typeNameOf_keyiter ty (wpAny_pure ?_))
  show wpAny _ _ (setField (.ref it) 0 .none >>= _) _ _ s; refine wpAny_bind (wpAny_setField ei di (by simp) ?_)
  show wpAny _ _ (newExc (.type "StopIteration") [] >>= _) _ _ _
  refine wpAny_bind ?_
  simp only [newExc, newTuple]
  refine wpAny_bind (wpAny_newObj_type ?_ (by size_fits)); refine wpAny_bind (m := firstArgMember _ _) (wpAny_of_eq (a := Value.none) (by first | rfl | (simp only [firstArgMember]; rfl)) ?_)
  refine wpAny_newObj_type ?_ (by size_fits); simp only [raiseNew]
  refine wpAny_bind (wpAny_handled ?_)
  first | rw [show A.in1.handled = none from hh] | rw [hh]
  refine wpAny_bind (wpAny_pure (wpAny_throw ?_))
  exact wpAny_bind (wpAny_isInstance (T := "StopIteration") (b := true) ⟨_, Heap.get?_push_size _ rfl, rfl⟩ isSubtype_stop (wpAny_pure (q _ (((Heap.SameBut.update ..).extBut.push _).push _))))
theorem walks_raw (hh : A.handled = none) (I : Addr) (hne : d ≠ I) : Walks P w A I [I, d] [I] es.size (fun i v => ∃ e, es[i]? = some e ∧ v = e.key) (fun i h => h.IsKeyIter I d i es.size ep ∧ RawD h d ob es ep) where
  sub := fun b hb => by
    rw [List.mem_singleton] at hb
    rw [hb]; exact List.mem_cons_self
  frame := fun i h h' st hk => ⟨st.1.at fun o e => hk I List.mem_cons_self o e, st.2.at fun o e => hk d (List.mem_cons_of_mem _ List.mem_cons_self) o e⟩
  item := fun i s Q E hi st q => next_raw_item st.1 st.2 hi fun g h1 sb => q _ g s.toks ⟨_, Array.getElem?_eq_getElem hi, rfl⟩ ⟨h1, st.2.at fun o e => sb.extBut _ _ hne e⟩ fun b o hb e => sb.extBut b o (fun z => hb (by rw [z]; exact List.mem_singleton.mpr rfl)) e
  done := fun s Q E st q => next_raw_end hh st.1 st.2 (Nat.le_refl _) fun g eb => q g s.toks fun b o hb e => eb b o (fun z => hb (by rw [z]; exact List.mem_singleton.mpr rfl)) e
  self := fun A s Q E st q => wpAny_pyIter_keyiter st.1 q
theorem src_raw (lo : (d == sysModules) = false) : PySem.W.KdlSrc P w "dict" d d es.size (fun i v => ∃ e, es[i]? = some e ∧ v = e.key) (fun h => RawD h d ob es ep) where
  type := fun s r => r.typeIs
  there := fun h r => ⟨Heap.lt_size r.get, Heap.lt_size r.get⟩
  keep := fun h h' r hk => r.at fun o e => hk d (.inl rfl) o e
  notList := by decide
  notTuple := by decide
  hint := fun A E s Q r q => PySem.W.kdl_hint_dict r.typeIs q
  iter := fun A s hh r => ⟨_, _, (fun E Q q => iter_raw lo r q), walks_raw hh _ (Nat.ne_of_lt (Heap.lt_size r.get)), ⟨⟨_, Heap.get?_push_size _ rfl, rfl, rfl⟩, r.at fun o e => Heap.get?_push_of_some _ e⟩⟩
end
section
variable {X : Cx} {pins : List (Addr × Obj)} {σ : St} {H : Hp} {s : Shared} {a : Addr} {kvs : List (List Key × V)}
theorem Inv.freezeT (I : Inv X pins σ H s) (e : H a = some (.dT kvs)) : ∃ ob, Inv X pins σ (upd H a (.frz ob (.dT kvs))) s := by
  have ok := (show ObjOk X.prog X.w H s.heap a (.dT kvs) from I.hok a _ e)
  obtain ⟨z, y, xs, r, ob, es, ep, h1, h2, h3, h4, h5⟩ := id ok
  have ne : ∀ {b : Addr} {o : HO}, H b = some o → o ≠ .dT kvs → b ≠ a := fun q n => ne_of q e n
  refine ⟨ob, ?_⟩
  show Inv X pins σ (upd H a (.frz ob (.dT kvs))) { s with heap := s.heap, gens := s.gens, drawn := s.drawn, toks := s.toks }
  refine I.step (h' := s.heap) (t' := s.toks) (g' := s.gens) (d' := s.drawn) (ch := []) (fun b hb => by cases hb) (fun b o _ _ _ q _ => q) (fun b o _ _ _ q _ => ⟨o.slots, q⟩) (fun b o _ q n => ?_) (fun b o _ q => ⟨o, q⟩)
    (fun b xs q => ?_) (fun b o u q => ?_) (fun b ps q => ?_) (fun m hm => hm) (fun b o q => ?_) I.bare
  · rw [upd_ne (fun z => by subst z; rw [e] at n; cases n)]; exact n
  · rw [upd_ne (ne q (by intro z; cases z))]; exact q
  · rw [upd_ne (ne q (by intro z; cases z))]; exact q
  · exact ⟨#[], by rw [upd_ne (ne q (by intro z; cases z)), q]; simp⟩
  · have own : ∀ c x, H c = some (.own x) → upd H a (.frz ob (.dT kvs)) c = some (.own x) := fun c x q => by rw [upd_ne (ne q (by intro z; cases z))]; exact q
    have tup : ∀ c ys, H c = some (.tup ys) → upd H a (.frz ob (.dT kvs)) c = some (.tup ys) := fun c x q => by rw [upd_ne (ne q (by intro z; cases z))]; exact q
    by_cases hb : b = a
    · subst hb
      rw [upd_same] at q
      cases q
      exact ⟨h1, ok.stay (fun _ _ _ q => q) (fun c q => own c _ q) tup⟩
    · rw [upd_ne hb] at q
      exact (I.hok b o q).stay (fun _ _ _ q => q) (fun c q => own c _ q) tup
theorem Inv.rawT {ob : Obj} (I : Inv X pins σ H s) (e : H a = some (.frz ob (.dT kvs))) : (a == sysModules) = false ∧ kvs.length ≤ sizeLine ∧ ∃ es ep xs, RawD s.heap a ob es ep ∧ KT H kvs xs ∧ es.toList = xs.map (entryOfKey (tupleKind (mixKind X.prog X.w))) := by
  obtain ⟨h0, z, y, xs, r, ob', es, ep, h1, h2, h3, h4, h5⟩ := (show ObjOk X.prog X.w H s.heap a (.frz ob (.dT kvs)) from I.hok a _ e)
  rw [h0] at h1
  cases h1
  exact ⟨y, z, es, ep, xs, ⟨h0, h2, h3⟩, r, h4⟩
end
def KeysAt (H : Hp) (kvs : List (List Key × V)) (ps : List Addr) : Prop := ps.length = kvs.length ∧ ∀ (i : Nat) (p : Addr) (k : List Key) (v : V), ps[i]? = some p → kvs[i]? = some (k, v) → H p = some (.tup (k.map kV))
theorem kt_get {H : Hp} : ∀ {kvs : List (List Key × V)} {xs : List (List Key × Addr × Value)}, KT H kvs xs → kvs.length = xs.length ∧ ∀ (i : Nat) (k : List Key) (v : V), kvs[i]? = some (k, v) → ∃ a u, xs[i]? = some (k, a, u) ∧ H a = some (.tup (k.map kV))
  | _, _, .nil => ⟨rfl, fun i k v h => by simp at h⟩
  | p :: ps, q :: qs, .cons h t => by
    obtain ⟨e, f⟩ := kt_get t
    refine ⟨by simp [e], fun i k v hi => ?_⟩
    cases i with
    | zero =>
      simp only [List.getElem?_cons_zero, Option.some.injEq] at hi
      subst hi
      obtain ⟨k', a, u⟩ := q
      obtain ⟨h1, h2, h3⟩ := h
      cases h1
      exact ⟨a, u, rfl, h2⟩
    | succ n =>
      simp only [List.getElem?_cons_succ] at hi ⊢
      exact f n k v hi
def sRetF (te : TE) : TS := fun D σ H => te σ H fun v H1 => ∃ a kvs, v = .ref a ∧ H1 a = some (.dT kvs) ∧ ∀ ob, D.rt v (upd H1 a (.frz ob (.dT kvs)))
section
variable {X : Cx}
theorem ps_retF {e : Expr} {pos : Pos} {te : TE} (he : PE X e te) : PS X (.Return (some e) pos) (sRetF te) := by
  intro pins s σ H D I h
  refine wpAny_Return_some (thn (he pins s σ H _ I h) fun v s1 ⟨x, H1, I1, r1, a, kvs, ex, e1, q1⟩ => ?_)
  obtain ⟨ob, I2⟩ := I1.freezeT e1
  exact ⟨x, σ, _, I2, r1, q1 ob⟩
theorem call_list_dT (hh : X.A.handled = none) : CallR X (.type "list") (fun xs H Q => ∃ a ob kvs, xs = [.ref a] ∧ H a = some (.frz ob (.dT kvs)) ∧ ∀ (ps : List Addr) (l : Addr), KeysAt H kvs ps → H l = none → Q (.ref l) (upd H l (.lst (ps.map V.ref)))) := by
  intro pins s σ H xs us Q I r h
  obtain ⟨a, ob, kvs, rfl, ea, q⟩ := h
  obtain ⟨u, rfl, ru⟩ := vals1 r
  cases ru
  obtain ⟨y, z, es, ep, ys, rd, kt, e4⟩ := I.rawT ea
  obtain ⟨le, ge⟩ := kt_get kt
  have sz : es.size = kvs.length := by rw [← Array.length_toList, e4, List.length_map, le]
  refine PySem.W.kdl_call (src_raw y) hh rd (by rw [sz]; exact z) fun h' tk acc' c' hk hD hacc => ?_
  have hfp : H s.heap.objs.size = none := I.hok.fresh (Nat.le_refl _)
  have key : ∀ (i : Nat) (x : List Key × Addr × Value), ys[i]? = some x → acc'[i]? = some (.ref x.2.1) := fun i x hx => by
    have hi : i < acc'.size := by
      rw [hacc.1, sz, le]
      exact (List.getElem?_eq_some_iff.mp hx).1
    obtain ⟨e, h1, h2⟩ := hacc.2 i acc'[i] (by simp [hi])
    have h3 : es[i]? = some (entryOfKey (tupleKind (mixKind X.prog X.w)) x) := by rw [← Array.getElem?_toList, e4, List.getElem?_map, hx]; rfl
    rw [h3] at h1
    cases h1
    rw [Array.getElem?_eq_getElem hi, h2]
    rfl
  have accs : acc'.toList = (ys.map (·.2.1)).map Value.ref := by
    refine List.ext_getElem? fun i => ?_
    rw [Array.getElem?_toList, List.getElem?_map, List.getElem?_map]
    cases hx : ys[i]? with
    | none =>
      have : acc'.size ≤ i := by
        rw [hacc.1, sz, le]
        exact List.getElem?_eq_none_iff.mp hx
      rw [Array.getElem?_eq_none this]; rfl
    | some x => rw [key i x hx]; rfl
  refine ⟨.ref s.heap.objs.size, upd H s.heap.objs.size (.lst ((ys.map (·.2.1)).map V.ref)), ?_, rfl, q (ys.map (·.2.1)) _ ⟨by rw [List.length_map, le], fun i p k v h1 h2 => ?_⟩ hfp⟩
  · refine I.laid (t' := tk) (o := .lst ((ys.map (·.2.1)).map V.ref)) hk (Nat.le_refl _) ⟨by rw [List.length_map, List.length_map, ← le]; exact z, acc'.toList, c', ?_, by rw [Array.toArray_toList]; exact hD⟩
    rw [accs]
    generalize ys.map (·.2.1) = zs
    induction zs with
    | nil => exact .nil
    | cons x r ih => exact .cons rfl ih
  · obtain ⟨b, u, h3, h4⟩ := ge i k v h2
    rw [List.getElem?_map, h3] at h1
    cases h1
    exact h4
end
def Itk (a : Addr) (ob : Obj) (kvs : List (List Key × V)) : It :=
  ⟨fun i H => H a = some (.frz ob (.dT kvs)) ∧ i < kvs.length, fun i H x H' => H' = H ∧ ∃ p k v, x = .ref p ∧ kvs[i]? = some (k, v) ∧ H p = some (.tup (k.map kV)), fun i H => H a = some (.frz ob (.dT kvs)) ∧ kvs.length ≤ i⟩
theorem turn_dict {P : Program} {w : World} {K : PySem.W.Frag} {tg : Expr} (a it : Addr) (ob : Obj) (kvs : List (List Key × V)) (ep : Nat) (es : Array DictEntry) (hd : ob.data = .dict es ep) (hes : es.size = kvs.length) :
    Turn P w K tg (Itk a ob kvs) [it] it (fun i h => h.IsKeyIter it a i kvs.length ep) where
  mem := by simp
  obj := fun i h st b hb => by
    have e : b = it := by simpa using hb
    subst e
    obtain ⟨o, e, c, d⟩ := st
    exact ⟨o, e, fun v z => by rw [d] at z; cases z⟩
  keep := fun i h h' st k => st.at fun o e => k it (by simp) o e
  item := by
    intro X hP hw hK hc i pins s σ H E I hf st hg
    subst hP hw hK
    obtain ⟨ea, hi⟩ := hg
    obtain ⟨y, z, es', ep', ys, rd, kt, e4⟩ := I.rawT ea
    obtain ⟨rfl, rfl⟩ : es' = es ∧ ep' = ep := by
      have := rd.dat
      rw [hd] at this
      cases this
      exact ⟨rfl, rfl⟩
    obtain ⟨le, ge⟩ := kt_get kt
    obtain ⟨f0, f1, f2, f3, f4, f5⟩ := hf it (by simp)
    obtain ⟨b, u, h3, h4⟩ := ge i kvs[i].1 kvs[i].2 (by rw [List.getElem?_eq_getElem hi])
    have hi' : i < es'.size := by omega
    have ek : es'[i].key = .ref b := by
      have h5 : es'[i]? = some (entryOfKey (tupleKind (mixKind X.prog X.w)) (kvs[i].1, b, u)) := by rw [← Array.getElem?_toList, e4, List.getElem?_map, h3]; rfl
      rw [Array.getElem?_eq_getElem hi'] at h5
      rw [Option.some.inj h5]
      rfl
    refine next_raw_item (by rw [hes]; exact st) rd hi' fun h' st' sb => ?_
    rw [hes] at st'
    have I1 : Inv X pins σ H { s with heap := h' } := I.turned (t' := s.toks) (fun b o hb e => (sb.2 b hb).trans e) f0 f1 f3 f4 f5
    obtain ⟨o, e, c, d⟩ := id st'
    rw [ek]
    exact ⟨_, rfl, go_of (s := { s with heap := h' }) e c d (by decide) ⟨.ref b, H, I1, rfl, ⟨rfl, b, _, _, rfl, by rw [List.getElem?_eq_getElem hi], h4⟩, st', fun b hb => (hf b hb).1⟩⟩
  done := by
    intro X hP hw hK hc i pins s σ H E I hf st hg
    subst hP hw hK
    obtain ⟨ea, hi⟩ := hg
    obtain ⟨y, z, es', ep', ys, rd, kt, e4⟩ := I.rawT ea
    obtain ⟨rfl, rfl⟩ : es' = es ∧ ep' = ep := by
      have := rd.dat
      rw [hd] at this
      cases this
      exact ⟨rfl, rfl⟩
    obtain ⟨f0, f1, f2, f3, f4, f5⟩ := hf it (by simp)
    exact next_raw_end (I.ok.hd hc) (by rw [hes]; exact st) rd (by omega) fun h' eb => ⟨rfl, I.turned (t' := s.toks) (fun b o hb e => eb b o hb e) f0 f1 f3 f4 f5⟩
  self := fun _ _ _ _ _ st h => wpAny_pyIter_keyiter st h
def iDict (t : TE) : TI := fun σ H R => t σ H fun v H1 => ∃ a ob kvs, v = .ref a ∧ H1 a = some (.frz ob (.dT kvs)) ∧ R (Itk a ob kvs) H1
theorem pi_dict {X : Cx} {tg l : Expr} {tl : TE} (hl : PE X l tl) : PI X tg l (iDict tl) := by
  intro pins s σ H R I h
  refine thn (hl pins s σ H _ I h) fun v s1 ⟨x, H1, I1, r1, q1⟩ => ?_
  obtain ⟨a, ob, kvs, e, ea, q⟩ := q1
  subst e
  cases r1
  obtain ⟨y, z, es, ep, ys, rd, kt, e4⟩ := I1.rawT ea
  obtain ⟨le, ge⟩ := kt_get kt
  have sz : es.size = kvs.length := by rw [← Array.length_toList, e4, List.length_map, le]
  refine iter_raw y rd ?_
  refine ⟨s1.heap.objs.size, [s1.heap.objs.size], _, _, H1, rfl, I1.kept (t' := s1.toks) fun b o e => Heap.get?_push_of_some _ e, turn_dict a _ ob kvs ep es rd.dat sz, ⟨_, Heap.get?_push_size _ rfl, rfl, by rw [sz]; rfl⟩, fun b hb => ?_, q⟩
  have e : b = s1.heap.objs.size := by simpa using hb
  subst e
  exact I1.fpOk (Nat.le_refl _) (I1.hok.fresh (Nat.le_refl _))
theorem comp_dict {k : Nat} {js : List Nat} {g : TG} {tc : TT} {te : TE} {σ : St} {fin : List V → Hp → Prop} {H : Hp} {a : Addr} {ob : Obj} {kvs : List (List Key × V)} (Pv : Nat → List V → Hp → Prop) (h0 : Pv 0 [] H) (hn : kvs.length ≤ sizeLine) (hl : ∀ i us H, Pv i us H → us.length ≤ i)
    (hq : ∀ i us H, i ≤ kvs.length → Pv i us H → H a = some (.frz ob (.dT kvs)))
    (hs : ∀ i p kk v us H, kvs[i]? = some (kk, v) → H p = some (.tup (kk.map kV)) → Pv i us H → g (.ref p) (sigC k js σ) H fun σ2 H3 => tc σ2 H3 fun c H4 => if c = true then te σ2 H4 fun u H5 => Pv (i + 1) (us ++ [u]) H5 else Pv (i + 1) us H4)
    (hd : ∀ us H, Pv kvs.length us H → fin us H) : compW k js g tc te σ (Itk a ob kvs) H fin := by
  refine ⟨fun i m us H => m = kvs.length - i ∧ i ≤ kvs.length ∧ Pv i us H, ⟨kvs.length, by simp, Nat.zero_le _, h0⟩, ?_⟩
  rintro i m us H ⟨rfl, hi, p⟩
  have hy := hl i us H p
  have q1 := hq i us H hi p
  by_cases hlt : i < kvs.length
  · refine .inr ⟨⟨q1, hlt⟩, by omega, Pv (i + 1), fun us' H' p' => ⟨kvs.length - (i + 1), by omega, rfl, hlt, p'⟩, fun v H' y => ?_⟩
    obtain ⟨rfl, b, kk, v, rfl, h1, h2⟩ := y
    exact hs i b kk v us _ h1 h2 p
  · have e : i = kvs.length := by omega
    subst e
    exact .inl ⟨⟨q1, Nat.le_refl _⟩, by omega, hd us H p⟩
end L2
namespace L2
open PySem PySem.Spec PyProof.Rows
def tMethT (RX : St → Addr → Hp → Prop) (D : Addr → Sp → Prop) (m : Str) (ta : TE) (t : TA) : TE := fun σ H Q => tMethA D m (fun e _ H' => ∃ a, e = .ref a ∧ RX σ a H') ta t σ H Q
section
variable {X : Cx}
theorem run_fnT {k : Nat} {f : Addr} {fd : FuncData} {ps : List Str} {sp : Sp} {pins : List (Addr × Obj)} {σ : St} {H : Hp} {s : Shared} {Q : VK} {us : List Value} {vs : List V} {E : XK} (F : FnOk X.prog X.w X.K X.mg X.base (CXR X.prog X.w) k f fd ps sp) (hr : Room k X.A) (hb : Binds X.K fd ps [])
    (hx : ∀ (H : Hp) (s : Shared) (e : Value) (s' : Shared), Inv X pins σ H s → CXR X.prog X.w X.stack H s E e s' → X.xe e s') (I : Inv X pins σ H s) (r : Vals vs us) (h : sp vs H Q E) : wpAny (model X.prog X.w) X.A (call (.ref f) us) (EP X pins σ Q) X.xe s := by
  have hl : (us ++ []).length = ps.length := by rw [List.append_nil, ← r.length]; exact F.len _ _ _ _ h
  have hb2 := hb s us I.kIn hl
  rw [List.append_nil] at hb2
  refine wpAny_call (codeAny_mono (F.run X.A X.stack s H ⟨us, []⟩ us vs Q E hr I.env0 hb2 r h) fun rs s' hq => ?_)
  cases rs with
  | error e => exact hx H s e s' I hq
  | ok fl =>
    cases fl with
    | ret u => exact I.after hq
    | next => exact hq.elim
    | brk => exact hq.elim
    | cont => exact hq.elim
theorem pe_methT {RX : St → Addr → Hp → Prop} {m : Str} {pos apos : Pos} {o e : Expr} {es : List Expr} {ta : TE} {t : TA} {k : Nat} {ps : List Str} {D : Addr → Sp → Prop} {pl : Sem Bool} (he : PE X o ta) (hD : ∀ C sp, D C sp → MethD X.prog X.w X.K X.mg X.base (CXR X.prog X.w) k C m ps sp) (hc : Catches X RX) (hr : Room k X.A) (ha : PA X (e :: es) t)
    (hst : starEach (e :: es) X.env = (false, eval e X.env) :: starEach es X.env := by rfl) (hpl : (backTo pos (starEach es X.env)).any (·.1) = false := by rfl)
    (ht : eval (.Call (.Attribute o m apos) (e :: es) [] pos) X.env = (do
      let ov ← eval o X.env
      standAt apos.atName
      let (f, first) ← holding [ov] (getMethod ov m pl)
      callWith pos f first (backTo pos (starEach (e :: es) X.env)) (backToKw pos (keywordEach [] X.env))) := by rfl) :
    PE X (.Call (.Attribute o m apos) (e :: es) [] pos) (tMethT RX D m ta t) := by
  intro pins s σ H Q I h
  refine PySem.W.methodCall_KW (pl := pl) (thn (he pins s σ H _ I h) fun u s1 ⟨x, H1, I1, rx, a, C, dx, fs, sp, ex, ea, l, d, q⟩ => ?_) ht
  subst ex
  obtain rfl : u = Value.ref a := rx
  obtain ⟨f, fd, c, hm, F, hb⟩ := (hD C sp d).out
  refine getmeth_ok I1 ea c hm l ?_
  refine PySem.W.callWith_K (first := [.ref a]) (h₀ := X.base) I.ok.mod.kin hm.kp (thn (ha pos pins s1 σ H1 _ I1 q) fun us s2 ⟨vs, H2, I2, r, q2⟩ => ⟨I2.kIn, ?_⟩) hst hpl
  exact run_fnT (us := .ref a :: us) (vs := .ref a :: vs) F hr hb (fun H s e s' J z => hc pins σ H s e s' J z) I2 (.cons rfl r) q2
end
theorem pe_fldK {X : Cx} (K : PySem.W.Frag) {e : Expr} {f : Str} {pos : Pos} {ta : TE} (he : PE X e ta) (hK : X.K = K := by rfl) (hb : attributeBase e f X.env (eval e X.env) = eval e X.env := by rfl) : PE X (.Attribute e f pos) (tFld K ta f) := by
  subst hK
  exact pe_fld he hb
def rNotInK (K : PySem.W.Frag) : R2 := fun x y H Q => ∃ p q xs w n, x = .ref q ∧ y = .ref p ∧ SqL K H p (xs.map V.ref) ∧ H q = some (.tup [.str w, .int n]) ∧ (∀ a ∈ xs, ∃ w n, H a = some (.tup [.str w, .int n])) ∧ ∀ b : Bool, (b = true ↔ KeyIn H xs w n) → Q (.bl (!b)) H
open Classical in
theorem op_notin_keys {X : Cx} (hu : X.A.units + 2 < cLine) : OpR X (compareOp .NotIn) (rNotInK X.K) := by
  intro pins s σ H x y v u Q I rx ry h
  obtain ⟨p, q, xs, w, n, rfl, rfl, hp, hq, hx, h⟩ := h
  cases rx
  cases ry
  obtain ⟨its, r, pl, hz⟩ := I.list hp
  obtain rfl := vals_refs r
  refine SeqAt.notIn_listAt (fun v => match v with | .ref a => decide (H a = some (.tup [.str w, .int n])) | _ => false) pl.isList (fun u hu' => ?_) ⟨.bl _, H, I, rfl, h _ ?_⟩
  · have hu' : u ∈ xs.map Value.ref := by simpa using hu'
    obtain ⟨a, ha, rfl⟩ := List.mem_map.mp hu'
    by_cases haq : a = q
    · subst haq
      show SeqAt.EqAt _ _ _ _ (decide (H a = some (.tup [.str w, .int n])))
      rw [decide_eq_true hq]
      exact SeqAt.EqAt.same _
    · obtain ⟨w', n', ea⟩ := hx a ha
      refine key_eqAt I (in1_room hu) haq ea hq ?_
      show decide (H a = some (.tup [.str w, .int n])) = true ↔ _
      rw [ea]
      simp
  · rw [List.any_toArray, List.any_eq_true]
    constructor
    · rintro ⟨u, hu', e⟩
      obtain ⟨a, ha, rfl⟩ := List.mem_map.mp hu'
      exact ⟨a, ha, of_decide_eq_true e⟩
    · rintro ⟨a, ha, e⟩
      exact ⟨.ref a, List.mem_map.mpr ⟨a, ha, rfl⟩, decide_eq_true e⟩
end L2
namespace PySem
namespace SeqAt
open AutoSeq1 (wpAny_loadPart')
open PySem.Spec PyProof.Rows
theorem tuple_eq_no_dict (l b : Addr) (us : Array Value) (es : Array DictEntry) (n m : Nat) (d1 d2 : Option Addr) (x1 x2 : Array (Option Value)) :
    Meets (Builtin.«tuple.__eq__» ⟨[.ref l, .ref b], []⟩) (fun _ R s => s.heap.get? l = some { cls := .type "tuple", dict := d1, data := .seq us n, slots := x1 } ∧ s.heap.get? b = some { cls := .type "dict", dict := d2, data := .dict es m, slots := x2 } ∧ R (.ok (.ret .notImplemented)) s) :=
  .of_wp fun prog w A R s h => by obtain ⟨hp, g, d, tk, os⟩ := s; obtain ⟨y1, y2, h⟩ := h; have f1 := PySem.F.sub_dict_tuple; wp_walk using wpAny_loadPart' y1, wpAny_loadPart' y2; exact ⟨_, rfl, h⟩
theorem dict_eq_no_tuple {prog : Program} {w : World} {A : Around} {E : Value → Shared → Prop} {s : Shared} {l b : Addr} {Q : Value → Shared → Prop} (hT : s.TypeIs (.ref l) "dict") (hU : s.TypeIs (.ref b) "tuple") (h : Q .notImplemented s) :
    wpAny (model prog w) A (call (.builtin "dict.__eq__") [.ref l, .ref b]) Q E s := by
  refine wpAny_call_entry PySem.F.slot_dict_eq hT PySem.F.entry_dict_eq ?_ (PySem.F.args_dict_eq_2 _ _)
  show wpAny _ _ (Builtin.Dict.dictSlotArgs "__eq__" ⟨[.ref l, .ref b], []⟩ >>= _) _ _ s
  refine wpAny_bind ?_
  unfold Builtin.Dict.dictSlotArgs
  refine wpAny_bind (wpAny_notOrdered_dict hT ?_)
  show wpAny _ _ (pure (Value.ref l, Value.ref b)) _ _ s
  refine wpAny_pure ?_
  refine wpAny_bind (wpAny_isInstance (T := "tuple") hU PySem.F.sub_tuple_dict ?_)
  simp only [Bool.not_false, if_true]
  refine wpAny_bind (wpAny_rule ?_)
  first | exact wpAny_pure ⟨_, rfl, h⟩ | (refine wpAny_bind (wpAny_pure ?_); exact wpAny_pure ⟨_, rfl, h⟩)
theorem EqAt.tuple_dict {A : Around} {s : Shared} {l b : Addr} {us : Array Value} {dd : Option Addr} {es : Array DictEntry} {n : Nat} {sl : Array (Option Value)} (hl : s.heap.IsTuple l us) (ho : s.heap.get? b = some { cls := .type "dict", dict := dd, data := .dict es n, slots := sl }) (hu : A.units < cLine) : EqAt A s (.ref l) (.ref b) false := by
  obtain ⟨⟨cls, d1, data, x1⟩, h1, hc, m, hd⟩ := hl
  simp only at hc hd
  subst hc hd
  have hne : l ≠ b := fun e => by subst e; rw [h1] at ho; exact absurd (congrArg Obj.cls (Option.some.inj ho)) (by simp)
  refine EqAt.of_refs hne fun prog w E Q h => ?_
  exact rc_eq_decline_or (k := false) ⟨_, h1, rfl⟩ ⟨_, ho, rfl⟩ (by decide) PySem.F.sub_dict_tuple PySem.F.slot_tuple_eq PySem.F.slot_dict_eq_refl
    (fun _ hq => call_meets PySem.F.slot_tuple_eq ⟨_, h1, rfl⟩ PySem.F.entry_tuple_eq (PySem.F.args_tuple_eq_2 _ _) (tuple_eq_no_dict l b us es m n d1 dd x1 sl) ⟨h1, ho, hq⟩)
    (fun _ hq => dict_eq_no_tuple ⟨_, ho, rfl⟩ ⟨_, h1, rfl⟩ hq)
    (fun _ hq => wpAny_isSame_ref_other' hne h1 ho (by simp) hq) (.inr hu) h
end SeqAt
end PySem
namespace L2
open PySem PySem.Spec PyProof.Rows
def eqI (y v : V) : Bool := if flatV v then eqV y v else false
def ItemOk (K : PySem.W.Frag) (H : Hp) (v : V) : Prop := flatV v = true ∨ ∃ a ys, v = .ref a ∧ SqL K H a ys
def eT (w : Str) (n : Int) (vs : List V) (j : Nat) : Bool := match vs[j]? with
  | some v => if j = 0 then eqI (.str w) v else eqI (.int n) v
  | none => false
theorem eT0 {w : Str} {n : Int} {vs : List V} {v : V} (h : vs[0]? = some v) : eT w n vs 0 = eqI (.str w) v := by
  unfold eT
  rw [h]
  rfl
theorem eT1 {w : Str} {n : Int} {vs : List V} {v : V} (h : vs[1]? = some v) : eT w n vs 1 = eqI (.int n) v := by
  unfold eT
  rw [h]
  rfl
def eqT (w : Str) (n : Int) : List V → Bool
  | [x, y] => eqI (.str w) x && eqI (.int n) y
  | _ => false
theorem eT_all (w : Str) (n : Int) : ∀ vs : List V, ((List.range (min 2 vs.length)).all (eT w n vs) && 2 == vs.length) = eqT w n vs
  | [] => rfl
  | [x] => Bool.and_false _
  | [x, y] => by
    have r : List.range (min 2 [x, y].length) = [0, 1] := rfl
    rw [r, List.all_cons, List.all_cons, List.all_nil, eT0 (v := x) rfl, eT1 (v := y) rfl, Bool.and_true]
    exact Bool.and_true _
  | x :: y :: z :: r => by
    have nb : (2 == (x :: y :: z :: r).length) = false := by
      rw [beq_eq_false_iff_ne]
      simp only [List.length_cons]
      omega
    rw [nb, Bool.and_false]
    rfl
inductive EqK (K : PySem.W.Frag) (H : Hp) : V → (Str → Int → Bool) → Prop
  | flat {x : V} : flatV x = true → EqK K H x fun _ _ => false
  | lst {a : Addr} {ys : List V} : H a = some (.lst ys) → EqK K H (.ref a) fun _ _ => false
  | dct {a : Addr} {kvs : List (Key × V)} : H a = some (.dK kvs) → EqK K H (.ref a) fun _ _ => false
  | tup {a : Addr} {vs : List V} : H a = some (.tup vs) → (∀ v ∈ vs, ItemOk K H v) → EqK K H (.ref a) fun w n => eqT w n vs
theorem EqK.same {K : PySem.W.Frag} {H H' : Hp} {x : V} {e : Str → Int → Bool} (h : EqK K H x e) (s : Same H H') : EqK K H' x e := by
  cases h with
  | flat f => exact .flat f
  | lst h => exact .lst (s _ _ h)
  | dct h => exact .dct (s _ _ h)
  | tup h hv => exact .tup (s _ _ h) fun v hm => (hv v hm).imp id fun ⟨a, ys, e, q⟩ => ⟨a, ys, e, s.seq q⟩
theorem EqK.self {K : PySem.W.Frag} {H : Hp} {x : V} {e : Str → Int → Bool} {a : Addr} {w : Str} {n : Int} (h : EqK K H x e) (hx : x = .ref a) (ha : H a = some (.tup [.str w, .int n])) : e w n = true := by
  cases h with
  | flat f => subst hx; exact absurd (show false = true from f) Bool.false_ne_true
  | lst h => cases hx; rw [ha] at h; cases h
  | dct h => cases hx; rw [ha] at h; cases h
  | tup h hv =>
    cases hx
    rw [ha] at h
    cases h
    show (eqI (.str w) (.str w) && eqI (.int n) (.int n)) = true
    unfold eqI
    rw [if_pos (show flatV (.str w) = true from rfl), if_pos (show flatV (.int n) = true from rfl)]
    simp [eqV]
section
variable {X : Cx} {pins : List (Addr × Obj)} {σ : St} {H : Hp} {s : Shared}
theorem item_eqAt {A : Around} (I : Inv X pins σ H s) (hu : A.units < cLine) {y v : V} {u u' : Value} (fy : (∃ w, y = .str w) ∨ ∃ n, y = .int n) (h : ItemOk X.K H v) (ry : RelV y u) (rv : RelV v u') : SeqAt.EqAt A s u u' (eqI y v) := by
  unfold eqI
  rcases h with f | ⟨a, ys, rfl, hq⟩
  · rw [if_pos f]
    refine eqAt_V ry rv ?_ f
    rcases fy with ⟨w, rfl⟩ | ⟨n, rfl⟩ <;> rfl
  · rw [if_neg (by show ¬ (false = true); exact Bool.false_ne_true)]
    cases rv
    obtain ⟨its, r, pl, _⟩ := I.list hq
    rcases fy with ⟨w, rfl⟩ | ⟨n, rfl⟩
    · obtain ⟨t, rfl⟩ := ry
      exact SeqAt.EqAt.str_list w t pl.isList hu
    · obtain ⟨t, rfl⟩ := ry
      exact SeqAt.EqAt.int_list n t pl.isList hu
theorem EqK.at {A : Around} (I : Inv X pins σ H s) (hu : A.units + 2 < cLine) {x : V} {e : Str → Int → Bool} {u : Value} {a : Addr} {w : Str} {n : Int} (h : EqK X.K H x e) (ha : H a = some (.tup [.str w, .int n])) (r : RelV x u) : (∀ b, x = .ref b → b ≠ a) → SeqAt.EqAt A s (.ref a) u (e w n) := by
  obtain ⟨its, rv, pl, _⟩ := I.tuple (SqT.of (K := X.K) ha)
  have hu0 : A.units < cLine := by omega
  intro hne
  cases h with
  | flat f =>
    cases x with
    | non => cases r; exact SeqAt.EqAt.tuple_none pl hu0
    | bl b => cases r; exact SeqAt.EqAt.tuple_bool b pl hu0
    | int i => obtain ⟨t, rfl⟩ := r; exact SeqAt.EqAt.tuple_int i t pl hu0
    | str z => obtain ⟨t, rfl⟩ := r; exact SeqAt.EqAt.tuple_str z t pl hu0
    | _ => exact absurd (show false = true from f) Bool.false_ne_true
  | lst hq =>
    cases r
    obtain ⟨its', r', pl', _⟩ := I.list (SqL.of (K := X.K) hq)
    exact SeqAt.EqAt.tuple_list pl pl'.isList hu0
  | dct hd =>
    cases r
    obtain ⟨_, _, vs, _, ob, es, ep, h1, h2, h3, _⟩ := dk_of I.hok hd
    obtain ⟨c, dd, data, sl⟩ := ob
    obtain ⟨hc, hdd, hsl⟩ := h2
    simp only at hc h3
    subst hc h3
    exact SeqAt.EqAt.tuple_dict pl h1 hu0
  | @tup b vs hb hv =>
    cases r
    obtain ⟨its', rv', pl', _⟩ := I.tuple (SqT.of (K := X.K) hb)
    obtain ⟨u1, u2, rfl, r1, r2⟩ := vals2 rv
    have l2 := rv'.length
    have := SeqAt.RcAt.tuples (A := A) (e := eT w n vs) pl pl' hu0 (fun j h1 h2 => by
      have hj : j < vs.length := by simp at h2; omega
      have hj2 : j < 2 := by simpa using h1
      have e1 : vs[j]? = some vs[j] := by simp [hj]
      obtain ⟨u', q1, r'⟩ := rv'.get e1
      have z2 : its'.toArray[j] = u' := by simpa [List.getElem?_eq_some_iff] using (List.getElem?_eq_some_iff.mp q1).2
      have ok := hv _ (List.getElem_mem hj)
      rw [z2]
      rcases (show j = 0 ∨ j = 1 by omega) with rfl | rfl
      · rw [eT0 e1]
        exact item_eqAt I (in1_room hu) (.inl ⟨w, rfl⟩) ok r1 r'
      · rw [eT1 e1]
        exact item_eqAt I (in1_room hu) (.inr ⟨n, rfl⟩) ok r2 r')
    refine SeqAt.EqAt.of_refs (Ne.symm (hne b rfl)) ?_
    have sz : its'.toArray.size = vs.length := by rw [List.size_toArray]; exact l2.symm
    rw [sz] at this
    have e := eT_all w n vs
    show SeqAt.RcAt A s (.ref a) (.ref b) (eqT w n vs)
    rw [← e]
    exact this
end
def rNotInA (K : PySem.W.Frag) : R2 := fun x y H Q => ∃ (p : Addr) (xs : List Addr) (e : Str → Int → Bool), y = .ref p ∧ SqL K H p (xs.map V.ref) ∧ EqK K H x e ∧ (∀ a ∈ xs, ∃ w n, H a = some (.tup [.str w, .int n]) ∧ (x = .ref a → e w n = true)) ∧ ∀ b : Bool, (b = true ↔ ∃ a ∈ xs, ∃ w n, H a = some (.tup [.str w, .int n]) ∧ e w n = true) → Q (.bl (!b)) H
open Classical in
theorem op_notin_any {X : Cx} (hu : X.A.units + 4 < cLine) : OpR X (compareOp .NotIn) (rNotInA X.K) := by
  intro pins s σ H x y v u Q I rx ry h
  obtain ⟨p, xs, e, rfl, hp, hE, hx, h⟩ := h
  cases ry
  obtain ⟨its, r, pl, hz⟩ := I.list hp
  obtain rfl := vals_refs r
  refine SeqAt.notIn_listAt (fun v => match v with | .ref a => decide (∃ w n, H a = some (.tup [.str w, .int n]) ∧ e w n = true) | _ => false) pl.isList (fun u hu' => ?_) ⟨.bl _, H, I, rfl, h _ ?_⟩
  · have hu' : u ∈ xs.map Value.ref := by simpa using hu'
    obtain ⟨a, ha, rfl⟩ := List.mem_map.mp hu'
    obtain ⟨w, n, ea, hs⟩ := hx a ha
    have ed : decide (∃ w n, H a = some (.tup [.str w, .int n]) ∧ e w n = true) = e w n := by
      rw [Bool.eq_iff_iff, decide_eq_true_iff]
      constructor
      · rintro ⟨w', n', e1, e2⟩
        rw [ea] at e1
        simp only [Option.some.injEq, HO.tup.injEq, List.cons.injEq, V.str.injEq, V.int.injEq, and_true] at e1
        rw [e1.1, e1.2]; exact e2
      · exact fun z => ⟨w, n, ea, z⟩
    show SeqAt.EqAt _ _ _ _ (decide (∃ w n, H a = some (.tup [.str w, .int n]) ∧ e w n = true))
    rw [ed]
    by_cases hxa : x = .ref a
    · rw [hs hxa]
      subst hxa
      cases rx
      exact SeqAt.EqAt.same _
    · refine hE.at I ?_ ea rx fun b hb hba => hxa (by rw [hb, hba])
      have : X.A.in1.units ≤ X.A.units + 1 := by first | exact Nat.le_refl _ | exact Nat.le_succ _ | simp [Around.in1]
      omega
  · rw [List.any_toArray, List.any_eq_true]
    constructor
    · rintro ⟨u, hu', z⟩
      obtain ⟨a, ha, rfl⟩ := List.mem_map.mp hu'
      exact ⟨a, ha, of_decide_eq_true z⟩
    · rintro ⟨a, ha, z⟩
      exact ⟨.ref a, List.mem_map.mpr ⟨a, ha, rfl⟩, decide_eq_true z⟩
theorem call_isKdK {X : Cx} (K : PySem.W.Frag) (c : Kd) (hc : c = .int ∨ c = .bl ∨ c = .str ∨ c = .tup) (hK : X.K = K := by rfl) : CallR X (.builtin "isinstance") (fun xs H Q => ∃ x k, xs = [x, .ty c.nm] ∧ KdOf K H x k ∧ Q (.bl (k.isA c)) H) := by
  subst hK
  exact call_isKd c hc
end L2
namespace K14
open PySem L2 PyProof.Rows
def top (i : Nat) : Stmt := PySem.Challenge.pw_grantweave_k14_whole_coverers.main.body.getD i (.Pass ⟨0, 0, 0, 0⟩)
structure Txt (mg : Str → Option Value) : Prop where
  n_len : mg "len" = none
  n_isinstance : mg "isinstance" = none
  n_range : mg "range" = none
  n_int : mg "int" = none
  n_bool : mg "bool" = none
  n_str : mg "str" = none
  n_tuple : mg "tuple" = none
  n_list : mg "list" = none
  n_all : mg "all" = none
  n_zip : mg "zip" = none
  n_min : mg "min" = none
  n_max : mg "max" = none
  n_enumerate : mg "enumerate" = none
  g_LETTERS : ∃ t, mg "LETTERS" = some (.str "abcdefghijklmnopqrstuvwxyz" t)
  g_LONGEST_WORD : ∃ t, mg "LONGEST_WORD" = some (.int 8 t)
  g_GREATEST_NUMBER : ∃ t, mg "GREATEST_NUMBER" = some (.int 99 t)
  g_LAST_DAY : ∃ t, mg "LAST_DAY" = some (.int 9999 t)
  g_DEED_BITS : ∃ t, mg "DEED_BITS" = some (.int 5 t)
  g_STRING_BITS : ∃ t, mg "STRING_BITS" = some (.int 6 t)
  g_DUTY_BITS : ∃ t, mg "DUTY_BITS" = some (.int 6 t)
  g_GREATEST_REACH : ∃ t, mg "GREATEST_REACH" = some (.int 3 t)
  g_MOST_LICENCES : ∃ t, mg "MOST_LICENCES" = some (.int 12 t)
  g_JOIN_COUNT : ∃ t, mg "JOIN_COUNT" = some (.int 4 t)
section
variable {P : Program} {w : World} {K : PySem.W.Frag} {mg : Str → Option Value} {base : Heap}
abbrev s_law_cell : Stmt := top 44
theorem sc_law_cell : FnScope ["_law_script", "_law_k"] ["_law_script", "_law_k"] (defScope s_law_cell) := ⟨rfl, rfl, rfl, by decide +kernel, rfl, by decide +kernel, by decide +kernel⟩
theorem ok_cell (T : Txt mg) (F : TopFn K mg "_law_cell" s_law_cell ["_law_script", "_law_k"]) : FnAt P w K mg base "_law_cell" 1 ["_law_script", "_law_k"] (spCell K) := by
  refine F.at sc_law_cell (fun vs H Q E h => ?_) (fun f cdv A outer s H vs Q E hr h => ?_)
  · obtain ⟨a, ns, k, rfl, _⟩ := h
    rfl
  · obtain ⟨a, ns, k, rfl, hS, q⟩ := h
    refine ⟨_, (pss_cons (ps_if (pt_cmpR op_lt (pv 1) (pe_callB call_len rfl T.n_len boot_len (pa_cons (pv 0) pa_nil)) (nomark _)) (pss_one (ps_ret (pe_ix ix_list (pv 0) (pv 1) (fun _ _ => rfl)))) pss_nil)
      (pss_one (ps_ret (pe_op op_add (pe_op op_mul pe_int (pv 1)) pe_int)))), ?_⟩
    refine ⟨_, rfl, _, rfl, _, _, rfl, .inl ⟨_, hS, rfl⟩, _, _, rfl, rfl, _, rfl, ite2 (fun hlt => ?_) (fun _ => ?_)⟩
    · have hlt : (k : Int) < (((ns.map V.int).length : Nat) : Int) := of_decide_eq_true hlt
      have hk : k < ns.length := by rw [List.length_map] at hlt; omega
      refine ⟨_, rfl, _, rfl, a, _, _, V.int ns[k], rfl, rfl, hS, atI_nat (by rw [List.getElem?_map, List.getElem?_eq_getElem hk]; rfl), q _⟩
    · exact ⟨_, rfl, _, _, rfl, rfl, .inl ⟨by decide, by decide⟩, _, _, rfl, rfl, q _⟩
abbrev s_law_mixed : Stmt := top 45
theorem sc_law_mixed : FnScope ["_law_cell_here", "_law_k", "_law_number"] ["_law_cell_here", "_law_k"] (defScope s_law_mixed) := ⟨rfl, rfl, rfl, by decide +kernel, rfl, by decide +kernel, by decide +kernel⟩
theorem ok_mixed (F : TopFn K mg "_law_mixed" s_law_mixed ["_law_cell_here", "_law_k"]) : FnAt P w K mg base "_law_mixed" 1 ["_law_cell_here", "_law_k"] spMixed := by
  refine F.at sc_law_mixed (fun vs H Q E h => ?_) (fun f cdv A outer s H vs Q E hr h => ?_)
  · obtain ⟨a, k, rfl, _⟩ := h
    rfl
  · obtain ⟨a, k, rfl, q⟩ := h
    refine ⟨_, (pss_cons (ps_set (i := 2) sc_law_mixed.nd rfl (by first | exact Or.inl rfl | exact Or.inr rfl) (pe_op op_mod (pe_op op_add (pe_op op_add (pe_op op_mul (pe_op op_mod (pv 0) pe_int) pe_int) (pe_op op_mul pe_int (pv 1))) pe_int) pe_int))
      (pss_cons (ps_set (i := 2) sc_law_mixed.nd rfl (by first | exact Or.inl rfl | exact Or.inr rfl) (pe_op op_mod (pe_op op_add (pe_op op_add (pe_op op_mul (pv 2) (pv 2)) (pe_op op_mul pe_int (pv 1))) pe_int) pe_int))
      (pss_one (ps_ret (pe_op op_mod (pe_op op_mul (pv 2) (pv 2)) pe_int))))), ?_⟩
    have md : ∀ (x : Int) (y : Int), 0 < y → y < 4294967296 → -(2 ^ 64) < x % y ∧ x % y < 2 ^ 64 := fun x y h1 h2 => by
      have a1 := Int.emod_nonneg x (show y ≠ 0 by omega)
      have a2 := Int.emod_lt_of_pos x h1
      omega
    refine ⟨_, rfl, _, _, rfl, rfl, (by show (0 : Int) < _; decide), _, _, rfl, rfl, .inr ⟨by decide, by decide⟩, _, rfl, _, _, rfl, rfl, .inl ⟨by decide, by decide⟩, _, _, rfl, rfl, _, _, rfl, rfl, _, _, rfl, rfl, (by show (0 : Int) < _; decide), ?_⟩
    refine ⟨_, rfl, _, rfl, _, _, rfl, rfl, .inl (md _ _ (by decide) (by decide)), _, rfl, _, _, rfl, rfl, .inl ⟨by decide, by decide⟩, _, _, rfl, rfl, _, _, rfl, rfl, _, _, rfl, rfl, (by show (0 : Int) < _; decide), ?_⟩
    exact ⟨_, rfl, _, rfl, _, _, rfl, rfl, .inl (md _ _ (by decide) (by decide)), _, _, rfl, rfl, (by show (0 : Int) < _; decide), q _⟩
abbrev s_law_box : Stmt := top 46
theorem sc_law_box : FnScope ["_law_cell_here"] ["_law_cell_here"] (defScope s_law_box) := ⟨rfl, rfl, rfl, by decide +kernel, rfl, by decide +kernel, by decide +kernel⟩
theorem ok_box (F : TopFn K mg "_law_box" s_law_box ["_law_cell_here"]) : FnAt P w K mg base "_law_box" 1 ["_law_cell_here"] spBox := by
  refine F.at sc_law_box (fun vs H Q E h => ?_) (fun f cdv A outer s H vs Q E hr h => ?_)
  · obtain ⟨c, rfl, _⟩ := h
    rfl
  · obtain ⟨c, rfl, q⟩ := h
    refine ⟨_, (pss_cons (ps_if (pt_cmpR op_ge (pv 0) (pe_op op_pow pe_int pe_int) (nomark _)) (pss_one (ps_ret (pe_lst (pa_cons (pv 0) (pa_cons (pe_op op_mod (pv 0) pe_int) (pa_cons pe_int pa_nil)))))) pss_nil)
      (pss_one (ps_ret (pe_lst (pa_cons pe_int (pa_cons (pe_op op_mod (pv 0) pe_int) (pa_cons pe_int pa_nil))))))), ?_⟩
    refine ⟨_, rfl, _, _, rfl, rfl, ⟨by decide, by decide, by decide⟩, _, _, rfl, rfl, _, rfl, ite2 (fun _ => ?_) (fun _ => ?_)⟩
    · exact ⟨_, rfl, _, rfl, _, _, rfl, rfl, (by show (0 : Int) < _; decide), (by show 3 ≤ sizeLine; decide), fun p hp => q p _ _ _ hp⟩
    · exact ⟨_, rfl, _, _, rfl, rfl, (by show (0 : Int) < _; decide), (by show 3 ≤ sizeLine; decide), fun p hp => q p _ _ _ hp⟩
abbrev s_law_take : Stmt := top 47
theorem sc_law_take : FnScope ["_law_box_here", "_law_many", "_law_number"] ["_law_box_here", "_law_many"] (defScope s_law_take) := ⟨rfl, rfl, rfl, by decide +kernel, rfl, by decide +kernel, by decide +kernel⟩
theorem ok_take (F_mixed : FnAt P w K mg base "_law_mixed" 1 ["_law_cell_here", "_law_k"] spMixed) (F : TopFn K mg "_law_take" s_law_take ["_law_box_here", "_law_many"]) : FnAt P w K mg base "_law_take" 2 ["_law_box_here", "_law_many"] spTake := by
  refine F.at sc_law_take (fun vs H Q E h => ?_) (fun f cdv A outer s H vs Q E hr h => ?_)
  · obtain ⟨b, n, rfl, _⟩ := h
    rfl
  · obtain ⟨b, n, rfl, ⟨x, y, z, hb⟩, h0, h1, q⟩ := h
    refine ⟨_, (pss_cons (ps_if (pt_cmpR op_gt (pe_ix ix_list (pv 0) pe_int (fun _ _ => rfl)) pe_int (nomark _)) (pss_cons (ps_set (i := 2) sc_law_take.nd rfl (by first | exact Or.inl rfl | exact Or.inr rfl) (pe_op op_mod (pe_ix ix_list (pv 0) pe_int (fun _ _ => rfl)) (pv 1)))
      (pss_cons (ps_asg (pe_op op_fdivB (pe_ix ix_list (pv 0) pe_int (fun _ _ => rfl)) (pv 1)) (pg_sub (pv 0) pe_int set_list))
      (pss_one (ps_ret (pv 2))))) pss_nil)
      (pss_cons (ps_asg (pe_op op_add (pe_ix ix_list (pv 0) pe_int (fun _ _ => rfl)) pe_int) (pg_sub (pv 0) pe_int set_list))
      (pss_one (ps_ret (pe_op op_mod (pe_fn F_mixed hr (by decide) rfl (pa_cons (pe_ix ix_list (pv 0) pe_int (fun _ _ => rfl)) (pa_cons (pe_ix ix_list (pv 0) pe_int (fun _ _ => rfl)) pa_nil))) (pv 1)))))), ?_⟩
    have a1 : ∀ r : Int, 0 ≤ r % n := fun r => Int.emod_nonneg r (show n ≠ 0 by omega)
    have a2 : ∀ r : Int, r % n < n := fun r => Int.emod_lt_of_pos r h0
    have oth : ∀ x y z : Int, Oth b H (upd H b (.lst [.int x, .int y, .int z])) := fun x y z => ⟨⟨x, y, z, upd_same⟩, fun c o e nc => by rw [upd_ne nc]; exact e⟩
    refine ⟨_, rfl, b, _, _, V.int x, rfl, rfl, SqL.of hb, rfl, _, _, rfl, rfl, _, rfl, ite2 (fun _ => ?_) (fun _ => ?_)⟩
    · refine ⟨_, rfl, b, _, _, V.int x, rfl, rfl, SqL.of hb, rfl, _, rfl, _, _, rfl, rfl, h0, ?_⟩
      refine ⟨_, rfl, b, _, _, V.int x, rfl, rfl, SqL.of hb, rfl, _, rfl, _, _, rfl, rfl, ⟨h0, h1⟩, ?_⟩
      refine ⟨_, rfl, b, _, _, 0, rfl, rfl, hb, rfl, ?_⟩
      exact ⟨_, rfl, q _ _ (a1 _) (a2 _) (oth _ _ _)⟩
    · refine ⟨_, rfl, b, _, _, V.int z, rfl, rfl, SqL.of hb, rfl, _, _, rfl, rfl, ?_⟩
      refine ⟨_, rfl, b, _, _, 2, rfl, rfl, hb, rfl, ?_⟩
      refine ⟨_, rfl, b, _, _, V.int y, rfl, rfl, SqL.of upd_same, rfl, _, rfl, b, _, _, V.int (z + 1), rfl, rfl, SqL.of upd_same, rfl, _, _, rfl, fun r => ?_⟩
      exact ⟨_, rfl, _, _, rfl, rfl, h0, q _ _ (a1 _) (a2 _) (oth _ _ _)⟩
end

end K14
namespace K14
open PySem L2 PyProof.Rows
section
variable {P : Program} {w : World} {K : PySem.W.Frag} {mg : Str → Option Value} {base : Heap}
def Arg (K : PySem.W.Frag) (H : Hp) (x : V) : Prop := ∃ k, KdOf K H x k
def spWhole (K : PySem.W.Frag) : Sp := fun vs H Q _ => ∃ x, vs = [x] ∧ Arg K H x ∧ Q (.bl (wholeV x)) H
abbrev sis_whole : Stmt := top 14
theorem scis_whole : FnScope ["thing"] ["thing"] (defScope sis_whole) := ⟨rfl, rfl, rfl, by decide +kernel, rfl, by decide +kernel, by decide +kernel⟩
theorem whole_of {H : Hp} {x : V} {k : Kd} (h : KdOf K H x k) : (k.isA .int && !(k.isA .bl)) = wholeV x := by
  have h : TyOf K H x (.type k.nm) := h
  generalize hT : Value.type k.nm = T at h
  cases h <;> cases k <;> first | rfl | exact absurd (Value.type.inj hT) (by decide) | cases hT
theorem ok_whole (T : Txt mg) (F : TopFn K mg "is_whole" sis_whole ["thing"]) : FnAt P w K mg base "is_whole" 1 ["thing"] (spWhole K) := by
  refine F.at scis_whole (fun vs H Q E h => ?_) (fun f cdv A outer s H vs Q E hr h => ?_)
  · obtain ⟨x, rfl, _⟩ := h
    rfl
  · obtain ⟨x, rfl, ⟨k, hk⟩, q⟩ := h
    refine ⟨_, (pss_one (ps_ret (pe_and (pe_callB (call_isKd .int (by simp)) rfl T.n_isinstance boot_isinstance (pa_cons (pv 0) (pa_cons (pe_bltn (v := .ty "int") rfl T.n_int boot_int rfl) pa_nil))) (pe_one (pe_not (pe_callB (call_isKd .bl (by simp)) rfl T.n_isinstance boot_isinstance (pa_cons (pv 0) (pa_cons (pe_bltn (v := .ty "bool") rfl T.n_bool boot_bool rfl) pa_nil)))))))), ?_⟩
    rw [← whole_of hk] at q
    refine ⟨_, rfl, x, k, rfl, hk, _, rfl, ?_⟩
    cases e : k.isA .int with
    | true =>
      rw [e] at q
      exact iteT ⟨_, rfl, x, k, rfl, hk, _, rfl, q⟩
    | false =>
      rw [e] at q
      exact iteF q
theorem kd_str {H : Hp} {x : V} {k : Kd} (h : KdOf K H x k) (e : k.isA .str = true) : ∃ z, x = .str z := by
  have h : TyOf K H x (.type k.nm) := h
  generalize hT : Value.type k.nm = T at h
  cases h <;> cases k <;> first | exact ⟨_, rfl⟩ | exact absurd e (by decide) | exact absurd (Value.type.inj hT) (by decide) | cases hT
theorem kd_nostr {H : Hp} {x : V} {k : Kd} (h : KdOf K H x k) (e : k.isA .str = false) : wordV x = false := by
  have h : TyOf K H x (.type k.nm) := h
  generalize hT : Value.type k.nm = T at h
  cases h <;> cases k <;> first | rfl | exact absurd e (by decide) | exact absurd (Value.type.inj hT) (by decide) | cases hT
def spWord (K : PySem.W.Frag) : Sp := fun vs H Q _ => ∃ x, vs = [x] ∧ Arg K H x ∧ (∀ z, x = .str z → z.length ≤ 1000) ∧ ∀ H', Same H H' → Q (.bl (wordV x)) H'
abbrev sis_word : Stmt := top 15
theorem scis_word : FnScope ["thing"] ["thing"] (defScope sis_word) := ⟨rfl, rfl, rfl, by decide +kernel, rfl, by decide +kernel, by decide +kernel⟩
theorem take_map_snoc (z : Str) {i : Nat} (hi : i < z.cps.size) (g : Nat → V) : (z.cps.toList.take i).map g ++ [g (z.cps.getD i 0)] = (z.cps.toList.take (i + 1)).map g := by
  have e : z.cps.getD i 0 = z.cps.toList[i]'(by simpa using hi) := by
    rw [Array.getD_eq_getD_getElem?, Array.getElem?_eq_getElem hi]; simp
  rw [List.take_succ_eq_append_getElem (by simpa using hi), List.map_append, e]
  rfl
theorem ok_word (T : Txt mg) (F : TopFn K mg "is_word" sis_word ["thing"]) : FnAt P w K mg base "is_word" 1 ["thing"] (spWord K) := by
  refine F.at scis_word (fun vs H Q E h => ?_) (fun f cdv A outer s H vs Q E hr h => ?_)
  · obtain ⟨x, rfl, _⟩ := h
    rfl
  · obtain ⟨x, rfl, ⟨k, hk⟩, hl, q⟩ := h
    refine ⟨_, (pss_cons (ps_if (PW.pt (pw_or (pt_not (pt_val (pe_callB (call_isKd .str (by simp)) rfl T.n_isinstance boot_isinstance (pa_cons (pv 0) (pa_cons (pe_bltn (v := .ty "str") rfl T.n_str boot_str rfl) pa_nil))))) (pw_or1 (pt_not (pt_chain op_le op_le pe_int (pe_callB call_len rfl T.n_len boot_len (pa_cons (pv 0) pa_nil)) (pe_globI rfl T.g_LONGEST_WORD)))))) (pss_one (ps_ret pe_bl)) pss_nil)
      (pss_one (ps_ret (pe_callB (call_allB rfl) rfl T.n_all boot_all (pa_cons (pe_comp (sc := defScope sis_word) (N0 := ["thing"]) (xs := ["sign"]) (ys := []) (js := []) ⟨rfl, by decide +kernel, by decide +kernel, by decide +kernel, by decide +kernel⟩ rfl (pi_str (pv 0)) (fun _ _ _ _ => (pg_name (i := 0) (show (["sign"] : List Str).Nodup by decide +kernel) rfl (by first | exact Or.inl rfl | exact Or.inr rfl))) (fun _ _ _ _ => pq_nil) (fun _ _ _ _ => (pe_cmpR op_in_str (pv 0) (pe_globS rfl T.g_LETTERS) (by with_unfolding_all rfl)))) pa_nil))))), ?_⟩
    refine ⟨_, rfl, x, k, rfl, hk, _, rfl, ?_⟩
    cases e : k.isA .str with
    | false =>
      refine iteT (iteT ?_)
      have := q H (Same.refl H)
      rw [kd_nostr hk e] at this
      exact this
    | true =>
      refine iteF ?_
      obtain ⟨z, rfl⟩ := kd_str hk e
      have hz := hl z rfl
      have hs : sizeLine = 16777216 := sizeLine_eq
      refine ⟨_, rfl, _, _, rfl, ⟨by omega, rfl⟩, _, _, rfl, rfl, _, rfl, ?_⟩
      have no : ¬ (1 ≤ z.length ∧ z.length ≤ 8) → Q (.bl false) H := fun hn => by
        have := q H (Same.refl H)
        have e2 : wordV (.str z) = false := by
          show (decide (1 ≤ z.length ∧ z.length ≤ 8) && z.cps.toList.all isLow) = false
          rw [decide_eq_false hn]; rfl
        rw [e2] at this
        exact this
      refine ite2 (fun h1 => ?_) (fun h1 => ?_)
      · have h1 : (1 : Int) ≤ (z.length : Int) := of_decide_eq_true h1
        refine ⟨_, _, rfl, rfl, _, rfl, ?_⟩
        refine ite2 (fun h2 => ?_) (fun h2 => ?_)
        · have h2 : ¬ ((z.length : Int) ≤ 8) := by simpa using h2
          exact no (by omega)
        · have h2 : (z.length : Int) ≤ 8 := by simpa using h2
          refine ⟨_, rfl, z, rfl, comp_str (fun i ys H' => H' = H ∧ ys = (z.cps.toList.take i).map fun c => V.bl (isLow c)) ⟨rfl, rfl⟩ (by show z.length ≤ sizeLine; omega) ?_ ?_ ?_⟩
          · rintro i ys H' ⟨rfl, rfl⟩
            simp; omega
          · rintro i ys H' hi ⟨rfl, rfl⟩
            refine ⟨_, rfl, _, _, rfl, rfl, rfl, ?_⟩
            have e3 : (!(Builtin.Str.occurrences (Str.ofString "abcdefghijklmnopqrstuvwxyz") (sgn z i) 0 (Str.ofString "abcdefghijklmnopqrstuvwxyz").length 1).isEmpty) = isLow (z.cps.getD i 0) := low_in _
            rw [e3]
            exact take_map_snoc z hi fun c => V.bl (isLow c)
          · rintro ys H' ⟨rfl, rfl⟩ p hp
            refine ⟨p, z.cps.toList.map isLow, rfl, SqL.of (by rw [upd_same, List.take_of_length_le (by simp), List.map_map]; rfl), ?_⟩
            have e2 : wordV (.str z) = (z.cps.toList.map isLow).all id := by
              show (decide (1 ≤ z.length ∧ z.length ≤ 8) && z.cps.toList.all isLow) = _
              rw [decide_eq_true (by omega), List.all_map]
              rfl
            have := q _ (Same.new (o := .lst ((z.cps.toList.take z.cps.size).map fun c => V.bl (isLow c))) hp)
            rw [e2] at this
            exact this
      · have h1 : ¬ ((1 : Int) ≤ (z.length : Int)) := by simpa using h1
        exact ⟨_, rfl, iteT (no (by omega))⟩
theorem TyOf.same' {H H' : Hp} {x : V} {t : Value} (h : TyOf K H x t) (s : Same H H') : TyOf K H' x t := by
  cases h with
  | non => exact .non
  | bl b => exact .bl b
  | int i => exact .int i
  | str z => exact .str z
  | flt z => exact .flt z
  | lst e => exact .lst (s _ _ e)
  | frz e => exact .frz (s _ _ e)
  | tup e => exact .tup (s _ _ e)
  | dK e => exact .dK (s _ _ e)
  | dT e => exact .dT (s _ _ e)
  | ins e cl ha hn htk hm => exact .ins (s _ _ e) cl ha hn htk hm
theorem Arg.same {H H' : Hp} {x : V} (h : Arg K H x) (s : Same H H') : Arg K H' x := by
  obtain ⟨k, h⟩ := h
  exact ⟨k, TyOf.same' h s⟩
def Short (x : V) : Prop := ∀ z, x = .str z → z.length ≤ 1000
theorem kd_tup {H : Hp} {x : V} {k : Kd} (h : KdOf K H x k) (e : k.isA .tup = true) : ∃ a xs, x = .ref a ∧ H a = some (.tup xs) := by
  have h : TyOf K H x (.type k.nm) := h
  generalize hT : Value.type k.nm = T at h
  cases h <;> cases k <;> first | exact ⟨_, _, rfl, by assumption⟩ | exact absurd e (by decide) | exact absurd (Value.type.inj hT) (by decide) | cases hT
theorem kd_notup {H : Hp} {x : V} {k : Kd} (h : KdOf K H x k) (e : k.isA .tup = false) : keyV H x = false := by
  have h : TyOf K H x (.type k.nm) := h
  generalize hT : Value.type k.nm = T at h
  cases h with
  | lst ea => show (match H _ with | some (.tup [x, y]) => wordV x && numV y | _ => false) = false; rw [ea]
  | frz ea => show (match H _ with | some (.tup [x, y]) => wordV x && numV y | _ => false) = false; rw [ea]
  | dK ea => show (match H _ with | some (.tup [x, y]) => wordV x && numV y | _ => false) = false; rw [ea]
  | dT ea => show (match H _ with | some (.tup [x, y]) => wordV x && numV y | _ => false) = false; rw [ea]
  | tup ea => cases k <;> first | exact absurd e (by decide) | exact absurd (Value.type.inj hT) (by decide)
  | ins ea => cases hT
  | _ => rfl
def spKey (K : PySem.W.Frag) : Sp := fun vs H Q _ => ∃ x, vs = [x] ∧ Arg K H x ∧ (∀ a xs, x = .ref a → H a = some (.tup xs) → ∀ y ∈ xs, Arg K H y ∧ Short y) ∧ ∀ H', Same H H' → Q (.bl (keyV H x)) H'
abbrev sis_key : Stmt := top 16
theorem scis_key : FnScope ["thing"] ["thing"] (defScope sis_key) := ⟨rfl, rfl, rfl, by decide +kernel, rfl, by decide +kernel, by decide +kernel⟩
theorem ok_key (T : Txt mg) (F_is_word : FnAt P w K mg base "is_word" 1 ["thing"] (spWord K)) (F_is_whole : FnAt P w K mg base "is_whole" 1 ["thing"] (spWhole K)) (F : TopFn K mg "is_key" sis_key ["thing"]) : FnAt P w K mg base "is_key" 2 ["thing"] (spKey K) := by
  refine F.at scis_key (fun vs H Q E h => ?_) (fun f cdv A outer s H vs Q E hr h => ?_)
  · obtain ⟨x, rfl, _⟩ := h
    rfl
  · obtain ⟨x, rfl, ⟨k, hk⟩, hy, q⟩ := h
    refine ⟨_, (pss_cons (ps_if (PW.pt (pw_or (pt_not (pt_val (pe_callB (call_isKd .tup (by simp)) rfl T.n_isinstance boot_isinstance (pa_cons (pv 0) (pa_cons (pe_bltn (v := .ty "tuple") rfl T.n_tuple boot_tuple rfl) pa_nil))))) (pw_or1 (pt_cmpR op_ne (pe_callB call_len rfl T.n_len boot_len (pa_cons (pv 0) pa_nil)) pe_int (nomark _))))) (pss_one (ps_ret pe_bl)) pss_nil)
      (pss_one (ps_ret (pe_and (pe_fn F_is_word hr (by decide) rfl (pa_cons (pe_ix ix_tup (pv 0) pe_int (fun _ _ => rfl)) pa_nil)) (pe_and (pe_fn F_is_whole hr (by decide) rfl (pa_cons (pe_ix ix_tup (pv 0) pe_int (fun _ _ => rfl)) pa_nil)) (pe_one (pe_chain op_le op_le pe_int (pe_ix ix_tup (pv 0) pe_int (fun _ _ => rfl)) (pe_globI rfl T.g_GREATEST_NUMBER)))))))), ?_⟩
    refine ⟨_, rfl, x, k, rfl, hk, _, rfl, ?_⟩
    cases e : k.isA .tup with
    | false =>
      refine iteT (iteT ?_)
      have := q H (Same.refl H)
      rw [kd_notup hk e] at this
      exact this
    | true =>
      refine iteF ?_
      obtain ⟨a, xs, rfl, ha⟩ := kd_tup hk e
      refine ⟨_, rfl, _, _, rfl, .inr ⟨xs, SqT.of ha, rfl⟩, rfl, _, rfl, ite2 (fun h2 => ?_) (fun h2 => ?_)⟩
      · have h2 : ¬ ((xs.length : Int) = 2) := by simpa using h2
        have := q H (Same.refl H)
        have e2 : keyV H (.ref a) = false := by
          show (match H a with | some (.tup [x, y]) => wordV x && numV y | _ => false) = false
          rw [ha]
          match xs, h2 with
          | [], _ => rfl
          | [_], _ => rfl
          | [_, _], h2 => exact absurd rfl h2
          | _ :: _ :: _ :: _, _ => rfl
        rw [e2] at this
        exact this
      · have h2 : (xs.length : Int) = 2 := by simpa using h2
        match xs, h2, ha, hy with
        | [], h2, _, _ => exact absurd h2 (by decide)
        | [_], h2, _, _ => simp at h2
        | _ :: _ :: _ :: _, h2, _, _ => simp at h2; omega
        | [u, v], _, ha, hy =>
          have e2 : keyV H (.ref a) = (wordV u && numV v) := by
            show (match H a with | some (.tup [x, y]) => wordV x && numV y | _ => false) = _
            rw [ha]
          rw [e2] at q
          obtain ⟨au, lu⟩ := hy a _ rfl ha u (by simp)
          obtain ⟨av, lv⟩ := hy a _ rfl ha v (by simp)
          refine ⟨_, rfl, a, _, _, u, rfl, rfl, SqT.of ha, rfl, u, rfl, au, lu, fun H1 s1 => ⟨_, rfl, ?_⟩⟩
          have ha1 := s1 _ _ ha
          cases eu : wordV u with
          | false => rw [eu] at q; exact iteF (q _ s1)
          | true =>
            rw [eu, Bool.true_and] at q
            refine iteT ⟨_, rfl, a, _, _, v, rfl, rfl, SqT.of ha1, rfl, v, rfl, av.same s1, _, rfl, ?_⟩
            cases v with
            | int n =>
              refine iteT ⟨_, rfl, a, _, _, V.int n, rfl, rfl, SqT.of ha1, rfl, _, _, rfl, rfl, _, rfl, ite2 (fun h3 => ?_) (fun h3 => ?_)⟩
              · have h3 : 0 ≤ n := of_decide_eq_true h3
                refine ⟨_, _, rfl, rfl, ?_⟩
                have := q _ s1
                have e4 : numV (.int n) = decide (n ≤ 99) := by
                  show decide (0 ≤ n ∧ n ≤ 99) = _
                  rw [Bool.eq_iff_iff]; simp [h3]
                rw [e4] at this
                exact this
              · have h3 : ¬ (0 ≤ n) := by simpa using h3
                have := q _ s1
                have e4 : numV (.int n) = false := decide_eq_false (by omega)
                rw [e4] at this
                exact this
            | _ => exact iteF (q _ s1)
def spDay (K : PySem.W.Frag) : Sp := fun vs H Q _ => ∃ x, vs = [x] ∧ Arg K H x ∧ Q (.bl (dayV x)) H
abbrev sis_day : Stmt := top 17
theorem scis_day : FnScope ["thing"] ["thing"] (defScope sis_day) := ⟨rfl, rfl, rfl, by decide +kernel, rfl, by decide +kernel, by decide +kernel⟩
theorem ok_day (T : Txt mg) (F_is_whole : FnAt P w K mg base "is_whole" 1 ["thing"] (spWhole K)) (F : TopFn K mg "is_day" sis_day ["thing"]) : FnAt P w K mg base "is_day" 2 ["thing"] (spDay K) := by
  refine F.at scis_day (fun vs H Q E h => ?_) (fun f cdv A outer s H vs Q E hr h => ?_)
  · obtain ⟨x, rfl, _⟩ := h
    rfl
  · obtain ⟨x, rfl, hk, q⟩ := h
    refine ⟨_, (pss_one (ps_ret (pe_and (pe_fn F_is_whole hr (by decide) rfl (pa_cons (pv 0) pa_nil)) (pe_one (pe_chain op_le op_le pe_int (pv 0) (pe_globI rfl T.g_LAST_DAY)))))), ?_⟩
    refine ⟨_, rfl, x, rfl, hk, _, rfl, ?_⟩
    cases x with
    | int n =>
      refine iteT ⟨_, rfl, _, _, rfl, rfl, _, rfl, ite2 (fun h3 => ?_) (fun h3 => ?_)⟩
      · have h3 : 0 ≤ n := of_decide_eq_true h3
        refine ⟨_, _, rfl, rfl, ?_⟩
        have e4 : dayV (.int n) = decide (n ≤ 9999) := by
          show decide (0 ≤ n ∧ n ≤ 9999) = _
          rw [Bool.eq_iff_iff]; simp [h3]
        rw [e4] at q
        exact q
      · have h3 : ¬ (0 ≤ n) := by simpa using h3
        have e4 : dayV (.int n) = false := decide_eq_false (by omega)
        rw [e4] at q
        exact q
    | _ => exact iteF q
def spMask (K : PySem.W.Frag) : Sp := fun vs H Q _ => ∃ (x : V) (m : Nat), vs = [x, .int m] ∧ Arg K H x ∧ Q (.bl (maskV m x)) H
abbrev sis_mask : Stmt := top 18
theorem scis_mask : FnScope ["thing", "many"] ["thing", "many"] (defScope sis_mask) := ⟨rfl, rfl, rfl, by decide +kernel, rfl, by decide +kernel, by decide +kernel⟩
theorem ok_mask (F_is_whole : FnAt P w K mg base "is_whole" 1 ["thing"] (spWhole K)) (F : TopFn K mg "is_mask" sis_mask ["thing", "many"]) : FnAt P w K mg base "is_mask" 2 ["thing", "many"] (spMask K) := by
  refine F.at scis_mask (fun vs H Q E h => ?_) (fun f cdv A outer s H vs Q E hr h => ?_)
  · obtain ⟨x, m, rfl, _⟩ := h
    rfl
  · obtain ⟨x, m, rfl, hk, q⟩ := h
    refine ⟨_, (pss_one (ps_ret (pe_and (pe_fn F_is_whole hr (by decide) rfl (pa_cons (pv 0) pa_nil)) (pe_and (pe_cmpR op_ge (pv 0) pe_int (nomark _)) (pe_one (pe_cmpR op_le (pe_bm0 PySem.F.plainAttrs_int PySem.F.slot_int_bit_length PySem.F.type_int_bit_length mt_bitlen (pv 0)) (pv 1) (nomark _))))))), ?_⟩
    refine ⟨_, rfl, x, rfl, hk, _, rfl, ?_⟩
    cases x with
    | int n =>
      refine iteT ⟨_, rfl, _, _, rfl, rfl, _, rfl, ite2 (fun h3 => ?_) (fun h3 => ?_)⟩
      · have h3 : 0 ≤ n := of_decide_eq_true h3
        refine ⟨_, rfl, rfl, n, rfl, rfl, _, rfl, _, _, rfl, rfl, ?_⟩
        have e4 : maskV m (.int n) = decide (((Builtin.Int.intBits n : Nat) : Int) ≤ (m : Int)) := by
          rw [bits_le h3]
          show decide (0 ≤ n ∧ n < 2 ^ m) = _
          rw [Bool.eq_iff_iff]; simp [h3]
        rw [e4] at q
        exact q
      · have h3 : ¬ (0 ≤ n) := by simpa using h3
        have e4 : maskV m (.int n) = false := decide_eq_false (fun z => h3 z.1)
        rw [e4] at q
        exact q
    | _ => exact iteF q
end
end K14
namespace L2
open PySem PySem.Spec PyProof.Rows
theorem kit_list_any {K : PySem.W.Frag} : PySem.W.kitAny K (.type "list") [.type "list", .type "tuple"] = some true := by
  show (match PySem.W.kitOne K (.type "list") (.type "list") with | some true => some true | some false => PySem.W.kitAny K (.type "list") [.type "tuple"] | none => none) = some true
  rw [kit_same]
theorem call_isLT {X : Cx} : CallR X (.builtin "isinstance") (fun xs H Q => ∃ (a : Addr) (ys : List V) (tp : Addr), xs = [.ref a, .ref tp] ∧ H a = some (.lst ys) ∧ SqT X.K H tp [.ty "list", .ty "tuple"] ∧ Q (.bl true) H) := by
  intro pins s σ H xs us Q I r h
  obtain ⟨a, ys, tp, rfl, ha, hq, q⟩ := h
  obtain ⟨u, w', rfl, rx, rc⟩ := vals2 r
  obtain rfl : u = Value.ref a := rx
  obtain rfl : w' = Value.ref tp := rc
  obtain ⟨_, _, n, _, h1⟩ := (show ObjOk X.prog X.w H s.heap a (.lst ys) from I.hok a _ ha)
  obtain ⟨its, rv, pl, _⟩ := I.tuple hq
  have ei : its = [.type "list", .type "tuple"] := by
    cases rv with
    | cons r1 r2 => cases r2 with
      | cons r3 r4 =>
        cases r4
        have r1 : _ = Value.type "list" := r1
        have r3 : _ = Value.type "tuple" := r3
        rw [r1, r3]
  obtain ⟨⟨oc, odd, odt, osl⟩, e1, hc, n1, dd⟩ := pl
  dsimp only at hc dd
  subst hc dd ei
  exact PySem.W.kia_tup PySem.W.kitx_list I.kIn ⟨_, h1, rfl⟩ e1 kit_list_any (fun z => nomatch z) fun tk => ⟨.bl true, H, I.tok _, rfl, q⟩
theorem kit_tuple_list {K : PySem.W.Frag} : PySem.W.kitOne K (.type "tuple") (.type "list") = some false := kit_ty (by decide +kernel) (by decide +kernel) (by decide +kernel)
theorem kit_tuple_any {K : PySem.W.Frag} : PySem.W.kitAny K (.type "tuple") [.type "list", .type "tuple"] = some true := by
  show (match PySem.W.kitOne K (.type "tuple") (.type "list") with | some true => some true | some false => PySem.W.kitAny K (.type "tuple") [.type "tuple"] | none => none) = some true
  rw [kit_tuple_list]
  show (match PySem.W.kitOne K (.type "tuple") (.type "tuple") with | some true => some true | some false => PySem.W.kitAny K (.type "tuple") [] | none => none) = some true
  rw [kit_same]
theorem call_isTT {X : Cx} : CallR X (.builtin "isinstance") (fun xs H Q => ∃ (a : Addr) (ys : List V) (tp : Addr), xs = [.ref a, .ref tp] ∧ H a = some (.tup ys) ∧ SqT X.K H tp [.ty "list", .ty "tuple"] ∧ Q (.bl true) H) := by
  intro pins s σ H xs us Q I r h
  obtain ⟨a, ys, tp, rfl, ha, hq, q⟩ := h
  obtain ⟨u, w', rfl, rx, rc⟩ := vals2 r
  obtain rfl : u = Value.ref a := rx
  obtain rfl : w' = Value.ref tp := rc
  obtain ⟨_, _, _, ob, h1, hcl, _⟩ := (show ObjOk X.prog X.w H s.heap a (.tup ys) from I.hok a _ ha)
  obtain ⟨its, rv, pl, _⟩ := I.tuple hq
  have ei : its = [.type "list", .type "tuple"] := by
    cases rv with
    | cons r1 r2 => cases r2 with
      | cons r3 r4 =>
        cases r4
        have r1 : _ = Value.type "list" := r1
        have r3 : _ = Value.type "tuple" := r3
        rw [r1, r3]
  obtain ⟨⟨oc, odd, odt, osl⟩, e1, hc, n1, dd⟩ := pl
  dsimp only at hc dd
  subst hc dd ei
  exact PySem.W.kia_tup PySem.W.kitx_tuple I.kIn ⟨_, h1, hcl⟩ e1 kit_tuple_any (fun z => nomatch z) fun tk => ⟨.bl true, H, I.tok _, rfl, q⟩
theorem pg_tupK {X : Cx} {pos : Pos} {es : List Expr} {k : Nat} {t : TGs} {n : Nat} (K : PySem.W.Frag) (hc : X.calm = true) (h : PGs X es t) (hK : X.K = K := by rfl) (hn : (assignEach es X.env).length = n := by rfl) (hst : (assignEach es X.env).findIdx? (·.1) = none := by rfl) : PG X (.Tuple es k pos) (gTup K n t) := by
  subst hK
  exact pg_tup hc h hn hst
end L2
namespace K14
open PySem L2 PyProof.Rows
def bitsF : Nat → Nat → Nat → List V
  | 0, _, _ => []
  | f + 1, m, p => if m = 0 then [] else (if m % 2 = 1 then [V.int p] else []) ++ bitsF f (m / 2) (p + 1)
def bitsL (m : Nat) : List V := bitsF 7 m 0
def leastV (m : Nat) : V := match bitsL m with
  | [] => .non
  | x :: _ => x
def beyI (a b : Nat) : Int := Builtin.bitAnd a (Builtin.bitNot b)
def beyondV (a b : Nat) : V := leastV (beyI a b).toNat
theorem bey_ok : ∀ a b : Fin 64, 0 ≤ beyI a.val b.val ∧ beyI a.val b.val < 64 := by decide +kernel
def spBits : Sp := fun vs H Q _ => ∃ m : Nat, m < 64 ∧ vs = [.int m] ∧ ∀ (l : Addr) (H' : Hp), Same H H' → H' l = some (.lst (bitsL m)) → Q (.ref l) H'
section
variable {P : Program} {w : World} {K : PySem.W.Frag} {mg : Str → Option Value} {base : Heap}
abbrev sbits_of : Stmt := top 19
theorem scbits_of : FnScope ["mask", "places", "place", "rest"] ["mask"] (defScope sbits_of) := ⟨rfl, rfl, rfl, by decide +kernel, rfl, by decide +kernel, by decide +kernel⟩
theorem ok_bits (F : TopFn K mg "bits_of" sbits_of ["mask"]) : FnAt P w K mg base "bits_of" 1 ["mask"] spBits := by
  refine F.at scbits_of (fun vs H Q E h => ?_) (fun f cdv A outer s H vs Q E hr h => ?_)
  · obtain ⟨m, _, rfl, _⟩ := h
    rfl
  · obtain ⟨m, hm, rfl, q⟩ := h
    refine ⟨_, (pss_cons (ps_set (i := 1) scbits_of.nd rfl (by first | exact Or.inl rfl | exact Or.inr rfl) (pe_lst pa_nil))
      (pss_cons (ps_set (i := 2) scbits_of.nd rfl (by first | exact Or.inl rfl | exact Or.inr rfl) pe_int)
      (pss_cons (ps_set (i := 3) scbits_of.nd rfl (by first | exact Or.inl rfl | exact Or.inr rfl) (pv 0))
      (pss_cons (ps_while PassesOwn.never (pt_cmpR op_gt (pv 3) pe_int (nomark _)) (pss_cons (ps_if (pt_cmpR op_eq (pe_op op_mod (pv 3) pe_int) pe_int (nomark _)) (pss_one (ps_expr (pe_bm PySem.F.plainAttrs_list PySem.F.slot_list_append PySem.F.type_list_append mt_append (pv 1) (pa_cons (pv 2) pa_nil)))) pss_nil)
      (pss_cons (ps_set (i := 3) scbits_of.nd rfl (by first | exact Or.inl rfl | exact Or.inr rfl) (pe_op op_fdivB (pv 3) pe_int))
      (pss_one (ps_set (i := 2) scbits_of.nd rfl (by first | exact Or.inl rfl | exact Or.inr rfl) (pe_op op_add (pv 2) pe_int))))))
      (pss_one (ps_ret (pv 1))))))), ?_⟩
    have hs : sizeLine = 16777216 := sizeLine_eq
    refine ⟨(by show 0 ≤ sizeLine; decide), fun l hl => ?_⟩
    have s1 := Same.new (o := .lst []) hl
    have e1 : upd H l (.lst []) l = some (.lst []) := upd_same
    refine ⟨_, rfl, ?_⟩
    refine while_by (fun σ H' => ∃ (r p fu : Nat) (xs : List V), σ = [some (.int m), some (.ref l), some (.int p), some (.int r)] ∧ Same H H' ∧ H' l = some (.lst xs) ∧ r < 2 ^ fu ∧ fu ≤ 7 ∧ xs.length + fu ≤ 7 ∧ xs ++ bitsF fu r p = bitsL m)
      (fun σ _ => match (σ[3]? : Option (Option V)) with | some (some (V.int r)) => r.toNat | _ => 0) ⟨m, 0, 7, [], rfl, s1, e1, by omega, by omega, by decide, rfl⟩ ?_ ?_
    · rintro σ H' ⟨r, p, fu, xs, rfl, s', e', hr', hf, hx, eq⟩
      refine ⟨_, rfl, _, _, rfl, rfl, _, rfl, ite2 (fun hpos => ?_) (fun hpos => ?_)⟩
      · have hpos : (0 : Int) < (r : Int) := of_decide_eq_true hpos
        obtain ⟨g, rfl⟩ : ∃ g, fu = g + 1 := ⟨fu - 1, by cases fu with | zero => simp at hr'; omega | succ n => omega⟩
        have hr2 : r / 2 < 2 ^ g := by rw [Nat.pow_succ] at hr'; omega
        have e2 : (r : Int) / 2 = ((r / 2 : Nat) : Int) := by omega
        have unf : bitsF (g + 1) r p = (if r % 2 = 1 then [V.int p] else []) ++ bitsF g (r / 2) (p + 1) := by
          show (if r = 0 then [] else _) = _
          rw [if_neg (by omega)]
        refine ⟨_, rfl, _, _, rfl, rfl, (by show (0 : Int) < 2; decide), rfl, _, rfl, ite2 (fun hodd => ?_) (fun hodd => ?_)⟩
        · have hodd : r % 2 = 1 := by
            have := V.int.inj (of_decide_eq_true hodd)
            omega
          refine ⟨_, rfl, .inl ⟨rfl, _, SqL.of e'⟩, _, rfl, l, _, _, rfl, rfl, e', (by omega), ?_⟩
          refine ⟨_, rfl, _, _, rfl, rfl, ⟨by decide, by decide⟩, _, rfl, _, _, rfl, rfl, ⟨r / 2, p + 1, g, xs ++ [V.int p], ?_, fun b o e => ?_, upd_same, hr2, by omega, by rw [List.length_append, List.length_singleton]; omega, ?_⟩, ?_⟩
          · show [some (V.int m), some (V.ref l), some (V.int ((p : Int) + 1)), some (V.int ((r : Int) / 2))] = _
            rw [e2]
            rfl
          · rw [upd_ne (ne_of_none e hl)]; exact s' b o e
          · rw [← eq, unf, if_pos hodd, List.append_assoc]
          · show ((r : Int) / 2).toNat < ((r : Nat) : Int).toNat
            omega
        · have hodd : ¬ r % 2 = 1 := fun z => hodd (decide_eq_true (show V.int ((r : Int) % 2) = V.int 1 by rw [show (r : Int) % 2 = 1 by omega]))
          refine ⟨_, rfl, _, _, rfl, rfl, ⟨by decide, by decide⟩, _, rfl, _, _, rfl, rfl, ⟨r / 2, p + 1, g, xs, ?_, s', e', hr2, by omega, by omega, ?_⟩, ?_⟩
          · show [some (V.int m), some (V.ref l), some (V.int ((p : Int) + 1)), some (V.int ((r : Int) / 2))] = _
            rw [e2]
            rfl
          · rw [← eq, unf, if_neg hodd, List.nil_append]
          · show ((r : Int) / 2).toNat < ((r : Nat) : Int).toNat
            omega
      · have hpos : ¬ (0 : Int) < (r : Int) := fun z => hpos (decide_eq_true z)
        have r0 : r = 0 := by omega
        subst r0
        have eb : bitsF fu 0 p = [] := by cases fu <;> rfl
        rw [eb, List.append_nil] at eq
        exact ⟨_, rfl, q l _ s' (by rw [e', eq])⟩
    · rintro σ H' Q1 Q2 hq ⟨v, e, i, j, e1, e2, b, e3, z⟩
      exact ⟨v, e, i, j, e1, e2, b, e3, hq _ _ z⟩
def spLeast : Sp := fun vs H Q _ => ∃ m : Nat, m < 64 ∧ vs = [.int m] ∧ ∀ H', Same H H' → Q (leastV m) H'
abbrev sleast_bit : Stmt := top 20
theorem scleast_bit : FnScope ["mask", "places"] ["mask"] (defScope sleast_bit) := ⟨rfl, rfl, rfl, by decide +kernel, rfl, by decide +kernel, by decide +kernel⟩
theorem ok_least (F_bits : FnAt P w K mg base "bits_of" 1 ["mask"] spBits) (F : TopFn K mg "least_bit" sleast_bit ["mask"]) : FnAt P w K mg base "least_bit" 2 ["mask"] spLeast := by
  refine F.at scleast_bit (fun vs H Q E h => ?_) (fun f cdv A outer s H vs Q E hr h => ?_)
  · obtain ⟨m, _, rfl, _⟩ := h
    rfl
  · obtain ⟨m, hm, rfl, q⟩ := h
    refine ⟨_, (pss_cons (ps_set (i := 1) scleast_bit.nd rfl (by first | exact Or.inl rfl | exact Or.inr rfl) (pe_fn F_bits hr (by decide) rfl (pa_cons (pv 0) pa_nil)))
      (pss_one (ps_ret (pe_ifExp (pt_truth (pv 1) (fun _ => rfl)) (pe_ix ix_list (pv 1) pe_int (fun _ _ => rfl)) pe_non)))), ?_⟩
    refine ⟨_, rfl, m, hm, rfl, fun l H1 s1 e1 => ?_⟩
    have q1 := q H1 s1
    unfold leastV at q1
    cases hb : bitsL m with
    | nil =>
      rw [hb] at e1 q1
      exact ⟨_, rfl, false, .inl ⟨_, SqL.of e1, rfl⟩, iteF q1⟩
    | cons x r =>
      rw [hb] at e1 q1
      exact ⟨_, rfl, true, .inl ⟨_, SqL.of e1, rfl⟩, iteT ⟨_, rfl, l, _, _, x, rfl, rfl, SqL.of e1, atI_nat (j := 0) rfl, q1⟩⟩
def spBeyond : Sp := fun vs H Q _ => ∃ a b : Nat, a < 64 ∧ b < 64 ∧ vs = [.int a, .int b] ∧ ∀ H', Same H H' → Q (beyondV a b) H'
abbrev sleast_beyond : Stmt := top 27
theorem scleast_beyond : FnScope ["mask", "bound"] ["mask", "bound"] (defScope sleast_beyond) := ⟨rfl, rfl, rfl, by decide +kernel, rfl, by decide +kernel, by decide +kernel⟩
theorem ok_beyond (F_least : FnAt P w K mg base "least_bit" 2 ["mask"] spLeast) (F : TopFn K mg "least_beyond" sleast_beyond ["mask", "bound"]) : FnAt P w K mg base "least_beyond" 3 ["mask", "bound"] spBeyond := by
  refine F.at scleast_beyond (fun vs H Q E h => ?_) (fun f cdv A outer s H vs Q E hr h => ?_)
  · obtain ⟨a, b, _, _, rfl, _⟩ := h
    rfl
  · obtain ⟨a, b, ha, hb, rfl, q⟩ := h
    refine ⟨_, (pss_one (ps_ret (pe_fn F_least hr (by decide) rfl (pa_cons (pe_op op_and (pv 0) (pe_un un_inv (pv 1))) pa_nil)))), ?_⟩
    obtain ⟨h0, h1⟩ := bey_ok ⟨a, ha⟩ ⟨b, hb⟩
    dsimp only at h0 h1
    refine ⟨_, rfl, _, rfl, _, rfl, _, _, rfl, rfl, (beyI a b).toNat, by omega, ?_, q⟩
    show [V.int (beyI a b)] = [V.int ((beyI a b).toNat : Nat)]
    rw [Int.toNat_of_nonneg h0]
end
end K14
namespace K14
open PySem L2 PyProof.Rows
theorem mask5 {i : Nat} (h : i < 32) : maskV 5 (V.int i) = true := decide_eq_true ⟨by omega, by show (i : Int) < 32; omega⟩
theorem mask6 {i : Nat} (h : i < 64) : maskV 6 (V.int i) = true := decide_eq_true ⟨by omega, by show (i : Int) < 64; omega⟩
structure Asks (a0 a1 a2 a3 : Nat) : Prop where
  l0 : a0 < 64
  l1 : a1 < 64
  l2 : a2 < 64
  l3 : a3 < 64
  b0 : beyondV a0 a1 = .non
  b1 : beyondV a1 a2 = .non
  b2 : beyondV a2 a3 = .non
abbrev asksV (a0 a1 a2 a3 : Nat) : List V := [.int a0, .int a1, .int a2, .int a3]
structure Four (le st ba re : Nat) : Prop where
  hle : le < 32
  hst : st < 64
  hba : ba < 64
  hsb : Builtin.bitAnd st ba = 0
  hre : re ≤ 3
def spAreT : Sp := fun vs H Q _ => ∃ le st ba re : Nat, Four le st ba re ∧ vs = [.int le, .int st, .int ba, .int re] ∧ Q (.bl true) H
section
variable {P : Program} {w : World} {K : PySem.W.Frag} {mg : Str → Option Value} {base : Heap}
abbrev sare_terms : Stmt := top 28
theorem scare_terms : FnScope ["lets", "strings", "bars", "reach"] ["lets", "strings", "bars", "reach"] (defScope sare_terms) := ⟨rfl, rfl, rfl, by decide +kernel, rfl, by decide +kernel, by decide +kernel⟩
theorem ok_are_terms (T : Txt mg) (F_is_mask : FnAt P w K mg base "is_mask" 2 ["thing", "many"] (spMask K)) (F_is_whole : FnAt P w K mg base "is_whole" 1 ["thing"] (spWhole K)) (F : TopFn K mg "are_terms" sare_terms ["lets", "strings", "bars", "reach"]) :
    FnAt P w K mg base "are_terms" 3 ["lets", "strings", "bars", "reach"] spAreT := by
  refine F.at scare_terms (fun vs H Q E h => ?_) (fun f cdv A outer s H vs Q E hr h => ?_)
  · obtain ⟨le, st, ba, re, _, rfl, _⟩ := h
    rfl
  · obtain ⟨le, st, ba, re, g, rfl, q⟩ := h
    refine ⟨_, (pss_cons (ps_if (pt_not (pt_val (pe_fn F_is_mask hr (by decide) rfl (pa_cons (pv 0) (pa_cons (pe_globI rfl T.g_DEED_BITS) pa_nil))))) (pss_one (ps_ret pe_bl)) pss_nil)
      (pss_cons (ps_if (PW.pt (pw_or (pt_not (pt_val (pe_fn F_is_mask hr (by decide) rfl (pa_cons (pv 1) (pa_cons (pe_globI rfl T.g_STRING_BITS) pa_nil))))) (pw_or1 (pt_not (pt_val (pe_fn F_is_mask hr (by decide) rfl (pa_cons (pv 2) (pa_cons (pe_globI rfl T.g_STRING_BITS) pa_nil)))))))) (pss_one (ps_ret pe_bl)) pss_nil)
      (pss_cons (ps_if (pt_cmpR op_ne (pe_op op_and (pv 1) (pv 2)) pe_int (nomark _)) (pss_one (ps_ret pe_bl)) pss_nil)
      (pss_one (ps_ret (pe_and (pe_fn F_is_whole hr (by decide) rfl (pa_cons (pv 3) pa_nil)) (pe_one (pe_chain op_le op_le pe_int (pv 3) (pe_globI rfl T.g_GREATEST_REACH))))))))), ?_⟩
    refine ⟨_, rfl, .int le, 5, rfl, ⟨.int, .int _⟩, _, rfl, ?_⟩
    rw [mask5 g.hle]
    refine iteF ⟨_, rfl, .int st, 6, rfl, ⟨.int, .int _⟩, _, rfl, ?_⟩
    rw [mask6 g.hst]
    refine iteF ⟨_, rfl, .int ba, 6, rfl, ⟨.int, .int _⟩, _, rfl, ?_⟩
    rw [mask6 g.hba]
    refine iteF ⟨_, rfl, _, rfl, _, _, rfl, rfl, rfl, _, rfl, iteNS (congrArg V.int g.hsb) ?_⟩
    refine ⟨_, rfl, .int re, rfl, ⟨.int, .int _⟩, _, rfl, iteT ⟨_, rfl, _, _, rfl, rfl, _, rfl, ?_⟩⟩
    have h1 : decide ((0 : Int) ≤ (re : Int)) = true := decide_eq_true (by omega)
    have h2 : decide ((re : Int) ≤ 3) = true := decide_eq_true (by have := g.hre; omega)
    show if decide ((0 : Int) ≤ (re : Int)) = true then _ else _
    rw [if_pos h1]
    refine ⟨_, _, rfl, rfl, ?_⟩
    show Q (.bl (decide ((re : Int) ≤ 3))) H
    rw [h2]
    exact q
def spTruth : Sp := fun vs H Q _ => ∃ b : Bool, vs = [.bl b] ∧ Q .non H
abbrev sneed_truth : Stmt := top 30
theorem scneed_truth : FnScope ["thing"] ["thing"] (defScope sneed_truth) := ⟨rfl, rfl, rfl, by decide +kernel, rfl, by decide +kernel, by decide +kernel⟩
theorem ok_truth (T : Txt mg) (F : TopFn K mg "need_truth" sneed_truth ["thing"]) : FnAt P w K mg base "need_truth" 1 ["thing"] spTruth := by
  refine F.at scneed_truth (fun vs H Q E h => ?_) (fun f cdv A outer s H vs Q E hr h => ?_)
  · obtain ⟨b, rfl, _⟩ := h
    rfl
  · obtain ⟨b, rfl, q⟩ := h
    refine ⟨_, (pss_one (ps_if (pt_not (pt_val (pe_callB (call_isKd .bl (by simp)) rfl T.n_isinstance boot_isinstance (pa_cons (pv 0) (pa_cons (pe_bltn (v := .ty "bool") rfl T.n_bool boot_bool rfl) pa_nil))))) (pss_one ps_never) pss_nil)), ?_⟩
    exact ⟨_, rfl, .bl b, .bl, rfl, .bl b, _, rfl, iteF q⟩
def spSpan : Sp := fun vs H Q _ => ∃ f l : Nat, f ≤ l ∧ l ≤ 9999 ∧ vs = [.int f, .int l] ∧ Q .non H
theorem day_ok {i : Nat} (h : i ≤ 9999) : dayV (V.int i) = true := decide_eq_true ⟨by omega, by omega⟩
abbrev sneed_span : Stmt := top 31
theorem scneed_span : FnScope ["first", "last"] ["first", "last"] (defScope sneed_span) := ⟨rfl, rfl, rfl, by decide +kernel, rfl, by decide +kernel, by decide +kernel⟩
theorem ok_span (F_is_day : FnAt P w K mg base "is_day" 2 ["thing"] (spDay K)) (F : TopFn K mg "need_span" sneed_span ["first", "last"]) : FnAt P w K mg base "need_span" 3 ["first", "last"] spSpan := by
  refine F.at scneed_span (fun vs H Q E h => ?_) (fun f cdv A outer s H vs Q E hr h => ?_)
  · obtain ⟨f, l, _, _, rfl, _⟩ := h
    rfl
  · obtain ⟨fi, la, h1, h2, rfl, q⟩ := h
    refine ⟨_, (pss_cons (ps_if (pt_not (pt_val (pe_fn F_is_day hr (by decide) rfl (pa_cons (pv 0) pa_nil)))) (pss_one ps_never) pss_nil)
      (pss_one (ps_if (PW.pt (pw_or (pt_not (pt_val (pe_fn F_is_day hr (by decide) rfl (pa_cons (pv 1) pa_nil)))) (pw_or1 (pt_cmpR op_lt (pv 1) (pv 0) (nomark _))))) (pss_one ps_never) pss_nil))), ?_⟩
    refine ⟨_, rfl, .int fi, rfl, ⟨.int, .int _⟩, _, rfl, ?_⟩
    rw [day_ok (show fi ≤ 9999 by omega)]
    refine iteF ⟨_, rfl, .int la, rfl, ⟨.int, .int _⟩, _, rfl, ?_⟩
    rw [day_ok h2]
    refine iteF ⟨_, rfl, _, rfl, _, _, rfl, rfl, _, rfl, ?_⟩
    have hn : ¬ ((la : Int) < (fi : Int)) := by omega
    show if decide ((la : Int) < (fi : Int)) = true then _ else _
    rw [decide_eq_false hn]
    exact iteF q
def spAreA : Sp := fun vs H Q _ => ∃ (l : Addr) (a0 a1 a2 a3 : Nat), Asks a0 a1 a2 a3 ∧ vs = [.ref l] ∧ H l = some (.tup (asksV a0 a1 a2 a3)) ∧ ∀ H', Same H H' → Q (.bl true) H'
abbrev sare_asks : Stmt := top 29
theorem scare_asks : FnScope ["thing"] ["thing"] (defScope sare_asks) := ⟨rfl, rfl, rfl, by decide +kernel, rfl, by decide +kernel, by decide +kernel⟩
theorem ok_are_asks (T : Txt mg) (F_is_mask : FnAt P w K mg base "is_mask" 2 ["thing", "many"] (spMask K)) (F_beyond : FnAt P w K mg base "least_beyond" 3 ["mask", "bound"] spBeyond) (F : TopFn K mg "are_asks" sare_asks ["thing"]) :
    FnAt P w K mg base "are_asks" 4 ["thing"] spAreA := by
  refine F.at scare_asks (fun vs H Q E h => ?_) (fun f cdv A outer s H vs Q E hr h => ?_)
  · obtain ⟨l, a0, a1, a2, a3, _, rfl, _⟩ := h
    rfl
  · obtain ⟨l, a0, a1, a2, a3, g, rfl, hl, q⟩ := h
    refine ⟨_, (pss_cons (ps_if (PW.pt (pw_or (pt_not (pt_val (pe_callB call_isTT rfl T.n_isinstance boot_isinstance (pa_cons (pv 0) (pa_cons (pe_tup (pa_cons (pe_bltn (v := .ty "list") rfl T.n_list boot_list rfl) (pa_cons (pe_bltn (v := .ty "tuple") rfl T.n_tuple boot_tuple rfl) pa_nil))) pa_nil))))) (pw_or1 (pt_cmpR op_ne (pe_callB call_len rfl T.n_len boot_len (pa_cons (pv 0) pa_nil)) (pe_globI rfl T.g_JOIN_COUNT) (nomark _))))) (pss_one (ps_ret pe_bl)) pss_nil)
      (pss_cons (ps_if (pt_not (pt_val (pe_callB (call_allB rfl) rfl T.n_all boot_all (pa_cons (pe_comp (sc := defScope sare_asks) (N0 := ["thing"]) (xs := ["mask"]) (ys := []) (js := []) ⟨rfl, by decide +kernel, by decide +kernel, by decide +kernel, by decide +kernel⟩ rfl (pi_tup (pv 0)) (fun _ _ _ _ => (pg_name (i := 0) (show (["mask"] : List Str).Nodup by decide +kernel) rfl (by first | exact Or.inl rfl | exact Or.inr rfl))) (fun _ _ _ _ => pq_nil) (fun _ _ _ _ => (pe_fn F_is_mask hr (by decide) rfl (pa_cons (pv 0) (pa_cons (pe_globI rfl T.g_DUTY_BITS) pa_nil))))) pa_nil)))) (pss_one (ps_ret pe_bl)) pss_nil)
      (pss_one (ps_ret (pe_callB (call_allB rfl) rfl T.n_all boot_all (pa_cons (pe_comp (sc := defScope sare_asks) (N0 := ["thing"]) (xs := ["looser", "closer"]) (ys := []) (js := []) ⟨rfl, by decide +kernel, by decide +kernel, by decide +kernel, by decide +kernel⟩ rfl (pi_zipG rfl T.n_zip (pa_cons (pe_slice sl_tup (pv 0) po_none (po_some (pe_un un_neg pe_int))) (pa_cons (pe_slice sl_tup (pv 0) (po_some pe_int) po_none) pa_nil))) (fun _ _ _ _ => (pg_tupK (n := 2) K rfl (pgs_cons (pg_name (i := 0) (show (["looser", "closer"] : List Str).Nodup by decide +kernel) rfl (by first | exact Or.inl rfl | exact Or.inr rfl)) (pgs_cons (pg_name (i := 1) (show (["looser", "closer"] : List Str).Nodup by decide +kernel) rfl (by first | exact Or.inl rfl | exact Or.inr rfl)) pgs_nil)))) (fun _ _ _ _ => pq_nil) (fun _ _ _ _ => (pe_cmp (pc_isN (pe_fn F_beyond hr (by decide) rfl (pa_cons (pv 0) (pa_cons (pv 1) pa_nil))))))) pa_nil)))))), ?_⟩
    have hs : sizeLine = 16777216 := sizeLine_eq
    refine ⟨_, rfl, (by show 2 ≤ sizeLine; decide), fun tp htp => ?_⟩
    have s1 := Same.new (o := .tup [.ty "list", .ty "tuple"]) htp
    have e1 : upd H tp (.tup [.ty "list", .ty "tuple"]) tp = some (.tup [.ty "list", .ty "tuple"]) := upd_same
    generalize upd H tp (.tup [.ty "list", .ty "tuple"]) = H1 at s1 e1 ⊢
    have l1 := s1 _ _ hl
    refine ⟨l, _, tp, rfl, l1, SqT.of e1, _, rfl, iteF ?_⟩
    refine ⟨_, rfl, _, _, rfl, .inr ⟨_, SqT.of l1, rfl⟩, rfl, _, rfl, iteNS rfl ?_⟩
    have el : ∀ (i : Nat) (x : V), (asksV a0 a1 a2 a3)[i]? = some x → ∃ n : Nat, n < 64 ∧ x = V.int n := by
      intro i x e
      match i, e with
      | 0, e => cases e; exact ⟨a0, g.l0, rfl⟩
      | 1, e => cases e; exact ⟨a1, g.l1, rfl⟩
      | 2, e => cases e; exact ⟨a2, g.l2, rfl⟩
      | 3, e => cases e; exact ⟨a3, g.l3, rfl⟩
      | n + 4, e => simp at e
    refine ⟨_, rfl, l, rfl, ⟨_, SqT.of l1⟩, comp_tup (K := K) (a := l) (xs := asksV a0 a1 a2 a3) (fun i ys H' => ys = (List.replicate i true).map V.bl ∧ H' = H1) ⟨rfl, rfl⟩ (by show 4 ≤ sizeLine; decide) ?_ ?_ ?_ ?_⟩
    · rintro i ys H' ⟨rfl, _⟩
      simp
    · rintro i ys H' _ ⟨_, rfl⟩
      exact SqT.of l1
    · rintro i x ys H' hx ⟨rfl, rfl⟩
      obtain ⟨n, hn, rfl⟩ := el i x hx
      refine ⟨_, rfl, .int n, 6, rfl, ⟨.int, .int _⟩, ?_, rfl⟩
      rw [mask6 hn, List.replicate_succ', List.map_append]
      rfl
    · rintro ys H' ⟨rfl, rfl⟩
      intro p hp
      have s2 := Same.new (o := .lst ((List.replicate (asksV a0 a1 a2 a3).length true).map V.bl)) hp
      refine ⟨p, List.replicate (asksV a0 a1 a2 a3).length true, rfl, SqL.of upd_same, _, rfl, iteF ?_⟩
      generalize upd H' p (.lst ((List.replicate (asksV a0 a1 a2 a3).length true).map V.bl)) = H2 at s2 ⊢
      have l2 := s2 _ _ l1
      refine ⟨_, rfl, _, rfl, _, rfl, l, _, rfl, SqT.of l2, (by show ¬ (HT.sIx 4 0 none = 0 ∧ HT.sIx 4 4 (some (-1)) = 4); decide), fun la hla => ?_⟩
      have s3 := Same.new (o := .tup (cutV (asksV a0 a1 a2 a3) none (some (-1)))) hla
      have e3 : upd H2 la (.tup (cutV (asksV a0 a1 a2 a3) none (some (-1)))) la = some (.tup [.int a0, .int a1, .int a2]) := upd_same
      generalize upd H2 la (.tup (cutV (asksV a0 a1 a2 a3) none (some (-1)))) = H3 at s3 e3 ⊢
      have l3 := s3 _ _ l2
      refine ⟨_, rfl, _, rfl, l, _, rfl, SqT.of l3, (by show ¬ (HT.sIx 4 0 (some 1) = 0 ∧ HT.sIx 4 4 none = 4); decide), fun lb hlb => ?_⟩
      have s4 := Same.new (o := .tup (cutV (asksV a0 a1 a2 a3) (some 1) none)) hlb
      have e4 : upd H3 lb (.tup (cutV (asksV a0 a1 a2 a3) (some 1) none)) lb = some (.tup [.int a1, .int a2, .int a3]) := upd_same
      generalize upd H3 lb (.tup (cutV (asksV a0 a1 a2 a3) (some 1) none)) = H4 at s4 e4 ⊢
      replace e3 := s4 _ _ e3
      refine ⟨true, true, la, lb, rfl, ⟨_, SqT.of e3⟩, ⟨_, SqT.of e4⟩, comp_zipG (K := K) (b1 := true) (b2 := true) (a := la) (b := lb) (xs := [.int a0, .int a1, .int a2]) (ys := [.int a1, .int a2, .int a3]) (fun i us H' => us = (List.replicate i true).map V.bl ∧ Same H4 H') ⟨rfl, Same.refl _⟩ (by show 3 ≤ sizeLine; decide) rfl ?_ ?_ ?_ ?_⟩
      · rintro i us H' ⟨rfl, _⟩
        simp
      · rintro i us H' _ ⟨_, s'⟩
        exact ⟨SqT.of (s' _ _ e3), SqT.of (s' _ _ e4)⟩
      · rintro i x y p2 us H' hx hy ⟨rfl, s'⟩ hp2
        have s5 := Same.new (o := .tup [x, y]) hp2
        refine ⟨p2, _, rfl, SqT.of upd_same, rfl, _, _, rfl, _, _, rfl, rfl, ?_⟩
        have key : ∃ n m : Nat, n < 64 ∧ m < 64 ∧ x = V.int n ∧ y = V.int m ∧ beyondV n m = .non := by
          match i, hx, hy with
          | 0, hx, hy => cases hx; cases hy; exact ⟨a0, a1, g.l0, g.l1, rfl, rfl, g.b0⟩
          | 1, hx, hy => cases hx; cases hy; exact ⟨a1, a2, g.l1, g.l2, rfl, rfl, g.b1⟩
          | 2, hx, hy => cases hx; cases hy; exact ⟨a2, a3, g.l2, g.l3, rfl, rfl, g.b2⟩
          | n + 3, hx, _ => simp at hx
        obtain ⟨n, m, hn, hm, rfl, rfl, hb⟩ := key
        refine ⟨_, rfl, _, rfl, n, m, hn, hm, rfl, fun H5 s6 => ⟨?_, (s'.trans s5).trans s6⟩⟩
        rw [hb, List.replicate_succ', List.map_append]
        rfl
      · rintro us H' ⟨rfl, s'⟩
        intro p3 hp3
        have s5 := Same.new (o := .lst ((List.replicate ([V.int a0, V.int a1, V.int a2] : List V).length true).map V.bl)) hp3
        exact ⟨p3, List.replicate ([V.int a0, V.int a1, V.int a2] : List V).length true, rfl, SqL.of upd_same, q _ (((((s1.trans s2).trans s3).trans s4).trans s').trans s5)⟩
def spKept : Sp := fun vs H Q _ => (vs = [.non] ∧ ∀ (p : Addr) (H' : Hp), Same H H' → H' p = some (.tup (asksV 0 0 0 0)) → Q (.ref p) H') ∨
  (∃ (l : Addr) (a0 a1 a2 a3 : Nat), Asks a0 a1 a2 a3 ∧ vs = [.ref l] ∧ H l = some (.tup (asksV a0 a1 a2 a3)) ∧ ∀ (p : Addr) (H' : Hp), Same H H' → H' p = some (.tup (asksV a0 a1 a2 a3)) → Q (.ref p) H')
abbrev skept_asks : Stmt := top 32
theorem sckept_asks : FnScope ["asks"] ["asks"] (defScope skept_asks) := ⟨rfl, rfl, rfl, by decide +kernel, rfl, by decide +kernel, by decide +kernel⟩
theorem ok_kept (T : Txt mg) (F_are_asks : FnAt P w K mg base "are_asks" 4 ["thing"] spAreA) (F : TopFn K mg "kept_asks" skept_asks ["asks"]) : FnAt P w K mg base "kept_asks" 5 ["asks"] spKept := by
  refine F.at sckept_asks (fun vs H Q E h => ?_) (fun f cdv A outer s H vs Q E hr h => ?_)
  · rcases h with ⟨rfl, _⟩ | ⟨l, a0, a1, a2, a3, _, rfl, _⟩ <;> rfl
  · refine ⟨_, (pss_cons (ps_if (pt_cmp (pc_isN (pv 0))) (pss_one (ps_ret (pe_tup (pa_cons pe_int (pa_cons pe_int (pa_cons pe_int (pa_cons pe_int pa_nil))))))) pss_nil)
      (pss_cons (ps_if (pt_not (pt_val (pe_fn F_are_asks hr (by decide) rfl (pa_cons (pv 0) pa_nil)))) (pss_one ps_never) pss_nil)
      (pss_one (ps_ret (pe_callTy call_tuple_of rfl T.n_tuple boot_tuple (pa_cons (pv 0) pa_nil)))))), ?_⟩
    rcases h with ⟨rfl, q⟩ | ⟨l, a0, a1, a2, a3, g, rfl, hl, q⟩
    · exact ⟨_, rfl, _, rfl, iteT ⟨(by show 4 ≤ sizeLine; decide), fun p hp => q p _ (Same.new hp) upd_same⟩⟩
    · refine ⟨_, rfl, _, rfl, iteF ⟨_, rfl, l, a0, a1, a2, a3, g, rfl, hl, fun H1 s1 => ⟨_, rfl, iteF ?_⟩⟩⟩
      exact ⟨_, rfl, l, _, rfl, .inr ⟨SqT.of (s1 _ _ hl), q l _ s1 (s1 _ _ hl)⟩⟩
end
end K14
namespace K14
open PySem L2 PyProof.Rows
def t4 (le st ba re : Nat) : List (Str × V) := putF "reach" (.int re) (putF "bars" (.int ba) (putF "strings" (.int st) (putF "lets" (.int le) [])))
def l10 (le st ba re : Nat) (pk pa : Addr) (sa : Bool) (fi la : Nat) (lg : Bool) : List (Str × V) :=
  putF "lasting" (.bl lg) (putF "last" (.int la) (putF "first" (.int fi) (putF "asks" (.ref pa) (putF "same" (.bl sa) (putF "key" (.ref pk) (t4 le st ba re))))))
section
variable {le st ba re fi la : Nat} {pk pa : Addr} {sa lg : Bool}
theorem t4_lets : (t4 le st ba re).lookup ("lets" : Str) = some (.int le) := by unfold t4; repeat (first | rw [lookup_putF, if_pos rfl] | rw [lookup_putF, if_neg (by decide +kernel)])
theorem t4_strings : (t4 le st ba re).lookup ("strings" : Str) = some (.int st) := by unfold t4; repeat (first | rw [lookup_putF, if_pos rfl] | rw [lookup_putF, if_neg (by decide +kernel)])
theorem t4_bars : (t4 le st ba re).lookup ("bars" : Str) = some (.int ba) := by unfold t4; repeat (first | rw [lookup_putF, if_pos rfl] | rw [lookup_putF, if_neg (by decide +kernel)])
theorem t4_reach : (t4 le st ba re).lookup ("reach" : Str) = some (.int re) := by unfold t4; repeat (first | rw [lookup_putF, if_pos rfl] | rw [lookup_putF, if_neg (by decide +kernel)])
theorem t4_no {m : Str} (h : ¬ m = "reach" ∧ ¬ m = "bars" ∧ ¬ m = "strings" ∧ ¬ m = "lets") : (t4 le st ba re).lookup m = none := by
  unfold t4
  rw [lookup_putF, if_neg h.1, lookup_putF, if_neg h.2.1, lookup_putF, if_neg h.2.2.1, lookup_putF, if_neg h.2.2.2]
  rfl
theorem l10_t4 {m : Str} (h : ¬ m = "lasting" ∧ ¬ m = "last" ∧ ¬ m = "first" ∧ ¬ m = "asks" ∧ ¬ m = "same" ∧ ¬ m = "key") : (l10 le st ba re pk pa sa fi la lg).lookup m = (t4 le st ba re).lookup m := by
  unfold l10
  rw [lookup_putF, if_neg h.1, lookup_putF, if_neg h.2.1, lookup_putF, if_neg h.2.2.1, lookup_putF, if_neg h.2.2.2.1, lookup_putF, if_neg h.2.2.2.2.1, lookup_putF, if_neg h.2.2.2.2.2]
theorem l10_key : (l10 le st ba re pk pa sa fi la lg).lookup ("key" : Str) = some (.ref pk) := by unfold l10; repeat (first | rw [lookup_putF, if_pos rfl] | rw [lookup_putF, if_neg (by decide +kernel)])
theorem l10_same : (l10 le st ba re pk pa sa fi la lg).lookup ("same" : Str) = some (.bl sa) := by unfold l10; repeat (first | rw [lookup_putF, if_pos rfl] | rw [lookup_putF, if_neg (by decide +kernel)])
theorem l10_asks : (l10 le st ba re pk pa sa fi la lg).lookup ("asks" : Str) = some (.ref pa) := by unfold l10; repeat (first | rw [lookup_putF, if_pos rfl] | rw [lookup_putF, if_neg (by decide +kernel)])
theorem l10_first : (l10 le st ba re pk pa sa fi la lg).lookup ("first" : Str) = some (.int fi) := by unfold l10; repeat (first | rw [lookup_putF, if_pos rfl] | rw [lookup_putF, if_neg (by decide +kernel)])
theorem l10_last : (l10 le st ba re pk pa sa fi la lg).lookup ("last" : Str) = some (.int la) := by unfold l10; repeat (first | rw [lookup_putF, if_pos rfl] | rw [lookup_putF, if_neg (by decide +kernel)])
theorem l10_lasting : (l10 le st ba re pk pa sa fi la lg).lookup ("lasting" : Str) = some (.bl lg) := by unfold l10; repeat (first | rw [lookup_putF, if_pos rfl] | rw [lookup_putF, if_neg (by decide +kernel)])
end
theorem len_put (f : Str) (v : V) {fs : List (Str × V)} {n : Nat} (h : fs.length ≤ n) : (putF f v fs).length ≤ n + 1 := by
  have := length_putF f v fs
  omega
structure TCls (K : PySem.W.Frag) (C : Addr) : Prop where
  cl : Cls K C
  lets : NoAttr K C "lets"
  strings : NoAttr K C "strings"
  bars : NoAttr K C "bars"
  reach : NoAttr K C "reach"
structure LCls (K : PySem.W.Frag) (C : Addr) : Prop extends TCls K C where
  key : NoAttr K C "key"
  same : NoAttr K C "same"
  asks : NoAttr K C "asks"
  first : NoAttr K C "first"
  last : NoAttr K C "last"
  lasting : NoAttr K C "lasting"
def But (p : Addr) (H H' : Hp) : Prop := ∀ b o, H b = some o → b ≠ p → H' b = some o
def spTInit (C : Addr) : Sp := fun vs H Q _ => ∃ (p dx : Addr) (le st ba re : Nat), Four le st ba re ∧ vs = [.ref p, .int le, .int st, .int ba, .int re] ∧ H p = some (.ins C dx []) ∧ ∀ H', H' p = some (.ins C dx (t4 le st ba re)) → But p H H' → Q .non H'
section
variable {P : Program} {w : World} {K : PySem.W.Frag} {mg : Str → Option Value} {base : Heap} {C cT cL : Addr}
abbrev sTerms_init : Stmt := inClass (top 33) 0
theorem scTerms_init : FnScope ["self", "lets", "strings", "bars", "reach"] ["self", "lets", "strings", "bars", "reach"] (defScope sTerms_init) := ⟨rfl, rfl, rfl, by decide +kernel, rfl, by decide +kernel, by decide +kernel⟩
theorem ok_tinit (c : TCls K C) (F_are_terms : FnAt P w K mg base "are_terms" 3 ["lets", "strings", "bars", "reach"] spAreT) {f : Addr} {fd : FuncData} (F : Fun K "__init__" "Terms.__init__" sTerms_init f fd) :
    FnOk P w K mg base CX0 4 f fd ["self", "lets", "strings", "bars", "reach"] (spTInit C) := by
  refine F.ok scTerms_init (fun vs H Q E h => ?_) (fun cdv A outer s H vs Q E hr h => ?_)
  · obtain ⟨p, dx, le, st, ba, re, _, rfl, _⟩ := h
    rfl
  · obtain ⟨p, dx, le, st, ba, re, g, rfl, hp, q⟩ := h
    refine ⟨_, (pss_cons (ps_if (pt_not (pt_val (pe_fn F_are_terms hr (by decide) rfl (pa_cons (pv 1) (pa_cons (pv 2) (pa_cons (pv 3) (pa_cons (pv 4) pa_nil))))))) (pss_one ps_never) pss_nil)
      (pss_cons (ps_fld (pv 0) (pv 1) rfl) (pss_cons (ps_fld (pv 0) (pv 2) rfl) (pss_cons (ps_fld (pv 0) (pv 3) rfl) (pss_one (ps_fld (pv 0) (pv 4) rfl)))))), ?_⟩
    refine ⟨_, rfl, _, rfl, _, rfl, _, rfl, le, st, ba, re, g, rfl, _, rfl, iteF ?_⟩
    refine ⟨_, rfl, _, rfl, p, C, dx, [], rfl, hp, c.cl, c.lets, (by show 0 < 1000; decide), ?_⟩
    refine ⟨_, rfl, _, rfl, p, C, dx, _, rfl, upd_same, c.cl, c.strings, (Nat.lt_of_le_of_lt (len_put _ _ (n := 0) (Nat.le_refl _)) (by decide)), ?_⟩
    refine ⟨_, rfl, _, rfl, p, C, dx, _, rfl, upd_same, c.cl, c.bars, (Nat.lt_of_le_of_lt (len_put _ _ (len_put _ _ (n := 0) (Nat.le_refl _))) (by decide)), ?_⟩
    refine ⟨_, rfl, _, rfl, p, C, dx, _, rfl, upd_same, c.cl, c.reach, (Nat.lt_of_le_of_lt (len_put _ _ (len_put _ _ (len_put _ _ (n := 0) (Nat.le_refl _)))) (by decide)), ?_⟩
    refine q _ upd_same fun b o e hb => ?_
    rw [upd_ne hb, upd_ne hb, upd_ne hb, upd_ne hb]
    exact e
structure Row where
  w : Str
  n : Nat
  le : Nat
  st : Nat
  ba : Nat
  re : Nat
  sa : Bool
  a0 : Nat
  a1 : Nat
  a2 : Nat
  a3 : Nat
  fi : Nat
  la : Nat
  lg : Bool
structure Row.Good (r : Row) : Prop where
  hw : isWordZ r.w = true
  hn : r.n ≤ 99
  h4 : Four r.le r.st r.ba r.re
  ha : Asks r.a0 r.a1 r.a2 r.a3
  hf : r.fi ≤ r.la
  hl : r.la ≤ 9999
abbrev Row.keyV (r : Row) : List V := [.str r.w, .int r.n]
abbrev Row.asks (r : Row) : List V := asksV r.a0 r.a1 r.a2 r.a3
def Row.l10 (r : Row) (pk pa : Addr) : List (Str × V) := K14.l10 r.le r.st r.ba r.re pk pa r.sa r.fi r.la r.lg
def spLInit (C : Addr) : Sp := fun vs H Q _ => ∃ (p dx pk : Addr) (va : V) (r : Row), r.Good ∧ vs = [.ref p, .ref pk, .int r.le, .int r.st, .int r.ba, .int r.re, .bl r.sa, va, .int r.fi, .int r.la, .bl r.lg] ∧ H p = some (.ins C dx []) ∧ H pk = some (.tup r.keyV) ∧
  ((va = .non ∧ r.a0 = 0 ∧ r.a1 = 0 ∧ r.a2 = 0 ∧ r.a3 = 0) ∨ ∃ l, va = .ref l ∧ H l = some (.tup r.asks)) ∧
  ∀ (pa : Addr) (H' : Hp), H' p = some (.ins C dx (r.l10 pk pa)) → H' pa = some (.tup r.asks) → But p H H' → Q .non H'
abbrev sLicence_init : Stmt := inClass (top 34) 0
abbrev psL : List Str := ["self", "key", "lets", "strings", "bars", "reach", "same", "asks", "first", "last", "lasting"]
theorem scLicence_init : FnScope ["self", "key", "lets", "strings", "bars", "reach", "same", "asks", "first", "last", "lasting", "four_asks"] psL (defScope sLicence_init) := ⟨rfl, rfl, rfl, by decide +kernel, rfl, by decide +kernel, by decide +kernel⟩
theorem ok_linit (c : LCls K C) (CT : CFn P w K mg base "Terms" "__init__" 4 ["self", "lets", "strings", "bars", "reach"] (spTInit C)) (F_is_key : FnAt P w K mg base "is_key" 2 ["thing"] (spKey K)) (F_need_truth : FnAt P w K mg base "need_truth" 1 ["thing"] spTruth) (F_kept : FnAt P w K mg base "kept_asks" 5 ["asks"] spKept) (F_span : FnAt P w K mg base "need_span" 3 ["first", "last"] spSpan)
    {f : Addr} {fd : FuncData} (F : FunD K "__init__" "Licence.__init__" sLicence_init f fd) : FnOk P w K mg base CX0 6 f fd psL (spLInit C) := by
  refine F.ok scLicence_init (fun vs H Q E h => ?_) (fun cdv A outer s H vs Q E hr h => ?_)
  · obtain ⟨p, dx, pk, va, r, _, rfl, _⟩ := h
    rfl
  · obtain ⟨p, dx, pk, va, r, g, rfl, hp, hk, hv, q⟩ := h
    refine ⟨_, (pss_cons (ps_if (pt_not (pt_val (pe_fn F_is_key hr (by decide) rfl (pa_cons (pv 1) pa_nil)))) (pss_one ps_never) pss_nil)
      (pss_cons (ps_expr (pe_cfn CT hr (by decide) rfl (pa_cons (pv 0) (pa_cons (pv 2) (pa_cons (pv 3) (pa_cons (pv 4) (pa_cons (pv 5) pa_nil)))))))
      (pss_cons (ps_expr (pe_fn F_need_truth hr (by decide) rfl (pa_cons (pv 6) pa_nil)))
      (pss_cons (ps_set (i := 11) scLicence_init.nd rfl (by first | exact Or.inl rfl | exact Or.inr rfl) (pe_fn F_kept hr (by decide) rfl (pa_cons (pv 7) pa_nil)))
      (pss_cons (ps_expr (pe_fn F_span hr (by decide) rfl (pa_cons (pv 8) (pa_cons (pv 9) pa_nil))))
      (pss_cons (ps_expr (pe_fn F_need_truth hr (by decide) rfl (pa_cons (pv 10) pa_nil)))
      (pss_cons (ps_fld (pv 0) (pv 1) rfl) (pss_cons (ps_fld (pv 0) (pv 6) rfl) (pss_cons (ps_fld (pv 0) (pv 11) rfl) (pss_cons (ps_fld (pv 0) (pv 8) rfl) (pss_cons (ps_fld (pv 0) (pv 9) rfl) (pss_one (ps_fld (pv 0) (pv 10) rfl))))))))))))), ?_⟩
    have hwl : r.w.length ≤ 1000 := by
      have := g.hw
      unfold isWordZ at this
      simp only [Bool.and_eq_true, decide_eq_true_eq] at this
      omega
    have kv : keyV H (.ref pk) = true := by
      show (match H pk with | some (.tup [x, y]) => wordV x && numV y | _ => false) = true
      rw [hk]
      show (isWordZ r.w && decide ((0 : Int) ≤ (r.n : Int) ∧ (r.n : Int) ≤ 99)) = true
      rw [g.hw, Bool.true_and]
      exact decide_eq_true ⟨by omega, by have := g.hn; omega⟩
    refine ⟨_, rfl, .ref pk, rfl, ⟨.tup, .tup hk⟩, ?_, fun H1 s1 => ⟨_, rfl, ?_⟩⟩
    · intro a xs e h y hy
      cases e
      rw [hk] at h
      cases h
      simp only [List.mem_cons, List.not_mem_nil, or_false] at hy
      rcases hy with rfl | rfl
      · exact ⟨⟨.str, .str _⟩, fun z e => by cases e; exact hwl⟩
      · exact ⟨⟨.int, .int _⟩, fun z e => by cases e⟩
    rw [kv]
    refine iteF ?_
    refine ⟨_, rfl, _, rfl, _, rfl, _, rfl, _, rfl, p, dx, r.le, r.st, r.ba, r.re, g.h4, rfl, s1 _ _ hp, fun H2 e2 b2 => ?_⟩
    refine ⟨_, rfl, r.sa, rfl, ?_⟩
    have other : ∀ b o, H b = some o → b ≠ p → H2 b = some o := fun b o e hb => b2 b o (s1 b o e) hb
    have fin : ∀ (pa : Addr) (H3 : Hp), Same H2 H3 → H3 pa = some (.tup r.asks) → Q .non (upd (upd (upd (upd (upd (upd H3 p (.ins C dx (putF "key" (.ref pk) (t4 r.le r.st r.ba r.re)))) p (.ins C dx (putF "same" (.bl r.sa) (putF "key" (.ref pk) (t4 r.le r.st r.ba r.re))))) p (.ins C dx (putF "asks" (.ref pa) (putF "same" (.bl r.sa) (putF "key" (.ref pk) (t4 r.le r.st r.ba r.re)))))) p (.ins C dx (putF "first" (.int r.fi) (putF "asks" (.ref pa) (putF "same" (.bl r.sa) (putF "key" (.ref pk) (t4 r.le r.st r.ba r.re))))))) p (.ins C dx (putF "last" (.int r.la) (putF "first" (.int r.fi) (putF "asks" (.ref pa) (putF "same" (.bl r.sa) (putF "key" (.ref pk) (t4 r.le r.st r.ba r.re)))))))) p (.ins C dx (r.l10 pk pa))) := by
      intro pa H3 s3 e3
      have np : pa ≠ p := ne_of e3 (s3 _ _ e2) (by intro z; cases z)
      refine q pa _ upd_same (by rw [upd_ne np, upd_ne np, upd_ne np, upd_ne np, upd_ne np, upd_ne np]; exact e3) fun b o e hb => ?_
      rw [upd_ne hb, upd_ne hb, upd_ne hb, upd_ne hb, upd_ne hb, upd_ne hb]
      exact s3 b o (other b o e hb)
    have l4 : (t4 r.le r.st r.ba r.re).length ≤ 4 := len_put _ _ (len_put _ _ (len_put _ _ (len_put _ _ (n := 0) (Nat.le_refl _))))
    rcases hv with ⟨rfl, z0, z1, z2, z3⟩ | ⟨l, rfl, hl⟩
    · refine ⟨_, rfl, .inl ⟨rfl, fun pa H3 s3 e3 => ?_⟩⟩
      have e3 : H3 pa = some (.tup r.asks) := by rw [e3]; show some (HO.tup (asksV 0 0 0 0)) = some (HO.tup (asksV r.a0 r.a1 r.a2 r.a3)); rw [z0, z1, z2, z3]
      refine ⟨_, rfl, _, rfl, r.fi, r.la, g.hf, g.hl, rfl, _, rfl, r.lg, rfl, ?_⟩
      refine ⟨_, rfl, _, rfl, p, C, dx, _, rfl, s3 _ _ e2, c.cl, c.key, Nat.lt_of_le_of_lt l4 (by decide), ?_⟩
      refine ⟨_, rfl, _, rfl, p, C, dx, _, rfl, upd_same, c.cl, c.same, Nat.lt_of_le_of_lt (len_put _ _ l4) (by decide), ?_⟩
      refine ⟨_, rfl, _, rfl, p, C, dx, _, rfl, upd_same, c.cl, c.asks, Nat.lt_of_le_of_lt (len_put _ _ (len_put _ _ l4)) (by decide), ?_⟩
      refine ⟨_, rfl, _, rfl, p, C, dx, _, rfl, upd_same, c.cl, c.first, Nat.lt_of_le_of_lt (len_put _ _ (len_put _ _ (len_put _ _ l4))) (by decide), ?_⟩
      refine ⟨_, rfl, _, rfl, p, C, dx, _, rfl, upd_same, c.cl, c.last, Nat.lt_of_le_of_lt (len_put _ _ (len_put _ _ (len_put _ _ (len_put _ _ l4)))) (by decide), ?_⟩
      refine ⟨_, rfl, _, rfl, p, C, dx, _, rfl, upd_same, c.cl, c.lasting, Nat.lt_of_le_of_lt (len_put _ _ (len_put _ _ (len_put _ _ (len_put _ _ (len_put _ _ l4))))) (by decide), ?_⟩
      exact fin pa H3 s3 e3
    · have hl2 : H2 l = some (.tup r.asks) := other _ _ hl (ne_of hl hp (by intro z; cases z))
      refine ⟨_, rfl, .inr ⟨l, r.a0, r.a1, r.a2, r.a3, g.ha, rfl, hl2, fun pa H3 s3 e3 => ?_⟩⟩
      refine ⟨_, rfl, _, rfl, r.fi, r.la, g.hf, g.hl, rfl, _, rfl, r.lg, rfl, ?_⟩
      refine ⟨_, rfl, _, rfl, p, C, dx, _, rfl, s3 _ _ e2, c.cl, c.key, Nat.lt_of_le_of_lt l4 (by decide), ?_⟩
      refine ⟨_, rfl, _, rfl, p, C, dx, _, rfl, upd_same, c.cl, c.same, Nat.lt_of_le_of_lt (len_put _ _ l4) (by decide), ?_⟩
      refine ⟨_, rfl, _, rfl, p, C, dx, _, rfl, upd_same, c.cl, c.asks, Nat.lt_of_le_of_lt (len_put _ _ (len_put _ _ l4)) (by decide), ?_⟩
      refine ⟨_, rfl, _, rfl, p, C, dx, _, rfl, upd_same, c.cl, c.first, Nat.lt_of_le_of_lt (len_put _ _ (len_put _ _ (len_put _ _ l4))) (by decide), ?_⟩
      refine ⟨_, rfl, _, rfl, p, C, dx, _, rfl, upd_same, c.cl, c.last, Nat.lt_of_le_of_lt (len_put _ _ (len_put _ _ (len_put _ _ (len_put _ _ l4)))) (by decide), ?_⟩
      refine ⟨_, rfl, _, rfl, p, C, dx, _, rfl, upd_same, c.cl, c.lasting, Nat.lt_of_le_of_lt (len_put _ _ (len_put _ _ (len_put _ _ (len_put _ _ (len_put _ _ l4))))) (by decide), ?_⟩
      exact fin pa H3 s3 e3
end
end K14
namespace K14
open PySem L2 PyProof.Rows
structure Ob where
  le : Nat
  st : Nat
  ba : Nat
  re : Nat
  lic : Option (Str × Nat × Bool)
def Ob.wants (o : Ob) : Bool := match o.lic with
  | some (_, _, s) => s
  | none => false
def Ob.later (a b : Ob) : Bool := match a.lic, b.lic with
  | some (w, n, s), some (w', n', _) => s && (decide (w = w') && decide (n' ≤ n))
  | _, _ => false
structure Ob.Fine (o : Ob) : Prop where
  hle : o.le < 64
  hst : o.st < 64
  hba : o.ba < 64
def faultF (a b : Ob) : Option (List V) :=
  if beyondV a.le b.le ≠ .non then some [.str "lets", beyondV a.le b.le] else if beyondV b.st a.st ≠ .non then some [.str "string", beyondV b.st a.st] else if beyondV b.ba a.ba ≠ .non then some [.str "bar", beyondV b.ba a.ba]
  else if b.re < a.re then some [.str "reach", .int a.re] else if b.wants = true ∧ a.later b = false then some [.str "same"] else none
def FAt (H : Hp) (v : V) : Option (List V) → Prop
  | none => v = .non
  | some xs => ∃ p, v = .ref p ∧ H p = some (.tup xs)
structure FVis (fs : List (Str × V)) (o : Ob) : Prop where
  lets : fs.lookup ("lets" : Str) = some (.int o.le)
  strings : fs.lookup ("strings" : Str) = some (.int o.st)
  bars : fs.lookup ("bars" : Str) = some (.int o.ba)
  reach : fs.lookup ("reach" : Str) = some (.int o.re)
  m0 : fs.lookup ("fault" : Str) = none
  m1 : fs.lookup ("covers" : Str) = none
  m2 : fs.lookup ("wants_same" : Str) = none
  m3 : fs.lookup ("is_later" : Str) = none
  m4 : fs.lookup ("told" : Str) = none
inductive ObAt (cT cL : Addr) (H : Hp) (p : Addr) : Ob → Prop
  | t {dx : Addr} {le st ba re : Nat} : H p = some (.ins cT dx (t4 le st ba re)) → ObAt cT cL H p ⟨le, st, ba, re, none⟩
  | l {dx pk pa : Addr} {r : Row} : H p = some (.ins cL dx (r.l10 pk pa)) → H pk = some (.tup r.keyV) → H pa = some (.tup r.asks) → ObAt cT cL H p ⟨r.le, r.st, r.ba, r.re, some (r.w, r.n, r.sa)⟩
theorem ObAt.same {cT cL : Addr} {H H' : Hp} {p : Addr} {o : Ob} (h : ObAt cT cL H p o) (s : Same H H') : ObAt cT cL H' p o := by
  cases h with
  | t h => exact .t (s _ _ h)
  | l h1 h2 h3 => exact .l (s _ _ h1) (s _ _ h2) (s _ _ h3)
theorem vis_t {le st ba re : Nat} : FVis (t4 le st ba re) ⟨le, st, ba, re, none⟩ :=
  ⟨t4_lets, t4_strings, t4_bars, t4_reach, t4_no (by decide +kernel), t4_no (by decide +kernel), t4_no (by decide +kernel), t4_no (by decide +kernel), t4_no (by decide +kernel)⟩
theorem vis_l {r : Row} {pk pa : Addr} : FVis (r.l10 pk pa) ⟨r.le, r.st, r.ba, r.re, some (r.w, r.n, r.sa)⟩ := by
  have look : ∀ {m : Str}, (¬ m = "lasting" ∧ ¬ m = "last" ∧ ¬ m = "first" ∧ ¬ m = "asks" ∧ ¬ m = "same" ∧ ¬ m = "key") → (r.l10 pk pa).lookup m = (t4 r.le r.st r.ba r.re).lookup m := fun h => l10_t4 h
  exact ⟨(look (by decide +kernel)).trans t4_lets, (look (by decide +kernel)).trans t4_strings, (look (by decide +kernel)).trans t4_bars, (look (by decide +kernel)).trans t4_reach,
    (look (by decide +kernel)).trans (t4_no (by decide +kernel)), (look (by decide +kernel)).trans (t4_no (by decide +kernel)), (look (by decide +kernel)).trans (t4_no (by decide +kernel)), (look (by decide +kernel)).trans (t4_no (by decide +kernel)), (look (by decide +kernel)).trans (t4_no (by decide +kernel))⟩
theorem ObAt.any {K : PySem.W.Frag} {cT cL : Addr} {H : Hp} {p : Addr} {o : Ob} (cT' : TCls K cT) (cL' : LCls K cL) (h : ObAt cT cL H p o) : ∃ C dx fs, H p = some (.ins C dx fs) ∧ TCls K C ∧ FVis fs o ∧ (C = cT ∨ C = cL) := by
  cases h with
  | t h => exact ⟨_, _, _, h, cT', vis_t, .inl rfl⟩
  | l h1 h2 h3 => exact ⟨_, _, _, h1, cL'.toTCls, vis_l, .inr rfl⟩
def spWT : Sp := fun vs H Q _ => ∃ p : Addr, vs = [.ref p] ∧ Q (.bl false) H
def spWL (cT cL : Addr) : Sp := fun vs H Q _ => ∃ (p dx pk pa : Addr) (r : Row), vs = [.ref p] ∧ H p = some (.ins cL dx (r.l10 pk pa)) ∧ Q (.bl r.sa) H
def spIT : Sp := fun vs H Q _ => ∃ p p' : Addr, vs = [.ref p, .ref p'] ∧ Q (.bl false) H
def spIL (cT cL : Addr) : Sp := fun vs H Q _ => ∃ (p dx pk pa : Addr) (r : Row) (p' dx' pk' pa' : Addr) (r' : Row), vs = [.ref p, .ref p'] ∧ H p = some (.ins cL dx (r.l10 pk pa)) ∧ H pk = some (.tup r.keyV) ∧ H p' = some (.ins cL dx' (r'.l10 pk' pa')) ∧ H pk' = some (.tup r'.keyV) ∧
  Q (.bl (r.sa && (decide (r.w = r'.w) && decide (r'.n ≤ r.n)))) H
section
variable {P : Program} {w : World} {K : PySem.W.Frag} {mg : Str → Option Value} {base : Heap} {cT cL : Addr}
abbrev sTerms_wants : Stmt := inClass (top 33) 3
theorem scTerms_wants : FnScope ["self"] ["self"] (defScope sTerms_wants) := ⟨rfl, rfl, rfl, by decide +kernel, rfl, by decide +kernel, by decide +kernel⟩
theorem ok_twants {f : Addr} {fd : FuncData} (F : Fun K "wants_same" "Terms.wants_same" sTerms_wants f fd) : FnOk P w K mg base CX0 1 f fd ["self"] spWT := by
  refine F.ok scTerms_wants (fun vs H Q E h => ?_) (fun cdv A outer s H vs Q E hr h => ?_)
  · obtain ⟨p, rfl, _⟩ := h
    rfl
  · obtain ⟨p, rfl, q⟩ := h
    refine ⟨_, (pss_one (ps_ret pe_bl)), ?_⟩
    exact q
abbrev sTerms_later : Stmt := inClass (top 33) 4
theorem scTerms_later : FnScope ["self", "other"] ["self", "other"] (defScope sTerms_later) := ⟨rfl, rfl, rfl, by decide +kernel, rfl, by decide +kernel, by decide +kernel⟩
theorem ok_tlater {f : Addr} {fd : FuncData} (F : Fun K "is_later" "Terms.is_later" sTerms_later f fd) : FnOk P w K mg base CX0 1 f fd ["self", "other"] spIT := by
  refine F.ok scTerms_later (fun vs H Q E h => ?_) (fun cdv A outer s H vs Q E hr h => ?_)
  · obtain ⟨p, p', rfl, _⟩ := h
    rfl
  · obtain ⟨p, p', rfl, q⟩ := h
    refine ⟨_, (pss_one (ps_ret pe_bl)), ?_⟩
    exact q
abbrev sLicence_wants : Stmt := inClass (top 34) 1
theorem scLicence_wants : FnScope ["self"] ["self"] (defScope sLicence_wants) := ⟨rfl, rfl, rfl, by decide +kernel, rfl, by decide +kernel, by decide +kernel⟩
theorem ok_lwants (c : LCls K cL) {f : Addr} {fd : FuncData} (F : Fun K "wants_same" "Licence.wants_same" sLicence_wants f fd) : FnOk P w K mg base CX0 1 f fd ["self"] (spWL cT cL) := by
  refine F.ok scLicence_wants (fun vs H Q E h => ?_) (fun cdv A outer s H vs Q E hr h => ?_)
  · obtain ⟨p, dx, pk, pa, r, rfl, _⟩ := h
    rfl
  · obtain ⟨p, dx, pk, pa, r, rfl, hp, q⟩ := h
    refine ⟨_, (pss_one (ps_ret (pe_fld (pv 0) rfl))), ?_⟩
    exact ⟨_, rfl, p, cL, dx, _, _, rfl, hp, c.cl, c.same, l10_same, q⟩
abbrev sLicence_later : Stmt := inClass (top 34) 2
theorem scLicence_later : FnScope ["self", "other"] ["self", "other"] (defScope sLicence_later) := ⟨rfl, rfl, rfl, by decide +kernel, rfl, by decide +kernel, by decide +kernel⟩
theorem ok_llater (c : LCls K cL) {f : Addr} {fd : FuncData} (F : Fun K "is_later" "Licence.is_later" sLicence_later f fd) : FnOk P w K mg base CX0 1 f fd ["self", "other"] (spIL cT cL) := by
  refine F.ok scLicence_later (fun vs H Q E h => ?_) (fun cdv A outer s H vs Q E hr h => ?_)
  · obtain ⟨p, dx, pk, pa, r, p', dx', pk', pa', r', rfl, _⟩ := h
    rfl
  · obtain ⟨p, dx, pk, pa, r, p', dx', pk', pa', r', rfl, hp, hk, hp', hk', q⟩ := h
    refine ⟨_, (pss_one (ps_ret (pe_and (pe_fld (pv 0) rfl) (pe_and (pe_cmpR op_eq (pe_ix ix_tup (pe_fld (pv 0) rfl) pe_int (fun _ _ => rfl)) (pe_ix ix_tup (pe_fld (pv 1) rfl) pe_int (fun _ _ => rfl)) (nomark _)) (pe_one (pe_cmpR op_ge (pe_ix ix_tup (pe_fld (pv 0) rfl) pe_int (fun _ _ => rfl)) (pe_ix ix_tup (pe_fld (pv 1) rfl) pe_int (fun _ _ => rfl)) (nomark _))))))), ?_⟩
    refine ⟨_, rfl, p, cL, dx, _, _, rfl, hp, c.cl, c.same, l10_same, _, rfl, ?_⟩
    cases hsa : r.sa with
    | false =>
      rw [hsa, Bool.false_and] at q
      exact iteF q
    | true =>
      rw [hsa, Bool.true_and] at q
      refine iteT ?_
      refine ⟨_, rfl, p, cL, dx, _, _, rfl, hp, c.cl, c.key, l10_key, pk, _, _, V.str r.w, rfl, rfl, SqT.of hk, rfl, _, rfl, p', cL, dx', _, _, rfl, hp', c.cl, c.key, l10_key, pk', _, _, V.str r'.w, rfl, rfl, SqT.of hk', rfl, rfl, _, rfl, ?_⟩
      by_cases hw : r.w = r'.w
      · rw [decide_eq_true (congrArg V.str hw)]
        rw [decide_eq_true hw, Bool.true_and] at q
        refine iteT ?_
        refine ⟨_, rfl, p, cL, dx, _, _, rfl, hp, c.cl, c.key, l10_key, pk, _, _, V.int r.n, rfl, rfl, SqT.of hk, rfl, _, rfl, p', cL, dx', _, _, rfl, hp', c.cl, c.key, l10_key, pk', _, _, V.int r'.n, rfl, rfl, SqT.of hk', rfl, _, _, rfl, rfl, ?_⟩
        have e : decide ((r.n : Int) ≥ (r'.n : Int)) = decide (r'.n ≤ r.n) := by
          rw [Bool.eq_iff_iff]
          simp only [decide_eq_true_eq]
          omega
        show Q (.bl (decide ((r.n : Int) ≥ (r'.n : Int)))) H
        rw [e]
        exact q
      · have hne : ¬ (V.str r.w = V.str r'.w) := fun z => hw (V.str.inj z)
        rw [decide_eq_false hne]
        rw [decide_eq_false hw, Bool.false_and] at q
        exact iteF q
end
end K14
namespace K14
open PySem L2 PyProof.Rows
structure THas (P : Program) (w : World) (K : PySem.W.Frag) (mg : Str → Option Value) (base : Heap) (cT cL : Addr) : Prop where
  tc : TCls K cT
  lc : LCls K cL
  wT : MethD P w K mg base CX0 1 cT "wants_same" ["self"] spWT
  wL : MethD P w K mg base CX0 1 cL "wants_same" ["self"] (spWL cT cL)
  iT : MethD P w K mg base CX0 1 cT "is_later" ["self", "other"] spIT
  iL : MethD P w K mg base CX0 1 cL "is_later" ["self", "other"] (spIL cT cL)
def DWS (cT cL : Addr) : Addr → Sp → Prop := fun C sp => (C = cT ∧ sp = spWT) ∨ (C = cL ∧ sp = spWL cT cL)
def DIL (cT cL : Addr) : Addr → Sp → Prop := fun C sp => (C = cT ∧ sp = spIT) ∨ (C = cL ∧ sp = spIL cT cL)
def spFault (cT cL : Addr) : Sp := fun vs H Q _ => ∃ (p p' : Addr) (o o' : Ob), vs = [.ref p, .ref p'] ∧ ObAt cT cL H p o ∧ ObAt cT cL H p' o' ∧ o.Fine ∧ o'.Fine ∧ ∀ (v : V) (H' : Hp), Same H H' → FAt H' v (faultF o o') → Q v H'
def spCov (cT cL : Addr) : Sp := fun vs H Q _ => ∃ (p p' : Addr) (o o' : Ob), vs = [.ref p, .ref p'] ∧ ObAt cT cL H p o ∧ ObAt cT cL H p' o' ∧ o.Fine ∧ o'.Fine ∧ ∀ H' : Hp, Same H H' → Q (.bl (faultF o o').isNone) H'
section
variable {P : Program} {w : World} {K : PySem.W.Frag} {mg : Str → Option Value} {base : Heap} {cT cL : Addr}
theorem THas.hW (D : THas P w K mg base cT cL) : ∀ C sp, DWS cT cL C sp → MethD P w K mg base CX0 1 C "wants_same" ["self"] sp := by
  rintro C sp (⟨rfl, rfl⟩ | ⟨rfl, rfl⟩)
  · exact D.wT
  · exact D.wL
theorem THas.hI (D : THas P w K mg base cT cL) : ∀ C sp, DIL cT cL C sp → MethD P w K mg base CX0 1 C "is_later" ["self", "other"] sp := by
  rintro C sp (⟨rfl, rfl⟩ | ⟨rfl, rfl⟩)
  · exact D.iT
  · exact D.iL
theorem ws_in {H : Hp} {p : Addr} {o : Ob} {Q : VK} (h : ObAt cT cL H p o) (q : Q (.bl o.wants) H) : ∃ a C dx fs sp, V.ref p = .ref a ∧ H a = some (.ins C dx fs) ∧ fs.lookup ("wants_same" : Str) = none ∧ DWS cT cL C sp ∧ sp [V.ref p] H Q E0 := by
  cases h with
  | t h => exact ⟨p, cT, _, _, spWT, rfl, h, vis_t.m2, .inl ⟨rfl, rfl⟩, p, rfl, q⟩
  | l h1 h2 h3 => exact ⟨p, cL, _, _, spWL cT cL, rfl, h1, vis_l.m2, .inr ⟨rfl, rfl⟩, p, _, _, _, _, rfl, h1, q⟩
theorem il_in {σ : L2.St} {i : Nat} {H : Hp} {p p' : Addr} {o o' : Ob} {Q : VK} (e : σ[i]? = some (some (.ref p'))) (h : ObAt cT cL H p o) (h' : ObAt cT cL H p' o') (hl : o'.lic.isSome = true) (q : Q (.bl (o.later o')) H) :
    ∃ a C dx fs sp, V.ref p = .ref a ∧ H a = some (.ins C dx fs) ∧ fs.lookup ("is_later" : Str) = none ∧ DIL cT cL C sp ∧ tCons (tVar i) tNil σ H fun vs H2 => sp (V.ref p :: vs) H2 Q E0 := by
  cases h with
  | t h => exact ⟨p, cT, _, _, spIT, rfl, h, vis_t.m3, .inl ⟨rfl, rfl⟩, _, e, p, p', rfl, q⟩
  | l h1 h2 h3 =>
    cases h' with
    | t h' => cases hl
    | l k1 k2 k3 => exact ⟨p, cL, _, _, spIL cT cL, rfl, h1, vis_l.m3, .inr ⟨rfl, rfl⟩, _, e, p, _, _, _, _, p', _, _, _, _, rfl, h1, h2, k1, k2, q⟩
abbrev sTerms_fault : Stmt := inClass (top 33) 1
theorem scTerms_fault : FnScope ["self", "other", "deed", "string", "bar"] ["self", "other"] (defScope sTerms_fault) := ⟨rfl, rfl, rfl, by decide +kernel, rfl, by decide +kernel, by decide +kernel⟩
theorem ok_fault (D : THas P w K mg base cT cL) (F_beyond : FnAt P w K mg base "least_beyond" 3 ["mask", "bound"] spBeyond) {f : Addr} {fd : FuncData} (F : Fun K "fault" "Terms.fault" sTerms_fault f fd) : FnOk P w K mg base CX0 4 f fd ["self", "other"] (spFault cT cL) := by
  refine F.ok scTerms_fault (fun vs H Q E h => ?_) (fun cdv A outer s H vs Q E hr h => ?_)
  · obtain ⟨p, p', o, o', rfl, _⟩ := h
    rfl
  · obtain ⟨p, p', o, o', rfl, ho, ho', f1, f2, q⟩ := h
    refine ⟨_, (pss_cons (ps_set (i := 2) scTerms_fault.nd rfl (by first | exact Or.inl rfl | exact Or.inr rfl) (pe_fn F_beyond hr (by decide) rfl (pa_cons (pe_fld (pv 0) rfl) (pa_cons (pe_fld (pv 1) rfl) pa_nil))))
      (pss_cons (ps_if (pt_cmp (pc_notN (pv 2))) (pss_one (ps_ret (pe_tup (pa_cons pe_str (pa_cons (pv 2) pa_nil))))) pss_nil)
      (pss_cons (ps_set (i := 3) scTerms_fault.nd rfl (by first | exact Or.inl rfl | exact Or.inr rfl) (pe_fn F_beyond hr (by decide) rfl (pa_cons (pe_fld (pv 1) rfl) (pa_cons (pe_fld (pv 0) rfl) pa_nil))))
      (pss_cons (ps_if (pt_cmp (pc_notN (pv 3))) (pss_one (ps_ret (pe_tup (pa_cons pe_str (pa_cons (pv 3) pa_nil))))) pss_nil)
      (pss_cons (ps_set (i := 4) scTerms_fault.nd rfl (by first | exact Or.inl rfl | exact Or.inr rfl) (pe_fn F_beyond hr (by decide) rfl (pa_cons (pe_fld (pv 1) rfl) (pa_cons (pe_fld (pv 0) rfl) pa_nil))))
      (pss_cons (ps_if (pt_cmp (pc_notN (pv 4))) (pss_one (ps_ret (pe_tup (pa_cons pe_str (pa_cons (pv 4) pa_nil))))) pss_nil)
      (pss_cons (ps_if (pt_cmpR op_gt (pe_fld (pv 0) rfl) (pe_fld (pv 1) rfl) (nomark _)) (pss_one (ps_ret (pe_tup (pa_cons pe_str (pa_cons (pe_fld (pv 0) rfl) pa_nil))))) pss_nil)
      (pss_cons (ps_if (PW.pt (pw_and (pt_val (pe_methD (D := DWS cT cL) (pv 1) D.hW (hr.mono (by decide)) pass0)) (pw_and1 (pt_not (pt_val (pe_methA (D := DIL cT cL) (pv 0) D.hI (hr.mono (by decide)) pass0 (pa_cons (pv 1) pa_nil))))))) (pss_one (ps_ret (pe_tup (pa_cons pe_str pa_nil)))) pss_nil)
      (pss_one (ps_ret pe_non)))))))))), ?_⟩
    unfold faultF at q
    obtain ⟨C, dx, fs, hp, c, v, _⟩ := ho.any D.tc D.lc
    obtain ⟨C', dx', fs', hp', c', v', _⟩ := ho'.any D.tc D.lc
    refine ⟨_, rfl, p, C, dx, _, _, rfl, hp, c.cl, c.lets, v.lets, _, rfl, p', C', dx', _, _, rfl, hp', c'.cl, c'.lets, v'.lets, o.le, o'.le, f1.hle, f2.hle, rfl, fun H1 s1 => ?_⟩
    refine ⟨_, rfl, _, rfl, ?_⟩
    by_cases h1 : beyondV o.le o'.le = .non
    rotate_left
    · rw [if_pos h1] at q
      rw [decide_eq_false h1]
      refine iteT ⟨_, rfl, (by show 2 ≤ sizeLine; decide), fun a ha => ?_⟩
      exact q _ _ (s1.trans (Same.new ha)) ⟨a, rfl, upd_same⟩
    rw [if_neg (fun z => z h1)] at q
    rw [decide_eq_true h1]
    refine iteF ?_
    refine ⟨_, rfl, p', C', dx', _, _, rfl, s1 _ _ hp', c'.cl, c'.strings, v'.strings, _, rfl, p, C, dx, _, _, rfl, s1 _ _ hp, c.cl, c.strings, v.strings, o'.st, o.st, f2.hst, f1.hst, rfl, fun H2 s2 => ?_⟩
    refine ⟨_, rfl, _, rfl, ?_⟩
    have t2 := s1.trans s2
    by_cases h2 : beyondV o'.st o.st = .non
    rotate_left
    · rw [if_pos h2] at q
      rw [decide_eq_false h2]
      refine iteT ⟨_, rfl, (by show 2 ≤ sizeLine; decide), fun a ha => ?_⟩
      exact q _ _ (t2.trans (Same.new ha)) ⟨a, rfl, upd_same⟩
    rw [if_neg (fun z => z h2)] at q
    rw [decide_eq_true h2]
    refine iteF ?_
    refine ⟨_, rfl, p', C', dx', _, _, rfl, t2 _ _ hp', c'.cl, c'.bars, v'.bars, _, rfl, p, C, dx, _, _, rfl, t2 _ _ hp, c.cl, c.bars, v.bars, o'.ba, o.ba, f2.hba, f1.hba, rfl, fun H3 s3 => ?_⟩
    refine ⟨_, rfl, _, rfl, ?_⟩
    have t3 := t2.trans s3
    by_cases h3 : beyondV o'.ba o.ba = .non
    rotate_left
    · rw [if_pos h3] at q
      rw [decide_eq_false h3]
      refine iteT ⟨_, rfl, (by show 2 ≤ sizeLine; decide), fun a ha => ?_⟩
      exact q _ _ (t3.trans (Same.new ha)) ⟨a, rfl, upd_same⟩
    rw [if_neg (fun z => z h3)] at q
    rw [decide_eq_true h3]
    refine iteF ?_
    refine ⟨_, rfl, p, C, dx, _, _, rfl, t3 _ _ hp, c.cl, c.reach, v.reach, _, rfl, p', C', dx', _, _, rfl, t3 _ _ hp', c'.cl, c'.reach, v'.reach, _, _, rfl, rfl, _, rfl, ?_⟩
    by_cases h4 : o'.re < o.re
    · rw [if_pos h4] at q
      show if decide ((o'.re : Int) < (o.re : Int)) = true then _ else _
      rw [decide_eq_true (by omega : (o'.re : Int) < (o.re : Int))]
      refine iteT ⟨_, rfl, p, C, dx, _, _, rfl, t3 _ _ hp, c.cl, c.reach, v.reach, (by show 2 ≤ sizeLine; decide), fun a ha => ?_⟩
      exact q _ _ (t3.trans (Same.new ha)) ⟨a, rfl, upd_same⟩
    rw [if_neg h4] at q
    show if decide ((o'.re : Int) < (o.re : Int)) = true then _ else _
    rw [decide_eq_false (by omega : ¬ (o'.re : Int) < (o.re : Int))]
    refine iteF ?_
    have k := ho.same t3
    have k' := ho'.same t3
    refine ⟨_, rfl, ws_in k' ⟨_, rfl, ?_⟩⟩
    cases hw : o'.wants with
    | false =>
      rw [hw, if_neg (fun z => by cases z.1)] at q
      refine iteF ?_
      exact q _ _ t3 rfl
    | true =>
      have hl : o'.lic.isSome = true := by
        unfold Ob.wants at hw
        cases e : o'.lic with
        | none => rw [e] at hw; cases hw
        | some _ => rfl
      refine iteT ⟨_, rfl, il_in rfl k k' hl ⟨_, rfl, ?_⟩⟩
      cases hla : o.later o' with
      | false =>
        rw [hw, hla, if_pos ⟨rfl, rfl⟩] at q
        refine iteT ⟨(by show 1 ≤ sizeLine; decide), fun a ha => ?_⟩
        exact q _ _ (t3.trans (Same.new ha)) ⟨a, rfl, upd_same⟩
      | true =>
        rw [hw, hla, if_neg (fun z => by cases z.2)] at q
        refine iteF ?_
        exact q _ _ t3 rfl
end
end K14
namespace K14
open PySem L2 PyProof.Rows
abbrev Row.tup (r : Row) (pk pa : Addr) : List V := [.ref pk, .int r.le, .int r.st, .int r.ba, .int r.re, .bl r.sa, .ref pa, .int r.fi, .int r.la, .bl r.lg]
def RowAt (H : Hp) (q : Addr) (r : Row) : Prop := ∃ pk pa, H q = some (.tup (r.tup pk pa)) ∧ H pk = some (.tup r.keyV) ∧ H pa = some (.tup r.asks)
theorem RowAt.same {H H' : Hp} {q : Addr} {r : Row} (h : RowAt H q r) (s : Same H H') : RowAt H' q r := by
  obtain ⟨pk, pa, h1, h2, h3⟩ := h
  exact ⟨pk, pa, s _ _ h1, s _ _ h2, s _ _ h3⟩
def DF (cT cL : Addr) : Addr → Sp → Prop := fun C sp => (C = cT ∨ C = cL) ∧ sp = spFault cT cL
def DC (cT cL : Addr) : Addr → Sp → Prop := fun C sp => (C = cT ∨ C = cL) ∧ sp = spCov cT cL
def spTT (cT : Addr) : Sp := fun vs H Q _ => ∃ (p dx : Addr) (le st ba re : Nat), vs = [.ref p] ∧ H p = some (.ins cT dx (t4 le st ba re)) ∧ ∀ (q : Addr) (H' : Hp), Same H H' → H' q = some (.tup [.int le, .int st, .int ba, .int re]) → Q (.ref q) H'
def spTL (cL : Addr) : Sp := fun vs H Q _ => ∃ (p dx pk pa : Addr) (r : Row), vs = [.ref p] ∧ H p = some (.ins cL dx (r.l10 pk pa)) ∧ ∀ (q : Addr) (H' : Hp), Same H H' → H' q = some (.tup (r.tup pk pa)) → Q (.ref q) H'
section
variable {P : Program} {w : World} {K : PySem.W.Frag} {mg : Str → Option Value} {base : Heap} {cT cL : Addr}
def FaultD (P : Program) (w : World) (K : PySem.W.Frag) (mg : Str → Option Value) (base : Heap) (cT cL : Addr) : Prop := ∀ C sp, DF cT cL C sp → MethD P w K mg base CX0 4 C "fault" ["self", "other"] sp
def CovD (P : Program) (w : World) (K : PySem.W.Frag) (mg : Str → Option Value) (base : Heap) (cT cL : Addr) : Prop := ∀ C sp, DC cT cL C sp → MethD P w K mg base CX0 5 C "covers" ["self", "other"] sp
theorem fa_in {σ : L2.St} {i : Nat} {H : Hp} {p p' : Addr} {o o' : Ob} {Q : VK} (tc : TCls K cT) (lc : LCls K cL) (e : σ[i]? = some (some (.ref p'))) (h : ObAt cT cL H p o) (h' : ObAt cT cL H p' o') (f : o.Fine) (f' : o'.Fine) (q : ∀ (v : V) (H' : Hp), Same H H' → FAt H' v (faultF o o') → Q v H') :
    ∃ a C dx fs sp, V.ref p = .ref a ∧ H a = some (.ins C dx fs) ∧ fs.lookup ("fault" : Str) = none ∧ DF cT cL C sp ∧ tCons (tVar i) tNil σ H fun vs H2 => sp (V.ref p :: vs) H2 Q E0 := by
  obtain ⟨C, dx, fs, hp, _, v, hC⟩ := h.any tc lc
  exact ⟨p, C, dx, fs, spFault cT cL, rfl, hp, v.m0, ⟨hC, rfl⟩, _, e, p, p', o, o', rfl, h, h', f, f', q⟩
theorem co_in {σ : L2.St} {i : Nat} {H : Hp} {p p' : Addr} {o o' : Ob} {Q : VK} (tc : TCls K cT) (lc : LCls K cL) (e : σ[i]? = some (some (.ref p'))) (h : ObAt cT cL H p o) (h' : ObAt cT cL H p' o') (f : o.Fine) (f' : o'.Fine) (q : ∀ H' : Hp, Same H H' → Q (.bl (faultF o o').isNone) H') :
    ∃ a C dx fs sp, V.ref p = .ref a ∧ H a = some (.ins C dx fs) ∧ fs.lookup ("covers" : Str) = none ∧ DC cT cL C sp ∧ tCons (tVar i) tNil σ H fun vs H2 => sp (V.ref p :: vs) H2 Q E0 := by
  obtain ⟨C, dx, fs, hp, _, v, hC⟩ := h.any tc lc
  exact ⟨p, C, dx, fs, spCov cT cL, rfl, hp, v.m1, ⟨hC, rfl⟩, _, e, p, p', o, o', rfl, h, h', f, f', q⟩
theorem FAt.none_iff {H : Hp} {v : V} {x : Option (List V)} (h : FAt H v x) : decide (v = .non) = x.isNone := by
  cases x with
  | none => have h : v = .non := h; rw [h]; rfl
  | some xs => obtain ⟨p, rfl, _⟩ := h; rfl
abbrev sTerms_covers : Stmt := inClass (top 33) 2
theorem scTerms_covers : FnScope ["self", "other"] ["self", "other"] (defScope sTerms_covers) := ⟨rfl, rfl, rfl, by decide +kernel, rfl, by decide +kernel, by decide +kernel⟩
theorem ok_covers (D : THas P w K mg base cT cL) (N : FaultD P w K mg base cT cL) {f : Addr} {fd : FuncData} (F : Fun K "covers" "Terms.covers" sTerms_covers f fd) : FnOk P w K mg base CX0 5 f fd ["self", "other"] (spCov cT cL) := by
  refine F.ok scTerms_covers (fun vs H Q E h => ?_) (fun cdv A outer s H vs Q E hr h => ?_)
  · obtain ⟨p, p', o, o', rfl, _⟩ := h
    rfl
  · obtain ⟨p, p', o, o', rfl, ho, ho', f1, f2, q⟩ := h
    refine ⟨_, (pss_one (ps_ret (pe_cmp (pc_isN (pe_methA (D := DF cT cL) (pv 0) N (hr.mono (by decide)) pass0 (pa_cons (pv 1) pa_nil)))))), ?_⟩
    refine ⟨_, rfl, fa_in D.tc D.lc rfl ho ho' f1 f2 fun v H1 s1 fa => ?_⟩
    rw [fa.none_iff]
    exact q _ s1
end
end K14
namespace K14
open PySem L2 PyProof.Rows
theorem join_go : ∀ (zs : List Nat) (acc : Array Nat), (zs.map fun c => (⟨#[c]⟩ : Str)).foldl (fun acc p => acc ++ Str.empty.cps ++ p.cps) acc = acc ++ zs.toArray
  | [], acc => by simp
  | c :: r, acc => by
    rw [List.map_cons, List.foldl_cons, join_go r]
    show acc ++ #[] ++ #[c] ++ r.toArray = acc ++ (c :: r).toArray
    simp
theorem join_signs (zs : List Nat) (sep : Str) (hs : sep = Str.empty) : Txt.join sep (zs.map fun c => (⟨#[c]⟩ : Str)) = ⟨zs.toArray⟩ := by
  subst hs
  cases zs with
  | nil => rfl
  | cons c r =>
    show (⟨(r.map fun c => (⟨#[c]⟩ : Str)).foldl (fun acc p => acc ++ Str.empty.cps ++ p.cps) #[c]⟩ : Str) = _
    rw [join_go]
    simp
theorem slice_to {z : Str} {i : Nat} (h : i ≤ z.cps.toList.length) : Txt.slice z none (some (i : Int)) = ⟨(z.cps.toList.take i).toArray⟩ := by
  have := slice_closes_to (x := z) (j := i) ⟨by omega, by omega⟩
  have := beq_iff_eq.mp this
  rw [this]
  simp
theorem slice_from {z : Str} {i : Nat} (h : i ≤ z.cps.toList.length) : Txt.slice z (some (i : Int)) none = ⟨(z.cps.toList.drop i).toArray⟩ := by
  have hz : z.length = z.cps.toList.length := by simp [Str.length]
  rw [slice_from_eq (x := z) (i := i) (b := z.length) (by omega) (by omega) rfl]
  congr 2
  rw [List.take_of_length_le]
  · simp
  · rw [List.length_drop]
    have : z.cps.toList.length = z.length := hz.symm
    omega
theorem app_l (A B : List Nat) : (⟨A.toArray⟩ : Str) ++ (⟨B.toArray⟩ : Str) = ⟨(A ++ B).toArray⟩ := by
  show (⟨A.toArray ++ B.toArray⟩ : Str) = _
  simp
theorem word_l {L : List Nat} (h1 : 1 ≤ L.length) (h2 : L.length ≤ 8) (h3 : L.all isLow = true) : isWordZ ⟨L.toArray⟩ = true := by
  unfold isWordZ
  rw [Bool.and_eq_true, decide_eq_true_eq]
  refine ⟨?_, by simpa using h3⟩
  show 1 ≤ L.toArray.size ∧ L.toArray.size ≤ 8
  rw [List.size_toArray]
  exact ⟨h1, h2⟩
abbrev abc : Str := Str.ofString "abcdefghijklmnopqrstuvwxyz"
theorem abc_at {r : Int} (h0 : 0 ≤ r) (h1 : r < 26) : ∃ c, atI abc.cps.toList r = some c ∧ isLow c = true := by
  have el : abc.cps.toList = [97, 98, 99, 100, 101, 102, 103, 104, 105, 106, 107, 108, 109, 110, 111, 112, 113, 114, 115, 116, 117, 118, 119, 120, 121, 122] := by decide +kernel
  obtain ⟨c1, e1, m1⟩ := atI_ex (xs := abc.cps.toList) h0 (by rw [el]; exact h1)
  refine ⟨c1, e1, ?_⟩
  rw [el] at m1
  unfold isLow
  simp only [List.mem_cons, List.not_mem_nil, or_false] at m1
  rw [decide_eq_true_eq]
  omega
theorem abc_val : ∀ n : Fin 26, atI abc.cps.toList (n.val : Int) = some (97 + n.val) := by decide +kernel
theorem abc_inj {r r' : Int} (h0 : 0 ≤ r) (h1 : r < 26) (h0' : 0 ≤ r') (h1' : r' < 26) (e : atI abc.cps.toList r = atI abc.cps.toList r') : r = r' := by
  obtain ⟨n, rfl⟩ : ∃ n : Nat, r = (n : Int) := ⟨r.toNat, by omega⟩
  obtain ⟨n', rfl⟩ : ∃ n : Nat, r' = (n : Int) := ⟨r'.toNat, by omega⟩
  have a := abc_val ⟨n, by omega⟩
  have b := abc_val ⟨n', by omega⟩
  dsimp only at a b
  rw [a, b] at e
  have := Option.some.inj e
  omega
def Lett (pos : Nat) (first : Int) (us : List Str) : Prop := ∀ (j : Nat) (z : Str), us[j]? = some z → z.cps.toList[pos]? = atI abc.cps.toList ((first + 7 * (0 + (j : Int))) % 26)
theorem Lett.snoc {pos : Nat} {first : Int} {us : List Str} {z : Str} (h : Lett pos first us) (e : z.cps.toList[pos]? = atI abc.cps.toList ((first + 7 * (0 + (us.length : Int))) % 26)) : Lett pos first (us ++ [z]) := fun j y hy => by
  by_cases hj : j < us.length
  · rw [List.getElem?_append_left hj] at hy; exact h j y hy
  · have hj2 : j = us.length := by
      have := (List.getElem?_eq_some_iff.mp hy).1
      rw [List.length_append, List.length_singleton] at this
      omega
    subst hj2
    rw [List.getElem?_append_right (Nat.le_refl _), Nat.sub_self] at hy
    cases hy
    exact e
theorem Lett.nodup {pos : Nat} {first : Int} {us : List Str} (h : Lett pos first us) (hl : us.length ≤ 12) : us.Nodup := by
  rw [List.Nodup, List.pairwise_iff_getElem]
  intro i j hi hj hij e
  have a := h i us[i] (List.getElem?_eq_getElem hi)
  have b := h j us[j] (List.getElem?_eq_getElem hj)
  rw [e, b] at a
  have := abc_inj (Int.emod_nonneg _ (by decide)) (Int.emod_lt_of_pos _ (by decide)) (Int.emod_nonneg _ (by decide)) (Int.emod_lt_of_pos _ (by decide)) a
  omega
theorem abc_len : abc.length ≤ sizeLine := by
  rw [show abc.length = 26 from by decide +kernel, sizeLine_eq]
  decide
theorem all_take {L : List Nat} {n : Nat} (h : L.all isLow = true) : (L.take n).all isLow = true := List.all_eq_true.mpr fun x hx => List.all_eq_true.mp h x (List.mem_of_mem_take hx)
theorem all_drop {L : List Nat} {n : Nat} (h : L.all isLow = true) : (L.drop n).all isLow = true := List.all_eq_true.mpr fun x hx => List.all_eq_true.mp h x (List.mem_of_mem_drop hx)
def spWords : Sp := fun vs H Q _ => ∃ (c : Int) (m : Nat), m ≤ 12 ∧ vs = [.int c, .int m] ∧ ∀ (l : Addr) (zs : List Str) (H' : Hp), Same H H' → H' l = some (.lst (zs.map V.str)) → zs.length = m → (∀ z ∈ zs, isWordZ z = true) → zs.Nodup → H l = none → Q (.ref l) H'
section
variable {P : Program} {w : World} {K : PySem.W.Frag} {mg : Str → Option Value} {base : Heap}
abbrev s_law_words : Stmt := top 48
abbrev nWords : List Str := ["_law_cell_here", "_law_many", "_law_letters", "_law_box_here", "_law_size", "_law_at", "_law_way", "_law_base", "_law_first", "_law_found", "_law_k", "_law_letter"]
theorem sc_law_words : FnScope nWords ["_law_cell_here", "_law_many"] (defScope s_law_words) := ⟨rfl, rfl, rfl, by decide +kernel, rfl, by decide +kernel, by decide +kernel⟩
theorem ok_words (T : Txt mg) (F__law_box : FnAt P w K mg base "_law_box" 1 ["_law_cell_here"] spBox) (F__law_take : FnAt P w K mg base "_law_take" 2 ["_law_box_here", "_law_many"] spTake) (F : TopFn K mg "_law_words" s_law_words ["_law_cell_here", "_law_many"]) : FnAt P w K mg base "_law_words" 3 ["_law_cell_here", "_law_many"] spWords := by
  refine F.at sc_law_words (fun vs H Q E h => ?_) (fun f cdv A outer s H vs Q E hr h => ?_)
  · obtain ⟨c, m, _, rfl, _⟩ := h
    rfl
  · obtain ⟨c, m, hm, rfl, q⟩ := h
    refine ⟨_, (pss_cons (ps_set (i := 2) sc_law_words.nd rfl (by first | exact Or.inl rfl | exact Or.inr rfl) pe_str)
      (pss_cons (ps_set (i := 3) sc_law_words.nd rfl (by first | exact Or.inl rfl | exact Or.inr rfl) (pe_fn F__law_box hr (by decide) rfl (pa_cons (pv 0) pa_nil)))
      (pss_cons (ps_set (i := 4) sc_law_words.nd rfl (by first | exact Or.inl rfl | exact Or.inr rfl) (pe_fn F__law_take hr (by decide) rfl (pa_cons (pv 3) (pa_cons pe_int pa_nil))))
      (pss_cons (ps_set (i := 5) sc_law_words.nd rfl (by first | exact Or.inl rfl | exact Or.inr rfl) (pe_fn F__law_take hr (by decide) rfl (pa_cons (pv 3) (pa_cons (pe_op op_add (pv 4) pe_int) pa_nil))))
      (pss_cons (ps_set (i := 6) sc_law_words.nd rfl (by first | exact Or.inl rfl | exact Or.inr rfl) (pe_fn F__law_take hr (by decide) rfl (pa_cons (pv 3) (pa_cons pe_int pa_nil))))
      (pss_cons (ps_set (i := 7) sc_law_words.nd rfl (by first | exact Or.inl rfl | exact Or.inr rfl) (pe_bm PySem.F.plainAttrs_str PySem.F.slot_str_join PySem.F.type_str_join mt_join pe_str (pa_cons (pe_comp (sc := defScope s_law_words) (N0 := nWords) (xs := ["_law_k"]) (ys := ["_law_letters", "_law_box_here"]) (js := [2, 3]) ⟨rfl, by decide +kernel, by decide +kernel, by decide +kernel, by decide +kernel⟩ rfl (pi_range1 rfl T.n_range (pa_cons (pv 4) pa_nil)) (fun _ _ _ _ => (pg_name (i := 0) (show (["_law_k", "_law_letters", "_law_box_here"] : List Str).Nodup by decide +kernel) rfl (by first | exact Or.inl rfl | exact Or.inr rfl))) (fun _ _ _ _ => pq_nil) (fun _ _ _ _ => (pe_ix ix_str (pv 1) (pe_fn F__law_take hr (by decide) rfl (pa_cons (pv 2) (pa_cons pe_int pa_nil))) (fun _ _ => rfl)))) pa_nil)))
      (pss_cons (ps_set (i := 8) sc_law_words.nd rfl (by first | exact Or.inl rfl | exact Or.inr rfl) (pe_fn F__law_take hr (by decide) rfl (pa_cons (pv 3) (pa_cons pe_int pa_nil))))
      (pss_cons (ps_set (i := 9) sc_law_words.nd rfl (by first | exact Or.inl rfl | exact Or.inr rfl) (pe_lst pa_nil))
      (pss_cons (ps_for PassesOwn.never rfl (pi_range1 rfl T.n_range (pa_cons (pv 1) pa_nil)) (pg_name (i := 10) sc_law_words.nd rfl (by first | exact Or.inl rfl | exact Or.inr rfl)) (pss_cons (ps_set (i := 11) sc_law_words.nd rfl (by first | exact Or.inl rfl | exact Or.inr rfl) (pe_ix ix_str (pv 2) (pe_op op_mod (pe_op op_add (pv 8) (pe_op op_mul pe_int (pv 10))) pe_int) (fun _ _ => rfl)))
      (pss_one (ps_if (pt_cmpR op_gt (pv 10) pe_int (nomark _)) (pss_one ps_never) (pss_one (ps_if (pt_cmpR op_eq (pv 6) pe_int (nomark _)) (pss_one (ps_expr (pe_bm PySem.F.plainAttrs_list PySem.F.slot_list_append PySem.F.type_list_append mt_append (pv 9) (pa_cons (pe_op op_add_str (pe_op op_add_str (pe_slice sl_str (pv 7) po_none (po_some (pv 5))) (pv 11)) (pe_slice sl_str (pv 7) (po_some (pv 5)) po_none)) pa_nil)))) (pss_one (ps_expr (pe_bm PySem.F.plainAttrs_list PySem.F.slot_list_append PySem.F.type_list_append mt_append (pv 9) (pa_cons (pe_op op_add_str (pv 11) (pe_slice sl_str (pv 7) po_none (po_some (pe_fn F__law_take hr (by decide) rfl (pa_cons (pv 3) (pa_cons (pe_op op_add (pe_callB (call_min2 rfl) rfl T.n_min boot_min (pa_cons (pv 4) (pa_cons pe_int pa_nil))) pe_int) pa_nil)))))) pa_nil))))))))))
      (pss_one (ps_ret (pv 9)))))))))))), ?_⟩
    have hs : sizeLine = 16777216 := sizeLine_eq
    refine ⟨_, rfl, c, rfl, fun b x y z hb => ?_⟩
    have O1 : Oth b (upd H b (.lst [.int x, .int y, .int z])) (upd H b (.lst [.int x, .int y, .int z])) := Oth.refl ⟨x, y, z, upd_same⟩
    have S0 : ∀ {H' : Hp}, Oth b (upd H b (.lst [.int x, .int y, .int z])) H' → Same H H' := fun {H'} o d u e => o.oth d u (by rw [upd_ne (ne_of_none e hb)]; exact e) (ne_of_none e hb)
    generalize upd H b (.lst [.int x, .int y, .int z]) = H1 at O1 S0 ⊢
    refine ⟨_, rfl, b, 8, rfl, O1.box, (by decide), (by decide), fun size H2 s0 s1 o2 => ?_⟩
    refine ⟨_, rfl, _, rfl, _, _, rfl, rfl, b, size + 1, rfl, o2.box, (by omega), (by show size + 1 < 10000000000000000000000000000000000000000; omega), fun at_ H3 a0 a1 o3 => ?_⟩
    refine ⟨_, rfl, b, 2, rfl, o3.box, (by decide), (by decide), fun way H4 w0 w1 o4 => ?_⟩
    have O4 := (o2.trans o3).trans o4
    refine ⟨rfl, _, rfl, size, rfl, (by omega), (by omega), comp_range (n := size.toNat) (fun i ys H' => (∃ zs : List Nat, ys = zs.map (fun c => V.str ⟨#[c]⟩) ∧ zs.length = i ∧ zs.all isLow = true) ∧ Oth b H1 H') ⟨⟨[], rfl, rfl, rfl⟩, O4⟩ (by omega) ?_ ?_ ?_⟩
    · rintro i ys H' ⟨⟨zs, rfl, e, _⟩, _⟩
      rw [List.length_map, e]; exact Nat.le_refl _
    · rintro i ys H5 hi ⟨⟨zs, rfl, e, h1⟩, o5⟩
      refine ⟨_, rfl, _, rfl, b, 26, rfl, o5.box, (by decide), (by decide), fun r1 H6 r0 r2 o6 => ?_⟩
      obtain ⟨c1, e1, low⟩ := abc_at r0 r2
      refine ⟨_, _, c1, rfl, rfl, abc_len, e1, ?_⟩
      exact ⟨⟨zs ++ [c1], by simp, by simp [e], by rw [List.all_append, h1]; simp [low]⟩, o5.trans o6⟩
    · rintro ys H5 ⟨⟨zs, rfl, e, hlow⟩, o5⟩ p hp
      have O6 : Oth b H1 (upd H5 p (.lst (zs.map fun c => V.str ⟨#[c]⟩))) := o5.new hp
      have em : (zs.map fun c => V.str ⟨#[c]⟩) = (zs.map fun c => (⟨#[c]⟩ : Str)).map V.str := by rw [List.map_map]; rfl
      have hsum : ((zs.map fun c => (⟨#[c]⟩ : Str)).map (·.length)).sum = zs.length := by
        clear e O6 em hlow hp
        induction zs with
        | nil => rfl
        | cons c r ih => rw [List.map_cons, List.map_cons, List.sum_cons, ih]; show 1 + r.length = r.length + 1; omega
      refine ⟨_, p, zs.map fun c => ⟨#[c]⟩, rfl, rfl, SqL.of (by rw [← em]; exact upd_same), (by rw [hsum, List.length_map, e]; show _ + _ * 0 ≤ _; omega), ?_⟩
      rw [join_signs zs (Str.ofString "") (by decide +kernel)]
      have zl : zs.length = size.toNat := e
      have zlen : (⟨zs.toArray⟩ : Str).cps.toList = zs := by simp
      have zlen2 : (⟨zs.toArray⟩ : Str).length = zs.length := by show zs.toArray.size = _; rw [List.size_toArray]
      generalize upd H5 p (.lst (zs.map fun c => V.str ⟨#[c]⟩)) = H6 at O6 ⊢
      refine ⟨_, rfl, b, 26, rfl, O6.box, (by decide), (by decide), fun first H7 f0 f1 o7 => ?_⟩
      have O7 := O6.trans o7
      refine ⟨(by show 0 ≤ sizeLine; decide), fun l hl => ?_⟩
      have O8 := O7.new (o := .lst []) hl
      have e8 : upd H7 l (.lst []) l = some (.lst []) := upd_same
      have nl : l ≠ b := Box.ne O7.box hl
      have hl0 : H l = none := (S0 O7).free hl
      generalize upd H7 l (.lst []) = H8 at O8 e8 ⊢
      refine ⟨_, rfl, m, rfl, (by omega), (by omega), for_range (n := m) (fun i σ H' => ∃ (us : List Str) (v10 v11 : Option V), σ = [some (.int c), some (.int m), some (.str abc), some (.ref b), some (.int size), some (.int at_), some (.int way), some (.str ⟨zs.toArray⟩), some (.int first), some (.ref l), v10, v11] ∧ us.length = i ∧ (∀ z ∈ us, isWordZ z = true) ∧ H' l = some (.lst (us.map V.str)) ∧ Box H' b ∧ Same H H' ∧ Lett (if way = 0 then at_.toNat else 0) first us)
        ⟨[], _, _, rfl, rfl, by simp, e8, O8.box, S0 O8, fun j z h => by simp at h⟩ ?_ ?_⟩
      · rintro i σ H9 hi ⟨us, v10, v11, rfl, hlen, hall, el, hbox, ss, lett⟩
        have m0 : 0 ≤ (first + 7 * (0 + (i : Int))) % 26 := Int.emod_nonneg _ (by decide)
        have m1 : (first + 7 * (0 + (i : Int))) % 26 < 26 := Int.emod_lt_of_pos _ (by decide)
        obtain ⟨c1, e1, low⟩ := abc_at m0 m1
        refine ⟨_, rfl, _, rfl, _, rfl, _, _, rfl, rfl, .inl ⟨by decide, by decide⟩, _, _, rfl, rfl, _, _, rfl, rfl, (by show (0 : Int) < 26; decide), _, _, c1, rfl, rfl, abc_len, e1, ?_⟩
        refine ⟨_, rfl, _, _, rfl, rfl, _, rfl, ?_⟩
        have hng : ¬ ((25 : Int) < 0 + (i : Int)) := by omega
        show if decide ((25 : Int) < 0 + (i : Int)) = true then _ else _
        rw [decide_eq_false hng]
        refine iteF ?_
        have same2 : ∀ (HA : Hp) (xs : List V), Same H HA → Same H (upd HA l (.lst xs)) := fun HA xs sA d u e => by rw [upd_ne (ne_of_none e hl0)]; exact sA d u e
        refine ⟨_, rfl, rfl, _, rfl, ite2 (fun hw => ?_) (fun hw => ?_)⟩
        · have hw' : way = 0 := V.int.inj (of_decide_eq_true hw)
          obtain ⟨a, rfl⟩ : ∃ a : Nat, at_ = (a : Int) := ⟨at_.toNat, by omega⟩
          have ha : a ≤ (⟨zs.toArray⟩ : Str).cps.toList.length := by rw [zlen]; omega
          have t1 := slice_to ha
          have t2 := slice_from ha
          rw [zlen] at t1 t2
          have wd : (⟨(zs.take a).toArray⟩ : Str) ++ ⟨#[c1]⟩ ++ ⟨(zs.drop a).toArray⟩ = ⟨(zs.take a ++ [c1] ++ zs.drop a).toArray⟩ := by
            rw [show (⟨#[c1]⟩ : Str) = ⟨([c1] : List Nat).toArray⟩ from rfl, app_l, app_l]
          have ln : (zs.take a ++ [c1] ++ zs.drop a).length = zs.length + 1 := by
            rw [List.length_append, List.length_append, List.length_take, List.length_drop, List.length_singleton]
            rw [zlen] at ha
            omega
          have isw : isWordZ (⟨(zs.take a).toArray⟩ ++ ⟨#[c1]⟩ ++ ⟨(zs.drop a).toArray⟩ : Str) = true := by
            rw [wd]
            refine word_l (by omega) (by omega) ?_
            rw [List.all_append, List.all_append, all_take hlow, all_drop hlow]
            simp [low]
          have len1 : (⟨(zs.take a).toArray⟩ : Str).length ≤ 7 := by show (zs.take a).toArray.size ≤ 7; rw [List.size_toArray, List.length_take]; omega
          have len2 : (⟨(zs.drop a).toArray⟩ : Str).length ≤ 7 := by show (zs.drop a).toArray.size ≤ 7; rw [List.size_toArray, List.length_drop]; omega
          refine ⟨_, rfl, .inl ⟨rfl, _, SqL.of el⟩, _, rfl, _, rfl, _, rfl, ⟨zs.toArray⟩, rfl, (by omega), ?_⟩
          rw [t1]
          refine ⟨_, rfl, _, _, rfl, rfl, (by show _ + 1 ≤ sizeLine; omega), _, rfl, _, rfl, _, rfl, ⟨zs.toArray⟩, rfl, (by omega), ?_⟩
          rw [t2]
          refine ⟨_, _, rfl, rfl, ?_, l, _, _, rfl, rfl, el, (by rw [List.length_map]; omega), ?_⟩
          · have : ((⟨(zs.take a).toArray⟩ : Str) ++ (⟨#[c1]⟩ : Str)).length = (⟨(zs.take a).toArray⟩ : Str).length + 1 := by
              show ((zs.take a).toArray ++ #[c1]).size = _
              rw [Array.size_append]
              rfl
            omega
          · refine ⟨us ++ [⟨(zs.take a).toArray⟩ ++ ⟨#[c1]⟩ ++ ⟨(zs.drop a).toArray⟩], _, _, rfl, by rw [List.length_append, hlen]; rfl, fun z hz => ?_, ?_, ?_, same2 _ _ ss, ?_⟩
            · rcases List.mem_append.mp hz with hz | hz
              · exact hall z hz
              · rw [List.mem_singleton] at hz; rw [hz]; exact isw
            · rw [upd_same, List.map_append]; rfl
            · obtain ⟨x1, y1, z1, hbx⟩ := hbox
              exact ⟨x1, y1, z1, by rw [upd_ne (Ne.symm nl)]; exact hbx⟩
            · refine lett.snoc ?_
              rw [hlen, e1, if_pos hw', wd, Int.toNat_natCast]
              rw [zlen] at ha
              show ((zs.take a ++ [c1] ++ zs.drop a).toArray.toList)[a]? = some c1
              have hta : (zs.take a).length = a := by rw [List.length_take]; omega
              rw [List.toList_toArray, List.append_assoc, List.getElem?_append_right (by omega), hta, Nat.sub_self]
              rfl
        · have hw' : ¬ way = 0 := fun z => hw (by rw [z]; exact decide_eq_true rfl)
          refine ⟨_, rfl, .inl ⟨rfl, _, SqL.of el⟩, _, rfl, _, rfl, _, rfl, _, rfl, _, _, rfl, _, _, rfl, rfl, b, (if (5 : Int) < size then 5 else size) + 1, rfl, hbox, (by split <;> omega), (by show (if (5 : Int) < size then (5 : Int) else size) + 1 < 10000000000000000000000000000000000000000; split <;> omega), fun n HA n0 n1 oA => ?_⟩
          have elA : HA l = some (.lst (us.map V.str)) := oA.oth _ _ el nl
          obtain ⟨k, rfl⟩ : ∃ k : Nat, n = (k : Int) := ⟨n.toNat, by omega⟩
          have hk5 : k ≤ zs.length := by split at n1 <;> omega
          have ha : k ≤ (⟨zs.toArray⟩ : Str).cps.toList.length := by rw [zlen]; exact hk5
          have t1 := slice_to ha
          rw [zlen] at t1
          have wd : (⟨#[c1]⟩ : Str) ++ ⟨(zs.take k).toArray⟩ = ⟨([c1] ++ zs.take k).toArray⟩ := by
            rw [show (⟨#[c1]⟩ : Str) = ⟨([c1] : List Nat).toArray⟩ from rfl, app_l]
          have ln : ([c1] ++ zs.take k).length ≤ 8 ∧ 1 ≤ ([c1] ++ zs.take k).length := by
            rw [List.length_append, List.length_take, List.length_singleton]
            omega
          have isw : isWordZ (⟨#[c1]⟩ ++ ⟨(zs.take k).toArray⟩ : Str) = true := by
            rw [wd]
            refine word_l ln.2 ln.1 ?_
            rw [List.all_append, all_take hlow]
            simp [low]
          have len1 : (⟨(zs.take k).toArray⟩ : Str).length ≤ 7 := by show (zs.take k).toArray.size ≤ 7; rw [List.size_toArray, List.length_take]; omega
          refine ⟨_, rfl, ⟨zs.toArray⟩, rfl, (by omega), ?_⟩
          rw [t1]
          refine ⟨_, _, rfl, rfl, (by show 1 + _ ≤ sizeLine; omega), l, _, _, rfl, rfl, elA, (by rw [List.length_map]; omega), ?_⟩
          refine ⟨us ++ [⟨#[c1]⟩ ++ ⟨(zs.take k).toArray⟩], _, _, rfl, by rw [List.length_append, hlen]; rfl, fun z hz => ?_, ?_, ?_, same2 _ _ (fun d u e => ?_), ?_⟩
          · rcases List.mem_append.mp hz with hz | hz
            · exact hall z hz
            · rw [List.mem_singleton] at hz; rw [hz]; exact isw
          · rw [upd_same, List.map_append]; rfl
          · obtain ⟨x1, y1, z1, hbx⟩ := oA.box
            exact ⟨x1, y1, z1, by rw [upd_ne (Ne.symm nl)]; exact hbx⟩
          · exact oA.oth d u (ss d u e) (ne_of_none e hb)
          · refine lett.snoc ?_
            rw [hlen, e1, if_neg hw', wd]
            rfl
      · rintro σ H9 ⟨us, v10, v11, rfl, hlen, hall, el, hbox, ss, lett⟩
        exact ⟨_, rfl, q l us H9 ss el hlen hall (lett.nodup (by omega)) hl0⟩
end
end K14
namespace L2
open PySem PySem.Spec PyProof.Rows
def tMid (t : TS) : TS := fun D σ H => ∃ M : L2.St → Hp → Prop, t { D with nx := M } σ H ∧ ∀ σ' H', M σ' H' → D.nx σ' H'
theorem ps_mid {X : Cx} {st : Stmt} {t : TS} (h : PS X st t) : PS X st (tMid t) := by
  intro pins s σ H D I ⟨M, hM, k⟩
  refine thn (h pins s σ H { D with nx := M } I hM) fun f s' hf => ?_
  cases f with
  | next => obtain ⟨σ', H', I', q⟩ := hf; exact ⟨σ', H', I', k _ _ q⟩
  | brk => exact hf
  | cont => exact hf
  | ret u => exact hf
end L2
namespace K14
open PySem L2 PyProof.Rows
theorem and_ok : ∀ a b : Fin 64, 0 ≤ Builtin.bitAnd (a.val : Int) (b.val : Int) ∧ Builtin.bitAnd (a.val : Int) (b.val : Int) < 64 := by decide +kernel
theorem or_ok : ∀ a b : Fin 64, 0 ≤ Builtin.bitOr (a.val : Int) (b.val : Int) ∧ Builtin.bitOr (a.val : Int) (b.val : Int) < 64 := by decide +kernel
theorem xor63 : ∀ a : Fin 64, 0 ≤ Builtin.bitXor 63 (a.val : Int) ∧ Builtin.bitXor 63 (a.val : Int) < 64 := by decide +kernel
theorem xor31 : ∀ a : Fin 32, 0 ≤ Builtin.bitXor 31 (a.val : Int) ∧ Builtin.bitXor 31 (a.val : Int) < 32 := by decide +kernel
theorem and32 : ∀ a b : Fin 32, 0 ≤ Builtin.bitAnd (a.val : Int) (b.val : Int) ∧ Builtin.bitAnd (a.val : Int) (b.val : Int) < 32 := by decide +kernel
theorem disj : ∀ s x : Fin 64, Builtin.bitAnd (s.val : Int) (Builtin.bitAnd (x.val : Int) (Builtin.bitXor 63 (s.val : Int))) = 0 := by decide +kernel
theorem disj2 : ∀ s x : Fin 64, Builtin.bitAnd (s.val : Int) (Builtin.bitAnd (Builtin.bitXor 63 (s.val : Int)) (x.val : Int)) = 0 := by decide +kernel
theorem or_bey : ∀ a t : Fin 64, beyondV a.val (Builtin.bitOr (a.val : Int) (t.val : Int)).toNat = .non := by decide +kernel
theorem nat_of {i : Int} {n : Nat} (h0 : 0 ≤ i) (h1 : i < n) : ∃ k : Nat, i = (k : Int) ∧ k < n := ⟨i.toNat, by omega, by omega⟩
theorem and64 {a b : Nat} (ha : a < 64) (hb : b < 64) : ∃ k : Nat, Builtin.bitAnd (a : Int) (b : Int) = (k : Int) ∧ k < 64 := nat_of (and_ok ⟨a, ha⟩ ⟨b, hb⟩).1 (and_ok ⟨a, ha⟩ ⟨b, hb⟩).2
theorem or64 {a b : Nat} (ha : a < 64) (hb : b < 64) : ∃ k : Nat, Builtin.bitOr (a : Int) (b : Int) = (k : Int) ∧ k < 64 := nat_of (or_ok ⟨a, ha⟩ ⟨b, hb⟩).1 (or_ok ⟨a, ha⟩ ⟨b, hb⟩).2
theorem x64 {a : Nat} (ha : a < 64) : ∃ k : Nat, Builtin.bitXor 63 (a : Int) = (k : Int) ∧ k < 64 := nat_of (xor63 ⟨a, ha⟩).1 (xor63 ⟨a, ha⟩).2
theorem x32 {a : Nat} (ha : a < 32) : ∃ k : Nat, Builtin.bitXor 31 (a : Int) = (k : Int) ∧ k < 32 := nat_of (xor31 ⟨a, ha⟩).1 (xor31 ⟨a, ha⟩).2
theorem a32 {a b : Nat} (ha : a < 32) (hb : b < 32) : ∃ k : Nat, Builtin.bitAnd (a : Int) (b : Int) = (k : Int) ∧ k < 32 := nat_of (and32 ⟨a, ha⟩ ⟨b, hb⟩).1 (and32 ⟨a, ha⟩ ⟨b, hb⟩).2
def KeyAt (H : Hp) (p : Addr) : Prop := ∃ (w : Str) (n : Nat), isWordZ w = true ∧ n ≤ 99 ∧ H p = some (.tup [.str w, .int n])
theorem tup_oth {b : Addr} {H H' : Hp} {p : Addr} {xs : List V} (h : H p = some (.tup xs)) (hb : Box H b) (o : Oth b H H') : H' p = some (.tup xs) := by
  obtain ⟨x, y, z, hb⟩ := hb
  exact o.oth _ _ h (ne_of h hb (by intro z; cases z))
theorem KeyAt.oth {b : Addr} {H H' : Hp} {p : Addr} (h : KeyAt H p) (hb : Box H b) (o : Oth b H H') : KeyAt H' p := by
  obtain ⟨w, n, h1, h2, h3⟩ := h
  exact ⟨w, n, h1, h2, tup_oth h3 hb o⟩
theorem KeyAt.same {H H' : Hp} {p : Addr} (h : KeyAt H p) (s : Same H H') : KeyAt H' p := by
  obtain ⟨w, n, h1, h2, h3⟩ := h
  exact ⟨w, n, h1, h2, s _ _ h3⟩
theorem RowAt.oth {b : Addr} {H H' : Hp} {q : Addr} {r : Row} (h : RowAt H q r) (hb : Box H b) (o : Oth b H H') : RowAt H' q r := by
  obtain ⟨pk, pa, h1, h2, h3⟩ := h
  exact ⟨pk, pa, tup_oth h1 hb o, tup_oth h2 hb o, tup_oth h3 hb o⟩
def spWithin : Sp := fun vs H Q _ => ∃ (b : Addr) (m k : Nat), vs = [.ref b, .int m, .int k] ∧ Box H b ∧ k ≤ 6 ∧ ∀ (t : Nat) (H' : Hp), t < 2 ^ k → Oth b H H' → Q (.int (Builtin.bitAnd m t)) H'
section
variable {P : Program} {w : World} {K : PySem.W.Frag} {mg : Str → Option Value} {base : Heap}
abbrev s_law_within : Stmt := top 49
theorem sc_law_within : FnScope ["_law_box_here", "_law_mask", "_law_many"] ["_law_box_here", "_law_mask", "_law_many"] (defScope s_law_within) := ⟨rfl, rfl, rfl, by decide +kernel, rfl, by decide +kernel, by decide +kernel⟩
theorem ok_within (F__law_take : FnAt P w K mg base "_law_take" 2 ["_law_box_here", "_law_many"] spTake) (F : TopFn K mg "_law_within" s_law_within ["_law_box_here", "_law_mask", "_law_many"]) : FnAt P w K mg base "_law_within" 3 ["_law_box_here", "_law_mask", "_law_many"] spWithin := by
  refine F.at sc_law_within (fun vs H Q E h => ?_) (fun f cdv A outer s H vs Q E hr h => ?_)
  · obtain ⟨b, m, k, rfl, _⟩ := h
    rfl
  · obtain ⟨b, m, k, rfl, hb, hk, q⟩ := h
    refine ⟨_, (pss_one (ps_ret (pe_op op_and (pv 1) (pe_fn F__law_take hr (by decide) rfl (pa_cons (pv 0) (pa_cons (pe_op op_shl pe_int (pv 2)) pa_nil)))))), ?_⟩
    have e : (1 : Int) * 2 ^ ((k : Int).toNat) = ((2 ^ k : Nat) : Int) := by
      rw [Int.one_mul, Int.toNat_natCast]
      exact (Int.natCast_pow 2 k).symm
    have h64 : 2 ^ k ≤ 2 ^ 6 := Nat.pow_le_pow_right (by decide) hk
    have h1 : 0 < 2 ^ k := Nat.two_pow_pos k
    refine ⟨_, rfl, _, rfl, _, rfl, _, _, rfl, rfl, ⟨by omega, by omega, by decide⟩, b, ((2 ^ k : Nat) : Int), ?_, hb, (by omega), (by show ((2 ^ k : Nat) : Int) < 10000000000000000000000000000000000000000; omega), fun r H1 r0 r1 o1 => ?_⟩
    · show [V.ref b, V.int (1 * 2 ^ ((k : Int).toNat))] = _
      rw [e]
    · obtain ⟨t, rfl, ht⟩ := nat_of r0 r1
      exact ⟨_, _, rfl, rfl, q t H1 ht o1⟩
end
end K14
namespace K14
open PySem L2 PyProof.Rows
def spLic : Sp := fun vs H Q _ => ∃ (b lk lw : Addr) (ks qs : List Addr), vs = [.ref b, .ref lk, .ref lw] ∧ Box H b ∧ H lk = some (.lst (ks.map V.ref)) ∧ H lw = some (.lst (qs.map V.ref)) ∧ lk ≠ b ∧ lw ≠ b ∧ qs.length < ks.length ∧ ks.length ≤ 12 ∧
  (∀ p ∈ ks, KeyAt H p) ∧ (∀ q ∈ qs, ∃ r, Row.Good r ∧ RowAt H q r) ∧ ∀ (q : Addr) (H' : Hp), Oth b H H' → (∃ r, Row.Good r ∧ RowAt H' q r ∧ ∃ p, ks[qs.length]? = some p ∧ H p = some (.tup r.keyV)) → Q (.ref q) H'
section
variable {P : Program} {w : World} {K : PySem.W.Frag} {mg : Str → Option Value} {base : Heap}
abbrev s_law_licence : Stmt := top 50
abbrev nLic : List Str := ["_law_box_here", "_law_keys_here", "_law_known", "_law_lets", "_law_strings", "_law_bars", "_law_reach", "_law_same", "_law_old", "_law_asks", "_law_k", "_law_first", "_law_last", "_law_row"]
theorem sc_law_licence : FnScope nLic ["_law_box_here", "_law_keys_here", "_law_known"] (defScope s_law_licence) := ⟨rfl, rfl, rfl, by decide +kernel, rfl, by decide +kernel, by decide +kernel⟩
def AskL (as : List Nat) : Prop := (∀ a ∈ as, a < 64) ∧ ∀ (j : Nat) (x y : Nat), as[j]? = some x → as[j + 1]? = some y → beyondV x y = .non
theorem ok_licence (T : Txt mg) (F__law_take : FnAt P w K mg base "_law_take" 2 ["_law_box_here", "_law_many"] spTake) (F__law_within : FnAt P w K mg base "_law_within" 3 ["_law_box_here", "_law_mask", "_law_many"] spWithin) (F : TopFn K mg "_law_licence" s_law_licence ["_law_box_here", "_law_keys_here", "_law_known"]) :
    FnAt P w K mg base "_law_licence" 4 ["_law_box_here", "_law_keys_here", "_law_known"] spLic := by
  refine F.at sc_law_licence (fun vs H Q E h => ?_) (fun f cdv A outer s H vs Q E hr h => ?_)
  · obtain ⟨b, lk, lw, ks, qs, rfl, _⟩ := h
    rfl
  · obtain ⟨b, lk, lw, ks, qs, rfl, hb, hk, hw, nkb, nwb, hlt, h12, hkey, hrow, q⟩ := h
    refine ⟨_, (pss_cons (ps_set (i := 3) sc_law_licence.nd rfl (by first | exact Or.inl rfl | exact Or.inr rfl) (pe_op op_xor pe_int (pe_fn F__law_within hr (by decide) rfl (pa_cons (pv 0) (pa_cons (pe_fn F__law_take hr (by decide) rfl (pa_cons (pv 0) (pa_cons pe_int pa_nil))) (pa_cons pe_int pa_nil))))))
      (pss_cons (ps_set (i := 4) sc_law_licence.nd rfl (by first | exact Or.inl rfl | exact Or.inr rfl) (pe_fn F__law_within hr (by decide) rfl (pa_cons (pv 0) (pa_cons (pe_fn F__law_take hr (by decide) rfl (pa_cons (pv 0) (pa_cons pe_int pa_nil))) (pa_cons pe_int pa_nil)))))
      (pss_cons (ps_set (i := 5) sc_law_licence.nd rfl (by first | exact Or.inl rfl | exact Or.inr rfl) (pe_fn F__law_within hr (by decide) rfl (pa_cons (pv 0) (pa_cons (pe_op op_xor pe_int (pv 4)) (pa_cons pe_int pa_nil)))))
      (pss_cons (ps_set (i := 6) sc_law_licence.nd rfl (by first | exact Or.inl rfl | exact Or.inr rfl) (pe_fn F__law_take hr (by decide) rfl (pa_cons (pv 0) (pa_cons pe_int pa_nil))))
      (pss_cons (ps_set (i := 7) sc_law_licence.nd rfl (by first | exact Or.inl rfl | exact Or.inr rfl) (pe_cmpR op_eq (pe_fn F__law_take hr (by decide) rfl (pa_cons (pv 0) (pa_cons pe_int pa_nil))) pe_int (nomark _)))
      (pss_cons (ps_mid (ps_if (PW.pt (pw_and (pt_cmpR (op_neNil hr.units0) (pv 2) (pe_lst pa_nil) (nomark _)) (pw_and1 (pt_cmpR op_eq (pe_fn F__law_take hr (by decide) rfl (pa_cons (pv 0) (pa_cons pe_int pa_nil))) pe_int (nomark _))))) (pss_cons (ps_set (i := 8) sc_law_licence.nd rfl (by first | exact Or.inl rfl | exact Or.inr rfl) (pe_ix ix_list (pv 2) (pe_fn F__law_take hr (by decide) rfl (pa_cons (pv 0) (pa_cons (pe_callB call_len rfl T.n_len boot_len (pa_cons (pv 2) pa_nil)) pa_nil))) (fun _ _ => rfl)))
      (pss_cons (ps_set (i := 3) sc_law_licence.nd rfl (by first | exact Or.inl rfl | exact Or.inr rfl) (pe_op op_and (pe_ix ix_tup (pv 8) pe_int (fun _ _ => rfl)) (pv 3)))
      (pss_cons (ps_set (i := 4) sc_law_licence.nd rfl (by first | exact Or.inl rfl | exact Or.inr rfl) (pe_op op_and (pe_op op_or (pe_ix ix_tup (pv 8) pe_int (fun _ _ => rfl)) (pv 4)) (pe_op op_xor pe_int (pe_ix ix_tup (pv 8) pe_int (fun _ _ => rfl)))))
      (pss_cons (ps_set (i := 5) sc_law_licence.nd rfl (by first | exact Or.inl rfl | exact Or.inr rfl) (pe_op op_and (pe_op op_or (pe_ix ix_tup (pv 8) pe_int (fun _ _ => rfl)) (pv 5)) (pe_op op_xor pe_int (pv 4))))
      (pss_cons (ps_set (i := 6) sc_law_licence.nd rfl (by first | exact Or.inl rfl | exact Or.inr rfl) (pe_callB (call_min2 rfl) rfl T.n_min boot_min (pa_cons (pe_ix ix_tup (pv 8) pe_int (fun _ _ => rfl)) (pa_cons (pv 6) pa_nil))))
      (pss_one (ps_set (i := 7) sc_law_licence.nd rfl (by first | exact Or.inl rfl | exact Or.inr rfl) (pe_or (pe_ix ix_tup (pv 8) pe_int (fun _ _ => rfl)) (pe_one (pv 7)))))))))) pss_nil))
      (pss_cons (ps_set (i := 9) sc_law_licence.nd rfl (by first | exact Or.inl rfl | exact Or.inr rfl) (pe_lst (pa_cons (pe_fn F__law_within hr (by decide) rfl (pa_cons (pv 0) (pa_cons (pe_fn F__law_take hr (by decide) rfl (pa_cons (pv 0) (pa_cons pe_int pa_nil))) (pa_cons pe_int pa_nil)))) pa_nil)))
      (pss_cons (ps_for PassesOwn.never rfl (pi_range1 rfl T.n_range (pa_cons pe_int pa_nil)) (pg_name (i := 10) sc_law_licence.nd rfl (by first | exact Or.inl rfl | exact Or.inr rfl)) (pss_one (ps_expr (pe_bm PySem.F.plainAttrs_list PySem.F.slot_list_append PySem.F.type_list_append mt_append (pv 9) (pa_cons (pe_op op_or (pe_ix ix_list (pv 9) (pe_un un_neg pe_int) (fun _ _ => rfl)) (pe_fn F__law_within hr (by decide) rfl (pa_cons (pv 0) (pa_cons (pe_fn F__law_take hr (by decide) rfl (pa_cons (pv 0) (pa_cons pe_int pa_nil))) (pa_cons pe_int pa_nil))))) pa_nil)))))
      (pss_cons (ps_set (i := 11) sc_law_licence.nd rfl (by first | exact Or.inl rfl | exact Or.inr rfl) (pe_fn F__law_take hr (by decide) rfl (pa_cons (pv 0) (pa_cons (pe_ix ix_list (pe_lst (pa_cons pe_int (pa_cons pe_int pa_nil))) (pe_fn F__law_take hr (by decide) rfl (pa_cons (pv 0) (pa_cons pe_int pa_nil))) (fun _ _ => rfl)) pa_nil))))
      (pss_cons (ps_set (i := 12) sc_law_licence.nd rfl (by first | exact Or.inl rfl | exact Or.inr rfl) (pe_op op_add (pv 11) (pe_fn F__law_take hr (by decide) rfl (pa_cons (pv 0) (pa_cons (pe_op op_sub pe_int (pv 11)) pa_nil)))))
      (pss_cons (ps_set (i := 13) sc_law_licence.nd rfl (by first | exact Or.inl rfl | exact Or.inr rfl) (pe_tup (pa_cons (pe_ix ix_list (pv 1) (pe_callB call_len rfl T.n_len boot_len (pa_cons (pv 2) pa_nil)) (fun _ _ => rfl)) (pa_cons (pv 3) (pa_cons (pv 4) (pa_cons (pv 5) (pa_cons (pv 6) (pa_cons (pv 7) pa_nil))))))))
      (pss_one (ps_ret (pe_op op_catT (pv 13) (pe_tup (pa_cons (pe_callTy call_tuple_of rfl T.n_tuple boot_tuple (pa_cons (pv 9) pa_nil)) (pa_cons (pv 11) (pa_cons (pv 12) (pa_cons (pe_cmpR op_eq (pe_fn F__law_take hr (by decide) rfl (pa_cons (pv 0) (pa_cons pe_int pa_nil))) pe_int (nomark _)) pa_nil))))))))))))))))))), ?_⟩
    have hs : sizeLine = 16777216 := sizeLine_eq
    -- lets
    refine ⟨_, rfl, _, rfl, b, 32, rfl, hb, (by decide), (by decide), fun m1 H1 m10 m11 o1 => ?_⟩
    obtain ⟨m1, rfl, hm1⟩ := nat_of m10 m11
    refine ⟨b, m1, 5, rfl, o1.box, (by decide), fun t1 H2 ht1 o2 => ?_⟩
    obtain ⟨x1, ex1, hx1⟩ := a32 hm1 (show t1 < 32 from ht1)
    obtain ⟨le, ele, hle⟩ := x32 hx1
    refine ⟨_, _, rfl, rfl, ?_⟩
    rw [ex1]
    show tSeq _ _ _ ((start nLic [.ref b, .ref lk, .ref lw]).set 3 (some (V.int (Builtin.bitXor 31 (x1 : Int))))) H2
    rw [ele]
    -- strings
    refine ⟨_, rfl, _, rfl, b, 64, rfl, o2.box, (by decide), (by decide), fun m2 H3 m20 m21 o3 => ?_⟩
    obtain ⟨m2, rfl, hm2⟩ := nat_of m20 m21
    refine ⟨b, m2, 6, rfl, o3.box, (by decide), fun t2 H4 ht2 o4 => ?_⟩
    obtain ⟨st, est, hst⟩ := and64 hm2 (show t2 < 64 from ht2)
    rw [est]
    -- bars
    obtain ⟨x3, ex3, hx3⟩ := x64 hst
    refine ⟨_, rfl, _, rfl, _, _, rfl, rfl, b, x3, 6, (by show [V.ref b, V.int (Builtin.bitXor 63 (st : Int)), V.int 6] = _; rw [ex3]; rfl), o4.box, (by decide), fun t3 H5 ht3 o5 => ?_⟩
    obtain ⟨ba, eba, hba⟩ := and64 hx3 (show t3 < 64 from ht3)
    have hsb : Builtin.bitAnd (st : Int) (ba : Int) = 0 := by
      rw [← eba, ← ex3]
      exact disj2 ⟨st, hst⟩ ⟨t3, ht3⟩
    rw [eba]
    -- reach, same
    refine ⟨_, rfl, b, 4, rfl, o5.box, (by decide), (by decide), fun re H6 re0 re1 o6 => ?_⟩
    obtain ⟨re, rfl, hre⟩ := nat_of re0 re1
    refine ⟨_, rfl, b, 4, rfl, o6.box, (by decide), (by decide), fun sa H7 _ _ o7 => ⟨rfl, ?_⟩⟩
    have O7 : Oth b H H7 := (((((o1.trans o2).trans o3).trans o4).trans o5).trans o6).trans o7
    have F4 : Four le st ba re := ⟨hle, hst, hba, hsb, by omega⟩
    generalize decide (V.int sa = V.int 0) = sb
    refine ⟨fun σ' H' => ∃ (le st ba re : Nat) (sb : Bool) (v8 : Option V), σ' = [some (.ref b), some (.ref lk), some (.ref lw), some (.int le), some (.int st), some (.int ba), some (.int re), some (.bl sb), v8, none, none, none, none, none] ∧ Four le st ba re ∧ Oth b H H', ?_, ?_⟩
    · refine ⟨_, rfl, (by show 0 ≤ sizeLine; decide), fun l0 hl0 => ?_⟩
      have O8 := O7.new (o := .lst []) hl0
      have e0 : upd H7 l0 (.lst []) l0 = some (.lst []) := upd_same
      generalize upd H7 l0 (.lst []) = H8 at O8 e0 ⊢
      have w8 : H8 lw = some (.lst (qs.map V.ref)) := O8.oth _ _ hw nwb
      refine ⟨lw, l0, _, rfl, rfl, SqL.of w8, SqL.of e0, _, rfl, ?_⟩
      cases hq : qs with
      | nil => exact iteF ⟨le, st, ba, re, sb, _, rfl, F4, O8⟩
      | cons q0 qr =>
        refine iteT ?_
        refine ⟨_, rfl, b, 2, rfl, O8.box, (by decide), (by decide), fun u H9 _ _ o9 => ⟨rfl, _, rfl, ?_⟩⟩
        have O9 := O8.trans o9
        refine ite2 (fun _ => ?_) (fun _ => ⟨le, st, ba, re, sb, _, rfl, F4, O9⟩)
        have w9 : H9 lw = some (.lst (qs.map V.ref)) := O9.oth _ _ hw nwb
        refine ⟨_, rfl, _, rfl, _, rfl, _, _, rfl, .inl ⟨_, SqL.of w9, rfl⟩, b, ((qs.map V.ref).length : Int), rfl, O9.box, (by rw [hq]; simp), (by show (((qs.map V.ref).length : Nat) : Int) < 10000000000000000000000000000000000000000; rw [List.length_map]; omega), fun ix HA i0 i1 oA => ?_⟩
        have OA := O9.trans oA
        have wA : HA lw = some (.lst (qs.map V.ref)) := OA.oth _ _ hw nwb
        obtain ⟨v, ev, mv⟩ := atI_ex (xs := qs.map V.ref) i0 i1
        obtain ⟨qo, hqo, rfl⟩ := List.mem_map.mp mv
        obtain ⟨ro, go, hro⟩ := hrow qo hqo
        obtain ⟨pk, pa, r1, r2, r3⟩ := hro.oth hb OA
        refine ⟨lw, _, _, _, rfl, rfl, SqL.of wA, ev, ?_⟩
        -- lets
        obtain ⟨le2, ele2, hle2⟩ := a32 go.h4.hle hle
        refine ⟨_, rfl, qo, _, _, V.int ro.le, rfl, rfl, SqT.of r1, rfl, _, rfl, _, _, rfl, rfl, ?_⟩
        -- strings
        obtain ⟨y1, ey1, hy1⟩ := or64 go.h4.hst hst
        obtain ⟨y2, ey2, hy2⟩ := x64 go.h4.hba
        obtain ⟨st2, est2, hst2⟩ := and64 hy1 hy2
        refine ⟨_, rfl, qo, _, _, V.int ro.st, rfl, rfl, SqT.of r1, rfl, _, rfl, _, _, rfl, rfl, _, rfl, qo, _, _, V.int ro.ba, rfl, rfl, SqT.of r1, rfl, _, _, rfl, rfl, _, _, rfl, rfl, ?_⟩
        -- bars
        obtain ⟨z1, ez1, hz1⟩ := or64 go.h4.hba hba
        obtain ⟨z2, ez2, hz2⟩ := x64 hst2
        obtain ⟨ba2, eba2, hba2⟩ := and64 hz1 hz2
        refine ⟨_, rfl, qo, _, _, V.int ro.ba, rfl, rfl, SqT.of r1, rfl, _, rfl, _, _, rfl, rfl, _, rfl, _, _, rfl, rfl, _, _, rfl, rfl, ?_⟩
        have hsb2 : Builtin.bitAnd (st2 : Int) (ba2 : Int) = 0 := by
          rw [← eba2, ← ez2]
          exact disj ⟨st2, hst2⟩ ⟨z1, hz1⟩
        -- reach
        obtain ⟨re2, ere2, hre2⟩ : ∃ k : Nat, (if (re : Int) < (ro.re : Int) then (re : Int) else (ro.re : Int)) = (k : Int) ∧ k ≤ 3 := by
          have := go.h4.hre
          by_cases hc : (re : Int) < (ro.re : Int)
          · rw [if_pos hc]; exact ⟨re, rfl, by omega⟩
          · rw [if_neg hc]; exact ⟨ro.re, rfl, by omega⟩
        refine ⟨_, rfl, qo, _, _, V.int ro.re, rfl, rfl, SqT.of r1, rfl, _, rfl, _, _, rfl, ?_⟩
        -- same
        refine ⟨_, rfl, qo, _, _, V.bl ro.sa, rfl, rfl, SqT.of r1, rfl, _, rfl, ?_⟩
        have F5 : Four le2 st2 ba2 re2 := ⟨hle2, hst2, hba2, hsb2, hre2⟩
        have big : ∀ sc : Bool, ([some (V.ref b), some (V.ref lk), some (V.ref lw), some (V.int (Builtin.bitAnd (ro.le : Int) (le : Int))), some (V.int (Builtin.bitAnd (Builtin.bitOr (ro.st : Int) (st : Int)) (Builtin.bitXor 63 (ro.ba : Int)))), some (V.int (Builtin.bitAnd (Builtin.bitOr (ro.ba : Int) (ba : Int)) (Builtin.bitXor 63 (Builtin.bitAnd (Builtin.bitOr (ro.st : Int) (st : Int)) (Builtin.bitXor 63 (ro.ba : Int)))))), some (V.int (if (re : Int) < (ro.re : Int) then (re : Int) else (ro.re : Int))), some (V.bl sc), some (V.ref qo), none, none, none, none, none] : L2.St)
            = [some (V.ref b), some (V.ref lk), some (V.ref lw), some (V.int le2), some (V.int st2), some (V.int ba2), some (V.int re2), some (V.bl sc), some (V.ref qo), none, none, none, none, none] := by
          intro sc
          rw [ele2, ey1, ey2, est2, ez1, ez2, eba2, ere2]
        cases hsa : ro.sa with
        | true => exact iteT ⟨le2, st2, ba2, re2, true, _, big true, F5, OA⟩
        | false => exact iteF ⟨_, rfl, le2, st2, ba2, re2, sb, _, big sb, F5, OA⟩
    · rintro σ' H' ⟨le, st, ba, re, sb, v8, rfl, F4, O⟩
      have hl9' : ∀ {H2 : Hp} {l9 : Addr}, Oth b H H2 → H2 l9 = none → H l9 = none := fun o h => o.free h
      refine ⟨_, rfl, _, rfl, b, 64, rfl, O.box, (by decide), (by decide), fun m1 H1 x0 x1 o1 => ?_⟩
      obtain ⟨m1, rfl, hm1⟩ := nat_of x0 x1
      refine ⟨b, m1, 6, rfl, o1.box, (by decide), fun t1 H2 ht1 o2 => ?_⟩
      obtain ⟨a0, ea0, ha0⟩ := and64 hm1 (show t1 < 64 from ht1)
      refine ⟨(by show 1 ≤ sizeLine; decide), fun l9 h9 => ?_⟩
      have O2 := (O.trans o1).trans o2
      have O3 := O2.new (o := .lst [.int (Builtin.bitAnd (m1 : Int) (t1 : Int))]) h9
      have e9 : upd H2 l9 (.lst [.int (Builtin.bitAnd (m1 : Int) (t1 : Int))]) l9 = some (.lst [V.int a0]) := by rw [upd_same, ea0]
      have n9 : l9 ≠ b := Box.ne O2.box h9
      have f9 : H l9 = none := hl9' O2 h9
      generalize upd H2 l9 (.lst [.int (Builtin.bitAnd (m1 : Int) (t1 : Int))]) = H3 at O3 e9 ⊢
      refine ⟨3, rfl, (by decide), (by decide), for_range (n := 3) (fun i σ H' => ∃ (pre : List Nat) (x : Nat) (v10 : Option V), σ = [some (.ref b), some (.ref lk), some (.ref lw), some (.int le), some (.int st), some (.int ba), some (.int re), some (.bl sb), v8, some (.ref l9), v10, none, none, none] ∧ pre.length = i ∧ AskL (pre ++ [x]) ∧ H' l9 = some (.lst ((pre ++ [x]).map fun (a : Nat) => V.int a)) ∧ Oth b H H')
        ⟨[], a0, _, rfl, rfl, ⟨fun a ha => by simp at ha; rw [ha]; exact ha0, fun j x y h1 h2 => by simp at h2⟩, e9, O3⟩ ?_ ?_⟩
      · rintro i σ H4 hi ⟨pre, x, v10, rfl, hp, hA, e4, O4⟩
        have hx64 : x < 64 := hA.1 x (List.mem_append_right _ (List.mem_singleton.mpr rfl))
        refine ⟨_, rfl, .inl ⟨rfl, _, SqL.of e4⟩, _, rfl, _, rfl, l9, _, _, V.int x, rfl, rfl, SqL.of e4, (by rw [List.map_append]; exact atI_last _ _), ?_⟩
        refine ⟨_, rfl, _, rfl, b, 64, rfl, O4.box, (by decide), (by decide), fun m2 H5 y0 y1 o5 => ?_⟩
        obtain ⟨m2, rfl, hm2⟩ := nat_of y0 y1
        refine ⟨b, m2, 6, rfl, o5.box, (by decide), fun t2 H6 ht2 o6 => ?_⟩
        obtain ⟨k1, ek1, hk1⟩ := and64 hm2 (show t2 < 64 from ht2)
        obtain ⟨y, ey, hy⟩ := or64 hx64 hk1
        have o56 := o5.trans o6
        have e6 : H6 l9 = some (.lst ((pre ++ [x]).map fun (a : Nat) => V.int a)) := o56.oth _ _ e4 n9
        have bxy : beyondV x y = .non := by
          have := or_bey ⟨x, hx64⟩ ⟨k1, hk1⟩
          dsimp only at this
          rw [ey] at this
          exact this
        refine ⟨_, _, rfl, rfl, l9, _, _, rfl, rfl, e6, (by rw [List.length_map, List.length_append, List.length_singleton]; omega), ?_⟩
        refine ⟨pre ++ [x], y, _, rfl, by rw [List.length_append, hp]; rfl, ⟨fun a ha => ?_, fun j u v h1 h2 => ?_⟩, ?_, ?_, fun c o e nc => ?_⟩
        · rcases List.mem_append.mp ha with ha | ha
          · exact hA.1 a ha
          · rw [List.mem_singleton] at ha; rw [ha]; exact hy
        · by_cases hj : j + 1 < (pre ++ [x]).length
          · rw [List.getElem?_append_left hj] at h2
            rw [List.getElem?_append_left (by omega)] at h1
            exact hA.2 j u v h1 h2
          · have hj2 : j + 1 = (pre ++ [x]).length := by
              have := (List.getElem?_eq_some_iff.mp h2).1
              rw [List.length_append, List.length_singleton] at this
              omega
            have hj3 : j = pre.length := by rw [List.length_append, List.length_singleton] at hj2; omega
            rw [hj2, List.getElem?_append_right (Nat.le_refl _), Nat.sub_self] at h2
            cases h2
            subst hj3
            rw [List.getElem?_append_left (by rw [List.length_append, List.length_singleton]; omega), List.getElem?_append_right (Nat.le_refl _), Nat.sub_self] at h1
            cases h1
            exact bxy
        · rw [upd_same]
          show some (HO.lst (((pre ++ [x]).map fun (a : Nat) => V.int a) ++ [V.int (Builtin.bitOr (x : Int) (Builtin.bitAnd (m2 : Int) (t2 : Int)))])) = _
          rw [ek1, ey, List.map_append (l₂ := [y])]
          rfl
        · obtain ⟨x1, y1, z1, hbx⟩ := (O4.trans o56).box
          exact ⟨x1, y1, z1, by rw [upd_ne (Ne.symm n9)]; exact hbx⟩
        · rw [upd_ne (ne_of_none e f9)]
          exact (O4.trans o56).oth c o e nc
      · rintro σ H4 ⟨pre, x, v10, rfl, hp, hA, e4, O4⟩
        obtain ⟨b0, b1, b2, rfl⟩ : ∃ b0 b1 b2, pre = [b0, b1, b2] := by
          match pre, hp with
          | [b0, b1, b2], _ => exact ⟨b0, b1, b2, rfl⟩
        have ask : Asks b0 b1 b2 x := ⟨hA.1 _ (by simp), hA.1 _ (by simp), hA.1 _ (by simp), hA.1 _ (by simp), hA.2 0 _ _ rfl rfl, hA.2 1 _ _ rfl rfl, hA.2 2 _ _ rfl rfl⟩
        have e4 : H4 l9 = some (.lst (asksV b0 b1 b2 x)) := e4
        refine ⟨_, rfl, (by show 2 ≤ sizeLine; decide), fun lq hlq => ?_⟩
        have s5 := Same.new (o := .lst [.int 1, .int 10000]) hlq
        have e5 : upd H4 lq (.lst [.int 1, .int 10000]) lq = some (.lst [.int 1, .int 10000]) := upd_same
        have nq : lq ≠ b := Box.ne O4.box hlq
        have O5 := O4.new (o := .lst [.int 1, .int 10000]) hlq
        generalize upd H4 lq (.lst [.int 1, .int 10000]) = H5 at s5 e5 O5 ⊢
        refine ⟨_, rfl, b, 2, rfl, O5.box, (by decide), (by decide), fun r H6 r0 r1 o6 => ?_⟩
        obtain ⟨v, ev, mv⟩ := atI_ex (xs := [V.int 1, V.int 10000]) r0 (by show r < 2; omega)
        obtain ⟨n, rfl, n0, n1⟩ : ∃ n : Int, v = .int n ∧ 0 < n ∧ n ≤ 10000 := by
          simp only [List.mem_cons, List.not_mem_nil, or_false] at mv
          rcases mv with rfl | rfl
          · exact ⟨1, rfl, by decide, by decide⟩
          · exact ⟨10000, rfl, by decide, by decide⟩
        refine ⟨lq, _, r, _, rfl, rfl, SqL.of (o6.oth _ _ e5 nq), ev, b, n, rfl, o6.box, n0, (by show n < 10000000000000000000000000000000000000000; omega), fun fi H7 f0 f1 o7 => ?_⟩
        have O7 := (O5.trans o6).trans o7
        refine ⟨_, rfl, _, rfl, _, rfl, _, _, rfl, rfl, b, 10000 - fi, rfl, O7.box, (by omega), (by show 10000 - fi < 10000000000000000000000000000000000000000; omega), fun d H8 d0 d1 o8 => ⟨_, _, rfl, rfl, ?_⟩⟩
        have O8 := O7.trans o8
        obtain ⟨fi, rfl⟩ : ∃ k : Nat, fi = (k : Int) := ⟨fi.toNat, by omega⟩
        obtain ⟨d, rfl⟩ : ∃ k : Nat, d = (k : Int) := ⟨d.toNat, by omega⟩
        have w8 : H8 lw = some (.lst (qs.map V.ref)) := O8.oth _ _ hw nwb
        have k8 : H8 lk = some (.lst (ks.map V.ref)) := O8.oth _ _ hk nkb
        have ek : ks[qs.length]? = some (ks[qs.length]'hlt) := List.getElem?_eq_getElem hlt
        obtain ⟨kw, kn, kw1, kn1, kp⟩ := hkey _ (List.getElem_mem hlt)
        generalize ks[qs.length]'hlt = pk at ek kp
        refine ⟨_, rfl, _, rfl, _, _, rfl, .inl ⟨_, SqL.of w8, rfl⟩, lk, _, _, V.ref pk, rfl, rfl, SqL.of k8, atI_nat (by rw [List.length_map, List.getElem?_map, ek]; rfl), _, rfl, _, rfl, _, rfl, _, rfl, _, rfl, (by show 6 ≤ sizeLine; decide), fun t6 h6 => ?_⟩
        have e6 : upd H8 t6 (.tup [.ref pk, .int le, .int st, .int ba, .int re, .bl sb]) t6 = some (.tup [.ref pk, .int le, .int st, .int ba, .int re, .bl sb]) := upd_same
        have OA := O8.new (o := .tup [.ref pk, .int le, .int st, .int ba, .int re, .bl sb]) h6
        have sA := Same.new (o := .tup [.ref pk, .int le, .int st, .int ba, .int re, .bl sb]) h6
        have e9 : H8 l9 = some (.lst (asksV b0 b1 b2 x)) := o8.oth _ _ (o7.oth _ _ (o6.oth _ _ (s5 _ _ e4) n9) n9) n9
        generalize upd H8 t6 (.tup [.ref pk, .int le, .int st, .int ba, .int re, .bl sb]) = HA at e6 OA sA ⊢
        refine ⟨_, rfl, _, rfl, l9, _, rfl, .inl ⟨SqL.of (sA _ _ e9), fun pa hpa => ?_⟩⟩
        have sB := Same.new (o := .tup (asksV b0 b1 b2 x)) hpa
        have eB : upd HA pa (.tup (asksV b0 b1 b2 x)) pa = some (.tup (asksV b0 b1 b2 x)) := upd_same
        have OB := OA.new (o := .tup (asksV b0 b1 b2 x)) hpa
        generalize upd HA pa (.tup (asksV b0 b1 b2 x)) = HB at sB eB OB ⊢
        refine ⟨_, rfl, _, rfl, _, rfl, b, 2, rfl, OB.box, (by decide), (by decide), fun lg HC _ _ oC => ⟨rfl, ?_⟩⟩
        have OC := OB.trans oC
        have eC : HC pa = some (.tup (asksV b0 b1 b2 x)) := tup_oth eB OB.box oC
        have e6C : HC t6 = some (.tup [.ref pk, .int le, .int st, .int ba, .int re, .bl sb]) := tup_oth (sB _ _ e6) OB.box oC
        have kC : HC pk = some (.tup [.str kw, .int kn]) := tup_oth kp hb OC
        generalize decide (V.int lg = V.int 0) = lgb
        refine ⟨(by show 4 ≤ sizeLine; decide), fun t4' h4' => ?_⟩
        have sD := Same.new (o := .tup [.ref pa, .int fi, .int ((fi : Int) + d), .bl lgb]) h4'
        have eD : upd HC t4' (.tup [.ref pa, .int fi, .int ((fi : Int) + d), .bl lgb]) t4' = some (.tup [.ref pa, .int fi, .int ((fi : Int) + d), .bl lgb]) := upd_same
        have OD := OC.new (o := .tup [.ref pa, .int fi, .int ((fi : Int) + d), .bl lgb]) h4'
        refine ⟨t6, t4', _, _, rfl, rfl, SqT.of (sD _ _ e6C), SqT.of eD, (by simp), (by show 6 + 4 ≤ sizeLine; decide), (fun h => by cases h), fun _ q1 hq1 => ?_⟩
        have sE := Same.new (o := .tup ([.ref pk, .int le, .int st, .int ba, .int re, .bl sb] ++ [.ref pa, .int fi, .int ((fi : Int) + d), .bl lgb])) hq1
        refine q q1 _ (OD.new hq1) ⟨⟨kw, kn, le, st, ba, re, sb, b0, b1, b2, x, fi, fi + d, lgb⟩, ⟨kw1, kn1, F4, ask, by show fi ≤ fi + d; omega, by show fi + d ≤ 9999; omega⟩, ⟨pk, pa, upd_same, sE _ _ (sD _ _ kC), sE _ _ (sD _ _ eC)⟩, pk, ek, kp⟩
end
end K14
namespace K14
open PySem L2 PyProof.Rows
theorem tup_upd {H : Hp} {p l : Addr} {xs ys : List V} {o : HO} (h : H p = some (.tup xs)) (hl : H l = some (.lst ys)) : (upd H l o) p = some (.tup xs) := by
  rw [upd_ne (ne_of h hl (by intro z; cases z))]
  exact h
theorem KeyAt.upd {H : Hp} {p l : Addr} {ys : List V} {o : HO} (h : KeyAt H p) (hl : H l = some (.lst ys)) : KeyAt (upd H l o) p := by
  obtain ⟨w, n, h1, h2, h3⟩ := h
  exact ⟨w, n, h1, h2, tup_upd h3 hl⟩
theorem RowAt.upd {H : Hp} {q l : Addr} {r : Row} {ys : List V} {o : HO} (h : RowAt H q r) (hl : H l = some (.lst ys)) : RowAt (upd H l o) q r := by
  obtain ⟨pk, pa, h1, h2, h3⟩ := h
  exact ⟨pk, pa, tup_upd h1 hl, tup_upd h2 hl, tup_upd h3 hl⟩
def Dist (H : Hp) (ps : List Addr) : Prop := ∀ (i j : Nat) (p q : Addr) (w w' : Str) (n : Int), ps[i]? = some p → ps[j]? = some q → H p = some (.tup [.str w, .int n]) → H q = some (.tup [.str w', .int n]) → i = j
theorem Dist.tups {H H' : Hp} {ps : List Addr} (d : Dist H ps) (k : ∀ p ∈ ps, KeyAt H p) (t : ∀ a xs, H a = some (.tup xs) → H' a = some (.tup xs)) : Dist H' ps := fun i j p q w w' n hi hj ep eq => by
  obtain ⟨w1, n1, _, _, e1⟩ := k p (List.mem_of_getElem? hi)
  obtain ⟨w2, n2, _, _, e2⟩ := k q (List.mem_of_getElem? hj)
  have f1 := t _ _ e1
  have f2 := t _ _ e2
  rw [ep] at f1
  rw [eq] at f2
  rw [← f1] at e1
  rw [← f2] at e2
  exact d i j p q w w' n hi hj e1 e2
def Nums (r1 : Int) (H : Hp) (ps : List Addr) : Prop := ∀ (i : Nat) (p : Addr), ps[i]? = some p → ∃ (w : Str) (n : Int), H p = some (.tup [.str w, .int n]) ∧ n / 8 = (5 * (0 + (i : Int)) + r1 % 12) % 12
theorem Nums.dist {r1 : Int} {H : Hp} {ps : List Addr} (h : Nums r1 H ps) (hl : ps.length ≤ 12) : Dist H ps := fun i j p q w w' n hi hj ep eq => by
  obtain ⟨w1, n1, e1, m1⟩ := h i p hi
  obtain ⟨w2, n2, e2, m2⟩ := h j q hj
  rw [ep] at e1
  rw [eq] at e2
  simp only [Option.some.injEq, HO.tup.injEq, List.cons.injEq, V.str.injEq, V.int.injEq, and_true] at e1 e2
  rw [← e1.2] at m1
  rw [← e2.2] at m2
  have := (List.getElem?_eq_some_iff.mp hi).1
  have := (List.getElem?_eq_some_iff.mp hj).1
  omega
def spKeys : Sp := fun vs H Q _ => ∃ (c : Int) (n : Nat), n ≤ 12 ∧ vs = [.int c, .int n] ∧ ∀ (l : Addr) (ps : List Addr) (H' : Hp), Same H H' → H' l = some (.lst (ps.map V.ref)) → ps.length = n → (∀ p ∈ ps, KeyAt H' p) → Dist H' ps → H l = none → Q (.ref l) H'
section
variable {P : Program} {w : World} {K : PySem.W.Frag} {mg : Str → Option Value} {base : Heap}
abbrev s_law_keys : Stmt := top 51
theorem sc_law_keys : FnScope ["_law_cell_here", "_law_many", "_law_words_here", "_law_shift", "_law_found", "_law_k", "_law_number"] ["_law_cell_here", "_law_many"] (defScope s_law_keys) := ⟨rfl, rfl, rfl, by decide +kernel, rfl, by decide +kernel, by decide +kernel⟩
theorem ok_keys (T : Txt mg) (F__law_mixed : FnAt P w K mg base "_law_mixed" 1 ["_law_cell_here", "_law_k"] spMixed) (F__law_words : FnAt P w K mg base "_law_words" 3 ["_law_cell_here", "_law_many"] spWords) (F : TopFn K mg "_law_keys" s_law_keys ["_law_cell_here", "_law_many"]) : FnAt P w K mg base "_law_keys" 4 ["_law_cell_here", "_law_many"] spKeys := by
  refine F.at sc_law_keys (fun vs H Q E h => ?_) (fun f cdv A outer s H vs Q E hr h => ?_)
  · obtain ⟨c, n, _, rfl, _⟩ := h
    rfl
  · obtain ⟨c, n, hn, rfl, q⟩ := h
    refine ⟨_, (pss_cons (ps_set (i := 2) sc_law_keys.nd rfl (by first | exact Or.inl rfl | exact Or.inr rfl) (pe_fn F__law_words hr (by decide) rfl (pa_cons (pv 0) (pa_cons pe_int pa_nil))))
      (pss_cons (ps_set (i := 3) sc_law_keys.nd rfl (by first | exact Or.inl rfl | exact Or.inr rfl) (pe_op op_mod (pe_fn F__law_mixed hr (by decide) rfl (pa_cons (pv 0) (pa_cons pe_int pa_nil))) pe_int))
      (pss_cons (ps_set (i := 4) sc_law_keys.nd rfl (by first | exact Or.inl rfl | exact Or.inr rfl) (pe_lst pa_nil))
      (pss_cons (ps_for PassesOwn.never rfl (pi_range1 rfl T.n_range (pa_cons (pv 1) pa_nil)) (pg_name (i := 5) sc_law_keys.nd rfl (by first | exact Or.inl rfl | exact Or.inr rfl)) (pss_cons (ps_set (i := 6) sc_law_keys.nd rfl (by first | exact Or.inl rfl | exact Or.inr rfl) (pe_op op_add (pe_op op_mul pe_int (pe_op op_mod (pe_op op_add (pe_op op_mul pe_int (pv 5)) (pv 3)) pe_int)) (pe_op op_mod (pe_fn F__law_mixed hr (by decide) rfl (pa_cons (pv 0) (pa_cons (pe_op op_add pe_int (pv 5)) pa_nil))) pe_int)))
      (pss_one (ps_expr (pe_bm PySem.F.plainAttrs_list PySem.F.slot_list_append PySem.F.type_list_append mt_append (pv 4) (pa_cons (pe_tup (pa_cons (pe_ix ix_list (pv 2) (pe_op op_mod (pe_fn F__law_mixed hr (by decide) rfl (pa_cons (pv 0) (pa_cons (pe_op op_add pe_int (pv 5)) pa_nil))) pe_int) (fun _ _ => rfl)) (pa_cons (pv 6) pa_nil))) pa_nil))))))
      (pss_one (ps_ret (pv 4))))))), ?_⟩
    have hs : sizeLine = 16777216 := sizeLine_eq
    refine ⟨_, rfl, c, 4, (by decide), rfl, fun l0 zs H1 s1 e1 hz4 hall _ _ => ?_⟩
    refine ⟨_, rfl, c, 899, rfl, fun r1 => ⟨_, _, rfl, rfl, (by show (0 : Int) < 12; decide), ?_⟩⟩
    refine ⟨(by show 0 ≤ sizeLine; decide), fun l hl => ?_⟩
    have s2 := Same.new (o := .lst []) hl
    have e2 : upd H1 l (.lst []) l = some (.lst []) := upd_same
    have fl1 : H1 l = none := hl
    have fl : H l = none := s1.free hl
    have nl0 : l0 ≠ l := ne_of_none e1 hl
    generalize upd H1 l (.lst []) = H2 at s2 e2 ⊢
    refine ⟨_, rfl, n, rfl, (by omega), (by omega), for_range (n := n) (fun i σ H' => ∃ (ps : List Addr) (v5 v6 : Option V), σ = [some (.int c), some (.int n), some (.ref l0), some (.int (r1 % 12)), some (.ref l), v5, v6] ∧ ps.length = i ∧ H' l = some (.lst (ps.map V.ref)) ∧ (∀ p ∈ ps, KeyAt H' p) ∧ Same H1 H' ∧ Nums r1 H' ps)
      ⟨[], _, _, rfl, rfl, e2, by simp, s2, fun i p h => by simp at h⟩ ?_ ?_⟩
    · rintro i σ H3 hi ⟨ps, v5, v6, rfl, hlen, el, hk, s3, nu⟩
      refine ⟨_, rfl, _, _, rfl, rfl, .inl ⟨by decide, by decide⟩, _, rfl, _, _, rfl, rfl, _, _, rfl, rfl, (by show (0 : Int) < 12; decide), _, _, rfl, rfl, .inl ⟨by decide, by decide⟩, _, rfl, _, rfl, _, _, rfl, rfl, c, _, rfl, fun r2 => ⟨_, _, rfl, rfl, (by show (0 : Int) < 8; decide), _, _, rfl, rfl, ?_⟩⟩
      refine ⟨_, rfl, .inl ⟨rfl, _, SqL.of el⟩, _, rfl, _, rfl, _, rfl, _, _, rfl, rfl, c, _, rfl, fun r3 => ⟨_, _, rfl, rfl, (by show (0 : Int) < 4; decide), ?_⟩⟩
      obtain ⟨v, ev, mv⟩ := atI_ex (xs := zs.map V.str) (r := r3 % 4) (Int.emod_nonneg _ (by decide)) (by rw [List.length_map, hz4]; exact Int.emod_lt_of_pos _ (by decide))
      obtain ⟨z, hz, rfl⟩ := List.mem_map.mp mv
      have m1 : 0 ≤ 8 * ((5 * (0 + (i : Int)) + r1 % 12) % 12) + r2 % 8 := by
        have := Int.emod_nonneg (5 * (0 + (i : Int)) + r1 % 12) (show (12 : Int) ≠ 0 by decide)
        have := Int.emod_nonneg r2 (show (8 : Int) ≠ 0 by decide)
        omega
      have m2 : 8 * ((5 * (0 + (i : Int)) + r1 % 12) % 12) + r2 % 8 < 100 := by
        have := Int.emod_lt_of_pos (5 * (0 + (i : Int)) + r1 % 12) (show (0 : Int) < 12 by decide)
        have := Int.emod_lt_of_pos r2 (show (0 : Int) < 8 by decide)
        omega
      obtain ⟨kn, ekn, hkn⟩ := nat_of (n := 100) m1 m2
      refine ⟨l0, _, _, V.str z, rfl, rfl, SqL.of (s3 _ _ e1), ev, _, rfl, (by show 2 ≤ sizeLine; decide), fun p hp => ?_⟩
      have s4 := Same.new (o := .tup [.str z, .int (8 * ((5 * (0 + (i : Int)) + r1 % 12) % 12) + r2 % 8)]) hp
      have e4 : upd H3 p (.tup [.str z, .int (8 * ((5 * (0 + (i : Int)) + r1 % 12) % 12) + r2 % 8)]) p = some (.tup [.str z, .int kn]) := by rw [upd_same, ekn]
      refine ⟨l, _, _, rfl, rfl, s4 _ _ el, (by rw [List.length_map]; omega), ?_⟩
      refine ⟨ps ++ [p], _, _, rfl, by rw [List.length_append, hlen]; rfl, by rw [upd_same, List.map_append]; rfl, fun p' hp' => ?_, fun d o e => ?_, fun j p' hj => ?_⟩
      · rcases List.mem_append.mp hp' with h | h
        · exact ((hk p' h).same s4).upd (s4 _ _ el)
        · rw [List.mem_singleton] at h
          subst h
          exact KeyAt.upd ⟨z, kn, hall z hz, by omega, e4⟩ (s4 _ _ el)
      · rw [upd_ne (ne_of_none e fl1)]
        exact s4 _ _ (s3 _ _ e)
      · have up : ∀ {a : Addr} {xs ys : List V}, upd H3 p (.tup [.str z, .int (8 * ((5 * (0 + (i : Int)) + r1 % 12) % 12) + r2 % 8)]) a = some (.tup xs) → upd (upd H3 p (.tup [.str z, .int (8 * ((5 * (0 + (i : Int)) + r1 % 12) % 12) + r2 % 8)])) l (.lst ys) a = some (.tup xs) := fun h => tup_upd h (s4 _ _ el)
        by_cases hji : j < ps.length
        · rw [List.getElem?_append_left hji] at hj
          obtain ⟨w1, n1, h1, h2⟩ := nu j p' hj
          exact ⟨w1, n1, up (s4 _ _ h1), h2⟩
        · have hj2 : j = ps.length := by
            have := (List.getElem?_eq_some_iff.mp hj).1
            rw [List.length_append, List.length_singleton] at this
            omega
          subst hj2
          rw [List.getElem?_append_right (Nat.le_refl _), Nat.sub_self] at hj
          cases hj
          refine ⟨z, _, up upd_same, ?_⟩
          have := Int.emod_nonneg r2 (show (8 : Int) ≠ 0 by decide)
          have := Int.emod_lt_of_pos r2 (show (0 : Int) < 8 by decide)
          rw [hlen]
          omega
    · rintro σ H3 ⟨ps, v5, v6, rfl, hlen, el, hk, s3, nu⟩
      exact ⟨_, rfl, q l ps H3 (s1.trans s3) el hlen hk (nu.dist (by omega)) fl⟩
structure RowsK (H : Hp) (ks qs : List Addr) (rs : List Row) : Prop where
  len : qs.length = rs.length
  row : ∀ (i : Nat) (q : Addr) (r : Row), qs[i]? = some q → rs[i]? = some r → Row.Good r ∧ RowAt H q r ∧ ∃ p, ks[i]? = some p ∧ H p = some (.tup r.keyV)
theorem RowAt.tups {H H' : Hp} {q : Addr} {r : Row} (h : RowAt H q r) (t : ∀ a xs, H a = some (.tup xs) → H' a = some (.tup xs)) : RowAt H' q r := by
  obtain ⟨pk, pa, h1, h2, h3⟩ := h
  exact ⟨pk, pa, t _ _ h1, t _ _ h2, t _ _ h3⟩
theorem RowsK.tups {H H' : Hp} {ks qs : List Addr} {rs : List Row} (h : RowsK H ks qs rs) (t : ∀ a xs, H a = some (.tup xs) → H' a = some (.tup xs)) : RowsK H' ks qs rs := ⟨h.len, fun i q r h1 h2 => by
  obtain ⟨g, a, p, e1, e2⟩ := h.row i q r h1 h2
  exact ⟨g, a.tups t, p, e1, t _ _ e2⟩⟩
theorem RowsK.all {H : Hp} {ks qs : List Addr} {rs : List Row} (h : RowsK H ks qs rs) : ∀ q ∈ qs, ∃ r, Row.Good r ∧ RowAt H q r := fun q hq => by
  obtain ⟨i, hi, rfl⟩ := List.mem_iff_getElem.mp hq
  have hr : i < rs.length := by rw [← h.len]; exact hi
  obtain ⟨g, a, _⟩ := h.row i qs[i] rs[i] (List.getElem?_eq_getElem hi) (List.getElem?_eq_getElem hr)
  exact ⟨_, g, a⟩
theorem RowsK.snoc {H : Hp} {ks qs : List Addr} {rs : List Row} {q : Addr} {r : Row} (h : RowsK H ks qs rs) (g : Row.Good r) (a : RowAt H q r) {p : Addr} (e1 : ks[qs.length]? = some p) (e2 : H p = some (.tup r.keyV)) : RowsK H ks (qs ++ [q]) (rs ++ [r]) := by
  refine ⟨by rw [List.length_append, List.length_append, h.len]; rfl, fun i q' r' h1 h2 => ?_⟩
  by_cases hi : i < qs.length
  · rw [List.getElem?_append_left hi] at h1
    rw [List.getElem?_append_left (by rw [← h.len]; exact hi)] at h2
    exact h.row i q' r' h1 h2
  · have hj2 : i = qs.length := by
      have := (List.getElem?_eq_some_iff.mp h1).1
      rw [List.length_append, List.length_singleton] at this
      omega
    subst hj2
    rw [List.getElem?_append_right (Nat.le_refl _), Nat.sub_self] at h1
    rw [List.getElem?_append_right (by rw [h.len]; exact Nat.le_refl _), h.len, Nat.sub_self] at h2
    cases h1
    cases h2
    exact ⟨g, a, p, e1, e2⟩
theorem RowsK.nodup {H : Hp} {ks qs : List Addr} {rs : List Row} (h : RowsK H ks qs rs) (d : Dist H ks) : (rs.map fun r => (r.w, r.n)).Nodup := by
  rw [List.Nodup, List.pairwise_iff_getElem]
  intro i j hi hj hij e
  rw [List.length_map] at hi hj
  rw [List.getElem_map, List.getElem_map] at e
  obtain ⟨_, _, p, e1, e2⟩ := h.row i (qs[i]'(by rw [h.len]; exact hi)) rs[i] (List.getElem?_eq_getElem _) (List.getElem?_eq_getElem hi)
  obtain ⟨_, _, p', e1', e2'⟩ := h.row j (qs[j]'(by rw [h.len]; exact hj)) rs[j] (List.getElem?_eq_getElem _) (List.getElem?_eq_getElem hj)
  have en : rs[i].n = rs[j].n := congrArg Prod.snd e
  have : i = j := d i j p p' _ _ _ e1 e1' e2 (by rw [e2']; show some (HO.tup [V.str _, V.int ((rs[j].n : Nat) : Int)]) = _; rw [← en])
  omega
def RowsAt (H : Hp) (qs : List Addr) (rs : List Row) : Prop := qs.length = rs.length ∧ ∀ (i : Nat) (q : Addr) (r : Row), qs[i]? = some q → rs[i]? = some r → r.Good ∧ RowAt H q r
theorem RowsAt.same {H H' : Hp} {qs : List Addr} {rs : List Row} (h : RowsAt H qs rs) (s : Same H H') : RowsAt H' qs rs := ⟨h.1, fun i q r h1 h2 => ⟨(h.2 i q r h1 h2).1, (h.2 i q r h1 h2).2.same s⟩⟩
theorem RowsK.rows {H : Hp} {ks qs : List Addr} {rs : List Row} (h : RowsK H ks qs rs) : RowsAt H qs rs := ⟨h.len, fun i q r h1 h2 => ⟨(h.row i q r h1 h2).1, (h.row i q r h1 h2).2.1⟩⟩
def spBook : Sp := fun vs H Q _ => ∃ c o : Int, vs = [.int c, .int o] ∧ ∀ (l : Addr) (qs : List Addr) (rs : List Row) (H' : Hp), Same H H' → H' l = some (.lst (qs.map V.ref)) → qs.length ≤ 12 → RowsAt H' qs rs → (rs.map fun r => (r.w, r.n)).Nodup → H l = none → Q (.ref l) H'
abbrev s_law_book : Stmt := top 52
theorem sc_law_book : FnScope ["_law_cell_here", "_law_other", "_law_box_here", "_law_many", "_law_keys_here", "_law_known", "_law_k"] ["_law_cell_here", "_law_other"] (defScope s_law_book) := ⟨rfl, rfl, rfl, by decide +kernel, rfl, by decide +kernel, by decide +kernel⟩
theorem ok_book (T : Txt mg) (F__law_box : FnAt P w K mg base "_law_box" 1 ["_law_cell_here"] spBox) (F__law_take : FnAt P w K mg base "_law_take" 2 ["_law_box_here", "_law_many"] spTake) (F__law_keys : FnAt P w K mg base "_law_keys" 4 ["_law_cell_here", "_law_many"] spKeys) (F__law_licence : FnAt P w K mg base "_law_licence" 4 ["_law_box_here", "_law_keys_here", "_law_known"] spLic)
    (F : TopFn K mg "_law_book" s_law_book ["_law_cell_here", "_law_other"]) : FnAt P w K mg base "_law_book" 5 ["_law_cell_here", "_law_other"] spBook := by
  refine F.at sc_law_book (fun vs H Q E h => ?_) (fun f cdv A outer s H vs Q E hr h => ?_)
  · obtain ⟨c, o, rfl, _⟩ := h
    rfl
  · obtain ⟨c, ot, rfl, q⟩ := h
    refine ⟨_, (pss_cons (ps_set (i := 2) sc_law_book.nd rfl (by first | exact Or.inl rfl | exact Or.inr rfl) (pe_fn F__law_box hr (by decide) rfl (pa_cons (pv 0) pa_nil)))
      (pss_cons (ps_set (i := 3) sc_law_book.nd rfl (by first | exact Or.inl rfl | exact Or.inr rfl) (pe_fn F__law_take hr (by decide) rfl (pa_cons (pv 2) (pa_cons pe_int pa_nil))))
      (pss_cons (ps_mid (ps_if (pt_cmpR op_eq (pe_fn F__law_take hr (by decide) rfl (pa_cons (pv 2) (pa_cons pe_int pa_nil))) pe_int (nomark _)) (pss_one (ps_set (i := 3) sc_law_book.nd rfl (by first | exact Or.inl rfl | exact Or.inr rfl) (pe_op op_add pe_int (pe_fn F__law_take hr (by decide) rfl (pa_cons (pv 2) (pa_cons pe_int pa_nil)))))) pss_nil))
      (pss_cons (ps_set (i := 4) sc_law_book.nd rfl (by first | exact Or.inl rfl | exact Or.inr rfl) (pe_fn F__law_keys hr (by decide) rfl (pa_cons (pv 1) (pa_cons (pv 3) pa_nil))))
      (pss_cons (ps_set (i := 5) sc_law_book.nd rfl (by first | exact Or.inl rfl | exact Or.inr rfl) (pe_lst pa_nil))
      (pss_cons (ps_for PassesOwn.never rfl (pi_range1 rfl T.n_range (pa_cons (pv 3) pa_nil)) (pg_name (i := 6) sc_law_book.nd rfl (by first | exact Or.inl rfl | exact Or.inr rfl)) (pss_one (ps_expr (pe_bm PySem.F.plainAttrs_list PySem.F.slot_list_append PySem.F.type_list_append mt_append (pv 5) (pa_cons (pe_fn F__law_licence hr (by decide) rfl (pa_cons (pv 2) (pa_cons (pv 4) (pa_cons (pv 5) pa_nil)))) pa_nil)))))
      (pss_one (ps_ret (pv 5))))))))), ?_⟩
    have hs : sizeLine = 16777216 := sizeLine_eq
    refine ⟨_, rfl, c, rfl, fun b x y z hb => ?_⟩
    have O1 : Oth b (upd H b (.lst [.int x, .int y, .int z])) (upd H b (.lst [.int x, .int y, .int z])) := Oth.refl ⟨x, y, z, upd_same⟩
    have S0 : ∀ {H' : Hp}, Oth b (upd H b (.lst [.int x, .int y, .int z])) H' → Same H H' := fun {H'} o d u e => o.oth d u (by rw [upd_ne (ne_of_none e hb)]; exact e) (ne_of_none e hb)
    generalize upd H b (.lst [.int x, .int y, .int z]) = H1 at O1 S0 ⊢
    refine ⟨_, rfl, b, 6, rfl, O1.box, (by decide), (by decide), fun m H2 m0 m1 o2 => ?_⟩
    obtain ⟨m, rfl, hm⟩ := nat_of m0 m1
    refine ⟨fun σ' H' => ∃ n : Nat, n ≤ 12 ∧ σ' = [some (.int c), some (.int ot), some (.ref b), some (.int n), none, none, none] ∧ Oth b H1 H', ?_, ?_⟩
    · refine ⟨_, rfl, b, 8, rfl, o2.box, (by decide), (by decide), fun u H3 _ _ o3 => ⟨rfl, _, rfl, ite2 (fun _ => ?_) (fun _ => ?_)⟩⟩
      · refine ⟨_, rfl, b, 6, rfl, o3.box, (by decide), (by decide), fun t H4 t0 t1 o4 => ⟨_, _, rfl, rfl, ?_⟩⟩
        obtain ⟨t, rfl, ht⟩ := nat_of t0 t1
        exact ⟨7 + t, by omega, rfl, (o2.trans o3).trans o4⟩
      · exact ⟨m, by omega, rfl, o2.trans o3⟩
    · rintro σ' H3 ⟨n, hn, rfl, O3⟩
      refine ⟨_, rfl, _, rfl, ot, n, hn, rfl, fun lk ks H4 s4 ek hklen hkey hdist fk => ?_⟩
      have O4 : Oth b H1 H4 := O3.same s4
      have nkb : lk ≠ b := Box.ne O3.box fk
      refine ⟨(by show 0 ≤ sizeLine; decide), fun lw hlw => ?_⟩
      have O5 := O4.new (o := .lst []) hlw
      have s5 := Same.new (o := .lst []) hlw
      have e5 : upd H4 lw (.lst []) lw = some (.lst []) := upd_same
      have nwb : lw ≠ b := Box.ne O4.box hlw
      have fw : H lw = none := (S0 O4).free hlw
      have f1w : H1 lw = none := O4.free hlw
      have nkw : lk ≠ lw := ne_of_none ek hlw
      generalize upd H4 lw (.lst []) = H5 at O5 s5 e5 ⊢
      refine ⟨_, rfl, n, rfl, (by omega), (by omega), for_range (n := n) (fun i σ H' => ∃ (qs : List Addr) (v6 : Option V), σ = [some (.int c), some (.int ot), some (.ref b), some (.int n), some (.ref lk), some (.ref lw), v6] ∧ qs.length = i ∧ H' lw = some (.lst (qs.map V.ref)) ∧ H' lk = some (.lst (ks.map V.ref)) ∧ (∀ p ∈ ks, KeyAt H' p) ∧ (∃ rs, RowsK H' ks qs rs) ∧ Oth b H1 H' ∧ ∀ a xs, H4 a = some (.tup xs) → H' a = some (.tup xs))
        ⟨[], _, rfl, rfl, e5, s5 _ _ ek, fun p hp => (hkey p hp).same s5, ⟨[], rfl, fun i q r h => by simp at h⟩, O5, fun a xs e => s5 _ _ e⟩ ?_ ?_⟩
      · rintro i σ H6 hi ⟨qs, v6, rfl, hlen, ew, ek6, hk6, ⟨rs, hq6⟩, O6, TT⟩
        refine ⟨_, rfl, .inl ⟨rfl, _, SqL.of ew⟩, _, rfl, _, rfl, _, rfl, b, lk, lw, ks, qs, rfl, O6.box, ek6, ew, nkb, nwb, by omega, by omega, hk6, hq6.all, fun q1 H7 o7 ⟨r, gr, hr1, pk1, hpk1, ek1⟩ => ?_⟩
        have ew7 : H7 lw = some (.lst (qs.map V.ref)) := o7.oth _ _ ew nwb
        refine ⟨lw, _, _, rfl, rfl, ew7, (by rw [List.length_map]; omega), ?_⟩
        refine ⟨qs ++ [q1], _, rfl, by rw [List.length_append, hlen]; rfl, by rw [upd_same, List.map_append]; rfl, by rw [upd_ne nkw]; exact o7.oth _ _ ek6 nkb, fun p hp => ((hk6 p hp).oth O6.box o7).upd ew7, ⟨rs ++ [r], ?_⟩, ⟨?_, fun d o e nd => ?_⟩, ?_⟩
        · exact RowsK.snoc (hq6.tups fun a xs e => tup_upd (tup_oth e O6.box o7) ew7) gr (hr1.upd ew7) hpk1 (tup_upd (tup_oth ek1 O6.box o7) ew7)
        · obtain ⟨x1, y1, z1, hbx⟩ := o7.box
          exact ⟨x1, y1, z1, by rw [upd_ne (Ne.symm nwb)]; exact hbx⟩
        · rw [upd_ne (ne_of_none e f1w)]
          exact (O6.trans o7).oth d o e nd
        · exact fun a xs e => tup_upd (tup_oth (TT a xs e) O6.box o7) ew7
      · rintro σ H6 ⟨qs, v6, rfl, hlen, ew, ek6, hk6, ⟨rs, hq6⟩, O6, TT⟩
        exact ⟨_, rfl, q lw qs rs H6 (S0 O6) ew (by omega) hq6.rows (hq6.nodup (hdist.tups hkey TT)) fw⟩
end
end K14
namespace L2
open PySem PySem.Spec PyProof.Rows
def XatF (C : Addr) (f : Str) (v : V) (H : Hp) (E : XK) : Prop := ∀ (a dx : Addr) (H' : Hp), Same H H' → H' a = some (excR a C (some dx)) → H' dx = some (.xd [(f, v)]) → E (.ref a) none H'
theorem XatF.go {C a dx : Addr} {f : Str} {v : V} {H H1 : Hp} {E : XK} (x : XatF C f v H E) (s : Same H H1) (h1 : H1 a = none) (h2 : H1 dx = none) (h3 : dx ≠ a) :
    E (.ref a) none (upd (upd (upd H1 a (excO a C (some dx))) dx (.xd [(f, v)])) a (excR a C (some dx))) := by
  refine x a dx _ (fun b o e => ?_) upd_same (by rw [upd_ne h3]; exact upd_same)
  have e1 := s b o e
  rw [upd_ne (ne_of_none e1 h1), upd_ne (ne_of_none e1 h2), upd_ne (ne_of_none e1 h1)]
  exact e1
end L2
namespace K14
open PySem L2 PyProof.Rows
theorem hu1 {A : Around} {k : Nat} (hr : Room k A) : A.units + 1 < cLine := by have := hr.units; omega
theorem room2 {k : Nat} {A : Around} (hr : Room k A) : A.units + 2 < cLine := by have := hr.units; omega
section
variable {P : Program} {w : World} {K : PySem.W.Frag} {mg : Str → Option Value} {base : Heap} {C G : Addr}
abbrev sNoKey : Stmt := inClass (top 3) 0
theorem scNoKey : FnScope ["self", "found"] ["self", "found"] (defScope sNoKey) := ⟨rfl, rfl, rfl, by decide +kernel, rfl, by decide +kernel, by decide +kernel⟩
theorem ok_NoKey (B : GBase K mg "GrantError" G) (D : XTop K mg "NoKey" "found" sNoKey C G) : XAt P w K mg base "NoKey" 1 "found" C := by
  obtain ⟨df, _, f, fd, hi, hfn, F, hb⟩ := D
  refine ⟨df, f, fd, hi, hfn, F.ok scNoKey (fun vs H Q E h => ?_) (fun cdv A outer s H vs Q E hr h => ?_), hb⟩
  · obtain ⟨e, v, rfl, _⟩ := h
    rfl
  · obtain ⟨e, v, rfl, he, q⟩ := h
    refine ⟨_, (pss_cons (ps_expr (pe_binit B rfl (pa_cons (pv 0) (pa_cons pe_str pa_nil)))) (pss_one (ps_xfld (pv 0) (pv 1)))), ?_⟩
    refine ⟨_, rfl, e, C, none, _, rfl, he, df.ok.mkk, ?_⟩
    exact ⟨_, rfl, _, rfl, e, C, rfl, he, df.ok, fun dx n1 n2 => q dx n1 n2⟩
end
structure Has (P : Program) (w : World) (K : PySem.W.Frag) (mg : Str → Option Value) (base : Heap) (ck g : Addr) : Prop where
  xk : XAt P w K mg base "NoKey" 1 "found" ck
  mk' : MroX K ck g
  gm : mg "GrantError" = some (.ref g)
  km : mg "NoKey" = some (.ref ck)
  kc : (PySem.W.clsIn K ck).isSome = true
  kt : PySem.W.typeIn K (.ref ck) = some (.type "type")
  kb : PySem.W.mroIn K ck (.type "BaseException") = some true
  ks : PySem.W.mroIn K ck (.ref ck) = some true
  kg : PySem.W.kitOne K (.ref ck) (.ref g) = some true
structure LKit (K : PySem.W.Frag) (cL : Addr) : Prop where
  cl : Cls K cL
  ha : PySem.W.findIn K (.ref cL) "__class__" = some (some (.builtin "object.__class__"))
  hn : PySem.W.specialIn K (.builtin "object.__class__") "__get__" = some (some (.builtin "getset_descriptor.__get__"))
  htk : PySem.W.takesIn K (.builtin "object.__class__") = some true
  hm : PySem.W.mroIn K cL (.type "object") = some true
  kL : PySem.W.kitOne K (.ref cL) (.ref cL) = some true
theorem LKit.ty {K : PySem.W.Frag} {C a dx : Addr} {fs : List (Str × V)} {H : Hp} (i : LKit K C) (e : H a = some (.ins C dx fs)) : TyOf K H (.ref a) (.ref C) := .ins e i.cl i.ha i.hn i.htk i.hm
theorem inV_str (z : Str) : ∀ zs : List Str, inV (.str z) (zs.map V.str) = decide (z ∈ zs)
  | [] => rfl
  | y :: zs => by
    have ih := inV_str z zs
    unfold inV at ih ⊢
    rw [List.map_cons, List.any_cons, ih]
    show (y == z || decide (z ∈ zs)) = decide (z ∈ y :: zs)
    rw [Bool.eq_iff_iff, Bool.or_eq_true, beq_iff_eq, decide_eq_true_iff, decide_eq_true_iff, List.mem_cons]
    exact ⟨fun h => h.imp Eq.symm id, fun h => h.imp Eq.symm id⟩
theorem not_ahead {zs : List Str} (h : zs.Nodup) {i : Nat} (hi : i < zs.length) : zs[i] ∉ zs.take i := fun m => by
  obtain ⟨j, hj, e⟩ := List.mem_iff_getElem.mp m
  rw [List.length_take] at hj
  rw [List.getElem_take] at e
  exact (List.pairwise_iff_getElem.mp h) j i (by omega) hi (by omega) e
theorem flat_strs (zs : List Str) : (zs.map V.str).all flatV = true := List.all_eq_true.mpr fun y hy => by
  obtain ⟨z, _, rfl⟩ := List.mem_map.mp hy
  rfl
theorem word_short {z : Str} (h : isWordZ z = true) : Short (.str z) := fun y e => by
  cases e
  unfold isWordZ at h
  simp only [Bool.and_eq_true, decide_eq_true_eq] at h
  omega
def Sq (H : Hp) (l : Addr) (xs : List V) : Prop := H l = some (.lst xs) ∨ H l = some (.tup xs)
theorem Sq.same {H H' : Hp} {l : Addr} {xs : List V} (h : Sq H l xs) (s : Same H H') : Sq H' l xs := h.imp (s _ _) (s _ _)
def spNames (K : PySem.W.Frag) : Sp := fun vs H Q _ => ∃ (l : Addr) (zs : List Str) (m : Nat), vs = [.ref l, .int m] ∧ m ≤ 6 ∧ Sq H l (zs.map V.str) ∧ (∀ z ∈ zs, isWordZ z = true) ∧ zs.Nodup ∧ zs.length ≤ m ∧ ∀ (lk : Addr) (H' : Hp), Same H H' → H lk = none → H' lk = some (.lst (zs.map V.str)) → Q (.ref lk) H'
def spNam6 : Sp := fun vs H Q _ => ∃ (l : Addr) (zs : List Str), vs = [.ref l] ∧ Sq H l (zs.map V.str) ∧ (∀ z ∈ zs, isWordZ z = true) ∧ zs.Nodup ∧ zs.length ≤ 6 ∧ ∀ (lk : Addr) (H' : Hp), Same H H' → H lk = none → H' lk = some (.lst (zs.map V.str)) → Q (.ref lk) H'
section
variable {P : Program} {w : World} {K : PySem.W.Frag} {mg : Str → Option Value} {base : Heap} {cL : Addr}
abbrev skept_names : Stmt := top 37
theorem sckept_names : FnScope ["names", "most", "kept", "name"] ["names", "most"] (defScope skept_names) := ⟨rfl, rfl, rfl, by decide +kernel, rfl, by decide +kernel, by decide +kernel⟩
theorem ok_names (T : Txt mg) (F_is_word : FnAt P w K mg base "is_word" 1 ["thing"] (spWord K)) (F : TopFn K mg "kept_names" skept_names ["names", "most"]) : FnAt P w K mg base "kept_names" 2 ["names", "most"] (spNames K) := by
  refine F.at sckept_names (fun vs H Q E h => ?_) (fun f cdv A outer s H vs Q E hr h => ?_)
  · obtain ⟨l, zs, m, rfl, _⟩ := h
    rfl
  · obtain ⟨l, zs, m, rfl, hm, hl | hl, hw, hnd, hlen, q⟩ := h
    · refine ⟨_, (pss_cons (ps_if (pt_not (pt_val (pe_callB call_isLT rfl T.n_isinstance boot_isinstance (pa_cons (pv 0) (pa_cons (pe_tup (pa_cons (pe_bltn (v := .ty "list") rfl T.n_list boot_list rfl) (pa_cons (pe_bltn (v := .ty "tuple") rfl T.n_tuple boot_tuple rfl) pa_nil))) pa_nil))))) (pss_one ps_never) pss_nil)
        (pss_cons (ps_if (pt_cmpR op_gt (pe_callB call_len rfl T.n_len boot_len (pa_cons (pv 0) pa_nil)) (pv 1) (nomark _)) (pss_one ps_never) pss_nil)
        (pss_cons (ps_set (i := 2) sckept_names.nd rfl (by first | exact Or.inl rfl | exact Or.inr rfl) (pe_lst pa_nil))
        (pss_cons (ps_for PassesOwn.never rfl (pi_list (pv 0)) (pg_name (i := 3) sckept_names.nd rfl (by first | exact Or.inl rfl | exact Or.inr rfl)) (pss_cons (ps_if (pt_not (pt_val (pe_fn F_is_word hr (by decide) rfl (pa_cons (pv 3) pa_nil)))) (pss_one ps_never) pss_nil)
        (pss_cons (ps_if (pt_cmpR op_in_seq (pv 3) (pv 2) (by with_unfolding_all rfl)) (pss_one ps_never) pss_nil)
        (pss_one (ps_expr (pe_bm PySem.F.plainAttrs_list PySem.F.slot_list_append PySem.F.type_list_append mt_append (pv 2) (pa_cons (pv 3) pa_nil)))))))
        (pss_one (ps_ret (pv 2))))))), ?_⟩
      refine ⟨_, rfl, (by show 2 ≤ sizeLine; decide), fun tp htp => ?_⟩
      have s1 := Same.new (o := .tup [.ty "list", .ty "tuple"]) htp
      have e1 : upd H tp (.tup [.ty "list", .ty "tuple"]) tp = some (.tup [.ty "list", .ty "tuple"]) := upd_same
      generalize upd H tp (.tup [.ty "list", .ty "tuple"]) = H1 at s1 e1 ⊢
      have l1 := s1 _ _ hl
      refine ⟨l, _, tp, rfl, l1, SqT.of e1, _, rfl, iteF ?_⟩
      refine ⟨_, rfl, _, _, rfl, .inl ⟨_, SqL.of l1, rfl⟩, _, rfl, _, _, rfl, rfl, _, rfl, ite2 (fun h2 => ?_) (fun h2 => ?_)⟩
      · have h2 : (((zs.map V.str).length : Nat) : Int) > (m : Int) := of_decide_eq_true h2
        rw [List.length_map] at h2
        omega
      refine ⟨(by show 0 ≤ sizeLine; decide), fun lk hlk => ?_⟩
      have s2 := Same.new (o := .lst []) hlk
      have e2 : upd H1 lk (.lst []) lk = some (.lst []) := upd_same
      have nk : H lk = none := s1.free hlk
      generalize upd H1 lk (.lst []) = H2 at s2 e2 ⊢
      have s12 := s1.trans s2
      refine ⟨_, rfl, l, rfl, ⟨_, SqL.of (s12 _ _ hl)⟩, for_list (K := K) (a := l) (xs := zs.map V.str) (fun i σ H' => ∃ v3, σ = [some (.ref l), some (.int m), some (.ref lk), v3] ∧ Same H H' ∧ H' lk = some (.lst ((zs.take i).map V.str)))
        ⟨_, rfl, s12, e2⟩ (fun i σ H' _ h => ?_) ?_ ?_⟩
      · obtain ⟨v3, _, s', _⟩ := h
        exact SqL.of (s' _ _ hl)
      · rintro i x σ H' hx ⟨v3, rfl, s', e'⟩
        rw [List.getElem?_map] at hx
        obtain ⟨z, hz, rfl⟩ := Option.map_eq_some_iff.mp hx
        obtain ⟨hi, hze⟩ := List.getElem?_eq_some_iff.mp hz
        have hzw := hw z (List.mem_of_getElem? hz)
        have ht : zs.take (i + 1) = zs.take i ++ [z] := by rw [List.take_succ_eq_append_getElem hi, hze]
        refine ⟨_, rfl, .str z, rfl, ⟨.str, .str _⟩, word_short hzw, fun H3 s3 => ⟨_, rfl, ?_⟩⟩
        have s03 := s'.trans s3
        show if (!isWordZ z) = true then _ else _
        rw [hzw]
        refine iteF ⟨_, rfl, _, rfl, lk, (zs.take i).map V.str, rfl, .inl (SqL.of (s3 _ _ e')), rfl, flat_strs _, _, rfl, ?_⟩
        rw [inV_str, decide_eq_false (by rw [← hze]; exact not_ahead hnd hi)]
        refine iteF ⟨_, rfl, .inl ⟨rfl, _, SqL.of (s3 _ _ e')⟩, _, rfl, lk, _, _, rfl, rfl, s3 _ _ e', ?_, ?_⟩
        · rw [sizeLine_eq, List.length_map, List.length_take]; omega
        · exact ⟨_, rfl, fun d o e => by rw [upd_ne (ne_of_none e nk)]; exact s03 _ _ e, by rw [upd_same, ht, List.map_append]; rfl⟩
      · rintro σ H' ⟨v3, rfl, s', e'⟩
        rw [List.length_map, List.take_length] at e'
        exact ⟨_, rfl, q lk H' s' nk e'⟩
    · refine ⟨_, (pss_cons (ps_if (pt_not (pt_val (pe_callB call_isTT rfl T.n_isinstance boot_isinstance (pa_cons (pv 0) (pa_cons (pe_tup (pa_cons (pe_bltn (v := .ty "list") rfl T.n_list boot_list rfl) (pa_cons (pe_bltn (v := .ty "tuple") rfl T.n_tuple boot_tuple rfl) pa_nil))) pa_nil))))) (pss_one ps_never) pss_nil)
        (pss_cons (ps_if (pt_cmpR op_gt (pe_callB call_len rfl T.n_len boot_len (pa_cons (pv 0) pa_nil)) (pv 1) (nomark _)) (pss_one ps_never) pss_nil)
        (pss_cons (ps_set (i := 2) sckept_names.nd rfl (by first | exact Or.inl rfl | exact Or.inr rfl) (pe_lst pa_nil))
        (pss_cons (ps_for PassesOwn.never rfl (pi_tup (pv 0)) (pg_name (i := 3) sckept_names.nd rfl (by first | exact Or.inl rfl | exact Or.inr rfl)) (pss_cons (ps_if (pt_not (pt_val (pe_fn F_is_word hr (by decide) rfl (pa_cons (pv 3) pa_nil)))) (pss_one ps_never) pss_nil)
        (pss_cons (ps_if (pt_cmpR op_in_seq (pv 3) (pv 2) (by with_unfolding_all rfl)) (pss_one ps_never) pss_nil)
        (pss_one (ps_expr (pe_bm PySem.F.plainAttrs_list PySem.F.slot_list_append PySem.F.type_list_append mt_append (pv 2) (pa_cons (pv 3) pa_nil)))))))
        (pss_one (ps_ret (pv 2))))))), ?_⟩
      refine ⟨_, rfl, (by show 2 ≤ sizeLine; decide), fun tp htp => ?_⟩
      have s1 := Same.new (o := .tup [.ty "list", .ty "tuple"]) htp
      have e1 : upd H tp (.tup [.ty "list", .ty "tuple"]) tp = some (.tup [.ty "list", .ty "tuple"]) := upd_same
      generalize upd H tp (.tup [.ty "list", .ty "tuple"]) = H1 at s1 e1 ⊢
      have l1 := s1 _ _ hl
      refine ⟨l, _, tp, rfl, l1, SqT.of e1, _, rfl, iteF ?_⟩
      refine ⟨_, rfl, _, _, rfl, .inr ⟨_, SqT.of l1, rfl⟩, _, rfl, _, _, rfl, rfl, _, rfl, ite2 (fun h2 => ?_) (fun h2 => ?_)⟩
      · have h2 : (((zs.map V.str).length : Nat) : Int) > (m : Int) := of_decide_eq_true h2
        rw [List.length_map] at h2
        omega
      refine ⟨(by show 0 ≤ sizeLine; decide), fun lk hlk => ?_⟩
      have s2 := Same.new (o := .lst []) hlk
      have e2 : upd H1 lk (.lst []) lk = some (.lst []) := upd_same
      have nk : H lk = none := s1.free hlk
      generalize upd H1 lk (.lst []) = H2 at s2 e2 ⊢
      have s12 := s1.trans s2
      refine ⟨_, rfl, l, rfl, ⟨_, SqT.of (s12 _ _ hl)⟩, for_tup (K := K) (a := l) (xs := zs.map V.str) (fun i σ H' => ∃ v3, σ = [some (.ref l), some (.int m), some (.ref lk), v3] ∧ Same H H' ∧ H' lk = some (.lst ((zs.take i).map V.str)))
        ⟨_, rfl, s12, e2⟩ (fun i σ H' _ h => ?_) ?_ ?_⟩
      · obtain ⟨v3, _, s', _⟩ := h
        exact SqT.of (s' _ _ hl)
      · rintro i x σ H' hx ⟨v3, rfl, s', e'⟩
        rw [List.getElem?_map] at hx
        obtain ⟨z, hz, rfl⟩ := Option.map_eq_some_iff.mp hx
        obtain ⟨hi, hze⟩ := List.getElem?_eq_some_iff.mp hz
        have hzw := hw z (List.mem_of_getElem? hz)
        have ht : zs.take (i + 1) = zs.take i ++ [z] := by rw [List.take_succ_eq_append_getElem hi, hze]
        refine ⟨_, rfl, .str z, rfl, ⟨.str, .str _⟩, word_short hzw, fun H3 s3 => ⟨_, rfl, ?_⟩⟩
        have s03 := s'.trans s3
        show if (!isWordZ z) = true then _ else _
        rw [hzw]
        refine iteF ⟨_, rfl, _, rfl, lk, (zs.take i).map V.str, rfl, .inl (SqL.of (s3 _ _ e')), rfl, flat_strs _, _, rfl, ?_⟩
        rw [inV_str, decide_eq_false (by rw [← hze]; exact not_ahead hnd hi)]
        refine iteF ⟨_, rfl, .inl ⟨rfl, _, SqL.of (s3 _ _ e')⟩, _, rfl, lk, _, _, rfl, rfl, s3 _ _ e', ?_, ?_⟩
        · rw [sizeLine_eq, List.length_map, List.length_take]; omega
        · exact ⟨_, rfl, fun d o e => by rw [upd_ne (ne_of_none e nk)]; exact s03 _ _ e, by rw [upd_same, ht, List.map_append]; rfl⟩
      · rintro σ H' ⟨v3, rfl, s', e'⟩
        rw [List.length_map, List.take_length] at e'
        exact ⟨_, rfl, q lk H' s' nk e'⟩
abbrev skept_strings : Stmt := top 38
theorem sckept_strings : FnScope ["names"] ["names"] (defScope skept_strings) := ⟨rfl, rfl, rfl, by decide +kernel, rfl, by decide +kernel, by decide +kernel⟩
theorem ok_strings (T : Txt mg) (F_kept_names : FnAt P w K mg base "kept_names" 2 ["names", "most"] (spNames K)) (F : TopFn K mg "kept_strings" skept_strings ["names"]) : FnAt P w K mg base "kept_strings" 3 ["names"] spNam6 := by
  refine F.at sckept_strings (fun vs H Q E h => ?_) (fun f cdv A outer s H vs Q E hr h => ?_)
  · obtain ⟨l, zs, rfl, _⟩ := h
    rfl
  · obtain ⟨l, zs, rfl, hl, hw, hn, h6, q⟩ := h
    refine ⟨_, (pss_one (ps_ret (pe_fn F_kept_names hr (by decide) rfl (pa_cons (pv 0) (pa_cons (pe_globI rfl T.g_STRING_BITS) pa_nil))))), ?_⟩
    exact ⟨_, rfl, l, zs, 6, rfl, by decide, hl, hw, hn, h6, q⟩
abbrev skept_duties : Stmt := top 39
theorem sckept_duties : FnScope ["names"] ["names"] (defScope skept_duties) := ⟨rfl, rfl, rfl, by decide +kernel, rfl, by decide +kernel, by decide +kernel⟩
theorem ok_duties (T : Txt mg) (F_kept_names : FnAt P w K mg base "kept_names" 2 ["names", "most"] (spNames K)) (F : TopFn K mg "kept_duties" skept_duties ["names"]) : FnAt P w K mg base "kept_duties" 3 ["names"] spNam6 := by
  refine F.at sckept_duties (fun vs H Q E h => ?_) (fun f cdv A outer s H vs Q E hr h => ?_)
  · obtain ⟨l, zs, rfl, _⟩ := h
    rfl
  · obtain ⟨l, zs, rfl, hl, hw, hn, h6, q⟩ := h
    refine ⟨_, (pss_one (ps_ret (pe_fn F_kept_names hr (by decide) rfl (pa_cons (pv 0) (pa_cons (pe_globI rfl T.g_DUTY_BITS) pa_nil))))), ?_⟩
    exact ⟨_, rfl, l, zs, 6, rfl, by decide, hl, hw, hn, h6, q⟩
def spNamed (cL : Addr) : Sp := fun vs H Q _ => ∃ (p ls ld : Addr) (r : Row) (ss ds : List V) (dx pk pa : Addr), vs = [.ref p, .ref ls, .ref ld] ∧ r.Good ∧ H p = some (.ins cL dx (r.l10 pk pa)) ∧ H pa = some (.tup r.asks) ∧ H ls = some (.lst ss) ∧ H ld = some (.lst ds) ∧ ss.length = 6 ∧ ds.length = 6 ∧ Q .non H
abbrev sneed_named : Stmt := top 40
theorem scneed_named : FnScope ["licence", "strings", "duties"] ["licence", "strings", "duties"] (defScope sneed_named) := ⟨rfl, rfl, rfl, by decide +kernel, rfl, by decide +kernel, by decide +kernel⟩
theorem ok_named (T : Txt mg) (c : LCls K cL) (F_is_mask : FnAt P w K mg base "is_mask" 2 ["thing", "many"] (spMask K)) (F : TopFn K mg "need_named" sneed_named ["licence", "strings", "duties"]) : FnAt P w K mg base "need_named" 3 ["licence", "strings", "duties"] (spNamed cL) := by
  refine F.at scneed_named (fun vs H Q E h => ?_) (fun f cdv A outer s H vs Q E hr h => ?_)
  · obtain ⟨p, ls, ld, r, ss, ds, dx, pk, pa, rfl, _⟩ := h
    rfl
  · obtain ⟨p, ls, ld, r, ss, ds, dx, pk, pa, rfl, g, hp, ha, hs, hd, s6, d6, q⟩ := h
    refine ⟨_, (pss_cons (ps_if (pt_not (pt_val (pe_fn F_is_mask hr (by decide) rfl (pa_cons (pe_op op_or (pe_fld (pv 0) rfl) (pe_fld (pv 0) rfl)) (pa_cons (pe_callB call_len rfl T.n_len boot_len (pa_cons (pv 1) pa_nil)) pa_nil))))) (pss_one ps_never) pss_nil)
      (pss_one (ps_if (pt_not (pt_val (pe_fn F_is_mask hr (by decide) rfl (pa_cons (pe_ix ix_tup (pe_fld (pv 0) rfl) (pe_un un_neg pe_int) (fun _ _ => rfl)) (pa_cons (pe_callB call_len rfl T.n_len boot_len (pa_cons (pv 2) pa_nil)) pa_nil))))) (pss_one ps_never) pss_nil))), ?_⟩
    have f1 : (r.l10 pk pa).lookup ("strings" : Str) = some (.int r.st) := (l10_t4 (by decide +kernel)).trans t4_strings
    have f2 : (r.l10 pk pa).lookup ("bars" : Str) = some (.int r.ba) := (l10_t4 (by decide +kernel)).trans t4_bars
    have f3 : (r.l10 pk pa).lookup ("asks" : Str) = some (.ref pa) := l10_asks
    obtain ⟨ov, eo, ho⟩ := or64 g.h4.hst g.h4.hba
    have e1 : maskV ss.length (.int (Builtin.bitOr (r.st : Int) (r.ba : Int))) = true := by
      rw [s6, eo]
      exact decide_eq_true ⟨by omega, by show (ov : Int) < 64; omega⟩
    have e2 : maskV ds.length (.int (r.a3 : Int)) = true := by
      have := g.ha.l3
      rw [d6]
      exact decide_eq_true ⟨by omega, by show (r.a3 : Int) < 64; omega⟩
    refine ⟨_, rfl, p, cL, dx, _, _, rfl, hp, c.cl, c.strings, f1, _, rfl, p, cL, dx, _, _, rfl, hp, c.cl, c.bars, f2, _, _, rfl, rfl, _, rfl, _, _, rfl, .inl ⟨_, SqL.of hs, rfl⟩, _, ss.length, rfl, ⟨.int, .int _⟩, _, rfl, ?_⟩
    rw [e1]
    refine iteF ⟨_, rfl, p, cL, dx, _, _, rfl, hp, c.cl, c.asks, f3, _, rfl, pa, _, _, V.int r.a3, rfl, rfl, SqT.of ha, rfl, _, rfl, _, _, rfl, .inl ⟨_, SqL.of hd, rfl⟩, _, ds.length, rfl, ⟨.int, .int _⟩, _, rfl, ?_⟩
    rw [e2]
    exact iteF q
end
end K14
namespace K14
open PySem L2 PyProof.Rows
def LAt (cL : Addr) (H : Hp) (p : Addr) (r : Row) : Prop := ∃ dx pk pa, H p = some (.ins cL dx (r.l10 pk pa)) ∧ H pk = some (.tup r.keyV) ∧ H pa = some (.tup r.asks)
theorem LAt.same {cL : Addr} {H H' : Hp} {p : Addr} {r : Row} (h : LAt cL H p r) (s : Same H H') : LAt cL H' p r := by
  obtain ⟨dx, pk, pa, h1, h2, h3⟩ := h
  exact ⟨dx, pk, pa, s _ _ h1, s _ _ h2, s _ _ h3⟩
abbrev Row.oL (r : Row) : Ob := ⟨r.le, r.st, r.ba, r.re, some (r.w, r.n, r.sa)⟩
theorem LAt.ob {cT cL : Addr} {H : Hp} {p : Addr} {r : Row} (h : LAt cL H p r) : ObAt cT cL H p r.oL := by
  obtain ⟨dx, pk, pa, h1, h2, h3⟩ := h
  exact .l h1 h2 h3
theorem Row.Good.fine {r : Row} (g : r.Good) : r.oL.Fine := ⟨by have := g.h4.hle; show r.le < 64; omega, g.h4.hst, g.h4.hba⟩
def LicsAt (cL : Addr) (H : Hp) (xs : List Addr) (rs : List Row) : Prop := xs.length = rs.length ∧ ∀ (i : Nat) (x : Addr) (r : Row), xs[i]? = some x → rs[i]? = some r → r.Good ∧ LAt cL H x r
theorem LicsAt.same {cL : Addr} {H H' : Hp} {xs : List Addr} {rs : List Row} (h : LicsAt cL H xs rs) (s : Same H H') : LicsAt cL H' xs rs := ⟨h.1, fun i q r h1 h2 => ⟨(h.2 i q r h1 h2).1, (h.2 i q r h1 h2).2.same s⟩⟩
abbrev keyOf (r : Row) : Str × Nat := (r.w, r.n)
abbrev kk (p : Str × Nat) : List Key := [.inr p.1, .inl (p.2 : Int)]
theorem kk_inj {p q : Str × Nat} (e : kk p = kk q) : p = q := by
  have e : ([Sum.inr p.1, Sum.inl (p.2 : Int)] : List Key) = [.inr q.1, .inl (q.2 : Int)] := e
  simp only [List.cons.injEq, Sum.inr.injEq, Sum.inl.injEq, and_true] at e
  exact Prod.ext e.1 (by have := e.2; omega)
def bKvs (ys : List Addr) (rs : List Row) : List (List Key × V) := (ys.zip rs).map fun p => (kk (keyOf p.2), V.ref p.1)
theorem bKvs_len {ys : List Addr} {rs : List Row} (h : ys.length = rs.length) : (bKvs ys rs).length = rs.length := by
  unfold bKvs
  rw [List.length_map, List.length_zip]
  omega
theorem bKvs_get {ys : List Addr} {rs : List Row} {i : Nat} {k : List Key} {v : V} (e : (bKvs ys rs)[i]? = some (k, v)) : ∃ y r, ys[i]? = some y ∧ rs[i]? = some r ∧ k = kk (keyOf r) ∧ v = .ref y := by
  unfold bKvs at e
  rw [List.getElem?_map] at e
  obtain ⟨⟨y, r⟩, h1, h2⟩ := Option.map_eq_some_iff.mp e
  rw [List.getElem?_zip_eq_some] at h1
  cases h2
  exact ⟨y, r, h1.1, h1.2, rfl, rfl⟩
theorem bKvs_snoc {ys : List Addr} {rs : List Row} {y : Addr} {r : Row} (h : ys.length = rs.length) : bKvs (ys ++ [y]) (rs ++ [r]) = bKvs ys rs ++ [(kk (keyOf r), .ref y)] := by
  unfold bKvs
  rw [List.zip_append h, List.map_append]
  rfl
theorem val_none : ∀ {ys : List Addr} {rs : List Row} {p : Str × Nat}, p ∉ rs.map keyOf → valV (bKvs ys rs) (kk p) = none
  | [], _, _, _ => rfl
  | _ :: _, [], _, _ => rfl
  | y :: ys, r :: rs, p, h => by
    rw [List.map_cons, List.mem_cons, not_or] at h
    show valV ((kk (keyOf r), V.ref y) :: bKvs ys rs) (kk p) = none
    rw [valV_neg (fun e => h.1 (kk_inj e).symm)]
    exact val_none h.2
theorem val_at : ∀ {ys : List Addr} {rs : List Row} {i : Nat} {y : Addr} {r : Row}, (rs.map keyOf).Nodup → ys[i]? = some y → rs[i]? = some r → valV (bKvs ys rs) (kk (keyOf r)) = some (.ref y)
  | [], _, i, y, r, _, h, _ => by simp at h
  | _ :: _, [], i, y, r, _, _, h => by simp at h
  | y0 :: ys, r0 :: rs, i, y, r, nd, h1, h2 => by
    show valV ((kk (keyOf r0), V.ref y0) :: bKvs ys rs) (kk (keyOf r)) = _
    rw [List.map_cons, List.nodup_cons] at nd
    cases i with
    | zero =>
      simp only [List.getElem?_cons_zero, Option.some.injEq] at h1 h2
      subst h1 h2
      rw [valV_pos rfl]
    | succ n =>
      simp only [List.getElem?_cons_succ] at h1 h2
      rw [valV_neg (fun e => nd.1 (by
        have e : kk (keyOf r0) = kk (keyOf r) := e
        rw [kk_inj e]; exact List.mem_map.mpr ⟨r, List.mem_of_getElem? h2, rfl⟩))]
      exact val_at nd.2 h1 h2
def spLics (cL : Addr) : Sp := fun vs H Q _ => ∃ (l ls ld : Addr) (ys : List Addr) (rs : List Row) (ss es : List V), vs = [.ref l, .ref ls, .ref ld] ∧ Sq H l (ys.map V.ref) ∧ H ls = some (.lst ss) ∧ H ld = some (.lst es) ∧ (ys = [] ∨ (ss.length = 6 ∧ es.length = 6)) ∧ LicsAt cL H ys rs ∧ (rs.map keyOf).Nodup ∧ ys.length ≤ 12 ∧
  ∀ (dk : Addr) (ob : Obj) (H' : Hp), Same H H' → H' dk = some (.frz ob (.dT (bKvs ys rs))) → Q (.ref dk) H'
section
variable {P : Program} {w : World} {K : PySem.W.Frag} {mg : Str → Option Value} {base : Heap} {ck g cT cL cB : Addr}
abbrev skept_licences : Stmt := top 41
theorem sckept_licences : FnScope ["licences", "strings", "duties", "kept", "licence"] ["licences", "strings", "duties"] (defScope skept_licences) := ⟨rfl, rfl, rfl, by decide +kernel, rfl, by decide +kernel, by decide +kernel⟩
theorem ok_lics (T : Txt mg) (c : LCls K cL) (kit : LKit K cL) (mL : mg "Licence" = some (.ref cL)) (F_named : FnAt P w K mg base "need_named" 3 ["licence", "strings", "duties"] (spNamed cL)) (F : TopFn K mg "kept_licences" skept_licences ["licences", "strings", "duties"]) :
    FnAt P w K mg base "kept_licences" 4 ["licences", "strings", "duties"] (spLics cL) := by
  refine F.at sckept_licences (fun vs H Q E h => ?_) (fun f cdv A outer s H vs Q E hr h => ?_)
  · obtain ⟨l, ls, ld, ys, rs, ss, es, rfl, _⟩ := h
    rfl
  · obtain ⟨l, ls, ld, ys, rs, ss, es, rfl, hl | hl, hls, hld, h6, hL, nd, h12, q⟩ := h
    · refine ⟨_, (pss_cons (ps_if (pt_not (pt_val (pe_callB call_isLT rfl T.n_isinstance boot_isinstance (pa_cons (pv 0) (pa_cons (pe_tup (pa_cons (pe_bltn (v := .ty "list") rfl T.n_list boot_list rfl) (pa_cons (pe_bltn (v := .ty "tuple") rfl T.n_tuple boot_tuple rfl) pa_nil))) pa_nil))))) (pss_one ps_never) pss_nil)
        (pss_cons (ps_if (pt_cmpR op_gt (pe_callB call_len rfl T.n_len boot_len (pa_cons (pv 0) pa_nil)) (pe_globI rfl T.g_MOST_LICENCES) (nomark _)) (pss_one ps_never) pss_nil)
        (pss_cons (ps_set (i := 3) sckept_licences.nd rfl (by first | exact Or.inl rfl | exact Or.inr rfl) pe_dnewT)
        (pss_cons (ps_for PassesOwn.never rfl (pi_list (pv 0)) (pg_name (i := 4) sckept_licences.nd rfl (by first | exact Or.inl rfl | exact Or.inr rfl))
          (pss_cons (ps_if (pt_not (pt_val (pe_callB call_isinst rfl T.n_isinstance boot_isinstance (pa_cons (pv 4) (pa_cons (pe_glob (v := .ref cL) rfl mL rfl) pa_nil))))) (pss_one ps_never) pss_nil)
          (pss_cons (ps_if (pt_cmp (pc_din (hu1 hr) (pe_fld (pv 4) rfl) (pv 3))) (pss_one ps_never) pss_nil)
          (pss_cons (ps_expr (pe_fn F_named hr (by decide) rfl (pa_cons (pv 4) (pa_cons (pv 1) (pa_cons (pv 2) pa_nil)))))
          (pss_one (ps_dput (hu1 hr) (pv 3) (pe_fld (pv 4) rfl) (pv 4) rfl))))))
        (pss_one (ps_retF (pv 3))))))), ?_⟩
      refine ⟨_, rfl, (by show 2 ≤ sizeLine; decide), fun tp htp => ?_⟩
      have s1 := Same.new (o := .tup [.ty "list", .ty "tuple"]) htp
      have e1 : upd H tp (.tup [.ty "list", .ty "tuple"]) tp = some (.tup [.ty "list", .ty "tuple"]) := upd_same
      generalize upd H tp (.tup [.ty "list", .ty "tuple"]) = H1 at s1 e1 ⊢
      have l1 := s1 _ _ hl
      refine ⟨l, _, tp, rfl, l1, SqT.of e1, _, rfl, iteF ?_⟩
      refine ⟨_, rfl, _, _, rfl, .inl ⟨_, SqL.of l1, rfl⟩, _, _, rfl, rfl, _, rfl, ite2 (fun h2 => ?_) (fun h2 => ?_)⟩
      · have h2 : (((ys.map V.ref).length : Nat) : Int) > (12 : Int) := of_decide_eq_true h2
        rw [List.length_map] at h2
        omega
      refine fun dk hdk => ?_
      have s2 := Same.new (o := .dT []) hdk
      have e2 : upd H1 dk (.dT []) dk = some (.dT []) := upd_same
      have nk : H dk = none := s1.free hdk
      generalize upd H1 dk (.dT []) = H2 at s2 e2 ⊢
      have s12 := s1.trans s2
      have hlen := hL.1
      refine ⟨_, rfl, l, rfl, ⟨_, SqL.of (s12 _ _ hl)⟩, for_list (K := K) (a := l) (xs := ys.map V.ref) (fun i σ H' => ∃ v4 : Option V, σ = [some (.ref l), some (.ref ls), some (.ref ld), some (.ref dk), v4] ∧ Same H H' ∧ H' dk = some (.dT (bKvs (ys.take i) (rs.take i))))
        ⟨_, rfl, s12, e2⟩ (fun i σ H' _ h => ?_) ?_ ?_⟩
      · obtain ⟨v4, _, s', _⟩ := h
        exact SqL.of (s' _ _ hl)
      · rintro i x σ H' hx ⟨v4, rfl, s', e'⟩
        rw [List.getElem?_map] at hx
        obtain ⟨y, hy, rfl⟩ := Option.map_eq_some_iff.mp hx
        obtain ⟨hi, hye⟩ := List.getElem?_eq_some_iff.mp hy
        have hir : i < rs.length := by omega
        have hr' : rs[i]? = some rs[i] := List.getElem?_eq_getElem hir
        have hta : ys.take (i + 1) = ys.take i ++ [y] := by rw [List.take_succ_eq_append_getElem hi, hye]
        have htr : rs.take (i + 1) = rs.take i ++ [rs[i]] := List.take_succ_eq_append_getElem hir
        have hnot : keyOf rs[i] ∉ (rs.take i).map keyOf := fun m => by
          obtain ⟨r', hm, er⟩ := List.mem_map.mp m
          obtain ⟨j, hj, e⟩ := List.mem_iff_getElem.mp hm
          rw [List.length_take] at hj
          rw [List.getElem_take] at e
          have := (List.pairwise_iff_getElem.mp nd) j i (by rw [List.length_map]; omega) (by rw [List.length_map]; exact hir) (by omega)
          rw [List.getElem_map, List.getElem_map, e] at this
          exact this er
        generalize rs[i] = r at hr' htr hnot
        obtain ⟨g, dx, pk, pa, hp, hpk, hpa⟩ := (hL.same s').2 i y r hy hr'
        have f4 : (r.l10 pk pa).lookup ("key" : Str) = some (.ref pk) := l10_key
        have vn : valV (bKvs (ys.take i) (rs.take i)) (kk (keyOf r)) = none := val_none hnot
        refine ⟨_, rfl, _, _, .ref cL, .ref cL, true, rfl, rfl, kit.ty hp, kit.kL, _, rfl, iteF ?_⟩
        refine ⟨_, rfl, y, cL, dx, _, _, rfl, hp, c.cl, c.key, f4, _, rfl, dk, _, rfl, DGet.t (k := kk (keyOf r)) e' hpk, _, rfl, ?_⟩
        rw [vn]
        obtain ⟨s6, d6⟩ := h6.resolve_left (fun z => by rw [z] at hi; exact absurd hi (Nat.not_lt_zero _))
        refine iteF ⟨_, rfl, _, rfl, _, rfl, y, ls, ld, r, ss, es, dx, pk, pa, rfl, g, hp, hpa, s' _ _ hls, s' _ _ hld, s6, d6, ?_⟩
        refine ⟨_, rfl, _, rfl, _, rfl, y, cL, dx, _, _, rfl, hp, c.cl, c.key, f4, dk, _, rfl, DPut.t (k := kk (keyOf r)) e' hpk (by rw [sizeLine_eq, bKvs_len (by rw [List.length_take, List.length_take]; omega), List.length_take]; omega), ?_⟩
        refine ⟨_, rfl, fun b o e => by rw [upd_ne (ne_of_none e nk)]; exact s' _ _ e, ?_⟩
        rw [upd_same, putK_new _ vn, hta, htr, bKvs_snoc (by rw [List.length_take, List.length_take]; omega)]
      · rintro σ H' ⟨v4, rfl, s', e'⟩
        rw [List.length_map, List.take_length, hlen, List.take_length] at e'
        exact ⟨_, rfl, dk, _, rfl, e', fun ob => q dk ob _ (fun b o e => by rw [upd_ne (ne_of_none e nk)]; exact s' _ _ e) upd_same⟩
    · refine ⟨_, (pss_cons (ps_if (pt_not (pt_val (pe_callB call_isTT rfl T.n_isinstance boot_isinstance (pa_cons (pv 0) (pa_cons (pe_tup (pa_cons (pe_bltn (v := .ty "list") rfl T.n_list boot_list rfl) (pa_cons (pe_bltn (v := .ty "tuple") rfl T.n_tuple boot_tuple rfl) pa_nil))) pa_nil))))) (pss_one ps_never) pss_nil)
        (pss_cons (ps_if (pt_cmpR op_gt (pe_callB call_len rfl T.n_len boot_len (pa_cons (pv 0) pa_nil)) (pe_globI rfl T.g_MOST_LICENCES) (nomark _)) (pss_one ps_never) pss_nil)
        (pss_cons (ps_set (i := 3) sckept_licences.nd rfl (by first | exact Or.inl rfl | exact Or.inr rfl) pe_dnewT)
        (pss_cons (ps_for PassesOwn.never rfl (pi_tup (pv 0)) (pg_name (i := 4) sckept_licences.nd rfl (by first | exact Or.inl rfl | exact Or.inr rfl))
          (pss_cons (ps_if (pt_not (pt_val (pe_callB call_isinst rfl T.n_isinstance boot_isinstance (pa_cons (pv 4) (pa_cons (pe_glob (v := .ref cL) rfl mL rfl) pa_nil))))) (pss_one ps_never) pss_nil)
          (pss_cons (ps_if (pt_cmp (pc_din (hu1 hr) (pe_fld (pv 4) rfl) (pv 3))) (pss_one ps_never) pss_nil)
          (pss_cons (ps_expr (pe_fn F_named hr (by decide) rfl (pa_cons (pv 4) (pa_cons (pv 1) (pa_cons (pv 2) pa_nil)))))
          (pss_one (ps_dput (hu1 hr) (pv 3) (pe_fld (pv 4) rfl) (pv 4) rfl))))))
        (pss_one (ps_retF (pv 3))))))), ?_⟩
      refine ⟨_, rfl, (by show 2 ≤ sizeLine; decide), fun tp htp => ?_⟩
      have s1 := Same.new (o := .tup [.ty "list", .ty "tuple"]) htp
      have e1 : upd H tp (.tup [.ty "list", .ty "tuple"]) tp = some (.tup [.ty "list", .ty "tuple"]) := upd_same
      generalize upd H tp (.tup [.ty "list", .ty "tuple"]) = H1 at s1 e1 ⊢
      have l1 := s1 _ _ hl
      refine ⟨l, _, tp, rfl, l1, SqT.of e1, _, rfl, iteF ?_⟩
      refine ⟨_, rfl, _, _, rfl, .inr ⟨_, SqT.of l1, rfl⟩, _, _, rfl, rfl, _, rfl, ite2 (fun h2 => ?_) (fun h2 => ?_)⟩
      · have h2 : (((ys.map V.ref).length : Nat) : Int) > (12 : Int) := of_decide_eq_true h2
        rw [List.length_map] at h2
        omega
      refine fun dk hdk => ?_
      have s2 := Same.new (o := .dT []) hdk
      have e2 : upd H1 dk (.dT []) dk = some (.dT []) := upd_same
      have nk : H dk = none := s1.free hdk
      generalize upd H1 dk (.dT []) = H2 at s2 e2 ⊢
      have s12 := s1.trans s2
      have hlen := hL.1
      refine ⟨_, rfl, l, rfl, ⟨_, SqT.of (s12 _ _ hl)⟩, for_tup (K := K) (a := l) (xs := ys.map V.ref) (fun i σ H' => ∃ v4 : Option V, σ = [some (.ref l), some (.ref ls), some (.ref ld), some (.ref dk), v4] ∧ Same H H' ∧ H' dk = some (.dT (bKvs (ys.take i) (rs.take i))))
        ⟨_, rfl, s12, e2⟩ (fun i σ H' _ h => ?_) ?_ ?_⟩
      · obtain ⟨v4, _, s', _⟩ := h
        exact SqT.of (s' _ _ hl)
      · rintro i x σ H' hx ⟨v4, rfl, s', e'⟩
        rw [List.getElem?_map] at hx
        obtain ⟨y, hy, rfl⟩ := Option.map_eq_some_iff.mp hx
        obtain ⟨hi, hye⟩ := List.getElem?_eq_some_iff.mp hy
        have hir : i < rs.length := by omega
        have hr' : rs[i]? = some rs[i] := List.getElem?_eq_getElem hir
        have hta : ys.take (i + 1) = ys.take i ++ [y] := by rw [List.take_succ_eq_append_getElem hi, hye]
        have htr : rs.take (i + 1) = rs.take i ++ [rs[i]] := List.take_succ_eq_append_getElem hir
        have hnot : keyOf rs[i] ∉ (rs.take i).map keyOf := fun m => by
          obtain ⟨r', hm, er⟩ := List.mem_map.mp m
          obtain ⟨j, hj, e⟩ := List.mem_iff_getElem.mp hm
          rw [List.length_take] at hj
          rw [List.getElem_take] at e
          have := (List.pairwise_iff_getElem.mp nd) j i (by rw [List.length_map]; omega) (by rw [List.length_map]; exact hir) (by omega)
          rw [List.getElem_map, List.getElem_map, e] at this
          exact this er
        generalize rs[i] = r at hr' htr hnot
        obtain ⟨g, dx, pk, pa, hp, hpk, hpa⟩ := (hL.same s').2 i y r hy hr'
        have f4 : (r.l10 pk pa).lookup ("key" : Str) = some (.ref pk) := l10_key
        have vn : valV (bKvs (ys.take i) (rs.take i)) (kk (keyOf r)) = none := val_none hnot
        refine ⟨_, rfl, _, _, .ref cL, .ref cL, true, rfl, rfl, kit.ty hp, kit.kL, _, rfl, iteF ?_⟩
        refine ⟨_, rfl, y, cL, dx, _, _, rfl, hp, c.cl, c.key, f4, _, rfl, dk, _, rfl, DGet.t (k := kk (keyOf r)) e' hpk, _, rfl, ?_⟩
        rw [vn]
        obtain ⟨s6, d6⟩ := h6.resolve_left (fun z => by rw [z] at hi; exact absurd hi (Nat.not_lt_zero _))
        refine iteF ⟨_, rfl, _, rfl, _, rfl, y, ls, ld, r, ss, es, dx, pk, pa, rfl, g, hp, hpa, s' _ _ hls, s' _ _ hld, s6, d6, ?_⟩
        refine ⟨_, rfl, _, rfl, _, rfl, y, cL, dx, _, _, rfl, hp, c.cl, c.key, f4, dk, _, rfl, DPut.t (k := kk (keyOf r)) e' hpk (by rw [sizeLine_eq, bKvs_len (by rw [List.length_take, List.length_take]; omega), List.length_take]; omega), ?_⟩
        refine ⟨_, rfl, fun b o e => by rw [upd_ne (ne_of_none e nk)]; exact s' _ _ e, ?_⟩
        rw [upd_same, putK_new _ vn, hta, htr, bKvs_snoc (by rw [List.length_take, List.length_take]; omega)]
      · rintro σ H' ⟨v4, rfl, s', e'⟩
        rw [List.length_map, List.take_length, hlen, List.take_length] at e'
        exact ⟨_, rfl, dk, _, rfl, e', fun ob => q dk ob _ (fun b o e => by rw [upd_ne (ne_of_none e nk)]; exact s' _ _ e) upd_same⟩
structure BCls (K : PySem.W.Frag) (C : Addr) : Prop where
  cl : Cls K C
  strings : NoAttr K C "strings"
  duties : NoAttr K C "duties"
  by_key : NoAttr K C "by_key"
abbrev bF (ls ld dk : Addr) : List (Str × V) := putF "by_key" (.ref dk) (putF "duties" (.ref ld) (putF "strings" (.ref ls) []))
theorem bF_strings {ls ld dk : Addr} : (bF ls ld dk).lookup ("strings" : Str) = some (.ref ls) := by repeat (first | rw [lookup_putF, if_pos rfl] | rw [lookup_putF, if_neg (by decide +kernel)])
theorem bF_duties {ls ld dk : Addr} : (bF ls ld dk).lookup ("duties" : Str) = some (.ref ld) := by repeat (first | rw [lookup_putF, if_pos rfl] | rw [lookup_putF, if_neg (by decide +kernel)])
theorem bF_by_key {ls ld dk : Addr} : (bF ls ld dk).lookup ("by_key" : Str) = some (.ref dk) := by repeat (first | rw [lookup_putF, if_pos rfl] | rw [lookup_putF, if_neg (by decide +kernel)])
theorem bF_no {ls ld dk : Addr} {m : Str} (h : ¬ m = "by_key" ∧ ¬ m = "duties" ∧ ¬ m = "strings") : (bF ls ld dk).lookup m = none := by
  rw [lookup_putF, if_neg h.1, lookup_putF, if_neg h.2.1, lookup_putF, if_neg h.2.2]
  rfl
structure BookAt (cL cB : Addr) (H : Hp) (p : Addr) (z1 z2 : List Str) (ys : List Addr) (rs : List Row) : Prop where
  ex : ∃ (dx ls ld dk : Addr) (ob : Obj), H p = some (.ins cB dx (bF ls ld dk)) ∧ H ls = some (.lst (z1.map V.str)) ∧ H ld = some (.lst (z2.map V.str)) ∧ H dk = some (.frz ob (.dT (bKvs ys rs)))
  lics : LicsAt cL H ys rs
  nd : (rs.map keyOf).Nodup
  le : ys.length ≤ 12
theorem BookAt.same {H H' : Hp} {p : Addr} {z1 z2 : List Str} {ys : List Addr} {rs : List Row} (h : BookAt cL cB H p z1 z2 ys rs) (s : Same H H') : BookAt cL cB H' p z1 z2 ys rs := by
  obtain ⟨⟨dx, ls, ld, dk, ob, h1, h2, h3, h4⟩, hl, nd, le⟩ := h
  exact ⟨⟨dx, ls, ld, dk, ob, s _ _ h1, s _ _ h2, s _ _ h3, s _ _ h4⟩, hl.same s, nd, le⟩
def Keeps (H0 H H' : Hp) : Prop := ∀ b o, H b = some o → (H0 b = none ∨ ∀ xs, o ≠ .lst xs) → H' b = some o
theorem LicsAt.keeps {H0 H H' : Hp} {xs : List Addr} {rs : List Row} (h : LicsAt cL H xs rs) (k : Keeps H0 H H') : LicsAt cL H' xs rs := ⟨h.1, fun i x r hx hr => by
  obtain ⟨g, dx, pk, pa, a, b, c⟩ := h.2 i x r hx hr
  exact ⟨g, dx, pk, pa, k _ _ a (.inr fun _ z => by cases z), k _ _ b (.inr fun _ z => by cases z), k _ _ c (.inr fun _ z => by cases z)⟩⟩
def spBInit (cL cB : Addr) : Sp := fun vs H Q _ => ∃ (p dx lx ly lz : Addr) (z1 z2 : List Str) (ys : List Addr) (rs : List Row) (H0 : Hp), vs = [.ref p, .ref lx, .ref ly, .ref lz] ∧ H p = some (.ins cB dx []) ∧ H0 p = none ∧ Same H0 H ∧ Sq H0 lx (z1.map V.str) ∧ Sq H0 ly (z2.map V.str) ∧ Sq H0 lz (ys.map V.ref) ∧
  (∀ z ∈ z1, isWordZ z = true) ∧ z1.Nodup ∧ z1.length ≤ 6 ∧ (∀ z ∈ z2, isWordZ z = true) ∧ z2.Nodup ∧ z2.length ≤ 6 ∧ LicsAt cL H0 ys rs ∧ (rs.map keyOf).Nodup ∧ ys.length ≤ 12 ∧ (ys = [] ∨ (z1.length = 6 ∧ z2.length = 6)) ∧
  ∀ H', Same H0 H' → (∀ H'', Keeps H0 H' H'' → BookAt cL cB H'' p z1 z2 ys rs) → Q .non H'
abbrev sBook_init : Stmt := inClass (top 42) 0
abbrev psB : List Str := ["self", "strings", "duties", "licences"]
theorem scBook_init : FnScope psB psB (defScope sBook_init) := ⟨rfl, rfl, rfl, by decide +kernel, rfl, by decide +kernel, by decide +kernel⟩
theorem ok_binit (c : BCls K cB) (F_s : FnAt P w K mg base "kept_strings" 3 ["names"] spNam6) (F_d : FnAt P w K mg base "kept_duties" 3 ["names"] spNam6) (F_l : FnAt P w K mg base "kept_licences" 4 ["licences", "strings", "duties"] (spLics cL))
    {f : Addr} {fd : FuncData} (F : Fun K "__init__" "Book.__init__" sBook_init f fd) : FnOk P w K mg base CX0 5 f fd psB (spBInit cL cB) := by
  refine F.ok scBook_init (fun vs H Q E h => ?_) (fun cdv A outer s H vs Q E hr h => ?_)
  · obtain ⟨p, dx, lx, ly, lz, z1, z2, ys, rs, H0, rfl, _⟩ := h
    rfl
  · obtain ⟨p, dx, lx, ly, lz, z1, z2, ys, rs, H0, rfl, hp, hp0, s0, qx, qy, qz, w1, n1, l1, w2, n2, l2, hL, nd, h12, h6, q⟩ := h
    refine ⟨_, (pss_cons (ps_fld (pv 0) (pe_fn F_s hr (by decide) rfl (pa_cons (pv 1) pa_nil)) rfl)
      (pss_cons (ps_fld (pv 0) (pe_fn F_d hr (by decide) rfl (pa_cons (pv 2) pa_nil)) rfl)
      (pss_one (ps_fld (pv 0) (pe_fn F_l hr (by decide) rfl (pa_cons (pv 3) (pa_cons (pe_fld (pv 0) rfl) (pa_cons (pe_fld (pv 0) rfl) pa_nil)))) rfl)))), ?_⟩
    have up : ∀ {H1 : Hp} {fs : List (Str × V)}, Same H0 H1 → Same H0 (upd H1 p (.ins cB dx fs)) := fun s1 b o e => by rw [upd_ne (ne_of_none e hp0)]; exact s1 b o e
    refine ⟨_, rfl, lx, z1, rfl, qx.same s0, w1, n1, l1, fun lk H1 s1 hlk e1 => ?_⟩
    have p1 := s1 _ _ hp
    refine ⟨_, rfl, p, cB, dx, [], rfl, p1, c.cl, c.strings, (by show 0 < 1000; decide), ?_⟩
    have S2 : Same H0 (upd H1 p (.ins cB dx (putF "strings" (.ref lk) []))) := up (s0.trans s1)
    have p2 : upd H1 p (.ins cB dx (putF "strings" (.ref lk) [])) p = some (.ins cB dx (putF "strings" (.ref lk) [])) := upd_same
    have e2 : upd H1 p (.ins cB dx (putF "strings" (.ref lk) [])) lk = some (.lst (z1.map V.str)) := by rw [upd_ne (ne_of e1 p1 (by intro z; cases z))]; exact e1
    generalize upd H1 p (.ins cB dx (putF "strings" (.ref lk) [])) = H2 at S2 p2 e2 ⊢
    refine ⟨_, rfl, ly, z2, rfl, qy.same S2, w2, n2, l2, fun ld H3 s3 hld e3 => ?_⟩
    have p3 := s3 _ _ p2
    have e2 := s3 _ _ e2
    refine ⟨_, rfl, p, cB, dx, _, rfl, p3, c.cl, c.duties, (Nat.lt_of_le_of_lt (len_put _ _ (n := 0) (Nat.le_refl _)) (by decide)), ?_⟩
    have S4 : Same H0 (upd H3 p (.ins cB dx (putF "duties" (.ref ld) (putF "strings" (.ref lk) [])))) := up (S2.trans s3)
    have p4 : upd H3 p (.ins cB dx (putF "duties" (.ref ld) (putF "strings" (.ref lk) []))) p = some (.ins cB dx (putF "duties" (.ref ld) (putF "strings" (.ref lk) []))) := upd_same
    have e4 : upd H3 p (.ins cB dx (putF "duties" (.ref ld) (putF "strings" (.ref lk) []))) lk = some (.lst (z1.map V.str)) := by rw [upd_ne (ne_of e2 p3 (by intro z; cases z))]; exact e2
    have e5 : upd H3 p (.ins cB dx (putF "duties" (.ref ld) (putF "strings" (.ref lk) []))) ld = some (.lst (z2.map V.str)) := by rw [upd_ne (ne_of e3 p3 (by intro z; cases z))]; exact e3
    generalize upd H3 p (.ins cB dx (putF "duties" (.ref ld) (putF "strings" (.ref lk) []))) = H4 at S4 p4 e4 e5 ⊢
    have f1 : (putF "duties" (.ref ld) (putF "strings" (.ref lk) [])).lookup ("strings" : Str) = some (.ref lk) := by repeat (first | rw [lookup_putF, if_pos rfl] | rw [lookup_putF, if_neg (by decide +kernel)])
    have f2 : (putF "duties" (.ref ld) (putF "strings" (.ref lk) [])).lookup ("duties" : Str) = some (.ref ld) := by repeat (first | rw [lookup_putF, if_pos rfl] | rw [lookup_putF, if_neg (by decide +kernel)])
    refine ⟨_, rfl, _, rfl, p, cB, dx, _, _, rfl, p4, c.cl, c.strings, f1, _, rfl, p, cB, dx, _, _, rfl, p4, c.cl, c.duties, f2, lz, lk, ld, ys, rs, _, _, rfl, qz.same S4, e4, e5, h6.imp id (fun z => by rw [List.length_map, List.length_map]; exact z), hL.same S4, nd, h12, fun dk ob H5 s5 e6 => ?_⟩
    refine ⟨_, rfl, p, cB, dx, _, rfl, s5 _ _ p4, c.cl, c.by_key, (Nat.lt_of_le_of_lt (len_put _ _ (len_put _ _ (n := 0) (Nat.le_refl _))) (by decide)), ?_⟩
    have p5 := s5 _ _ p4
    have S6 := up (fs := bF lk ld dk) (S4.trans s5)
    have nlk : H0 lk = none := s0.free hlk
    have nld : H0 ld = none := S2.free hld
    refine q _ S6 fun H'' kp => ⟨⟨dx, lk, ld, dk, ob, kp _ _ upd_same (.inr fun _ z => by cases z), kp _ _ (by rw [upd_ne (ne_of (s5 _ _ e4) p5 (by intro z; cases z))]; exact s5 _ _ e4) (.inl nlk), kp _ _ (by rw [upd_ne (ne_of (s5 _ _ e5) p5 (by intro z; cases z))]; exact s5 _ _ e5) (.inl nld), kp _ _ (by rw [upd_ne (ne_of e6 p5 (by intro z; cases z))]; exact e6) (.inr fun _ z => by cases z)⟩, (hL.same S6).keeps kp, nd, h12⟩
end
end K14
namespace K14
open PySem L2 PyProof.Rows
def spSN (cL cB : Addr) : Sp := fun vs H Q _ => ∃ (p : Addr) (z1 z2 : List Str) (ys : List Addr) (rs : List Row), vs = [.ref p] ∧ BookAt cL cB H p z1 z2 ys rs ∧ ∀ (l : Addr) (H' : Hp), Same H H' → H l = none → H' l = some (.lst (z1.map V.str)) → Q (.ref l) H'
def spDN (cL cB : Addr) : Sp := fun vs H Q _ => ∃ (p : Addr) (z1 z2 : List Str) (ys : List Addr) (rs : List Row), vs = [.ref p] ∧ BookAt cL cB H p z1 z2 ys rs ∧ ∀ (l : Addr) (H' : Hp), Same H H' → H l = none → H' l = some (.lst (z2.map V.str)) → Q (.ref l) H'
def KeysOf (H : Hp) (ps : List Addr) (L : List Row) : Prop := ps.length = L.length ∧ ∀ (i : Nat) (p : Addr) (r : Row), ps[i]? = some p → L[i]? = some r → H p = some (.tup r.keyV)
theorem KeysOf.same {H H' : Hp} {ps : List Addr} {L : List Row} (h : KeysOf H ps L) (s : Same H H') : KeysOf H' ps L := ⟨h.1, fun i p r h1 h2 => s _ _ (h.2 i p r h1 h2)⟩
theorem KeysOf.snoc {H : Hp} {ps : List Addr} {L : List Row} {p : Addr} {r : Row} (h : KeysOf H ps L) (e : H p = some (.tup r.keyV)) : KeysOf H (ps ++ [p]) (L ++ [r]) := by
  refine ⟨by rw [List.length_append, List.length_append, h.1]; rfl, fun i q r' h1 h2 => ?_⟩
  by_cases hi : i < ps.length
  · rw [List.getElem?_append_left hi] at h1
    rw [List.getElem?_append_left (by rw [← h.1]; exact hi)] at h2
    exact h.2 i q r' h1 h2
  · have hj2 : i = ps.length := by
      have := (List.getElem?_eq_some_iff.mp h1).1
      rw [List.length_append, List.length_singleton] at this
      omega
    subst hj2
    rw [List.getElem?_append_right (Nat.le_refl _), Nat.sub_self] at h1
    rw [List.getElem?_append_right (by rw [h.1]; exact Nat.le_refl _), h.1, Nat.sub_self] at h2
    cases h1
    cases h2
    exact e
def spAK (cL cB : Addr) : Sp := fun vs H Q _ => ∃ (p : Addr) (z1 z2 : List Str) (ys : List Addr) (rs : List Row), vs = [.ref p] ∧ BookAt cL cB H p z1 z2 ys rs ∧ ∀ (l : Addr) (ps : List Addr) (H' : Hp), Same H H' → H l = none → H' l = some (.lst (ps.map V.ref)) → KeysOf H' ps rs → Q (.ref l) H'
def Asked (K : PySem.W.Frag) (H : Hp) (x : V) : Prop := Arg K H x ∧ ∀ a xs, x = .ref a → H a = some (.tup xs) → ∀ y ∈ xs, Arg K H y ∧ Short y
theorem Asked.same {K : PySem.W.Frag} {H H' : Hp} {x : V} (h : Asked K H x) (s : Same H H') : Asked K H' x := by
  refine ⟨h.1.same s, fun a xs e ha y hy => ?_⟩
  subst e
  obtain ⟨k, hk⟩ := h.1
  have hk' : TyOf K H (.ref a) (.type k.nm) := hk
  have : H a = some (.tup xs) := by
    cases e : H a with
    | none =>
      generalize hT : Value.type k.nm = T at hk'
      cases hk' with
      | lst z => rw [e] at z; cases z
      | frz z => rw [e] at z; cases z
      | tup z => rw [e] at z; cases z
      | dK z => rw [e] at z; cases z
      | dT z => rw [e] at z; cases z
      | ins z => rw [e] at z; cases z
    | some o => rw [s _ _ e] at ha; exact ha
  exact ⟨(h.2 a xs rfl this y hy).1.same s, (h.2 a xs rfl this y hy).2⟩
def Hit (H : Hp) (x : V) (ys : List Addr) (rs : List Row) (i : Nat) (y : Addr) (r : Row) : Prop := ys[i]? = some y ∧ rs[i]? = some r ∧ ∃ a, x = .ref a ∧ H a = some (.tup r.keyV)
def Miss (H : Hp) (x : V) (rs : List Row) : Prop := ∀ r ∈ rs, ∀ a, x = .ref a → H a ≠ some (.tup r.keyV)
def spLM (K : PySem.W.Frag) (cL cB ck : Addr) : Sp := fun vs H Q E => ∃ (p : Addr) (x : V) (z1 z2 : List Str) (ys : List Addr) (rs : List Row), vs = [.ref p, x] ∧ BookAt cL cB H p z1 z2 ys rs ∧ Asked K H x ∧ ((∃ i y r, Hit H x ys rs i y r ∧ ∀ H', Same H H' → Q (.ref y) H') ∨ (Miss H x rs ∧ XatF ck "found" x H E))
def covL (rs : List Row) (r : Row) : List Row := rs.filter fun r' => (faultF r'.oL r.oL).isNone
def spCM (K : PySem.W.Frag) (cL cB ck : Addr) : Sp := fun vs H Q E => ∃ (p : Addr) (x : V) (z1 z2 : List Str) (ys : List Addr) (rs : List Row), vs = [.ref p, x] ∧ BookAt cL cB H p z1 z2 ys rs ∧ Asked K H x ∧
  ((∃ i y r, Hit H x ys rs i y r ∧ ∀ (l : Addr) (ps : List Addr) (H' : Hp), Same H H' → H l = none → H' l = some (.lst (ps.map V.ref)) → KeysOf H' ps (covL rs r) → Q (.ref l) H') ∨ (Miss H x rs ∧ XatF ck "found" x H E))
theorem kv_row {H : Hp} {a : Addr} {r : Row} (g : r.Good) (h : H a = some (.tup r.keyV)) : keyV H (.ref a) = true := by
  show (match H a with | some (.tup [x, y]) => wordV x && numV y | _ => false) = true
  rw [h]
  show (isWordZ r.w && decide ((0 : Int) ≤ (r.n : Int) ∧ (r.n : Int) ≤ 99)) = true
  rw [g.hw, Bool.true_and]
  exact decide_eq_true ⟨by omega, by have := g.hn; omega⟩
theorem kv_is {H : Hp} {x : V} (h : keyV H x = true) : ∃ a w n, x = .ref a ∧ H a = some (.tup [.str w, .int ((n : Nat) : Int)]) := by
  cases x with
  | ref a =>
    have h : (match H a with | some (.tup [x, y]) => wordV x && numV y | _ => false) = true := h
    split at h
    · rename_i x y e
      rw [Bool.and_eq_true] at h
      cases x with
      | str w =>
        cases y with
        | int i =>
          have : decide ((0 : Int) ≤ i ∧ i ≤ 99) = true := h.2
          have := of_decide_eq_true this
          exact ⟨a, w, i.toNat, rfl, by rw [e, Int.toNat_of_nonneg this.1]⟩
        | _ => exact absurd h.2 Bool.false_ne_true
      | _ => exact absurd h.1 Bool.false_ne_true
    · cases h
  | _ => exact absurd (show false = true from h) Bool.false_ne_true
theorem dget_frz {H : Hp} {dk b : Addr} {ob : Obj} {kvs : List (List Key × V)} {k : List Key} (e : H dk = some (.frz ob (.dT kvs))) (eb : H b = some (.tup (k.map kV))) : DGet H dk (.ref b) (valV kvs k) := .inr ⟨kvs, k, b, .inr ⟨ob, e⟩, rfl, eb, rfl⟩
def DSN (cL cB : Addr) : Addr → Sp → Prop := fun C sp => C = cB ∧ sp = spSN cL cB
def DDN (cL cB : Addr) : Addr → Sp → Prop := fun C sp => C = cB ∧ sp = spDN cL cB
def DAK (cL cB : Addr) : Addr → Sp → Prop := fun C sp => C = cB ∧ sp = spAK cL cB
def DLM (K : PySem.W.Frag) (cL cB ck : Addr) : Addr → Sp → Prop := fun C sp => C = cB ∧ sp = spLM K cL cB ck
def DCM (K : PySem.W.Frag) (cL cB ck : Addr) : Addr → Sp → Prop := fun C sp => C = cB ∧ sp = spCM K cL cB ck
section
variable {P : Program} {w : World} {K : PySem.W.Frag} {mg : Str → Option Value} {base : Heap} {ck g cT cL cB : Addr}
abbrev sBook_sn : Stmt := inClass (top 42) 1
theorem scBook_sn : FnScope ["self"] ["self"] (defScope sBook_sn) := ⟨rfl, rfl, rfl, by decide +kernel, rfl, by decide +kernel, by decide +kernel⟩
theorem ok_sn (T : Txt mg) (c : BCls K cB) {f : Addr} {fd : FuncData} (F : Fun K "string_names" "Book.string_names" sBook_sn f fd) : FnOk P w K mg base CX0 1 f fd ["self"] (spSN cL cB) := by
  refine F.ok scBook_sn (fun vs H Q E h => ?_) (fun cdv A outer s H vs Q E hr h => ?_)
  · obtain ⟨p, z1, z2, ys, rs, rfl, _⟩ := h
    rfl
  · obtain ⟨p, z1, z2, ys, rs, rfl, ⟨⟨dx, ls, ld, dk, ob, h1, h2, h3, h4⟩, _⟩, q⟩ := h
    refine ⟨_, (pss_one (ps_ret (pe_callTy call_list_of rfl T.n_list boot_list (pa_cons (pe_fld (pv 0) rfl) pa_nil)))), ?_⟩
    exact ⟨_, rfl, p, cB, dx, _, _, rfl, h1, c.cl, c.strings, bF_strings, ls, _, rfl, .inl (SqL.of h2), fun l hl => q l _ (Same.new hl) hl upd_same⟩
abbrev sBook_dn : Stmt := inClass (top 42) 2
theorem scBook_dn : FnScope ["self"] ["self"] (defScope sBook_dn) := ⟨rfl, rfl, rfl, by decide +kernel, rfl, by decide +kernel, by decide +kernel⟩
theorem ok_dn (T : Txt mg) (c : BCls K cB) {f : Addr} {fd : FuncData} (F : Fun K "duty_names" "Book.duty_names" sBook_dn f fd) : FnOk P w K mg base CX0 1 f fd ["self"] (spDN cL cB) := by
  refine F.ok scBook_dn (fun vs H Q E h => ?_) (fun cdv A outer s H vs Q E hr h => ?_)
  · obtain ⟨p, z1, z2, ys, rs, rfl, _⟩ := h
    rfl
  · obtain ⟨p, z1, z2, ys, rs, rfl, ⟨⟨dx, ls, ld, dk, ob, h1, h2, h3, h4⟩, _⟩, q⟩ := h
    refine ⟨_, (pss_one (ps_ret (pe_callTy call_list_of rfl T.n_list boot_list (pa_cons (pe_fld (pv 0) rfl) pa_nil)))), ?_⟩
    exact ⟨_, rfl, p, cB, dx, _, _, rfl, h1, c.cl, c.duties, bF_duties, ld, _, rfl, .inl (SqL.of h3), fun l hl => q l _ (Same.new hl) hl upd_same⟩
abbrev sBook_ak : Stmt := inClass (top 42) 3
theorem scBook_ak : FnScope ["self"] ["self"] (defScope sBook_ak) := ⟨rfl, rfl, rfl, by decide +kernel, rfl, by decide +kernel, by decide +kernel⟩
theorem ok_ak (T : Txt mg) (c : BCls K cB) {f : Addr} {fd : FuncData} (F : Fun K "all_keys" "Book.all_keys" sBook_ak f fd) : FnOk P w K mg base CX0 1 f fd ["self"] (spAK cL cB) := by
  refine F.ok scBook_ak (fun vs H Q E h => ?_) (fun cdv A outer s H vs Q E hr h => ?_)
  · obtain ⟨p, z1, z2, ys, rs, rfl, _⟩ := h
    rfl
  · obtain ⟨p, z1, z2, ys, rs, rfl, ⟨⟨dx, ls, ld, dk, ob, h1, h2, h3, h4⟩, hL, _⟩, q⟩ := h
    refine ⟨_, (pss_one (ps_ret (pe_callTy (call_list_dT hr.hd) rfl T.n_list boot_list (pa_cons (pe_fld (pv 0) rfl) pa_nil)))), ?_⟩
    refine ⟨_, rfl, p, cB, dx, _, _, rfl, h1, c.cl, c.by_key, bF_by_key, dk, ob, _, rfl, h4, fun ps l hk hl => q l ps _ (Same.new hl) hl upd_same ⟨?_, fun i p' r e1 e2 => ?_⟩⟩
    · rw [hk.1, bKvs_len hL.1]
    · have hi : i < (bKvs ys rs).length := by rw [← hk.1]; exact (List.getElem?_eq_some_iff.mp e1).1
      have e3 := List.getElem?_eq_getElem hi
      generalize (bKvs ys rs)[i] = kv at e3
      obtain ⟨k, v⟩ := kv
      obtain ⟨y, r', f1, f2, f3, f4⟩ := bKvs_get e3
      rw [f2] at e2
      cases e2
      have := hk.2 i p' k v e1 e3
      rw [f3] at this
      exact Same.new hl _ _ this
abbrev sBook_lm : Stmt := inClass (top 42) 4
theorem scBook_lm : FnScope ["self", "key"] ["self", "key"] (defScope sBook_lm) := ⟨rfl, rfl, rfl, by decide +kernel, rfl, by decide +kernel, by decide +kernel⟩
theorem ok_lm (D : Has P w K mg base ck g) (c : BCls K cB) (F_is_key : FnAt P w K mg base "is_key" 2 ["thing"] (spKey K)) {f : Addr} {fd : FuncData} (F : Fun K "licence" "Book.licence" sBook_lm f fd) : FnOk P w K mg base (CXR P w) 3 f fd ["self", "key"] (spLM K cL cB ck) := by
  refine F.okX scBook_lm (fun vs H Q E h => ?_) (fun cdv A outer s H vs Q E hr h => ?_)
  · obtain ⟨p, x, z1, z2, ys, rs, rfl, _⟩ := h
    rfl
  · obtain ⟨p, x, z1, z2, ys, rs, rfl, ⟨⟨dx, ls, ld, dk, ob, h1, h2, h3, h4⟩, hL, nd, le⟩, hx, h⟩ := h
    refine ⟨_, (pss_cons (ps_if (PW.pt (pw_or (pt_not (pt_val (pe_fn F_is_key hr (by decide) rfl (pa_cons (pv 1) pa_nil)))) (pw_or1 (pt_cmp (pc_dnotin (hu1 hr) (pv 1) (pe_fld (pv 0) rfl)))))) (pss_one (ps_raise raises_def hr.hd (pe_x D.xk hr (by decide) rfl (pa_cons (pv 1) pa_nil)))) pss_nil)
      (pss_one (ps_ret (pe_dget (hu1 hr) (pe_fld (pv 0) rfl) (pv 1) (fun _ _ => rfl))))), ?_⟩
    refine ⟨_, rfl, x, rfl, hx.1, hx.2, fun H1 s1 => ⟨_, rfl, ?_⟩⟩
    rcases h with ⟨i, y, r, ⟨hy, hr', a, rfl, ha⟩, q⟩ | ⟨hm, xx⟩
    · obtain ⟨gr, _⟩ := hL.2 i y r hy hr'
      have va : valV (bKvs ys rs) (kk (keyOf r)) = some (.ref y) := val_at nd hy hr'
      rw [kv_row gr ha]
      refine iteF ⟨_, rfl, _, rfl, p, cB, dx, _, _, rfl, s1 _ _ h1, c.cl, c.by_key, bF_by_key, dk, _, rfl, dget_frz (k := kk (keyOf r)) (s1 _ _ h4) (s1 _ _ ha), _, rfl, ?_⟩
      rw [va]
      refine iteF ⟨_, rfl, p, cB, dx, _, _, rfl, s1 _ _ h1, c.cl, c.by_key, bF_by_key, _, rfl, dk, .ref y, rfl, ?_, q _ s1⟩
      rw [← va]
      exact dget_frz (k := kk (keyOf r)) (s1 _ _ h4) (s1 _ _ ha)
    · have fin : ∀ a dx', H1 a = none → H1 dx' = none → dx' ≠ a → E (.ref a) none (upd (upd (upd H1 a (excO a ck (some dx'))) dx' (.xd [("found", x)])) a (excR a ck (some dx'))) := fun a dx' z1 z2 z3 => xx.go s1 z1 z2 z3
      cases kv : keyV H x with
      | false =>
        exact iteT (iteT ⟨_, rfl, _, rfl, fun a dx' z1 z2 z3 => ⟨a, ck, some dx', rfl, by rw [upd_ne (Ne.symm z3)]; exact upd_same, D.xk.df.ok.mkk, fin a dx' z1 z2 z3⟩⟩)
      | true =>
        obtain ⟨a, w', n', rfl, ha⟩ := kv_is kv
        have vn : valV (bKvs ys rs) (kk (w', n')) = none := val_none fun m => by
          obtain ⟨r, hr', er⟩ := List.mem_map.mp m
          refine hm r hr' a rfl ?_
          rw [ha]
          show some (HO.tup [V.str w', V.int ((n' : Nat) : Int)]) = some (HO.tup [V.str r.w, V.int ((r.n : Nat) : Int)])
          have e1 : r.w = w' := congrArg Prod.fst er
          have e2 : r.n = n' := congrArg Prod.snd er
          rw [e1, e2]
        refine iteF ⟨_, rfl, _, rfl, p, cB, dx, _, _, rfl, s1 _ _ h1, c.cl, c.by_key, bF_by_key, dk, _, rfl, dget_frz (k := kk (w', n')) (s1 _ _ h4) (s1 _ _ ha), _, rfl, ?_⟩
        rw [vn]
        exact iteT ⟨_, rfl, _, rfl, fun a dx' z1 z2 z3 => ⟨a, ck, some dx', rfl, by rw [upd_ne (Ne.symm z3)]; exact upd_same, D.xk.df.ok.mkk, fin a dx' z1 z2 z3⟩⟩
abbrev sBook_cm : Stmt := inClass (top 42) 5
theorem scBook_cm : FnScope ["self", "key", "covered"] ["self", "key"] (defScope sBook_cm) := ⟨rfl, rfl, rfl, by decide +kernel, rfl, by decide +kernel, by decide +kernel⟩
theorem ok_cm (D : THas P w K mg base cT cL) (NC : CovD P w K mg base cT cL) (c : BCls K cB) (ML : ∀ C sp, DLM K cL cB ck C sp → MethD P w K mg base (CXR P w) 3 C "licence" ["self", "key"] sp) {f : Addr} {fd : FuncData} (F : Fun K "coverers" "Book.coverers" sBook_cm f fd) : FnOk P w K mg base (CXR P w) 6 f fd ["self", "key"] (spCM K cL cB ck) := by
  refine F.okX scBook_cm (fun vs H Q E h => ?_) (fun cdv A outer s H vs Q E hr h => ?_)
  · obtain ⟨p, x, z1, z2, ys, rs, rfl, _⟩ := h
    rfl
  · obtain ⟨p, x, z1, z2, ys, rs, rfl, hB, hx, h⟩ := h
    have ps : ∀ {N qual scope f cdv A outer s₀ H₀}, Passes (CXR P w) (cxOf (CXR P w) P w K mg base N qual scope f cdv A outer s₀ H₀ E) E := passes_def fun _ _ h => h
    have hu := hu1 hr
    refine ⟨_, (pss_cons (ps_set (i := 2) scBook_cm.nd rfl (by first | exact Or.inl rfl | exact Or.inr rfl) (pe_methA (E := E) (D := DLM K cL cB ck) (pv 0) ML (hr.mono (by decide)) ps (pa_cons (pv 1) pa_nil)))
      (pss_one (ps_ret (pe_comp (sc := defScope sBook_cm) (N0 := ["self", "key", "covered"]) (xs := ["other"]) (ys := ["covered", "self"]) (js := [2, 0]) ⟨rfl, by decide +kernel, by decide +kernel, by decide +kernel, by decide +kernel⟩ rfl (pi_dict (pe_fld (pv 0) rfl)) (fun _ _ _ _ => (pg_name (i := 0) (show (["other", "covered", "self"] : List Str).Nodup by decide +kernel) rfl (by first | exact Or.inl rfl | exact Or.inr rfl))) (fun _ _ _ _ => pq_one (pt_val (pe_methA (D := DC cT cL) (pe_dget hu (pe_fldK K (pv 2)) (pv 0) (fun _ _ => rfl)) NC (hr.mono (by decide)) pass0 (pa_cons (pv 1) pa_nil)))) (fun _ _ _ _ => (pv 0)))))), ?_⟩
    have hB0 := hB
    obtain ⟨⟨dx, ls, ld, dk, ob, h1, h2, h3, h4⟩, hL, nd, le⟩ := hB
    rcases h with ⟨i, y, r, hit, q⟩ | ⟨hm, xx⟩
    · refine ⟨_, rfl, p, cB, dx, _, spLM K cL cB ck, rfl, h1, bF_no (by decide +kernel), ⟨rfl, rfl⟩, _, rfl, p, x, z1, z2, ys, rs, rfl, hB0, hx, .inl ⟨i, y, r, hit, fun H1 s1 => ?_⟩⟩
      have hir := hit.2.1
      obtain ⟨gr, lr⟩ := hL.2 i y r hit.1 hir
      have hlen : (bKvs ys rs).length = rs.length := bKvs_len hL.1
      have hsz : sizeLine = 16777216 := sizeLine_eq
      refine ⟨_, rfl, p, cB, dx, _, _, rfl, s1 _ _ h1, c.cl, c.by_key, bF_by_key, dk, ob, bKvs ys rs, rfl, s1 _ _ h4, comp_dict (fun j us H' => ∃ ps : List Addr, us = ps.map V.ref ∧ ps.length ≤ j ∧ Same H1 H' ∧ KeysOf H' ps (covL (rs.take j) r)) ⟨[], rfl, Nat.le_refl _, Same.refl _, rfl, fun i p r h => by simp at h⟩ (by rw [hlen]; have := hL.1; omega) ?_ ?_ ?_ ?_⟩
      · rintro j us H' ⟨ps, rfl, e, _⟩
        rw [List.length_map]; exact e
      · rintro j us H' _ ⟨ps, _, _, s', _⟩
        exact s' _ _ (s1 _ _ h4)
      · rintro j pk k v us H2 hkv hpk ⟨ps, rfl, hl2, s2, ko⟩
        obtain ⟨y', r', g1, g2, rfl, rfl⟩ := bKvs_get hkv
        have S2 := s1.trans s2
        obtain ⟨gr', lr'⟩ := hL.2 j y' r' g1 g2
        have hj : j < rs.length := (List.getElem?_eq_some_iff.mp g2).1
        have htk : covL (rs.take (j + 1)) r = if (faultF r'.oL r.oL).isNone = true then covL (rs.take j) r ++ [r'] else covL (rs.take j) r := by
          unfold covL
          rw [List.take_succ_eq_append_getElem hj, (List.getElem?_eq_some_iff.mp g2).2, List.filter_append, List.filter_cons, List.filter_nil]
          split <;> simp
        refine ⟨_, rfl, p, cB, dx, _, _, rfl, S2 _ _ h1, c.cl, c.by_key, bF_by_key, _, rfl, dk, .ref y', rfl, ?_, ?_⟩
        · rw [← val_at nd g1 g2]
          exact dget_frz (k := kk (keyOf r')) (S2 _ _ h4) hpk
        refine co_in D.tc D.lc rfl ((lr'.same S2).ob) ((lr.same S2).ob) gr'.fine gr.fine fun H3 s3 => ⟨_, rfl, ?_⟩
        cases hf : (faultF r'.oL r.oL).isNone with
        | true =>
          rw [hf, if_pos rfl] at htk
          refine iteT ⟨_, rfl, ps ++ [pk], by rw [List.map_append]; rfl, by rw [List.length_append, List.length_singleton]; omega, s2.trans s3, ?_⟩
          rw [htk]
          exact (ko.same s3).snoc (s3 _ _ hpk)
        | false =>
          rw [hf, if_neg Bool.false_ne_true] at htk
          refine iteF ⟨ps, rfl, by omega, s2.trans s3, ?_⟩
          rw [htk]
          exact ko.same s3
      · rintro us H2 ⟨ps, rfl, hl2, s2, ko⟩ l hl
        rw [hlen, List.take_length] at ko
        exact q l ps _ ((s1.trans s2).trans (Same.new hl)) ((s1.trans s2).free hl) upd_same (ko.same (Same.new hl))
    · exact ⟨_, rfl, p, cB, dx, _, spLM K cL cB ck, rfl, h1, bF_no (by decide +kernel), ⟨rfl, rfl⟩, _, rfl, p, x, z1, z2, ys, rs, rfl, hB0, hx, .inr ⟨hm, xx⟩⟩
end
end K14
namespace L2
open PySem PySem.Spec PyProof.Rows PySem.SeqAt
section
variable {X : Cx}
def rSameD (K : PySem.W.Frag) (b : Bool) : R2 := fun x y H Q => ∃ d, RdD K H x d ∧ RdD K H y d ∧ shaped d = true ∧ Q (.bl b) H
theorem op_neSD (hu : X.A.units + 64 < cLine) : OpR X (compareOp .NotEq) (rSameD X.K false) := by
  intro pins s σ H x y v u Q I rx ry ⟨d, hx, hy, sd, q⟩
  exact op_neD hu pins s σ H x y v u Q I rx ry ⟨d, d, hx, hy, sd, sd, by rw [PySem.SeqAt.eqv_refl d (canLay_of_shaped sd)]; exact q⟩
end
end L2
namespace K14
open PySem L2 PyProof.Rows PySem.SeqAt
abbrev psT : List Str := ["self", "lets", "strings", "bars", "reach"]
structure Makes (P : Program) (w : World) (K : PySem.W.Frag) (mg : Str → Option Value) (base : Heap) (cT cL fT fL : Addr) (dT dL : FuncData) (ds : List Value) : Prop where
  mT : mg "Terms" = some (.ref cT)
  mL : mg "Licence" = some (.ref cL)
  kT : Mk K cT fT
  kL : Mk K cL fL
  oT : FnOk P w K mg base CX0 4 fT dT psT (spTInit cT)
  oL : FnOk P w K mg base CX0 6 fL dL psL (spLInit cL)
  bT : Binds K dT psT []
  bL : Binds K dL psL []
  bD : Binds K dL psL ds
  vD : Vals [.bl false, .non, .int 0, .int 9999, .bl true] ds
theorem mk_k {H : Hp} {x dx : Addr} {o' : HO} (hx : H x = none) (hd : H dx = none) : ∀ d o, H d = some o → upd (upd H dx (.own x)) x o' d = some o := fun d o e => by
  rw [upd_ne (ne_of_none e hx), upd_ne (ne_of_none e hd)]; exact e
theorem mk_same {H H' : Hp} {x dx : Addr} {o' : HO} (hx : H x = none) (hd : H dx = none) (b : But x (upd (upd H dx (.own x)) x o') H') : Same H H' := fun d o e => b d o (mk_k hx hd d o e) (ne_of_none e hx)
def spMade (cL : Addr) : Sp := fun vs H Q _ => ∃ (q : Addr) (r : Row), vs = [.ref q] ∧ r.Good ∧ RowAt H q r ∧ ∀ (x : Addr) (H' : Hp), Same H H' → LAt cL H' x r → Q (.ref x) H'
section
variable {P : Program} {w : World} {K : PySem.W.Frag} {mg : Str → Option Value} {base : Heap} {cT cL fT fL : Addr} {dT dL : FuncData} {ds : List Value}
abbrev s_law_made : Stmt := top 53
theorem sc_law_made : FnScope ["_law_row", "_law_key", "_law_lets", "_law_strings", "_law_bars", "_law_reach"] ["_law_row"] (defScope s_law_made) := ⟨rfl, rfl, rfl, by decide +kernel, rfl, by decide +kernel, by decide +kernel⟩
theorem ok_lmade (M : Makes P w K mg base cT cL fT fL dT dL ds) (F : TopFn K mg "_law_made" s_law_made ["_law_row"]) : FnAt P w K mg base "_law_made" 8 ["_law_row"] (spMade cL) := by
  refine F.at sc_law_made (fun vs H Q E h => ?_) (fun f cdv A outer s H vs Q E hr h => ?_)
  · obtain ⟨q, r, rfl, _⟩ := h
    rfl
  · obtain ⟨p, r, rfl, g, ⟨pk, pa, hp, hk, ha⟩, q⟩ := h
    refine ⟨_, (pss_cons (ps_asg (pe_slice sl_tup (pv 0) po_none (po_some pe_int)) (pg_tup rfl (pgs_cons (pg_name (i := 1) sc_law_made.nd rfl (by first | exact Or.inl rfl | exact Or.inr rfl)) (pgs_cons (pg_name (i := 2) sc_law_made.nd rfl (by first | exact Or.inl rfl | exact Or.inr rfl)) (pgs_cons (pg_name (i := 3) sc_law_made.nd rfl (by first | exact Or.inl rfl | exact Or.inr rfl)) (pgs_cons (pg_name (i := 4) sc_law_made.nd rfl (by first | exact Or.inl rfl | exact Or.inr rfl)) (pgs_cons (pg_name (i := 5) sc_law_made.nd rfl (by first | exact Or.inl rfl | exact Or.inr rfl)) pgs_nil)))))))
      (pss_one (ps_ret (pe_make M.kL M.oL (hr.mono (by decide)) rfl M.mL M.bL .nil pass0 (pa_cons (pv 1) (pa_cons (pv 2) (pa_cons (pv 3) (pa_cons (pv 4) (pa_cons (pv 5) (pa_cons (pe_ix ix_tup (pv 0) pe_int (fun _ _ => rfl)) (pa_cons (pe_ix ix_tup (pv 0) pe_int (fun _ _ => rfl)) (pa_cons (pe_ix ix_tup (pv 0) pe_int (fun _ _ => rfl)) (pa_cons (pe_ix ix_tup (pv 0) pe_int (fun _ _ => rfl)) (pa_cons (pe_ix ix_tup (pv 0) pe_int (fun _ _ => rfl)) pa_nil)))))))))))))), ?_⟩
    refine ⟨_, rfl, _, rfl, p, _, rfl, SqT.of hp, (by show ¬ (HT.sIx 10 0 none = 0 ∧ HT.sIx 10 10 (some 5) = 10); decide), fun la hla => ?_⟩
    have s0 := Same.new (o := .tup (cutV (r.tup pk pa) none (some 5))) hla
    have e0 : upd H la (.tup (cutV (r.tup pk pa) none (some 5))) la = some (.tup [.ref pk, .int r.le, .int r.st, .int r.ba, .int r.re]) := upd_same
    generalize upd H la (.tup (cutV (r.tup pk pa) none (some 5))) = H0 at s0 e0 ⊢
    refine ⟨la, _, rfl, SqT.of e0, rfl, _, _, rfl, _, _, rfl, _, _, rfl, _, _, rfl, _, _, rfl, rfl, ?_⟩
    have hp0 := s0 _ _ hp
    have hk0 := s0 _ _ hk
    have ha0 := s0 _ _ ha
    have hs := SqT.of (K := K) hp0
    refine ⟨_, rfl, _, rfl, _, rfl, _, rfl, _, rfl, _, rfl, p, _, _, _, rfl, rfl, hs, rfl, _, rfl, p, _, _, _, rfl, rfl, hs, rfl, _, rfl, p, _, _, _, rfl, rfl, hs, rfl, _, rfl, p, _, _, _, rfl, rfl, hs, rfl, _, rfl, p, _, _, _, rfl, rfl, hs, rfl, ?_⟩
    refine fun x dx fx fd fne => ⟨x, dx, pk, .ref pa, r, g, rfl, upd_same, mk_k fx fd _ _ hk0, .inr ⟨pa, rfl, mk_k fx fd _ _ ha0⟩, fun pa2 H2 i1 i2 b => ⟨rfl, ?_⟩⟩
    have s2 : Same H0 H2 := mk_same fx fd b
    exact q x H2 (s0.trans s2) ⟨dx, pk, pa2, i1, s2 _ _ hk0, i2⟩
end
section
variable {P : Program} {w : World} {K : PySem.W.Frag} {mg : Str → Option Value} {base : Heap}
def hitV (m j : Nat) : Bool := decide (V.int (Builtin.bitAnd ((m : Int) / 2 ^ (0 + (j : Int)).toNat) 1) = V.int 1)
theorem least_law : ∀ m : Fin 64, (∀ i : Fin 6, (∀ j : Fin 6, j.val < i.val → hitV m.val j.val = false) → hitV m.val i.val = true → leastV m.val = V.int (0 + (i.val : Int))) ∧ ((∀ j : Fin 6, hitV m.val j.val = false) → leastV m.val = .non) := by decide +kernel
def spLL : Sp := fun vs H Q _ => ∃ m : Nat, m < 64 ∧ vs = [.int m] ∧ Q (leastV m) H
abbrev s_law_least : Stmt := top 54
theorem sc_law_least : FnScope ["_law_mask", "_law_k"] ["_law_mask"] (defScope s_law_least) := ⟨rfl, rfl, rfl, by decide +kernel, rfl, by decide +kernel, by decide +kernel⟩
theorem ok_lleast (T : Txt mg) (F : TopFn K mg "_law_least" s_law_least ["_law_mask"]) : FnAt P w K mg base "_law_least" 1 ["_law_mask"] spLL := by
  refine F.at sc_law_least (fun vs H Q E h => ?_) (fun f cdv A outer s H vs Q E hr h => ?_)
  · obtain ⟨m, _, rfl, _⟩ := h
    rfl
  · obtain ⟨m, hm, rfl, q⟩ := h
    refine ⟨_, (pss_cons (ps_for PassesOwn.never rfl (pi_range1 rfl T.n_range (pa_cons pe_int pa_nil)) (pg_name (i := 1) sc_law_least.nd rfl (by first | exact Or.inl rfl | exact Or.inr rfl)) (pss_one (ps_if (pt_cmpR op_eq (pe_op op_and (pe_op op_shr (pv 0) (pv 1)) pe_int) pe_int (nomark _)) (pss_one (ps_ret (pv 1))) pss_nil)))
      (pss_one (ps_ret pe_non))), ?_⟩
    obtain ⟨l1, l2⟩ := least_law ⟨m, hm⟩
    dsimp only at l1 l2
    refine ⟨6, rfl, (by decide), (by decide), for_range (n := 6) (fun i σ H' => ∃ v : Option V, σ = [some (.int m), v] ∧ H' = H ∧ ∀ j, j < i → hitV m j = false) ⟨_, rfl, rfl, fun j h => absurd h (Nat.not_lt_zero _)⟩ ?_ ?_⟩
    · rintro i σ H1 hi ⟨v, rfl, rfl, hall⟩
      refine ⟨_, rfl, _, rfl, _, _, rfl, rfl, (by show (0 : Int) ≤ 0 + (i : Int); omega), _, _, rfl, rfl, rfl, _, rfl, ?_⟩
      show if hitV m i = true then _ else _
      cases hh : hitV m i with
      | true =>
        have e := l1 ⟨i, hi⟩ (fun j hj => hall j.val hj) hh
        refine iteT ⟨_, rfl, ?_⟩
        rw [e] at q
        exact q
      | false =>
        refine iteF ⟨_, rfl, rfl, fun j hj => ?_⟩
        by_cases h : j < i
        · exact hall j h
        · have : j = i := by omega
          subst this
          exact hh
    · rintro σ H1 ⟨v, rfl, rfl, hall⟩
      have e := l2 fun j => hall j.val j.isLt
      rw [e] at q
      exact q
end
def FRow (H : Hp) (q : Addr) (o : Ob) : Prop := ∃ (pk : Addr) (w : Str) (n : Nat) (sa : Bool) (xs : List V), H q = some (.tup (.ref pk :: .int o.le :: .int o.st :: .int o.ba :: .int o.re :: .bl sa :: xs)) ∧ (xs = [] ∨ xs.length = 4) ∧ H pk = some (.tup [.str w, .int n]) ∧ ((o.lic = none ∧ sa = false) ∨ o.lic = some (w, n, sa))
structure Ob.Fin (o : Ob) : Prop where
  le : o.le < 32
  st : o.st < 64
  ba : o.ba < 64
abbrev lackI (k : Int) (a b : Nat) : Int := Builtin.bitAnd (a : Int) (Builtin.bitXor k (b : Int))
theorem lack31 : ∀ a b : Fin 32, 0 ≤ lackI 31 a.val b.val ∧ lackI 31 a.val b.val < 64 ∧ decide (V.int (lackI 31 a.val b.val) = V.int 0) = decide (beyondV a.val b.val = .non) ∧ leastV (lackI 31 a.val b.val).toNat = beyondV a.val b.val := by decide +kernel
theorem lack63 : ∀ a b : Fin 64, 0 ≤ lackI 63 a.val b.val ∧ lackI 63 a.val b.val < 64 ∧ decide (V.int (lackI 63 a.val b.val) = V.int 0) = decide (beyondV a.val b.val = .non) ∧ leastV (lackI 63 a.val b.val).toNat = beyondV a.val b.val := by decide +kernel
structure Lack (m : Int) (v : V) : Prop where
  h0 : 0 ≤ m
  h1 : m < 64
  z : decide (V.int m = V.int 0) = decide (v = .non)
  l : leastV m.toNat = v
theorem lackL {a b : Nat} (ha : a < 32) (hb : b < 32) : Lack (lackI 31 a b) (beyondV a b) := by
  obtain ⟨h0, h1, z, l⟩ := lack31 ⟨a, ha⟩ ⟨b, hb⟩
  exact ⟨h0, h1, z, l⟩
theorem lackS {a b : Nat} (ha : a < 64) (hb : b < 64) : Lack (lackI 63 a b) (beyondV a b) := by
  obtain ⟨h0, h1, z, l⟩ := lack63 ⟨a, ha⟩ ⟨b, hb⟩
  exact ⟨h0, h1, z, l⟩
theorem at6 {x0 x1 x2 x3 x4 x5 : V} {xs : List V} (h : xs = [] ∨ xs.length = 4) : atI (x0 :: x1 :: x2 :: x3 :: x4 :: x5 :: xs) 0 = some x0 ∧ atI (x0 :: x1 :: x2 :: x3 :: x4 :: x5 :: xs) 1 = some x1 ∧ atI (x0 :: x1 :: x2 :: x3 :: x4 :: x5 :: xs) 2 = some x2 ∧ atI (x0 :: x1 :: x2 :: x3 :: x4 :: x5 :: xs) 3 = some x3 ∧ atI (x0 :: x1 :: x2 :: x3 :: x4 :: x5 :: xs) 4 = some x4 ∧ atI (x0 :: x1 :: x2 :: x3 :: x4 :: x5 :: xs) 5 = some x5 := by
  rcases h with rfl | h
  · exact ⟨rfl, rfl, rfl, rfl, rfl, rfl⟩
  · match xs, h with
    | [a, b, c, d], _ => exact ⟨rfl, rfl, rfl, rfl, rfl, rfl⟩
def spLF : Sp := fun vs H Q _ => ∃ (q q' : Addr) (a b : Ob), vs = [.ref q, .ref q'] ∧ FRow H q a ∧ FRow H q' b ∧ a.Fin ∧ b.Fin ∧ ∀ (v : V) (H' : Hp), Same H H' → FAt H' v (faultF a b) → Q v H'
section
variable {P : Program} {w : World} {K : PySem.W.Frag} {mg : Str → Option Value} {base : Heap}
abbrev s_law_fault : Stmt := top 55
theorem sc_law_fault : FnScope ["_law_one", "_law_other", "_law_lacks", "_law_word", "_law_mask"] ["_law_one", "_law_other"] (defScope s_law_fault) := ⟨rfl, rfl, rfl, by decide +kernel, rfl, by decide +kernel, by decide +kernel⟩
theorem ok_lfault (T : Txt mg) (F__law_least : FnAt P w K mg base "_law_least" 1 ["_law_mask"] spLL) (F : TopFn K mg "_law_fault" s_law_fault ["_law_one", "_law_other"]) : FnAt P w K mg base "_law_fault" 2 ["_law_one", "_law_other"] spLF := by
  refine F.at sc_law_fault (fun vs H Q E h => ?_) (fun f cdv A outer s H vs Q E hr h => ?_)
  · obtain ⟨q, q', a, b, rfl, _⟩ := h
    rfl
  · obtain ⟨p, p', a, b, rfl, ⟨pk, w1, n1, sa, xs, hp, hx, hk, hl⟩, ⟨pk', w2, n2, sb, ys, hp', hy, hk', hl'⟩, fa, fb, q⟩ := h
    refine ⟨_, (pss_cons (ps_set (i := 2) sc_law_fault.nd rfl (by first | exact Or.inl rfl | exact Or.inr rfl) (pe_lst (pa_cons (pe_tup (pa_cons pe_str (pa_cons (pe_op op_and (pe_ix ix_tup (pv 0) pe_int (fun _ _ => rfl)) (pe_op op_xor pe_int (pe_ix ix_tup (pv 1) pe_int (fun _ _ => rfl)))) pa_nil))) (pa_cons (pe_tup (pa_cons pe_str (pa_cons (pe_op op_and (pe_ix ix_tup (pv 1) pe_int (fun _ _ => rfl)) (pe_op op_xor pe_int (pe_ix ix_tup (pv 0) pe_int (fun _ _ => rfl)))) pa_nil))) pa_nil))))
      (pss_cons (ps_expr (pe_bm PySem.F.plainAttrs_list PySem.F.slot_list_append PySem.F.type_list_append mt_append (pv 2) (pa_cons (pe_tup (pa_cons pe_str (pa_cons (pe_op op_and (pe_ix ix_tup (pv 1) pe_int (fun _ _ => rfl)) (pe_op op_xor pe_int (pe_ix ix_tup (pv 0) pe_int (fun _ _ => rfl)))) pa_nil))) pa_nil)))
      (pss_cons (ps_for PassesOwn.never rfl (pi_list (pv 2)) (pg_tup rfl (pgs_cons (pg_name (i := 3) sc_law_fault.nd rfl (by first | exact Or.inl rfl | exact Or.inr rfl)) (pgs_cons (pg_name (i := 4) sc_law_fault.nd rfl (by first | exact Or.inl rfl | exact Or.inr rfl)) pgs_nil))) (pss_one (ps_if (pt_cmpR op_ne (pv 4) pe_int (nomark _)) (pss_one (ps_ret (pe_tup (pa_cons (pv 3) (pa_cons (pe_fn F__law_least hr (by decide) rfl (pa_cons (pv 4) pa_nil)) pa_nil))))) pss_nil)))
      (pss_cons (ps_if (pt_cmpR op_gt (pe_ix ix_tup (pv 0) pe_int (fun _ _ => rfl)) (pe_ix ix_tup (pv 1) pe_int (fun _ _ => rfl)) (nomark _)) (pss_one (ps_ret (pe_tup (pa_cons pe_str (pa_cons (pe_ix ix_tup (pv 0) pe_int (fun _ _ => rfl)) pa_nil))))) pss_nil)
      (pss_cons (ps_if (PW.pt (pw_and (pt_val (pe_ix ix_tup (pv 1) pe_int (fun _ _ => rfl))) (pw_and1 (pt_not (PW.pt (pw_and (pt_val (pe_ix ix_tup (pv 0) pe_int (fun _ _ => rfl))) (pw_and (pt_cmpR op_eq (pe_ix ix_tup (pe_ix ix_tup (pv 0) pe_int (fun _ _ => rfl)) pe_int (fun _ _ => rfl)) (pe_ix ix_tup (pe_ix ix_tup (pv 1) pe_int (fun _ _ => rfl)) pe_int (fun _ _ => rfl)) (nomark _)) (pw_and1 (pt_cmpR op_ge (pe_ix ix_tup (pe_ix ix_tup (pv 0) pe_int (fun _ _ => rfl)) pe_int (fun _ _ => rfl)) (pe_ix ix_tup (pe_ix ix_tup (pv 1) pe_int (fun _ _ => rfl)) pe_int (fun _ _ => rfl)) (nomark _)))))))))) (pss_one (ps_ret (pe_tup (pa_cons pe_str pa_nil)))) pss_nil)
      (pss_one (ps_ret pe_non))))))), ?_⟩
    obtain ⟨x0, x1, x2, x3, x4, x5⟩ := at6 (x0 := .ref pk) (x1 := .int a.le) (x2 := .int a.st) (x3 := .int a.ba) (x4 := .int a.re) (x5 := .bl sa) hx
    obtain ⟨y0, y1, y2, y3, y4, y5⟩ := at6 (x0 := .ref pk') (x1 := .int b.le) (x2 := .int b.st) (x3 := .int b.ba) (x4 := .int b.re) (x5 := .bl sb) hy
    refine ⟨_, rfl, p, _, _, _, rfl, rfl, SqT.of hp, x1, _, rfl, p', _, _, _, rfl, rfl, SqT.of hp', y1, _, _, rfl, rfl, _, _, rfl, rfl, (by show 2 ≤ sizeLine; decide), fun t1 ht1 => ?_⟩
    have s1 := Same.new (o := .tup [.str "lets", .int (lackI 31 a.le b.le)]) ht1
    have e1 : upd H t1 (.tup [.str "lets", .int (lackI 31 a.le b.le)]) t1 = some (.tup [.str "lets", .int (lackI 31 a.le b.le)]) := upd_same
    refine ⟨_, rfl, p', _, _, _, rfl, rfl, SqT.of (s1 _ _ hp'), y2, _, rfl, p, _, _, _, rfl, rfl, SqT.of (s1 _ _ hp), x2, _, _, rfl, rfl, _, _, rfl, rfl, (by show 2 ≤ sizeLine; decide), fun t2 ht2 => ?_⟩
    have s2 := Same.new (o := .tup [.str "string", .int (lackI 63 b.st a.st)]) ht2
    have e2 : upd (upd H t1 (.tup [.str "lets", .int (lackI 31 a.le b.le)])) t2 (.tup [.str "string", .int (lackI 63 b.st a.st)]) t2 = some (.tup [.str "string", .int (lackI 63 b.st a.st)]) := upd_same
    have e1 := s2 _ _ e1
    have s2 := s1.trans s2
    refine ⟨(by show 2 ≤ sizeLine; decide), fun l hl0 => ?_⟩
    generalize upd (upd H t1 (.tup [.str "lets", .int (lackI 31 a.le b.le)])) t2 (.tup [.str "string", .int (lackI 63 b.st a.st)]) = H2 at s2 e1 e2 hl0 ⊢
    have hlH : H l = none := s2.free hl0
    have s3 := Same.new (o := .lst [.ref t1, .ref t2]) hl0
    have el : upd H2 l (.lst [.ref t1, .ref t2]) l = some (.lst [.ref t1, .ref t2]) := upd_same
    have e1 := s3 _ _ e1
    have e2 := s3 _ _ e2
    have s3 := s2.trans s3
    generalize upd H2 l (.lst [.ref t1, .ref t2]) = H3 at s3 e1 e2 el ⊢
    refine ⟨_, rfl, .inl ⟨rfl, _, SqL.of el⟩, _, rfl, p', _, _, _, rfl, rfl, SqT.of (s3 _ _ hp'), y3, _, rfl, p, _, _, _, rfl, rfl, SqT.of (s3 _ _ hp), x3, _, _, rfl, rfl, _, _, rfl, rfl, (by show 2 ≤ sizeLine; decide), fun t3 ht3 => ?_⟩
    have s4 := Same.new (o := .tup [.str "bar", .int (lackI 63 b.ba a.ba)]) ht3
    have e3 : upd H3 t3 (.tup [.str "bar", .int (lackI 63 b.ba a.ba)]) t3 = some (.tup [.str "bar", .int (lackI 63 b.ba a.ba)]) := upd_same
    have e1 := s4 _ _ e1
    have e2 := s4 _ _ e2
    have el := s4 _ _ el
    have s4 := s3.trans s4
    generalize upd H3 t3 (.tup [.str "bar", .int (lackI 63 b.ba a.ba)]) = H4 at s4 e1 e2 e3 el ⊢
    refine ⟨l, _, _, rfl, rfl, el, (by show 2 < sizeLine; decide), ?_⟩
    have s5 : Same H (upd H4 l (.lst ([.ref t1, .ref t2] ++ [.ref t3]))) := fun d o e => by rw [upd_ne (ne_of_none e hlH)]; exact s4 _ _ e
    have e1 : upd H4 l (.lst ([.ref t1, .ref t2] ++ [.ref t3])) t1 = some _ := tup_upd e1 el
    have e2 : upd H4 l (.lst ([.ref t1, .ref t2] ++ [.ref t3])) t2 = some _ := tup_upd e2 el
    have e3 : upd H4 l (.lst ([.ref t1, .ref t2] ++ [.ref t3])) t3 = some _ := tup_upd e3 el
    have el : upd H4 l (.lst ([.ref t1, .ref t2] ++ [.ref t3])) l = some (.lst [.ref t1, .ref t2, .ref t3]) := upd_same
    generalize upd H4 l (.lst ([.ref t1, .ref t2] ++ [.ref t3])) = H5 at s5 e1 e2 e3 el ⊢
    have L1 := lackL fa.le fb.le
    have L2 := lackS fb.st fa.st
    have L3 := lackS fb.ba fa.ba
    refine ⟨_, rfl, l, rfl, ⟨_, SqL.of el⟩, for_list (K := K) (a := l) (xs := [.ref t1, .ref t2, .ref t3]) (fun i σ H' => ∃ v3 v4 : Option V, σ = [some (.ref p), some (.ref p'), some (.ref l), v3, v4] ∧ H' = H5 ∧ (0 < i → beyondV a.le b.le = .non) ∧ (1 < i → beyondV b.st a.st = .non) ∧ (2 < i → beyondV b.ba a.ba = .non))
      ⟨_, _, rfl, rfl, fun z => absurd z (by omega), fun z => absurd z (by omega), fun z => absurd z (by omega)⟩ ?_ ?_ ?_⟩
    · rintro i σ H6 _ ⟨v3, v4, rfl, rfl, _⟩
      exact SqL.of el
    · rintro i x σ H6 hix ⟨v3, v4, rfl, rfl, g1, g2, g3⟩
      match i, hix, g1, g2, g3 with
      | 0, hix, g1, g2, g3 =>
        cases hix
        refine ⟨t1, _, rfl, SqT.of e1, rfl, _, _, rfl, _, _, rfl, rfl, _, rfl, rfl, _, rfl, ?_⟩
        show if (!decide (V.int (lackI 31 a.le b.le) = V.int 0)) = true then _ else _
        rw [L1.z]
        by_cases h1 : beyondV a.le b.le = .non
        · rw [decide_eq_true h1]
          exact iteF ⟨_, _, rfl, rfl, fun _ => h1, fun z => absurd z (by omega), fun z => absurd z (by omega)⟩
        · rw [decide_eq_false h1]
          refine iteT ⟨_, rfl, _, rfl, (lackI 31 a.le b.le).toNat, (by have := L1.h1; omega), (congrArg (fun z => [V.int z]) (Int.toNat_of_nonneg L1.h0).symm), (by show 2 ≤ sizeLine; decide), fun z hz => ?_⟩
          rw [L1.l]
          unfold faultF at q
          rw [if_pos h1] at q
          exact q _ _ (s5.trans (Same.new hz)) ⟨z, rfl, upd_same⟩
      | 1, hix, g1, g2, g3 =>
        cases hix
        have h1 := g1 (by omega)
        refine ⟨t2, _, rfl, SqT.of e2, rfl, _, _, rfl, _, _, rfl, rfl, _, rfl, rfl, _, rfl, ?_⟩
        show if (!decide (V.int (lackI 63 b.st a.st) = V.int 0)) = true then _ else _
        rw [L2.z]
        by_cases h2 : beyondV b.st a.st = .non
        · rw [decide_eq_true h2]
          exact iteF ⟨_, _, rfl, rfl, fun _ => h1, fun _ => h2, fun z => absurd z (by omega)⟩
        · rw [decide_eq_false h2]
          refine iteT ⟨_, rfl, _, rfl, (lackI 63 b.st a.st).toNat, (by have := L2.h1; omega), (congrArg (fun z => [V.int z]) (Int.toNat_of_nonneg L2.h0).symm), (by show 2 ≤ sizeLine; decide), fun z hz => ?_⟩
          rw [L2.l]
          unfold faultF at q
          rw [if_neg (fun z => z h1), if_pos h2] at q
          exact q _ _ (s5.trans (Same.new hz)) ⟨z, rfl, upd_same⟩
      | 2, hix, g1, g2, g3 =>
        cases hix
        have h1 := g1 (by omega)
        have h2 := g2 (by omega)
        refine ⟨t3, _, rfl, SqT.of e3, rfl, _, _, rfl, _, _, rfl, rfl, _, rfl, rfl, _, rfl, ?_⟩
        show if (!decide (V.int (lackI 63 b.ba a.ba) = V.int 0)) = true then _ else _
        rw [L3.z]
        by_cases h3 : beyondV b.ba a.ba = .non
        · rw [decide_eq_true h3]
          exact iteF ⟨_, _, rfl, rfl, fun _ => h1, fun _ => h2, fun _ => h3⟩
        · rw [decide_eq_false h3]
          refine iteT ⟨_, rfl, _, rfl, (lackI 63 b.ba a.ba).toNat, (by have := L3.h1; omega), (congrArg (fun z => [V.int z]) (Int.toNat_of_nonneg L3.h0).symm), (by show 2 ≤ sizeLine; decide), fun z hz => ?_⟩
          rw [L3.l]
          unfold faultF at q
          rw [if_neg (fun z => z h1), if_neg (fun z => z h2), if_pos h3] at q
          exact q _ _ (s5.trans (Same.new hz)) ⟨z, rfl, upd_same⟩
      | (i + 3), hix, _, _, _ => simp at hix
    rintro σ H6 ⟨v3, v4, rfl, rfl, g1, g2, g3⟩
    have h1 := g1 (by show 0 < 3; decide)
    have h2 := g2 (by show 1 < 3; decide)
    have h3 := g3 (by show 2 < 3; decide)
    unfold faultF at q
    rw [if_neg (fun z => z h1), if_neg (fun z => z h2), if_neg (fun z => z h3)] at q
    have hp := s5 _ _ hp
    have hp' := s5 _ _ hp'
    have hk := s5 _ _ hk
    have hk' := s5 _ _ hk'
    refine ⟨_, rfl, p, _, _, _, rfl, rfl, SqT.of hp, x4, _, rfl, p', _, _, _, rfl, rfl, SqT.of hp', y4, _, _, rfl, rfl, _, rfl, ?_⟩
    by_cases h4 : b.re < a.re
    · rw [if_pos h4] at q
      show if decide ((b.re : Int) < (a.re : Int)) = true then _ else _
      rw [decide_eq_true (by omega : (b.re : Int) < (a.re : Int))]
      refine iteT ⟨_, rfl, p, _, _, _, rfl, rfl, SqT.of hp, x4, (by show 2 ≤ sizeLine; decide), fun z hz => ?_⟩
      exact q _ _ (s5.trans (Same.new hz)) ⟨z, rfl, upd_same⟩
    rw [if_neg h4] at q
    show if decide ((b.re : Int) < (a.re : Int)) = true then _ else _
    rw [decide_eq_false (by omega : ¬ (b.re : Int) < (a.re : Int))]
    refine iteF ?_
    have hw : b.wants = sb := by
      unfold Ob.wants
      rcases hl' with ⟨z, rfl⟩ | z
      · rw [z]
      · rw [z]
    refine ⟨_, rfl, p', _, _, _, rfl, rfl, SqT.of hp', y5, _, rfl, ?_⟩
    cases sb with
    | false =>
      rw [hw, if_neg (fun z => by cases z.1)] at q
      refine iteF ?_
      exact q _ _ s5 rfl
    | true =>
      have hb : b.lic = some (w2, n2, true) := hl'.elim (fun z => by cases z.2) id
      have hla : a.later b = (sa && (decide (w1 = w2) && decide (n2 ≤ n1))) := by
        unfold Ob.later
        rw [hb]
        rcases hl with ⟨z, rfl⟩ | z
        · rw [z]; rfl
        · rw [z]
      have yes : a.later b = false → ∀ z, H6 z = none → Q (.ref z) (upd H6 z (.tup [.str "same"])) := fun e z hz => by
        rw [hw, e, if_pos ⟨rfl, rfl⟩] at q
        exact q _ _ (s5.trans (Same.new hz)) ⟨z, rfl, upd_same⟩
      have no : a.later b = true → Q .non H6 := fun e => by
        rw [hw, e, if_neg (fun z => by cases z.2)] at q
        exact q _ _ s5 rfl
      clear q
      rw [hla] at yes no
      refine iteT ⟨_, rfl, p, _, _, _, rfl, rfl, SqT.of hp, x5, _, rfl, ?_⟩
      cases sa with
      | false => exact iteF (iteT ⟨(by show 1 ≤ sizeLine; decide), fun z hz => yes rfl z hz⟩)
      | true =>
        refine iteT ⟨_, rfl, p, _, _, _, rfl, rfl, SqT.of hp, x0, pk, _, _, V.str w1, rfl, rfl, SqT.of hk, rfl, _, rfl, p', _, _, _, rfl, rfl, SqT.of hp', y0, pk', _, _, V.str w2, rfl, rfl, SqT.of hk', rfl, rfl, _, rfl, ?_⟩
        by_cases hww : w1 = w2
        · rw [decide_eq_true (congrArg V.str hww)]
          rw [decide_eq_true hww] at yes no
          refine iteT ⟨_, rfl, p, _, _, _, rfl, rfl, SqT.of hp, x0, pk, _, _, V.int n1, rfl, rfl, SqT.of hk, rfl, _, rfl, p', _, _, _, rfl, rfl, SqT.of hp', y0, pk', _, _, V.int n2, rfl, rfl, SqT.of hk', rfl, _, _, rfl, rfl, _, rfl, ?_⟩
          have e : decide ((n1 : Int) ≥ (n2 : Int)) = decide (n2 ≤ n1) := by
            rw [Bool.eq_iff_iff]
            simp only [decide_eq_true_eq]
            omega
          show if (!decide ((n1 : Int) ≥ (n2 : Int))) = true then _ else _
          rw [e]
          cases hd : decide (n2 ≤ n1) with
          | true => exact iteF (no (by rw [hd]; rfl))
          | false => exact iteT ⟨(by show 1 ≤ sizeLine; decide), fun z hz => yes (by rw [hd]; rfl) z hz⟩
        · have hne : ¬ (V.str w1 = V.str w2) := fun z => hww (V.str.inj z)
          rw [decide_eq_false hne]
          exact iteF (iteT ⟨(by show 1 ≤ sizeLine; decide), fun z hz => yes (by rw [decide_eq_false hww]; rfl) z hz⟩)
end
end K14
namespace K14
open PySem L2 PyProof.Rows
theorem sub_dec : ∀ a b : Fin 64, decide (beyondV a.val b.val = .non) = decide (a.val &&& b.val = a.val) := by decide +kernel
theorem sub_iff {a b : Nat} (ha : a < 64) (hb : b < 64) : beyondV a b = .non ↔ a &&& b = a := by
  have := sub_dec ⟨a, ha⟩ ⟨b, hb⟩
  dsimp only at this
  constructor
  · intro h
    rw [decide_eq_true h] at this
    exact of_decide_eq_true this.symm
  · intro h
    rw [decide_eq_true h] at this
    exact of_decide_eq_true this
theorem sub_trans {a b c : Nat} (h1 : a &&& b = a) (h2 : b &&& c = b) : a &&& c = a := by
  rw [← h1, Nat.and_assoc, h2]
theorem cov_iff {a b : Ob} (fa : a.Fine) (fb : b.Fine) : (faultF a b).isNone = true ↔ a.le &&& b.le = a.le ∧ b.st &&& a.st = b.st ∧ b.ba &&& a.ba = b.ba ∧ a.re ≤ b.re ∧ (b.wants = true → a.later b = true) := by
  unfold faultF
  rw [← sub_iff fa.hle fb.hle, ← sub_iff fb.hst fa.hst, ← sub_iff fb.hba fa.hba]
  by_cases h1 : beyondV a.le b.le ≠ .non
  · rw [if_pos h1]; simp [h1]
  rw [if_neg h1]
  by_cases h2 : beyondV b.st a.st ≠ .non
  · rw [if_pos h2]; simp [h2]
  rw [if_neg h2]
  by_cases h3 : beyondV b.ba a.ba ≠ .non
  · rw [if_pos h3]; simp [h3]
  rw [if_neg h3]
  have h1 : beyondV a.le b.le = .non := Classical.not_not.mp h1
  have h2 : beyondV b.st a.st = .non := Classical.not_not.mp h2
  have h3 : beyondV b.ba a.ba = .non := Classical.not_not.mp h3
  by_cases h4 : b.re < a.re
  · rw [if_pos h4]
    constructor
    · intro h; cases h
    · rintro ⟨_, _, _, h, _⟩; omega
  rw [if_neg h4]
  by_cases h5 : b.wants = true ∧ a.later b = false
  · rw [if_pos h5]
    constructor
    · intro h; cases h
    · rintro ⟨_, _, _, _, h⟩
      rw [h h5.1] at h5
      cases h5.2
  · rw [if_neg h5]
    refine ⟨fun _ => ⟨h1, h2, h3, by omega, fun hw => ?_⟩, fun _ => rfl⟩
    cases hl : a.later b with
    | true => rfl
    | false => exact absurd ⟨hw, hl⟩ h5
theorem later_trans {a b c : Ob} (h1 : a.later b = true) (h2 : b.later c = true) : a.later c = true := by
  obtain ⟨_, _, _, _, la⟩ := a
  obtain ⟨_, _, _, _, lb⟩ := b
  obtain ⟨_, _, _, _, lc⟩ := c
  cases la with
  | none => cases h1
  | some x =>
    cases lb with
    | none => cases h2
    | some y =>
      cases lc with
      | none => cases h2
      | some z =>
        obtain ⟨w1, n1, s1⟩ := x
        obtain ⟨w2, n2, s2⟩ := y
        obtain ⟨w3, n3, s3⟩ := z
        simp only [Ob.later, Bool.and_eq_true, decide_eq_true_eq] at h1 h2 ⊢
        exact ⟨h1.1, h1.2.1.trans h2.2.1, Nat.le_trans h2.2.2 h1.2.2⟩
theorem later_wants {b c : Ob} (h : b.later c = true) : b.wants = true := by
  obtain ⟨_, _, _, _, lb⟩ := b
  obtain ⟨_, _, _, _, lc⟩ := c
  cases lb with
  | none => cases h
  | some y =>
    cases lc with
    | none => cases h
    | some z =>
      simp only [Ob.later, Bool.and_eq_true] at h
      exact h.1
theorem cov_trans {a b c : Ob} (fa : a.Fine) (fb : b.Fine) (fc : c.Fine) (h1 : (faultF a b).isNone = true) (h2 : (faultF b c).isNone = true) : (faultF a c).isNone = true := by
  rw [cov_iff fa fb] at h1
  rw [cov_iff fb fc] at h2
  rw [cov_iff fa fc]
  obtain ⟨a1, a2, a3, a4, a5⟩ := h1
  obtain ⟨b1, b2, b3, b4, b5⟩ := h2
  exact ⟨sub_trans a1 b1, sub_trans b2 a2, sub_trans b3 a3, Nat.le_trans a4 b4, fun hw => later_trans (a5 (later_wants (b5 hw))) (b5 hw)⟩
theorem cov_self {r : Row} (g : r.Good) : (faultF r.oL r.oL).isNone = true := by
  rw [cov_iff g.fine g.fine]
  refine ⟨Nat.and_self _, Nat.and_self _, Nat.and_self _, Nat.le_refl _, fun hw => ?_⟩
  have hw : r.sa = true := hw
  show (r.sa && (decide (r.w = r.w) && decide (r.n ≤ r.n))) = true
  rw [hw]
  simp

def spRef (K : PySem.W.Frag) (cL cB : Addr) : Sp := fun vs H Q _ => ∃ (p : Addr) (x : V) (j : Int) (k : Kd) (z1 z2 : List Str) (ys : List Addr) (rs : List Row), vs = [.ref p, x, .int j] ∧ BookAt cL cB H p z1 z2 ys rs ∧ Asked K H x ∧ KdOf K H x k ∧ Miss H x rs ∧ ∀ (t : Addr) (H' : Hp), Same H H' → H' t = some (.tup [.str "key", x, .bl (k.isA .bl), .bl true]) → Q (.ref t) H'
theorem kd_tupobj {K : PySem.W.Frag} {H H' : Hp} {x : V} {k : Kd} {a : Addr} {xs : List V} (h : KdOf K H x k) (s : Same H H') (e : x = .ref a) (ha : H' a = some (.tup xs)) : H a = some (.tup xs) := by
  subst e
  have hk' : TyOf K H (.ref a) (.type k.nm) := h
  cases e : H a with
  | none =>
    generalize hT : Value.type k.nm = T at hk'
    cases hk' with
    | lst z => rw [e] at z; cases z
    | frz z => rw [e] at z; cases z
    | tup z => rw [e] at z; cases z
    | dK z => rw [e] at z; cases z
    | dT z => rw [e] at z; cases z
    | ins z => rw [e] at z; cases z
  | some o => rw [s _ _ e] at ha; exact ha
theorem Miss.same {K : PySem.W.Frag} {H H' : Hp} {x : V} {k : Kd} {rs : List Row} (h : Miss H x rs) (kd : KdOf K H x k) (s : Same H H') : Miss H' x rs := fun r hr a e ha => h r hr a e (kd_tupobj kd s e ha)
section
variable {P : Program} {w : World} {K : PySem.W.Frag} {mg : Str → Option Value} {base : Heap} {ck g cT cL cB : Addr}
abbrev s_law_refused : Stmt := top 56
theorem sc_law_refused : FnScope ["_law_book_here", "_law_thing", "_law_way", "_law_told", "e"] ["_law_book_here", "_law_thing", "_law_way"] (defScope s_law_refused) := ⟨rfl, rfl, rfl, by decide +kernel, rfl, by decide +kernel, by decide +kernel⟩
theorem ok_refused (T : Txt mg) (D : Has P w K mg base ck g) (ML : ∀ C sp, DLM K cL cB ck C sp → MethD P w K mg base (CXR P w) 3 C "licence" ["self", "key"] sp) (MC : ∀ C sp, DCM K cL cB ck C sp → MethD P w K mg base (CXR P w) 6 C "coverers" ["self", "key"] sp)
    (F : TopFn K mg "_law_refused" s_law_refused ["_law_book_here", "_law_thing", "_law_way"]) : FnAt P w K mg base "_law_refused" 8 ["_law_book_here", "_law_thing", "_law_way"] (spRef K cL cB) := by
  refine F.at sc_law_refused (fun vs H Q E h => ?_) (fun f cdv A outer s H vs Q E hr h => ?_)
  · obtain ⟨p, x, j, k, z1, z2, ys, rs, rfl, _⟩ := h
    rfl
  · obtain ⟨p, x, j, k, z1, z2, ys, rs, rfl, hB, hx, kd, hm, q⟩ := h
    have hcl : (PySem.W.clsIn K ck).isSome = true := D.kc
    refine ⟨_, (pss_cons (ps_set (i := 3) sc_law_refused.nd rfl (by first | exact Or.inl rfl | exact Or.inr rfl) (pe_tup (pa_cons pe_str pa_nil)))
      (pss_cons (ps_try (i := 4) (D := ck) rfl rfl sc_law_refused.nd rfl rfl rfl D.km D.kt hcl D.kb
          (fun RX pn E' hc => pss_one (ps_if (pt_cmpR op_eq (pv 2) pe_int (nomark _)) (pss_one (ps_expr (pe_methT (D := DLM K cL cB ck) (pv 0) ML hc (hr.mono (by decide)) (pa_cons (pv 1) pa_nil)))) (pss_one (ps_expr (pe_methT (D := DCM K cL cB ck) (pv 0) MC hc (hr.mono (by decide)) (pa_cons (pv 1) pa_nil))))))
          (fun a => pss_one (ps_set (i := 3) sc_law_refused.nd rfl (by first | exact Or.inl rfl | exact Or.inr rfl) (pe_tup (pa_cons pe_str (pa_cons (pe_xfldK K (pv 4)) (pa_cons (pe_callB (call_isKdK K .bl (by simp)) rfl T.n_isinstance boot_isinstance (pa_cons (pe_xfldK K (pv 4)) (pa_cons (pe_bltn (v := .ty "bool") rfl T.n_bool boot_bool rfl) pa_nil))) (pa_cons (pe_callB (call_isXK K) rfl T.n_isinstance boot_isinstance (pa_cons (pv 4) (pa_cons (pe_glob (v := .ref g) rfl D.gm rfl) pa_nil))) pa_nil))))))))
      (pss_one (ps_ret (pv 3))))), ?_⟩
    refine ⟨(by show 1 ≤ sizeLine; decide), fun t0 h0 => ?_⟩
    have s0 := Same.new (o := .tup [.str "none"]) h0
    generalize upd H t0 (.tup [.str "none"]) = H0 at s0 ⊢
    have hB0 := hB.same s0
    obtain ⟨⟨dx, ls, ld, dk, ob, h1, h2, h3, h4⟩, _⟩ := hB0
    have hB0 := hB.same s0
    refine ⟨_, rfl, rfl, _, rfl, ite2 (fun _ => ?_) (fun _ => ?_)⟩
    · refine ⟨_, rfl, p, cB, dx, _, spLM K cL cB ck, rfl, h1, bF_no (by decide +kernel), ⟨rfl, rfl⟩, _, rfl, p, x, z1, z2, ys, rs, rfl, hB0, hx.same s0, .inr ⟨hm.same kd s0, fun a dx' H2 s2 y1 y2 => ⟨a, rfl, _, _, y1, D.ks, ?_⟩⟩⟩
      have ex : Exc H2 a ck dx' [("found", x)] := ⟨.inr y1, y2⟩
      have S2 := s0.trans s2
      refine ⟨_, rfl, a, ck, dx', _, x, rfl, ex, D.xk.df.ok, rfl, _, rfl, a, ck, dx', _, x, rfl, ex, D.xk.df.ok, rfl, x, k, rfl, TyOf.same' kd S2, _, rfl, a, ck, dx', _, _, _, _, true, rfl, rfl, ex, D.xk.df.ok, D.kg, (by show 4 ≤ sizeLine; decide), fun t ht => ?_⟩
      exact ⟨_, rfl, q t _ (S2.trans (Same.new ht)) upd_same⟩
    · refine ⟨_, rfl, p, cB, dx, _, spCM K cL cB ck, rfl, h1, bF_no (by decide +kernel), ⟨rfl, rfl⟩, _, rfl, p, x, z1, z2, ys, rs, rfl, hB0, hx.same s0, .inr ⟨hm.same kd s0, fun a dx' H2 s2 y1 y2 => ⟨a, rfl, _, _, y1, D.ks, ?_⟩⟩⟩
      have ex : Exc H2 a ck dx' [("found", x)] := ⟨.inr y1, y2⟩
      have S2 := s0.trans s2
      refine ⟨_, rfl, a, ck, dx', _, x, rfl, ex, D.xk.df.ok, rfl, _, rfl, a, ck, dx', _, x, rfl, ex, D.xk.df.ok, rfl, x, k, rfl, TyOf.same' kd S2, _, rfl, a, ck, dx', _, _, _, _, true, rfl, rfl, ex, D.xk.df.ok, D.kg, (by show 4 ≤ sizeLine; decide), fun t ht => ?_⟩
      exact ⟨_, rfl, q t _ (S2.trans (Same.new ht)) upd_same⟩
end
end K14
namespace L2
open PySem PySem.Spec PyProof.Rows
theorem op_notin_keysK {X : Cx} (K : PySem.W.Frag) (hu : X.A.units + 2 < cLine) (hK : X.K = K := by rfl) : OpR X (compareOp .NotIn) (rNotInK K) := by
  subst hK
  exact op_notin_keys hu
end L2
namespace K14
open PySem L2 PyProof.Rows PySem.SeqAt
theorem word_ok {z : Str} (h : isWordZ z = true) : PyData.strOk z = true := by
  unfold isWordZ at h
  rw [Bool.and_eq_true] at h
  have h := h.2
  unfold PyData.strOk
  rw [← Array.all_toList, List.all_eq_true]
  intro c hc
  have := List.all_eq_true.mp h c hc
  unfold isLow at this
  simp only [Bool.and_eq_true, decide_eq_true_eq] at this ⊢
  omega
theorem RowAt.frow {H : Hp} {q : Addr} {r : Row} (h : RowAt H q r) : FRow H q r.oL := by
  obtain ⟨pk, pa, h1, h2, h3⟩ := h
  exact ⟨pk, r.w, r.n, r.sa, [.ref pa, .int r.fi, .int r.la, .bl r.lg], h1, .inr rfl, h2, .inr rfl⟩
theorem Row.Good.finL {r : Row} (g : r.Good) : r.oL.Fin := ⟨g.h4.hle, g.h4.hst, g.h4.hba⟩
abbrev keyD (r : Row) : PyData := .tuple [.str r.w, .int r.n]
abbrev asksD (r : Row) : PyData := .tuple [.int r.a0, .int r.a1, .int r.a2, .int r.a3]
abbrev rowD (r : Row) : PyData := .tuple [keyD r, .int r.le, .int r.st, .int r.ba, .int r.re, .bool r.sa, asksD r, .int r.fi, .int r.la, .bool r.lg]
theorem shp {r : Row} (g : r.Good) : shaped (rowD r) = true := by
  have h := word_ok g.hw
  simp [shaped, PyData.canLay0, PyData.canLayAll0, PyData.depth, PyData.depthAll, h]
section
variable {K : PySem.W.Frag} {H : Hp} {q pk pa : Addr} {r : Row}
theorem rdK (h : H pk = some (.tup r.keyV)) : RdD K H (.ref pk) (keyD r) := .tup (SqT.of h) (.cons (.str _) (.cons (.int _) .nil))
theorem rdA (h : H pa = some (.tup r.asks)) : RdD K H (.ref pa) (asksD r) := .tup (SqT.of h) (.cons (.int _) (.cons (.int _) (.cons (.int _) (.cons (.int _) .nil))))
theorem rdR (h : H q = some (.tup (r.tup pk pa))) (hk : H pk = some (.tup r.keyV)) (ha : H pa = some (.tup r.asks)) : RdD K H (.ref q) (rowD r) :=
  .tup (SqT.of h) (.cons (rdK hk) (.cons (.int _) (.cons (.int _) (.cons (.int _) (.cons (.int _) (.cons (.bl _) (.cons (rdA ha) (.cons (.int _) (.cons (.int _) (.cons (.bl _) .nil))))))))))
end
theorem rdKeys {K : PySem.W.Frag} {H : Hp} : ∀ {ps : List Addr} {L : List Row}, KeysOf H ps L → RdDs K H (ps.map V.ref) (L.map keyD)
  | [], [], _ => .nil
  | [], _ :: _, h => by have := h.1; simp at this
  | _ :: _, [], h => by have := h.1; simp at this
  | p :: ps, r :: L, h => .cons (rdK (h.2 0 p r rfl rfl)) (rdKeys ⟨by have := h.1; simpa using this, fun i p r h1 h2 => h.2 (i + 1) p r (by simpa using h1) (by simpa using h2)⟩)
theorem lay_keys : ∀ {L : List Row}, (∀ r ∈ L, r.Good) → PyData.canLayAll0 (L.map keyD) = true ∧ PyData.depthAll (L.map keyD) ≤ 4
  | [], _ => ⟨by simp [PyData.canLayAll0], by simp [PyData.depthAll]⟩
  | r :: L, h => by
    obtain ⟨a, b⟩ := lay_keys fun x hx => h x (List.mem_cons_of_mem _ hx)
    have g := word_ok (h r List.mem_cons_self).hw
    refine ⟨by simp [PyData.canLayAll0, PyData.canLay0, g, a], ?_⟩
    rw [List.map_cons, PyData.depthAll]
    refine Nat.max_le.mpr ⟨?_, b⟩
    simp [PyData.depth, PyData.depthAll]
theorem sh_keys {L : List Row} (h : ∀ r ∈ L, r.Good) : shaped (.list (L.map keyD)) = true := by
  obtain ⟨a, b⟩ := lay_keys h
  unfold shaped
  rw [Bool.and_eq_true, decide_eq_true_eq]
  refine ⟨by rw [PyData.canLay0]; exact a, ?_⟩
  rw [PyData.depth]
  omega
theorem rdKl {K : PySem.W.Frag} {H : Hp} {l : Addr} {ps : List Addr} {L : List Row} (e : H l = some (.lst (ps.map V.ref))) (h : KeysOf H ps L) : RdD K H (.ref l) (.list (L.map keyD)) := .lst (SqL.of e) (rdKeys h)
theorem keysOf_at {H : Hp} {ps : List Addr} {L : List Row} (h : KeysOf H ps L) {r : Row} (hr : r ∈ L) : ∃ p ∈ ps, H p = some (.tup r.keyV) := by
  obtain ⟨i, hi, rfl⟩ := List.mem_iff_getElem.mp hr
  have hp : i < ps.length := by rw [h.1]; exact hi
  exact ⟨ps[i], List.getElem_mem hp, h.2 i _ _ (List.getElem?_eq_getElem hp) (List.getElem?_eq_getElem hi)⟩
theorem keysOf_of {H : Hp} {ps : List Addr} {L : List Row} (h : KeysOf H ps L) {p : Addr} (hp : p ∈ ps) : ∃ r ∈ L, H p = some (.tup r.keyV) := by
  obtain ⟨i, hi, rfl⟩ := List.mem_iff_getElem.mp hp
  have hr : i < L.length := by rw [← h.1]; exact hi
  exact ⟨L[i], List.getElem_mem hr, h.2 i _ _ (List.getElem?_eq_getElem hi) (List.getElem?_eq_getElem hr)⟩
theorem RowsAt.good {H : Hp} {qs : List Addr} {rs : List Row} (h : RowsAt H qs rs) : ∀ r ∈ rs, r.Good := fun r hr => by
  obtain ⟨i, hi, rfl⟩ := List.mem_iff_getElem.mp hr
  have hq : i < qs.length := by rw [h.1]; exact hi
  exact (h.2 i qs[i] rs[i] (List.getElem?_eq_getElem hq) (List.getElem?_eq_getElem hi)).1
theorem key_asked {K : PySem.W.Frag} {H : Hp} {a : Addr} {r : Row} (g : r.Good) (h : H a = some (.tup r.keyV)) : Asked K H (.ref a) := by
  refine ⟨⟨.tup, .tup h⟩, fun b xs e hb y hy => ?_⟩
  cases e
  rw [h] at hb
  cases hb
  simp only [List.mem_cons, List.not_mem_nil, or_false] at hy
  rcases hy with rfl | rfl
  · exact ⟨⟨.str, .str _⟩, word_short g.hw⟩
  · exact ⟨⟨.int, .int _⟩, fun z e => by cases e⟩
section
variable {P : Program} {w : World} {K : PySem.W.Frag} {mg : Str → Option Value} {base : Heap} {ck g cT cL cB : Addr}
abbrev sLicence_told : Stmt := inClass (top 34) 3
theorem scLicence_told : FnScope ["self"] ["self"] (defScope sLicence_told) := ⟨rfl, rfl, rfl, by decide +kernel, rfl, by decide +kernel, by decide +kernel⟩
theorem ok_ltold (c : LCls K cL) {f : Addr} {fd : FuncData} (F : Fun K "told" "Licence.told" sLicence_told f fd) : FnOk P w K mg base CX0 1 f fd ["self"] (spTL cL) := by
  refine F.ok scLicence_told (fun vs H Q E h => ?_) (fun cdv A outer s H vs Q E hr h => ?_)
  · obtain ⟨p, dx, pk, pa, r, rfl, _⟩ := h
    rfl
  · obtain ⟨p, dx, pk, pa, r, rfl, hp, q⟩ := h
    refine ⟨_, (pss_one (ps_ret (pe_tup (pa_cons (pe_fld (pv 0) rfl) (pa_cons (pe_fld (pv 0) rfl) (pa_cons (pe_fld (pv 0) rfl) (pa_cons (pe_fld (pv 0) rfl) (pa_cons (pe_fld (pv 0) rfl) (pa_cons (pe_fld (pv 0) rfl) (pa_cons (pe_fld (pv 0) rfl) (pa_cons (pe_fld (pv 0) rfl) (pa_cons (pe_fld (pv 0) rfl) (pa_cons (pe_fld (pv 0) rfl) pa_nil))))))))))))), ?_⟩
    have v := vis_l (r := r) (pk := pk) (pa := pa)
    refine ⟨_, rfl, p, cL, dx, _, _, rfl, hp, c.cl, c.key, l10_key, _, rfl, p, cL, dx, _, _, rfl, hp, c.cl, c.lets, v.lets, _, rfl, p, cL, dx, _, _, rfl, hp, c.cl, c.strings, v.strings, _, rfl, p, cL, dx, _, _, rfl, hp, c.cl, c.bars, v.bars, _, rfl, p, cL, dx, _, _, rfl, hp, c.cl, c.reach, v.reach, ?_⟩
    refine ⟨_, rfl, p, cL, dx, _, _, rfl, hp, c.cl, c.same, l10_same, _, rfl, p, cL, dx, _, _, rfl, hp, c.cl, c.asks, l10_asks, _, rfl, p, cL, dx, _, _, rfl, hp, c.cl, c.first, l10_first, _, rfl, p, cL, dx, _, _, rfl, hp, c.cl, c.last, l10_last, _, rfl, p, cL, dx, _, _, rfl, hp, c.cl, c.lasting, l10_lasting, (by show 10 ≤ sizeLine; decide), fun q1 h1 => ?_⟩
    exact q q1 _ (Same.new h1) upd_same

def DTL (cL : Addr) : Addr → Sp → Prop := fun C sp => C = cL ∧ sp = spTL cL
theorem cm_in {σ : L2.St} {i j : Nat} {H : Hp} {p a : Addr} {z1 z2 : List Str} {ys : List Addr} {rs : List Row} {r : Row} {Q : VK} (hB : BookAt cL cB H p z1 z2 ys rs) (e : σ[i]? = some (some (.ref a))) (hr : rs[j]? = some r) (ha : H a = some (.tup r.keyV))
    (q : ∀ (l : Addr) (cs : List Addr) (H' : Hp), Same H H' → H l = none → H' l = some (.lst (cs.map V.ref)) → KeysOf H' cs (covL rs r) → Q (.ref l) H') :
    ∃ a' C dx fs sp, V.ref p = .ref a' ∧ H a' = some (.ins C dx fs) ∧ fs.lookup ("coverers" : Str) = none ∧ DCM K cL cB ck C sp ∧ tCons (tVar i) tNil σ H fun vs H2 => sp (V.ref p :: vs) H2 Q E0 := by
  have hB0 := hB
  obtain ⟨⟨dx, ls, ld, dk, ob, h1, h2, h3, h4⟩, hL, nd, le⟩ := hB
  have hj : j < ys.length := by rw [hL.1]; exact (List.getElem?_eq_some_iff.mp hr).1
  have hy := List.getElem?_eq_getElem hj
  obtain ⟨gr, _⟩ := hL.2 j _ r hy hr
  exact ⟨p, cB, dx, _, spCM K cL cB ck, rfl, h1, bF_no (by decide +kernel), ⟨rfl, rfl⟩, _, e, p, .ref a, z1, z2, ys, rs, rfl, hB0, key_asked gr ha, .inl ⟨j, _, r, ⟨hy, hr, a, rfl, ha⟩, q⟩⟩
theorem lm_in {σ : L2.St} {i j : Nat} {H : Hp} {p a : Addr} {z1 z2 : List Str} {ys : List Addr} {rs : List Row} {r : Row} {Q : VK} (hB : BookAt cL cB H p z1 z2 ys rs) (e : σ[i]? = some (some (.ref a))) (hr : rs[j]? = some r) (ha : H a = some (.tup r.keyV))
    (q : ∀ (y : Addr) (H' : Hp), Same H H' → LAt cL H' y r → Q (.ref y) H') :
    ∃ a' C dx fs sp, V.ref p = .ref a' ∧ H a' = some (.ins C dx fs) ∧ fs.lookup ("licence" : Str) = none ∧ DLM K cL cB ck C sp ∧ tCons (tVar i) tNil σ H fun vs H2 => sp (V.ref p :: vs) H2 Q E0 := by
  have hB0 := hB
  obtain ⟨⟨dx, ls, ld, dk, ob, h1, h2, h3, h4⟩, hL, nd, le⟩ := hB
  have hj : j < ys.length := by rw [hL.1]; exact (List.getElem?_eq_some_iff.mp hr).1
  have hy := List.getElem?_eq_getElem hj
  obtain ⟨gr, lr⟩ := hL.2 j _ r hy hr
  exact ⟨p, cB, dx, _, spLM K cL cB ck, rfl, h1, bF_no (by decide +kernel), ⟨rfl, rfl⟩, _, e, p, .ref a, z1, z2, ys, rs, rfl, hB0, key_asked gr ha, .inl ⟨j, _, r, ⟨hy, hr, a, rfl, ha⟩, fun H' s' => q _ H' s' (lr.same s')⟩⟩
def spCG (cL cB : Addr) : Sp := fun vs H Q _ => ∃ (p lr lk : Addr) (qs ps ys : List Addr) (rs : List Row) (z1 z2 : List Str), vs = [.ref p, .ref lr, .ref lk] ∧ BookAt cL cB H p z1 z2 ys rs ∧ H lr = some (.lst (qs.map V.ref)) ∧ RowsAt H qs rs ∧ H lk = some (.lst (ps.map V.ref)) ∧ KeysOf H ps rs ∧ ∀ H', Same H H' → Q (.bl true) H'
abbrev s_law_covers_good : Stmt := top 58
abbrev nCG : List Str := ["_law_book_here", "_law_rows", "_law_keys_here", "_law_k", "_law_key", "_law_due", "_law_other"]
theorem sc_law_covers_good : FnScope nCG ["_law_book_here", "_law_rows", "_law_keys_here"] (defScope s_law_covers_good) := ⟨rfl, rfl, rfl, by decide +kernel, rfl, by decide +kernel, by decide +kernel⟩
theorem ok_cg (T : Txt mg) (lc : LCls K cL) (F_fault : FnAt P w K mg base "_law_fault" 2 ["_law_one", "_law_other"] spLF) (ML : ∀ C sp, DLM K cL cB ck C sp → MethD P w K mg base (CXR P w) 3 C "licence" ["self", "key"] sp) (MC : ∀ C sp, DCM K cL cB ck C sp → MethD P w K mg base (CXR P w) 6 C "coverers" ["self", "key"] sp) (MT : ∀ C sp, DTL cL C sp → MethD P w K mg base CX0 1 C "told" ["self"] sp)
    (F : TopFn K mg "_law_covers_good" s_law_covers_good ["_law_book_here", "_law_rows", "_law_keys_here"]) : FnAt P w K mg base "_law_covers_good" 8 ["_law_book_here", "_law_rows", "_law_keys_here"] (spCG cL cB) := by
  refine F.at sc_law_covers_good (fun vs H Q E h => ?_) (fun f cdv A outer s H vs Q E hr h => ?_)
  · obtain ⟨p, lr, lk, qs, ps, ys, rs, z1, z2, rfl, _⟩ := h
    rfl
  · obtain ⟨p, lr, lk, qs, ps, ys, rs, z1, z2, rfl, hB, hlr, hR, hlk, hK, q⟩ := h
    have hu2 := room2 hr
    refine ⟨_, (pss_cons (ps_for PassesOwn.never rfl (pi_enum rfl T.n_enumerate (pa_cons (pv 2) pa_nil)) (pg_tup rfl (pgs_cons (pg_name (i := 3) sc_law_covers_good.nd rfl (by first | exact Or.inl rfl | exact Or.inr rfl)) (pgs_cons (pg_name (i := 4) sc_law_covers_good.nd rfl (by first | exact Or.inl rfl | exact Or.inr rfl)) pgs_nil)))
        (pss_cons (ps_set (i := 5) sc_law_covers_good.nd rfl (by first | exact Or.inl rfl | exact Or.inr rfl) (pe_comp (sc := defScope s_law_covers_good) (N0 := nCG) (xs := ["_law_other"]) (ys := ["_law_rows", "_law_k"]) (js := [1, 3]) ⟨rfl, by decide +kernel, by decide +kernel, by decide +kernel, by decide +kernel⟩ rfl (pi_list (pv 1)) (fun _ _ _ _ => (pg_name (i := 0) (show (["_law_other", "_law_rows", "_law_k"] : List Str).Nodup by decide +kernel) rfl (by first | exact Or.inl rfl | exact Or.inr rfl))) (fun _ _ _ _ => pq_one (pt_cmp (pc_isN (pe_fn F_fault hr (by decide) rfl (pa_cons (pv 0) (pa_cons (pe_ix (ix_listK K rfl) (pv 1) (pv 2) (fun _ _ => rfl)) pa_nil)))))) (fun _ _ _ _ => (pe_ix (ix_tupK K rfl) (pv 0) pe_int (fun _ _ => rfl)))))
        (pss_cons (ps_if (PW.pt (pw_or (pt_cmpR (op_neSD hr.units) (pe_methA (D := DCM K cL cB ck) (pv 0) MC (hr.mono (by decide)) pass_none (pa_cons (pv 4) pa_nil)) (pv 5) (nomark _)) (pw_or1 (pt_cmpR (op_notin_keys hu2) (pv 4) (pv 5) (by with_unfolding_all rfl))))) (pss_one (ps_ret pe_bl)) pss_nil)
        (pss_cons (ps_for PassesOwn.never rfl (pi_list (pv 5)) (pg_name (i := 6) sc_law_covers_good.nd rfl (by first | exact Or.inl rfl | exact Or.inr rfl)) (pss_one (ps_if (pt_cmpR (op_neNil hr.units0) (pe_comp (sc := defScope s_law_covers_good) (N0 := nCG) (xs := ["_law_third"]) (ys := ["_law_due"]) (js := [5]) ⟨rfl, by decide +kernel, by decide +kernel, by decide +kernel, by decide +kernel⟩ rfl (pi_list (pe_methA (D := DCM K cL cB ck) (pv 0) MC (hr.mono (by decide)) pass_none (pa_cons (pv 6) pa_nil))) (fun _ _ _ _ => (pg_name (i := 0) (show (["_law_third", "_law_due"] : List Str).Nodup by decide +kernel) rfl (by first | exact Or.inl rfl | exact Or.inr rfl))) (fun _ _ _ _ => pq_one (pt_cmpR (op_notin_keysK K hu2) (pv 0) (pv 1) (by with_unfolding_all rfl))) (fun _ _ _ _ => (pv 0))) (pe_lst pa_nil) (nomark _)) (pss_one (ps_ret pe_bl)) pss_nil)))
        (pss_cons (ps_expr (pe_bm PySem.F.plainAttrs_list PySem.F.slot_list_append PySem.F.type_list_append mt_append (pe_methA (D := DCM K cL cB ck) (pv 0) MC (hr.mono (by decide)) pass_none (pa_cons (pv 4) pa_nil)) (pa_cons (pv 4) pa_nil)))
        (pss_one (ps_if (PW.pt (pw_or (pt_cmpR (op_neSD hr.units) (pe_methD (D := DTL cL) (pe_methA (D := DLM K cL cB ck) (pv 0) ML (hr.mono (by decide)) pass_none (pa_cons (pv 4) pa_nil)) MT (hr.mono (by decide)) pass0) (pe_ix ix_list (pv 1) (pv 3) (fun _ _ => rfl)) (nomark _)) (pw_or1 (pt_cmpR (op_neSD hr.units) (pe_methA (D := DCM K cL cB ck) (pv 0) MC (hr.mono (by decide)) pass_none (pa_cons (pv 4) pa_nil)) (pv 5) (nomark _))))) (pss_one (ps_ret pe_bl)) pss_nil)))))))
      (pss_one (ps_ret pe_bl))), ?_⟩
    have hs : sizeLine = 16777216 := sizeLine_eq
    have hlen : qs.length = rs.length := hR.1
    have h12 : rs.length ≤ 12 := by have := hB.lics.1; have := hB.le; omega
    have gd := hR.good
    refine ⟨_, rfl, lk, rfl, ⟨_, SqL.of hlk⟩, for_enum (K := K) (a := lk) (xs := ps.map V.ref) (fun i σ H' => (∃ v3 v4 v5 v6 : Option V, σ = [some (.ref p), some (.ref lr), some (.ref lk), v3, v4, v5, v6]) ∧ Same H H') ⟨⟨_, _, _, _, rfl⟩, Same.refl _⟩ (fun i σ H' _ h => SqL.of (h.2 _ _ hlk)) ?_ ?_⟩
    · rintro i x p2 σ H1 hx ⟨⟨v3, v4, v5, v6, rfl⟩, s1⟩ hp2
      rw [List.getElem?_map] at hx
      obtain ⟨pi, hpi, rfl⟩ := Option.map_eq_some_iff.mp hx
      have hi : i < rs.length := by rw [← hK.1]; exact (List.getElem?_eq_some_iff.mp hpi).1
      have hri : rs[i]? = some rs[i] := List.getElem?_eq_getElem hi
      have hiq : i < qs.length := by omega
      have hqi : qs[i]? = some qs[i] := List.getElem?_eq_getElem hiq
      generalize rs[i] = r at hri
      generalize qs[i] = qi at hqi
      have ei := hK.2 i pi r hpi hri
      obtain ⟨gr, rwi⟩ := hR.2 i qi r hqi hri
      refine ⟨p2, _, rfl, SqT.of upd_same, rfl, _, _, rfl, _, _, rfl, rfl, ?_⟩
      have s2 := s1.trans (Same.new (o := .tup [.int i, .ref pi]) hp2)
      generalize upd H1 p2 (.tup [.int i, .ref pi]) = H2 at s2 ⊢
      -- what is due
      refine ⟨_, rfl, lr, rfl, ⟨_, SqL.of (s2 _ _ hlr)⟩, comp_list (K := K) (a := lr) (xs := qs.map V.ref) (fun j us H' => ∃ es : List Addr, us = es.map V.ref ∧ es.length ≤ j ∧ Same H2 H' ∧ KeysOf H' es (covL (rs.take j) r)) ⟨[], rfl, Nat.le_refl _, Same.refl _, rfl, fun i p r h => by simp at h⟩ (by rw [List.length_map]; omega) ?_ ?_ ?_ ?_⟩
      · rintro j us H' ⟨es, rfl, e, _⟩
        rw [List.length_map]; exact e
      · rintro j us H' _ ⟨es, _, _, s', _⟩
        exact SqL.of (s' _ _ (s2 _ _ hlr))
      · rintro j x us H3 hx3 ⟨es, rfl, el, s3, ko⟩
        rw [List.getElem?_map] at hx3
        obtain ⟨q3, hq3, rfl⟩ := Option.map_eq_some_iff.mp hx3
        have hj : j < rs.length := by rw [← hlen]; exact (List.getElem?_eq_some_iff.mp hq3).1
        have hrj : rs[j]? = some rs[j] := List.getElem?_eq_getElem hj
        have htk : covL (rs.take (j + 1)) r = if (faultF rs[j].oL r.oL).isNone = true then covL (rs.take j) r ++ [rs[j]] else covL (rs.take j) r := by
          unfold covL
          rw [List.take_succ_eq_append_getElem hj, List.filter_append, List.filter_cons, List.filter_nil]
          split <;> simp
        generalize rs[j] = r' at hrj htk
        have S3 := s2.trans s3
        obtain ⟨gr', rwj⟩ := hR.2 j q3 r' hq3 hrj
        refine ⟨_, rfl, _, rfl, _, rfl, lr, _, _, .ref qi, rfl, rfl, SqL.of (S3 _ _ hlr), atI_nat (by rw [List.getElem?_map, hqi]; rfl), q3, qi, r'.oL, r.oL, rfl, (rwj.same S3).frow, (rwi.same S3).frow, gr'.finL, gr.finL, fun v H4 s4 fa => ⟨_, rfl, ?_⟩⟩
        rw [fa.none_iff]
        have S4 := S3.trans s4
        cases hf : (faultF r'.oL r.oL).isNone with
        | true =>
          rw [hf, if_pos rfl] at htk
          obtain ⟨pk, pa, h1, h2, h3⟩ := rwj.same S4
          refine iteT ⟨_, rfl, q3, _, _, .ref pk, rfl, rfl, SqT.of h1, rfl, es ++ [pk], by rw [List.map_append]; rfl, by rw [List.length_append, List.length_singleton]; omega, s3.trans s4, ?_⟩
          rw [htk]
          exact (ko.same s4).snoc h2
        | false =>
          rw [hf, if_neg Bool.false_ne_true] at htk
          refine iteF ⟨es, rfl, by omega, s3.trans s4, ?_⟩
          rw [htk]
          exact ko.same s4
      rintro us H3 ⟨es, rfl, el, s3, ko⟩ ld hld
      rw [List.length_map, hlen, List.take_length] at ko
      have S3 := s2.trans s3
      have fld : H ld = none := S3.free hld
      have s4 := Same.new (o := .lst (es.map V.ref)) hld
      have e4 : upd H3 ld (.lst (es.map V.ref)) ld = some (.lst (es.map V.ref)) := upd_same
      have ko4 := ko.same s4
      generalize upd H3 ld (.lst (es.map V.ref)) = H4 at s4 e4 ko4 ⊢
      have S4 := S3.trans s4
      have cg : ∀ x ∈ covL rs r, x.Good := fun x hx => gd x (List.mem_filter.mp hx).1
      have shd : shaped (.list ((covL rs r).map keyD)) = true := sh_keys cg
      have mem : r ∈ covL rs r := List.mem_filter.mpr ⟨List.mem_of_getElem? hri, cov_self gr⟩
      have all : ∀ {H' : Hp}, KeysOf H' es (covL rs r) → ∀ a ∈ es, ∃ w n, H' a = some (.tup [.str w, .int n]) := fun k a ha => by
        obtain ⟨x, _, e⟩ := keysOf_of k ha
        exact ⟨_, _, e⟩
      refine ⟨_, rfl, cm_in (hB.same S4) rfl hri (S4 _ _ ei) fun lc cs H5 s5 hlc ec kc => ⟨_, rfl, _, rdKl ec kc, rdKl (s5 _ _ e4) (ko4.same s5), shd, _, rfl, iteF ?_⟩⟩
      have S5 := S4.trans s5
      have ko5 := ko4.same s5
      have e5 := s5 _ _ e4
      refine ⟨_, rfl, _, rfl, ld, pi, es, r.w, r.n, rfl, rfl, SqL.of e5, S5 _ _ ei, all ko5, fun b hb => ⟨_, rfl, ?_⟩⟩
      obtain ⟨pr, hpr, epr⟩ := keysOf_at ko5 mem
      rw [hb.mpr ⟨pr, hpr, epr⟩]
      refine iteF ?_
      -- and what covers that
      refine ⟨_, rfl, ld, rfl, ⟨_, SqL.of e5⟩, for_list (K := K) (a := ld) (xs := es.map V.ref) (fun j σ H' => (∃ v6 : Option V, σ = [some (.ref p), some (.ref lr), some (.ref lk), some (.int i), some (.ref pi), some (.ref ld), v6]) ∧ Same H5 H') ⟨⟨_, rfl⟩, Same.refl _⟩ (fun j σ H' _ h => SqL.of (h.2 _ _ e5)) ?_ ?_⟩
      · rintro j x σ H6 hx6 ⟨⟨v6', rfl⟩, s6⟩
        rw [List.getElem?_map] at hx6
        obtain ⟨ej, hej, rfl⟩ := Option.map_eq_some_iff.mp hx6
        have S6 := S5.trans s6
        have ko6 := ko5.same s6
        obtain ⟨rj, hrj, erj⟩ := keysOf_of ko6 (List.mem_of_getElem? hej)
        obtain ⟨hin, hcv⟩ := List.mem_filter.mp hrj
        obtain ⟨m, hm, em⟩ := List.mem_iff_getElem.mp hin
        have hrm : rs[m]? = some rj := by rw [List.getElem?_eq_getElem hm, em]
        have grj := gd rj hin
        refine ⟨_, rfl, cm_in (hB.same S6) rfl hrm erj fun lc cs H7 s7 hlc ec kc => ?_⟩
        have ko7 := ko6.same s7
        refine ⟨lc, rfl, ⟨_, SqL.of ec⟩, comp_list (K := K) (a := lc) (xs := cs.map V.ref) (fun n us H' => us = [] ∧ H' = H7) ⟨rfl, rfl⟩ (by
          rw [List.length_map, kc.1]
          have : (covL rs rj).length ≤ rs.length := List.length_filter_le _ _
          omega) ?_ ?_ ?_ ?_⟩
        · rintro n us H' ⟨rfl, _⟩
          exact Nat.zero_le _
        · rintro n us H' _ ⟨_, rfl⟩
          exact SqL.of ec
        · rintro n x us H' hx8 ⟨rfl, rfl⟩
          rw [List.getElem?_map] at hx8
          obtain ⟨cn, hcn, rfl⟩ := Option.map_eq_some_iff.mp hx8
          obtain ⟨rn, hrn, ern⟩ := keysOf_of kc (List.mem_of_getElem? hcn)
          obtain ⟨hin2, hcv2⟩ := List.mem_filter.mp hrn
          have grn := gd rn hin2
          have inn : rn ∈ covL rs r := List.mem_filter.mpr ⟨hin2, cov_trans grn.fine grj.fine gr.fine hcv2 hcv⟩
          refine ⟨_, rfl, _, rfl, ld, cn, es, rn.w, rn.n, rfl, rfl, SqL.of (s7 _ _ (s6 _ _ e5)), ern, all ko7, fun b hb => ⟨_, rfl, ?_⟩⟩
          obtain ⟨pr2, hpr2, epr2⟩ := keysOf_at ko7 inn
          rw [hb.mpr ⟨pr2, hpr2, epr2⟩]
          exact iteF ⟨rfl, rfl⟩
        · rintro us H' ⟨rfl, rfl⟩ l1 hl1
          have s8 := Same.new (o := .lst []) hl1
          have e8 : upd H' l1 (.lst []) l1 = some (.lst []) := upd_same
          generalize upd H' l1 (.lst []) = H8 at s8 e8 ⊢
          refine ⟨(by show 0 ≤ sizeLine; decide), fun l2 hl2 => ?_⟩
          have s9 := Same.new (o := .lst []) hl2
          have e9 : upd H8 l2 (.lst []) l2 = some (.lst []) := upd_same
          generalize upd H8 l2 (.lst []) = H9 at s9 e9 ⊢
          exact ⟨l1, l2, [], rfl, rfl, SqL.of (s9 _ _ e8), SqL.of e9, _, rfl, iteF ⟨⟨_, rfl⟩, ((s6.trans s7).trans s8).trans s9⟩⟩
      rintro σ H6 ⟨⟨v6', rfl⟩, s6⟩
      have S6 := S5.trans s6
      have e6 := s6 _ _ e5
      refine ⟨_, rfl, cm_in (hB.same S6) rfl hri (S6 _ _ ei) fun lc cs H7 s7 hlc ec kc => ?_⟩
      have S7 := S6.trans s7
      have nlc : H lc = none := S6.free hlc
      have nlc6 : ld ≠ lc := ne_of_none e6 hlc
      refine ⟨.inl ⟨rfl, _, SqL.of ec⟩, _, rfl, lc, _, _, rfl, rfl, ec, (by
        rw [List.length_map, kc.1]
        have : (covL rs r).length ≤ rs.length := List.length_filter_le _ _
        omega), ?_⟩
      have S8 : Same H6 (upd H7 lc (.lst (cs.map V.ref ++ [.ref pi]))) := fun b o e => by rw [upd_ne (ne_of_none e hlc)]; exact s7 _ _ e
      generalize upd H7 lc (.lst (cs.map V.ref ++ [.ref pi])) = H8 at S8 ⊢
      have T8 := S6.trans S8
      have ko8 := (ko5.same s6).same S8
      have e8 := S8 _ _ e6
      refine ⟨_, rfl, lm_in (hB.same T8) rfl hri (T8 _ _ ei) fun y H9 s9 ly => ?_⟩
      have T9 := T8.trans s9
      obtain ⟨dx, pk, pa, i1, i2, i3⟩ := ly
      refine ⟨y, cL, dx, _, spTL cL, rfl, i1, ?_, ⟨rfl, rfl⟩, y, dx, pk, pa, r, rfl, i1, fun tq H10 s10 et => ?_⟩
      · exact (l10_t4 (by decide +kernel)).trans (t4_no (by decide +kernel))
      have T10 := T9.trans s10
      obtain ⟨pk', pa', w1, w2, w3⟩ := rwi.same T10
      refine ⟨_, rfl, _, rfl, lr, _, _, .ref qi, rfl, rfl, SqL.of (T10 _ _ hlr), atI_nat (by rw [List.getElem?_map, hqi]; rfl), _, rdR et (s10 _ _ i2) (s10 _ _ i3), rdR w1 w2 w3, shp gr, _, rfl, iteF ?_⟩
      refine ⟨_, rfl, cm_in (hB.same T10) rfl hri (T10 _ _ ei) fun lc2 cs2 H11 s11 hlc2 ec2 kc2 => ⟨_, rfl, _, rdKl ec2 kc2, rdKl (s11 _ _ (s10 _ _ (s9 _ _ e8))) (((ko8.same s9).same s10).same s11), shd, _, rfl, iteF ⟨⟨_, _, _, _, rfl⟩, T10.trans s11⟩⟩⟩
    · rintro σ H1 ⟨⟨v3, v4, v5, v6, rfl⟩, s1⟩
      exact q _ s1
end
end K14
namespace L2
open PySem PySem.Spec PyProof.Rows
theorem kit_tup_list {K : PySem.W.Frag} : PySem.W.kitOne K (.type "tuple") (.type "list") = some false := kit_ty (by decide +kernel) (by decide +kernel) (by decide +kernel)
theorem kit_list {K : PySem.W.Frag} {k : Kd} : PySem.W.kitOne K (.type k.nm) (.type "list") = some (decide (k = .lst)) := by
  cases k <;> first | exact kit_same | exact kit_tup_list | exact kit_none_list | exact kit_bool_list | exact kit_int_list | exact kit_str_list | exact kit_dict_list
theorem call_list_ofK {X : Cx} (K : PySem.W.Frag) (hK : X.K = K := by rfl) : CallR X (.type "list") (fun xs H Q => ∃ p ys, xs = [.ref p] ∧ (SqL K H p ys ∨ SqT K H p ys) ∧ ∀ l, H l = none → Q (.ref l) (upd H l (.lst ys))) := by
  subst hK
  exact call_list_of
end L2
namespace K14
open PySem L2 PyProof.Rows PySem.SeqAt
theorem kd_plain {K : PySem.W.Frag} {H : Hp} {x : V} {k : Kd} (h : KdOf K H x k) : Plain x := by
  have h : TyOf K H x (.type k.nm) := h
  generalize hT : Value.type k.nm = T at h
  cases h <;> first | trivial | (cases k <;> exact absurd (Value.type.inj hT) (by decide))
structure Thing (K : PySem.W.Frag) (H : Hp) (x : V) : Prop where
  as : Asked K H x
  eq : ∃ e, EqK K H x e
theorem Thing.same {K : PySem.W.Frag} {H H' : Hp} {x : V} (h : Thing K H x) (s : Same H H') : Thing K H' x := ⟨h.as.same s, let ⟨e, he⟩ := h.eq; ⟨e, he.same s⟩⟩
theorem Thing.flat {K : PySem.W.Frag} {H : Hp} {x : V} {k : Kd} (kd : KdOf K H x k) (f : flatV x = true) : Thing K H x := ⟨⟨⟨k, kd⟩, fun a xs e => by subst e; exact absurd (show false = true from f) Bool.false_ne_true⟩, _, .flat f⟩
theorem Thing.lst {K : PySem.W.Frag} {H : Hp} {a : Addr} {ys : List V} (h : H a = some (.lst ys)) : Thing K H (.ref a) := ⟨⟨⟨.lst, .lst h⟩, fun b xs e hb => by cases e; rw [h] at hb; cases hb⟩, _, .lst h⟩
theorem Thing.dct {K : PySem.W.Frag} {H : Hp} {a : Addr} (h : H a = some (.dK [])) : Thing K H (.ref a) := ⟨⟨⟨.dct, .dK h⟩, fun b xs e hb => by cases e; rw [h] at hb; cases hb⟩, _, .dct h⟩
theorem Thing.tup {K : PySem.W.Frag} {H : Hp} {a : Addr} {vs : List V} (h : H a = some (.tup vs)) (hv : ∀ v ∈ vs, (Arg K H v ∧ Short v) ∧ ItemOk K H v) : Thing K H (.ref a) := ⟨⟨⟨.tup, .tup h⟩, fun b xs e hb => by cases e; rw [h] at hb; cases hb; exact fun y hy => (hv y hy).1⟩, _, .tup h fun v hm => (hv v hm).2⟩
theorem part_str {K : PySem.W.Frag} {H : Hp} {z : Str} (h : z.length ≤ 1000) : (Arg K H (.str z) ∧ Short (.str z)) ∧ ItemOk K H (.str z) := ⟨⟨⟨.str, .str _⟩, fun y e => by cases e; exact h⟩, .inl rfl⟩
theorem part_int {K : PySem.W.Frag} {H : Hp} {i : Int} : (Arg K H (.int i) ∧ Short (.int i)) ∧ ItemOk K H (.int i) := ⟨⟨⟨.int, .int _⟩, fun y e => by cases e⟩, .inl rfl⟩
theorem part_bl {K : PySem.W.Frag} {H : Hp} {b : Bool} : (Arg K H (.bl b) ∧ Short (.bl b)) ∧ ItemOk K H (.bl b) := ⟨⟨⟨.bl, .bl _⟩, fun y e => by cases e⟩, .inl rfl⟩
theorem part_lst {K : PySem.W.Frag} {H : Hp} {a : Addr} {ys : List V} (h : H a = some (.lst ys)) : (Arg K H (.ref a) ∧ Short (.ref a)) ∧ ItemOk K H (.ref a) := ⟨⟨⟨.lst, .lst h⟩, fun y e => by cases e⟩, .inr ⟨a, ys, rfl, SqL.of h⟩⟩
theorem kd_lst_no {K : PySem.W.Frag} {H : Hp} {x : V} (h : KdOf K H x .lst) {a : Addr} {xs : List V} (e : x = .ref a) : H a ≠ some (.tup xs) := fun ha => by
  subst e
  have h : TyOf K H (.ref a) (.type "list") := h
  generalize hT : Value.type "list" = T at h
  cases h with
  | lst z => rw [ha] at z; cases z
  | frz z => rw [ha] at z; cases z
  | tup z => exact absurd (Value.type.inj hT) (by decide)
  | dK z => rw [ha] at z; cases z
  | dT z => rw [ha] at z; cases z
  | ins z => cases hT
def spNK (cL cB : Addr) : Sp := fun vs H Q _ => ∃ (p lk : Addr) (ps ys : List Addr) (rs : List Row) (z1 z2 : List Str), vs = [.ref p, .ref lk] ∧ BookAt cL cB H p z1 z2 ys rs ∧ H lk = some (.lst (ps.map V.ref)) ∧ KeysOf H ps rs ∧ (∀ r ∈ rs, r.Good) ∧ ∀ H', Same H H' → Q (.bl true) H'
section
variable {P : Program} {w : World} {K : PySem.W.Frag} {mg : Str → Option Value} {base : Heap} {ck g cT cL cB : Addr}
abbrev s_law_no_keys : Stmt := top 57
abbrev nNK : List Str := ["_law_book_here", "_law_keys_here", "_law_strange", "_law_some", "_law_thing", "_law_due", "_law_truth"]
theorem sc_law_no_keys : FnScope nNK ["_law_book_here", "_law_keys_here"] (defScope s_law_no_keys) := ⟨rfl, rfl, rfl, by decide +kernel, rfl, by decide +kernel, by decide +kernel⟩
theorem ok_nk (T : Txt mg) (F_ref : FnAt P w K mg base "_law_refused" 8 ["_law_book_here", "_law_thing", "_law_way"] (spRef K cL cB)) (F : TopFn K mg "_law_no_keys" s_law_no_keys ["_law_book_here", "_law_keys_here"]) : FnAt P w K mg base "_law_no_keys" 9 ["_law_book_here", "_law_keys_here"] (spNK cL cB) := by
  refine F.at sc_law_no_keys (fun vs H Q E h => ?_) (fun f cdv A outer s H vs Q E hr h => ?_)
  · obtain ⟨p, lk, ps, ys, rs, z1, z2, rfl, _⟩ := h
    rfl
  · obtain ⟨p, lk, ps, ys, rs, z1, z2, rfl, hB, hlk, hK, gd, q⟩ := h
    have hu2 := room2 hr
    have hu4 : (A.deeper (envOfC "_law_no_keys" (defScope s_law_no_keys) s.heap.objs.size f cdv)).units + 4 < cLine := by have := hr.units; omega
    refine ⟨_, (@pss_cons _ _ _ _ _ (@ps_set _ _ (2) _ _ _ _ sc_law_no_keys.nd rfl (by first | exact Or.inl rfl | exact Or.inr rfl) (@pe_tup _ _ _ _ _ (@pa_cons _ _ _ _ _ (@pe_str _ _ _ _) (@pa_cons _ _ _ _ _ (@pe_int _ _ _ _) (@pa_nil _) (by rfl)) (by rfl))) (by rfl) (by first | exact .inl rfl | exact .inr rfl | assumption)) (@pss_cons _ _ _ _ _ (@ps_mid _ _ _ (@ps_if _ _ _ _ _ _ _ _ (@pt_cmpR _ _ _ _ _ _ _ _ (op_in_keys hu2) (@pv _ 2 _ _ (by rfl) (by first | exact Or.inl rfl | exact Or.inr (Or.inl rfl) | exact Or.inr (Or.inr rfl)) (by decide) (by decide)) (@pv _ 1 _ _ (by rfl) (by first | exact Or.inl rfl | exact Or.inr (Or.inl rfl) | exact Or.inr (Or.inr rfl)) (by decide) (by decide)) (by with_unfolding_all rfl)) (@pss_one _ _ _ (@ps_set _ _ (2) _ _ _ _ sc_law_no_keys.nd rfl (by first | exact Or.inl rfl | exact Or.inr rfl) (@pe_tup _ _ _ _ _ (@pa_cons _ _ _ _ _ (@pe_str _ _ _ _) (@pa_cons _ _ _ _ _ (@pe_int _ _ _ _) (@pa_nil _) (by rfl)) (by rfl))) (by rfl) (by first | exact .inl rfl | exact .inr rfl | assumption))) (@pss_nil _))) (@pss_cons _ _ _ _ _ (@ps_set _ _ (3) _ _ _ _ sc_law_no_keys.nd rfl (by first | exact Or.inl rfl | exact Or.inr rfl) (@pe_lst _ _ _ _ (@pa_cons _ _ _ _ _ (@pv _ 2 _ _ (by rfl) (by first | exact Or.inl rfl | exact Or.inr (Or.inl rfl) | exact Or.inr (Or.inr rfl)) (by decide) (by decide)) (@pa_cons _ _ _ _ _ (@pe_non _ _ _) (@pa_cons _ _ _ _ _ (@pe_bl _ _ _ _) (@pa_cons _ _ _ _ _ (@pe_int _ _ _ _) (@pa_cons _ _ _ _ _ (@pe_str _ _ _ _) (@pa_cons _ _ _ _ _ (@pe_lst _ _ _ _ (@pa_nil _)) (@pa_cons _ _ _ _ _ (@pe_dnewK _ _) (@pa_cons _ _ _ _ _ (@pe_tup _ _ _ _ _ (@pa_cons _ _ _ _ _ (@pe_str _ _ _ _) (@pa_nil _) (by rfl))) (@pa_cons _ _ _ _ _ (@pe_tup _ _ _ _ _ (@pa_cons _ _ _ _ _ (@pe_str _ _ _ _) (@pa_cons _ _ _ _ _ (@pe_bl _ _ _ _) (@pa_nil _) (by rfl)) (by rfl))) (@pa_cons _ _ _ _ _ (@pe_tup _ _ _ _ _ (@pa_cons _ _ _ _ _ (@pe_str _ _ _ _) (@pa_cons _ _ _ _ _ (@pe_int _ _ _ _) (@pa_cons _ _ _ _ _ (@pe_int _ _ _ _) (@pa_nil _) (by rfl)) (by rfl)) (by rfl))) (@pa_cons _ _ _ _ _ (@pe_tup _ _ _ _ _ (@pa_cons _ _ _ _ _ (@pe_lst _ _ _ _ (@pa_nil _)) (@pa_cons _ _ _ _ _ (@pe_int _ _ _ _) (@pa_nil _) (by rfl)) (by rfl))) (@pa_cons _ _ _ _ _ (@pe_tup _ _ _ _ _ (@pa_cons _ _ _ _ _ (@pe_lst _ _ _ _ (@pa_cons _ _ _ _ _ (@pe_str _ _ _ _) (@pa_nil _) (by rfl))) (@pa_cons _ _ _ _ _ (@pe_int _ _ _ _) (@pa_nil _) (by rfl)) (by rfl))) (@pa_nil _) (by rfl)) (by rfl)) (by rfl)) (by rfl)) (by rfl)) (by rfl)) (by rfl)) (by rfl)) (by rfl)) (by rfl)) (by rfl)) (by rfl))) (by rfl) (by first | exact .inl rfl | exact .inr rfl | assumption)) (@pss_cons _ _ _ _ _ (@ps_for _ _ _ _ _ _ _ _ PassesOwn.never rfl (@pi_list _ _ _ _ (@pe_op _ _ _ _ _ _ _ _ op_cat (@pv _ 3 _ _ (by rfl) (by first | exact Or.inl rfl | exact Or.inr (Or.inl rfl) | exact Or.inr (Or.inr rfl)) (by decide) (by decide)) (@pe_comp _ _ (defScope s_law_no_keys) (nNK) (["_law_key"]) ([]) ([]) _ _ _ _ _ _ _ _ _ ⟨rfl, by decide +kernel, by decide +kernel, by decide +kernel, by decide +kernel⟩ rfl (@pi_list _ _ _ _ (@pv _ 1 _ _ (by rfl) (by first | exact Or.inl rfl | exact Or.inr (Or.inl rfl) | exact Or.inr (Or.inr rfl)) (by decide) (by decide))) (fun _ _ _ _ => (@pg_name _ _ (0) _ (show (["_law_key"] : List Str).Nodup by decide +kernel) rfl (by first | exact Or.inl rfl | exact Or.inr rfl) (by first | exact .inl rfl | exact .inr rfl | assumption))) (fun _ _ _ _ => (@pq_nil _)) (fun _ _ _ _ => (@pe_callTy _ _ _ _ _ _ _ _ _ (call_list_ofK K) rfl T.n_list boot_list (@pa_cons _ _ _ _ _ (@pv _ 0 _ _ (by rfl) (by first | exact Or.inl rfl | exact Or.inr (Or.inl rfl) | exact Or.inr (Or.inr rfl)) (by decide) (by decide)) (@pa_nil _) (by rfl)) (by decide) (by decide) (by rfl) (by rfl))) (by rfl) (by rfl) (by intro _; rfl)))) (@pg_name _ _ (4) _ sc_law_no_keys.nd rfl (by first | exact Or.inl rfl | exact Or.inr rfl) (by first | exact .inl rfl | exact .inr rfl | assumption)) (@pss_cons _ _ _ _ _ (@ps_set _ _ (5) _ _ _ _ sc_law_no_keys.nd rfl (by first | exact Or.inl rfl | exact Or.inr rfl) (@pe_tup _ _ _ _ _ (@pa_cons _ _ _ _ _ (@pe_str _ _ _ _) (@pa_cons _ _ _ _ _ (@pv _ 4 _ _ (by rfl) (by first | exact Or.inl rfl | exact Or.inr (Or.inl rfl) | exact Or.inr (Or.inr rfl)) (by decide) (by decide)) (@pa_cons _ _ _ _ _ (@pe_callB _ _ _ _ _ _ _ _ _ (call_isKd .bl (by simp)) rfl T.n_isinstance boot_isinstance (@pa_cons _ _ _ _ _ (@pv _ 4 _ _ (by rfl) (by first | exact Or.inl rfl | exact Or.inr (Or.inl rfl) | exact Or.inr (Or.inr rfl)) (by decide) (by decide)) (@pa_cons _ _ _ _ _ (@pe_bltn _ _ (.ty "bool") _ _ rfl T.n_bool boot_bool rfl (by decide) (by decide)) (@pa_nil _) (by rfl)) (by rfl)) (by decide) (by decide) (by rfl) (by rfl)) (@pa_cons _ _ _ _ _ (@pe_bl _ _ _ _) (@pa_nil _) (by rfl)) (by rfl)) (by rfl)) (by rfl))) (by rfl) (by first | exact .inl rfl | exact .inr rfl | assumption)) (@pss_one _ _ _ (@ps_if _ _ _ _ _ _ _ _ (@PW.pt _ _ _ (@pw_or _ _ _ _ _ _ _ (@pt_cmpR _ _ _ _ _ _ _ _ (op_notin_any hu4) (@pv _ 4 _ _ (by rfl) (by first | exact Or.inl rfl | exact Or.inr (Or.inl rfl) | exact Or.inr (Or.inr rfl)) (by decide) (by decide)) (@pv _ 1 _ _ (by rfl) (by first | exact Or.inl rfl | exact Or.inr (Or.inl rfl) | exact Or.inr (Or.inr rfl)) (by decide) (by decide)) (by with_unfolding_all rfl)) (@pw_or1 _ _ _ _ (@pt_val _ _ _ (@pe_callB _ _ _ _ _ _ _ _ _ call_isinst rfl T.n_isinstance boot_isinstance (@pa_cons _ _ _ _ _ (@pv _ 4 _ _ (by rfl) (by first | exact Or.inl rfl | exact Or.inr (Or.inl rfl) | exact Or.inr (Or.inr rfl)) (by decide) (by decide)) (@pa_cons _ _ _ _ _ (@pe_bltn _ _ (.ty "list") _ _ rfl T.n_list boot_list rfl (by decide) (by decide)) (@pa_nil _) (by rfl)) (by rfl)) (by decide) (by decide) (by rfl) (by rfl)) (by intro _; rfl))))) (@pss_one _ _ _ (@ps_if _ _ _ _ _ _ _ _ (@PW.pt _ _ _ (@pw_or _ _ _ _ _ _ _ (@pt_cmpR _ _ _ _ _ _ _ _ (op_neTupLike hu2) (@pe_fn _ _ _ _ _ _ _ _ _ _ _ F_ref hr (by decide) rfl (@pa_cons _ _ _ _ _ (@pv _ 0 _ _ (by rfl) (by first | exact Or.inl rfl | exact Or.inr (Or.inl rfl) | exact Or.inr (Or.inr rfl)) (by decide) (by decide)) (@pa_cons _ _ _ _ _ (@pv _ 4 _ _ (by rfl) (by first | exact Or.inl rfl | exact Or.inr (Or.inl rfl) | exact Or.inr (Or.inr rfl)) (by decide) (by decide)) (@pa_cons _ _ _ _ _ (@pe_int _ _ _ _) (@pa_nil _) (by rfl)) (by rfl)) (by rfl)) (by decide) (by rfl) (by rfl)) (@pv _ 5 _ _ (by rfl) (by first | exact Or.inl rfl | exact Or.inr (Or.inl rfl) | exact Or.inr (Or.inr rfl)) (by decide) (by decide)) (@nomark _ _ (by decide) (by decide))) (@pw_or1 _ _ _ _ (@pt_cmpR _ _ _ _ _ _ _ _ (op_neTupLike hu2) (@pe_fn _ _ _ _ _ _ _ _ _ _ _ F_ref hr (by decide) rfl (@pa_cons _ _ _ _ _ (@pv _ 0 _ _ (by rfl) (by first | exact Or.inl rfl | exact Or.inr (Or.inl rfl) | exact Or.inr (Or.inr rfl)) (by decide) (by decide)) (@pa_cons _ _ _ _ _ (@pv _ 4 _ _ (by rfl) (by first | exact Or.inl rfl | exact Or.inr (Or.inl rfl) | exact Or.inr (Or.inr rfl)) (by decide) (by decide)) (@pa_cons _ _ _ _ _ (@pe_int _ _ _ _) (@pa_nil _) (by rfl)) (by rfl)) (by rfl)) (by decide) (by rfl) (by rfl)) (@pv _ 5 _ _ (by rfl) (by first | exact Or.inl rfl | exact Or.inr (Or.inl rfl) | exact Or.inr (Or.inr rfl)) (by decide) (by decide)) (@nomark _ _ (by decide) (by decide)))))) (@pss_one _ _ _ (@ps_ret _ _ _ _ (@pe_bl _ _ _ _))) (@pss_nil _))) (@pss_nil _)))) (by intro _; rfl)) (@pss_cons _ _ _ _ _ (@ps_if _ _ _ _ _ _ _ _ (@pt_cmpR _ _ _ _ _ _ _ _ (op_eqNil hr.units0) (@pv _ 1 _ _ (by rfl) (by first | exact Or.inl rfl | exact Or.inr (Or.inl rfl) | exact Or.inr (Or.inr rfl)) (by decide) (by decide)) (@pe_lst _ _ _ _ (@pa_nil _)) (@nomark _ _ (by decide) (by decide))) (@pss_one _ _ _ (@ps_ret _ _ _ _ (@pe_bl _ _ _ _))) (@pss_nil _)) (@pss_cons _ _ _ _ _ (@ps_set _ _ (6) _ _ _ _ sc_law_no_keys.nd rfl (by first | exact Or.inl rfl | exact Or.inr rfl) (@pe_tup _ _ _ _ _ (@pa_cons _ _ _ _ _ (@pe_ix _ _ _ _ _ _ _ ix_tup (@pe_ix _ _ _ _ _ _ _ ix_list (@pv _ 1 _ _ (by rfl) (by first | exact Or.inl rfl | exact Or.inr (Or.inl rfl) | exact Or.inr (Or.inr rfl)) (by decide) (by decide)) (@pe_int _ _ _ _) (fun _ _ => rfl)) (@pe_int _ _ _ _) (fun _ _ => rfl)) (@pa_cons _ _ _ _ _ (@pe_ix _ _ _ _ _ _ _ ix_list (@pe_lst _ _ _ _ (@pa_cons _ _ _ _ _ (@pe_bl _ _ _ _) (@pa_cons _ _ _ _ _ (@pe_bl _ _ _ _) (@pa_nil _) (by rfl)) (by rfl))) (@pe_callTy _ _ _ _ _ _ _ _ _ call_int1 rfl T.n_int boot_int (@pa_cons _ _ _ _ _ (@pe_cmpR _ _ _ _ _ _ _ _ op_eq (@pe_ix _ _ _ _ _ _ _ ix_tup (@pe_ix _ _ _ _ _ _ _ ix_list (@pv _ 1 _ _ (by rfl) (by first | exact Or.inl rfl | exact Or.inr (Or.inl rfl) | exact Or.inr (Or.inr rfl)) (by decide) (by decide)) (@pe_int _ _ _ _) (fun _ _ => rfl)) (@pe_int _ _ _ _) (fun _ _ => rfl)) (@pe_int _ _ _ _) (@nomark _ _ (by decide) (by decide))) (@pa_nil _) (by rfl)) (by decide) (by decide) (by rfl) (by rfl)) (fun _ _ => rfl)) (@pa_nil _) (by rfl)) (by rfl))) (by rfl) (by first | exact .inl rfl | exact .inr rfl | assumption)) (@pss_cons _ _ _ _ _ (@ps_set _ _ (5) _ _ _ _ sc_law_no_keys.nd rfl (by first | exact Or.inl rfl | exact Or.inr rfl) (@pe_tup _ _ _ _ _ (@pa_cons _ _ _ _ _ (@pe_str _ _ _ _) (@pa_cons _ _ _ _ _ (@pv _ 6 _ _ (by rfl) (by first | exact Or.inl rfl | exact Or.inr (Or.inl rfl) | exact Or.inr (Or.inr rfl)) (by decide) (by decide)) (@pa_cons _ _ _ _ _ (@pe_bl _ _ _ _) (@pa_cons _ _ _ _ _ (@pe_bl _ _ _ _) (@pa_nil _) (by rfl)) (by rfl)) (by rfl)) (by rfl))) (by rfl) (by first | exact .inl rfl | exact .inr rfl | assumption)) (@pss_one _ _ _ (@ps_ret _ _ _ _ (@pe_or _ _ _ _ _ _ _ (@pe_cmpR _ _ _ _ _ _ _ _ op_gt (@pe_ix _ _ _ _ _ _ _ ix_tup (@pe_ix _ _ _ _ _ _ _ ix_list (@pv _ 1 _ _ (by rfl) (by first | exact Or.inl rfl | exact Or.inr (Or.inl rfl) | exact Or.inr (Or.inr rfl)) (by decide) (by decide)) (@pe_int _ _ _ _) (fun _ _ => rfl)) (@pe_int _ _ _ _) (fun _ _ => rfl)) (@pe_int _ _ _ _) (@nomark _ _ (by decide) (by decide))) (@pe_one _ _ _ _ _ (@pe_and _ _ _ _ _ _ _ (@pe_cmpR _ _ _ _ _ _ _ _ (op_eqTupLike hu2) (@pe_fn _ _ _ _ _ _ _ _ _ _ _ F_ref hr (by decide) rfl (@pa_cons _ _ _ _ _ (@pv _ 0 _ _ (by rfl) (by first | exact Or.inl rfl | exact Or.inr (Or.inl rfl) | exact Or.inr (Or.inr rfl)) (by decide) (by decide)) (@pa_cons _ _ _ _ _ (@pv _ 6 _ _ (by rfl) (by first | exact Or.inl rfl | exact Or.inr (Or.inl rfl) | exact Or.inr (Or.inr rfl)) (by decide) (by decide)) (@pa_cons _ _ _ _ _ (@pe_int _ _ _ _) (@pa_nil _) (by rfl)) (by rfl)) (by rfl)) (by decide) (by rfl) (by rfl)) (@pv _ 5 _ _ (by rfl) (by first | exact Or.inl rfl | exact Or.inr (Or.inl rfl) | exact Or.inr (Or.inr rfl)) (by decide) (by decide)) (@nomark _ _ (by decide) (by decide))) (@pe_one _ _ _ _ _ (@pe_cmpR _ _ _ _ _ _ _ _ (op_eqTupLike hu2) (@pe_fn _ _ _ _ _ _ _ _ _ _ _ F_ref hr (by decide) rfl (@pa_cons _ _ _ _ _ (@pv _ 0 _ _ (by rfl) (by first | exact Or.inl rfl | exact Or.inr (Or.inl rfl) | exact Or.inr (Or.inr rfl)) (by decide) (by decide)) (@pa_cons _ _ _ _ _ (@pv _ 6 _ _ (by rfl) (by first | exact Or.inl rfl | exact Or.inr (Or.inl rfl) | exact Or.inr (Or.inr rfl)) (by decide) (by decide)) (@pa_cons _ _ _ _ _ (@pe_int _ _ _ _) (@pa_nil _) (by rfl)) (by rfl)) (by rfl)) (by decide) (by rfl) (by rfl)) (@pv _ 5 _ _ (by rfl) (by first | exact Or.inl rfl | exact Or.inr (Or.inl rfl) | exact Or.inr (Or.inr rfl)) (by decide) (by decide)) (@nomark _ _ (by decide) (by decide)))))))))))))))), ?_⟩
    have hs : sizeLine = 16777216 := sizeLine_eq
    have h12 : rs.length ≤ 12 := by have := hB.lics.1; have := hB.le; omega
    have hps : ps.length = rs.length := hK.1
    have allk : ∀ {H' : Hp}, KeysOf H' ps rs → ∀ a ∈ ps, ∃ w n, H' a = some (.tup [.str w, .int n]) := fun k a ha => by
      obtain ⟨x, _, e⟩ := keysOf_of k ha
      exact ⟨_, _, e⟩
    refine ⟨(by show 2 ≤ sizeLine; decide), fun t0 h0 => ?_⟩
    have s1 := Same.new (o := .tup [.str "nine", .int 99]) h0
    have e1 : upd H t0 (.tup [.str "nine", .int 99]) t0 = some (.tup [.str "nine", .int 99]) := upd_same
    generalize upd H t0 (.tup [.str "nine", .int 99]) = H1 at s1 e1 ⊢
    refine ⟨fun σ' H' => ∃ (t : Addr) (n : Int), σ' = [some (.ref p), some (.ref lk), some (.ref t), none, none, none, none] ∧ Same H H' ∧ H' t = some (.tup [.str "nine", .int n]), ?_, ?_⟩
    · refine ⟨_, rfl, _, rfl, lk, t0, ps, "nine", 99, rfl, rfl, SqL.of (s1 _ _ hlk), e1, allk (hK.same s1), fun b hb => ⟨_, rfl, ?_⟩⟩
      cases b with
      | true =>
        refine iteT ⟨(by show 2 ≤ sizeLine; decide), fun t2 h2 => ⟨t2, 98, rfl, s1.trans (Same.new h2), upd_same⟩⟩
      | false => exact iteF ⟨t0, 99, rfl, s1, e1⟩
    rintro σ' H2 ⟨ts, n0, rfl, S, ets⟩
    refine ⟨_, rfl, (by show 0 ≤ sizeLine; decide), fun pa ha => ?_⟩
    have sa := Same.new (o := .lst []) ha
    have ea : upd H2 pa (.lst []) pa = some (.lst []) := upd_same
    generalize upd H2 pa (.lst []) = G1 at sa ea ⊢
    have ets := sa _ _ ets
    have Sa := S.trans sa
    intro pb hb
    have sb := Same.new (o := .dK []) hb
    have eb : upd G1 pb (.dK []) pb = some (.dK []) := upd_same
    generalize upd G1 pb (.dK []) = G2 at sb eb ⊢
    have ets := sb _ _ ets
    have ea := sb _ _ ea
    have Sb := Sa.trans sb
    refine ⟨(by show 1 ≤ sizeLine; decide), fun pc hc => ?_⟩
    have sc := Same.new (o := .tup [.str "a"]) hc
    have ec : upd G2 pc (.tup [.str "a"]) pc = some (.tup [.str "a"]) := upd_same
    generalize upd G2 pc (.tup [.str "a"]) = G3 at sc ec ⊢
    have ets := sc _ _ ets
    have ea := sc _ _ ea
    have eb := sc _ _ eb
    have Sc := Sb.trans sc
    refine ⟨(by show 2 ≤ sizeLine; decide), fun pd hd => ?_⟩
    have sd := Same.new (o := .tup [.str "a", .bl true]) hd
    have ed : upd G3 pd (.tup [.str "a", .bl true]) pd = some (.tup [.str "a", .bl true]) := upd_same
    generalize upd G3 pd (.tup [.str "a", .bl true]) = G4 at sd ed ⊢
    have ets := sd _ _ ets
    have ea := sd _ _ ea
    have eb := sd _ _ eb
    have ec := sd _ _ ec
    have Sd := Sc.trans sd
    refine ⟨(by show 3 ≤ sizeLine; decide), fun pf hf => ?_⟩
    have sf := Same.new (o := .tup [.str "a", .int 1, .int 1]) hf
    have ef : upd G4 pf (.tup [.str "a", .int 1, .int 1]) pf = some (.tup [.str "a", .int 1, .int 1]) := upd_same
    generalize upd G4 pf (.tup [.str "a", .int 1, .int 1]) = G5 at sf ef ⊢
    have ets := sf _ _ ets
    have ea := sf _ _ ea
    have eb := sf _ _ eb
    have ec := sf _ _ ec
    have ed := sf _ _ ed
    have Sf := Sd.trans sf
    refine ⟨(by show 0 ≤ sizeLine; decide), fun pg hg => ?_⟩
    have sg := Same.new (o := .lst []) hg
    have eg : upd G5 pg (.lst []) pg = some (.lst []) := upd_same
    generalize upd G5 pg (.lst []) = G6 at sg eg ⊢
    have ets := sg _ _ ets
    have ea := sg _ _ ea
    have eb := sg _ _ eb
    have ec := sg _ _ ec
    have ed := sg _ _ ed
    have ef := sg _ _ ef
    have Sg := Sf.trans sg
    refine ⟨(by show 2 ≤ sizeLine; decide), fun ph hh => ?_⟩
    have sh := Same.new (o := .tup [.ref pg, .int 1]) hh
    have eh : upd G6 ph (.tup [.ref pg, .int 1]) ph = some (.tup [.ref pg, .int 1]) := upd_same
    generalize upd G6 ph (.tup [.ref pg, .int 1]) = G7 at sh eh ⊢
    have ets := sh _ _ ets
    have ea := sh _ _ ea
    have eb := sh _ _ eb
    have ec := sh _ _ ec
    have ed := sh _ _ ed
    have ef := sh _ _ ef
    have eg := sh _ _ eg
    have Sh := Sg.trans sh
    refine ⟨(by show 1 ≤ sizeLine; decide), fun pi hi => ?_⟩
    have si := Same.new (o := .lst [.str "a"]) hi
    have ei : upd G7 pi (.lst [.str "a"]) pi = some (.lst [.str "a"]) := upd_same
    generalize upd G7 pi (.lst [.str "a"]) = G8 at si ei ⊢
    have ets := si _ _ ets
    have ea := si _ _ ea
    have eb := si _ _ eb
    have ec := si _ _ ec
    have ed := si _ _ ed
    have ef := si _ _ ef
    have eg := si _ _ eg
    have eh := si _ _ eh
    have Si := Sh.trans si
    refine ⟨(by show 2 ≤ sizeLine; decide), fun pj hj => ?_⟩
    have sj := Same.new (o := .tup [.ref pi, .int 1]) hj
    have ej : upd G8 pj (.tup [.ref pi, .int 1]) pj = some (.tup [.ref pi, .int 1]) := upd_same
    generalize upd G8 pj (.tup [.ref pi, .int 1]) = G9 at sj ej ⊢
    have ets := sj _ _ ets
    have ea := sj _ _ ea
    have eb := sj _ _ eb
    have ec := sj _ _ ec
    have ed := sj _ _ ed
    have ef := sj _ _ ef
    have eg := sj _ _ eg
    have eh := sj _ _ eh
    have ei := sj _ _ ei
    have Sj := Si.trans sj
    refine ⟨(by show 12 ≤ sizeLine; decide), fun pl hl => ?_⟩
    have sl := Same.new (o := .lst [.ref ts, .non, .bl true, .int 1, .str "a.1", .ref pa, .ref pb, .ref pc, .ref pd, .ref pf, .ref ph, .ref pj]) hl
    have el : upd G9 pl (.lst [.ref ts, .non, .bl true, .int 1, .str "a.1", .ref pa, .ref pb, .ref pc, .ref pd, .ref pf, .ref ph, .ref pj]) pl = some (.lst [.ref ts, .non, .bl true, .int 1, .str "a.1", .ref pa, .ref pb, .ref pc, .ref pd, .ref pf, .ref ph, .ref pj]) := upd_same
    generalize upd G9 pl (.lst [.ref ts, .non, .bl true, .int 1, .str "a.1", .ref pa, .ref pb, .ref pc, .ref pd, .ref pf, .ref ph, .ref pj]) = G10 at sl el ⊢
    have ets := sl _ _ ets
    have ea := sl _ _ ea
    have eb := sl _ _ eb
    have ec := sl _ _ ec
    have ed := sl _ _ ed
    have ef := sl _ _ ef
    have eg := sl _ _ eg
    have eh := sl _ _ eh
    have ei := sl _ _ ei
    have ej := sl _ _ ej
    have Sl := Sj.trans sl
    have th : ∀ x ∈ ([.ref ts, .non, .bl true, .int 1, .str "a.1", .ref pa, .ref pb, .ref pc, .ref pd, .ref pf, .ref ph, .ref pj] : List V), Thing K G10 x := fun x hx => by
      simp only [List.mem_cons, List.not_mem_nil, or_false] at hx
      rcases hx with rfl | rfl | rfl | rfl | rfl | rfl | rfl | rfl | rfl | rfl | rfl | rfl
      · exact Thing.tup ets (fun v hv => by
        simp only [List.mem_cons, List.not_mem_nil, or_false] at hv
        rcases hv with rfl | rfl
        · exact part_str (by decide)
        · exact part_int)
      · exact Thing.flat (k := .non) .non rfl
      · exact Thing.flat (k := .bl) (.bl _) rfl
      · exact Thing.flat (k := .int) (.int _) rfl
      · exact Thing.flat (k := .str) (.str _) rfl
      · exact Thing.lst ea
      · exact Thing.dct eb
      · exact Thing.tup ec (fun v hv => by
        simp only [List.mem_cons, List.not_mem_nil, or_false] at hv
        subst hv
        exact part_str (by decide))
      · exact Thing.tup ed (fun v hv => by
        simp only [List.mem_cons, List.not_mem_nil, or_false] at hv
        rcases hv with rfl | rfl
        · exact part_str (by decide)
        · exact part_bl)
      · exact Thing.tup ef (fun v hv => by
        simp only [List.mem_cons, List.not_mem_nil, or_false] at hv
        rcases hv with rfl | rfl | rfl
        · exact part_str (by decide)
        · exact part_int
        · exact part_int)
      · exact Thing.tup eh (fun v hv => by
        simp only [List.mem_cons, List.not_mem_nil, or_false] at hv
        rcases hv with rfl | rfl
        · exact part_lst eg
        · exact part_int)
      · exact Thing.tup ej (fun v hv => by
        simp only [List.mem_cons, List.not_mem_nil, or_false] at hv
        rcases hv with rfl | rfl
        · exact part_lst ei
        · exact part_int)
    generalize hxs : ([.ref ts, .non, .bl true, .int 1, .str "a.1", .ref pa, .ref pb, .ref pc, .ref pd, .ref pf, .ref ph, .ref pj] : List V) = xs at th el ⊢
    have lxs : xs.length = 12 := by rw [← hxs]; rfl
    -- the keys as lists
    refine ⟨_, rfl, _, rfl, lk, rfl, ⟨_, SqL.of (Sl _ _ hlk)⟩, comp_list (K := K) (a := lk) (xs := ps.map V.ref) (fun j us H' => us.length = j ∧ Same G10 H' ∧ ∀ u ∈ us, Thing K H' u) ⟨rfl, Same.refl _, fun u hu => by cases hu⟩ (by rw [List.length_map]; omega) ?_ ?_ ?_ ?_⟩
    · rintro j us H' ⟨e, _⟩
      rw [e]; exact Nat.le_refl _
    · rintro j us H' _ ⟨_, s', _⟩
      exact SqL.of (s' _ _ (Sl _ _ hlk))
    · rintro j x us H3 hx ⟨el3, s3, th3⟩
      rw [List.getElem?_map] at hx
      obtain ⟨pj', hpj, rfl⟩ := Option.map_eq_some_iff.mp hx
      obtain ⟨rj, _, ej'⟩ := keysOf_of (hK.same (Sl.trans s3)) (List.mem_of_getElem? hpj)
      refine ⟨_, rfl, pj', _, rfl, .inr (SqT.of ej'), fun l4 hl4 => ?_⟩
      have s4 := Same.new (o := .lst rj.keyV) hl4
      refine ⟨by rw [List.length_append, el3]; rfl, s3.trans s4, fun u hu => ?_⟩
      rcases List.mem_append.mp hu with h | h
      · exact (th3 u h).same s4
      · rw [List.mem_singleton] at h
        subst h
        exact Thing.lst upd_same
    rintro us H3 ⟨el3, s3, th3⟩ l4 hl4
    rw [List.length_map] at el3
    have s4 := Same.new (o := .lst us) hl4
    have e4 : upd H3 l4 (.lst us) l4 = some (.lst us) := upd_same
    generalize upd H3 l4 (.lst us) = H4 at s4 e4 ⊢
    have s34 := s3.trans s4
    refine ⟨pl, l4, xs, us, rfl, rfl, s34 _ _ el, e4, (by omega), fun l5 hl5 => ?_⟩
    have s5 := Same.new (o := .lst (xs ++ us)) hl5
    have e5 : upd H4 l5 (.lst (xs ++ us)) l5 = some (.lst (xs ++ us)) := upd_same
    generalize upd H4 l5 (.lst (xs ++ us)) = H5 at s5 e5 ⊢
    have s35 := s34.trans s5
    have S5 := Sl.trans s35
    have th5 : ∀ x ∈ xs ++ us, Thing K H5 x := fun x hx => by
      rcases List.mem_append.mp hx with h | h
      · exact (th x h).same s35
      · exact (th3 x h).same (s4.trans s5)
    refine ⟨l5, rfl, ⟨_, SqL.of e5⟩, for_list (K := K) (a := l5) (xs := xs ++ us) (fun j σ H' => (∃ v4 v5 : Option V, σ = [some (.ref p), some (.ref lk), some (.ref ts), some (.ref pl), v4, v5, none]) ∧ Same H5 H') ⟨⟨_, _, rfl⟩, Same.refl _⟩ (fun j σ H' _ h => SqL.of (h.2 _ _ e5)) ?_ ?_⟩
    · rintro j x σ H6 hx6 ⟨⟨v4, v5, rfl⟩, s6⟩
      have S6 := S5.trans s6
      have thx := (th5 x (List.mem_of_getElem? hx6)).same s6
      obtain ⟨⟨k, kd⟩, _⟩ := thx.as
      refine ⟨_, rfl, _, rfl, x, k, rfl, kd, (by show 4 ≤ sizeLine; decide), fun td htd => ?_⟩
      have s7 := Same.new (o := .tup [.str "key", x, .bl (k.isA .bl), .bl true]) htd
      have e7 : upd H6 td (.tup [.str "key", x, .bl (k.isA .bl), .bl true]) td = some (.tup [.str "key", x, .bl (k.isA .bl), .bl true]) := upd_same
      generalize upd H6 td (.tup [.str "key", x, .bl (k.isA .bl), .bl true]) = H7 at s7 e7 ⊢
      have S7 := S6.trans s7
      have thx := thx.same s7
      have kd : KdOf K H7 x k := TyOf.same' kd s7
      have pl7 := kd_plain kd
      have kk7 := hK.same S7
      obtain ⟨e, he⟩ := thx.eq
      refine ⟨_, rfl, _, rfl, lk, ps, e, rfl, SqL.of (S7 _ _ hlk), he, fun a ha => ?_, fun b hb => ⟨_, rfl, ?_⟩⟩
      · obtain ⟨ra, _, ea'⟩ := keysOf_of kk7 ha
        exact ⟨_, _, ea', fun hxa => he.self hxa ea'⟩
      cases b with
      | false =>
        have hm : Miss H7 x rs := fun ra hra a hxa ha => by
          obtain ⟨pa', hpa', epa'⟩ := keysOf_at kk7 hra
          have := hb.mpr ⟨pa', hpa', _, _, epa', he.self hxa ha⟩
          cases this
        refine iteT (iteT ?_)
        refine ⟨_, rfl, _, rfl, p, x, 0, k, z1, z2, ys, rs, rfl, hB.same S7, thx.as, kd, hm, fun t1 H8 s8 e8 => ?_⟩
        refine ⟨_, rfl, t1, td, _, _, rfl, rfl, SqT.of e8, SqT.of (s8 _ _ e7), .cons (.same trivial) (.cons (.same pl7) (.cons (.same trivial) (.cons (.same trivial) .nil))), _, rfl, iteF ?_⟩
        refine ⟨_, rfl, _, rfl, p, x, 1, k, z1, z2, ys, rs, rfl, hB.same (S7.trans s8), thx.as.same s8, TyOf.same' kd s8, hm.same kd s8, fun t2 H9 s9 e9 => ?_⟩
        exact ⟨_, rfl, t2, td, _, _, rfl, rfl, SqT.of e9, SqT.of (s9 _ _ (s8 _ _ e7)), .cons (.same trivial) (.cons (.same pl7) (.cons (.same trivial) (.cons (.same trivial) .nil))), _, rfl, iteF ⟨⟨_, _, rfl⟩, ((s6.trans s7).trans s8).trans s9⟩⟩
      | true =>
        refine iteF ⟨_, rfl, x, _, .type k.nm, .type "list", decide (k = .lst), rfl, rfl, kd, kit_list, _, rfl, ?_⟩
        by_cases hk : k = .lst
        · rw [decide_eq_true hk]
          have hm : Miss H7 x rs := fun ra hra a hxa => kd_lst_no (hk ▸ kd) hxa
          refine iteT ?_
          refine ⟨_, rfl, _, rfl, p, x, 0, k, z1, z2, ys, rs, rfl, hB.same S7, thx.as, kd, hm, fun t1 H8 s8 e8 => ?_⟩
          refine ⟨_, rfl, t1, td, _, _, rfl, rfl, SqT.of e8, SqT.of (s8 _ _ e7), .cons (.same trivial) (.cons (.same pl7) (.cons (.same trivial) (.cons (.same trivial) .nil))), _, rfl, iteF ?_⟩
          refine ⟨_, rfl, _, rfl, p, x, 1, k, z1, z2, ys, rs, rfl, hB.same (S7.trans s8), thx.as.same s8, TyOf.same' kd s8, hm.same kd s8, fun t2 H9 s9 e9 => ?_⟩
          exact ⟨_, rfl, t2, td, _, _, rfl, rfl, SqT.of e9, SqT.of (s9 _ _ (s8 _ _ e7)), .cons (.same trivial) (.cons (.same pl7) (.cons (.same trivial) (.cons (.same trivial) .nil))), _, rfl, iteF ⟨⟨_, _, rfl⟩, ((s6.trans s7).trans s8).trans s9⟩⟩
        · rw [decide_eq_false hk]
          exact iteF ⟨⟨_, _, rfl⟩, s6.trans s7⟩
    rintro σ H6 ⟨⟨v4, v5, rfl⟩, s6⟩
    have S6 := S5.trans s6
    refine ⟨_, rfl, (by show 0 ≤ sizeLine; decide), fun l7 hl7 => ?_⟩
    have s7 := Same.new (o := .lst []) hl7
    have e7 : upd H6 l7 (.lst []) l7 = some (.lst []) := upd_same
    generalize upd H6 l7 (.lst []) = H7 at s7 e7 ⊢
    have S7 := S6.trans s7
    refine ⟨lk, l7, _, rfl, rfl, SqL.of (S7 _ _ hlk), SqL.of e7, _, rfl, ?_⟩
    match ps, rs, hK, gd, hlk, hB, hps, h12 with
    | [], _, _, _, _, _, _, _ => exact iteT (q _ S7)
    | p0 :: pr, [], hK, _, _, _, hps, _ => simp at hps
    | p0 :: pr, r0 :: rr, hK, gd, hlk, hB, hps, h12 =>
    refine iteF ?_
    have at00 : atI ((p0 :: pr).map V.ref) 0 = some (V.ref p0) := atI_nat (j := 0) rfl
    have g0 := gd r0 List.mem_cons_self
    have E0' : ∀ {H' : Hp}, Same H H' → H' p0 = some (.tup r0.keyV) := fun s' => s' _ _ (hK.2 0 p0 r0 rfl rfl)
    have LK : ∀ {H' : Hp}, Same H H' → SqL K H' lk ((p0 :: pr).map V.ref) := fun s' => SqL.of (s' _ _ hlk)
    refine ⟨_, rfl, lk, _, _, .ref p0, rfl, rfl, LK S7, at00, p0, _, _, V.str r0.w, rfl, rfl, SqT.of (E0' S7), rfl, (by show 2 ≤ sizeLine; decide), fun l8 hl8 => ?_⟩
    have s8 := Same.new (o := .lst [.bl true, .bl false]) hl8
    have e8 : upd H7 l8 (.lst [.bl true, .bl false]) l8 = some (.lst [.bl true, .bl false]) := upd_same
    generalize upd H7 l8 (.lst [.bl true, .bl false]) = H8 at s8 e8 ⊢
    have S8 := S7.trans s8
    refine ⟨_, rfl, lk, _, _, .ref p0, rfl, rfl, LK S8, at00, p0, _, _, V.int r0.n, rfl, rfl, SqT.of (E0' S8), rfl, rfl, .inr ⟨_, rfl, ?_⟩⟩
    generalize hb0 : decide (V.int ((r0.n : Nat) : Int) = V.int 0) = b0
    refine ⟨l8, _, _, V.bl (!b0), rfl, rfl, SqL.of e8, (by cases b0 <;> rfl), (by show 2 ≤ sizeLine; decide), fun t9 ht9 => ?_⟩
    have s9 := Same.new (o := .tup [.str r0.w, .bl (!b0)]) ht9
    have e9 : upd H8 t9 (.tup [.str r0.w, .bl (!b0)]) t9 = some (.tup [.str r0.w, .bl (!b0)]) := upd_same
    generalize upd H8 t9 (.tup [.str r0.w, .bl (!b0)]) = H9 at s9 e9 ⊢
    have S9 := S8.trans s9
    refine ⟨_, rfl, (by show 4 ≤ sizeLine; decide), fun td htd => ?_⟩
    have s10 := Same.new (o := .tup [.str "key", .ref t9, .bl false, .bl true]) htd
    have e10 : upd H9 td (.tup [.str "key", .ref t9, .bl false, .bl true]) td = some (.tup [.str "key", .ref t9, .bl false, .bl true]) := upd_same
    generalize upd H9 td (.tup [.str "key", .ref t9, .bl false, .bl true]) = H10 at s10 e10 ⊢
    have S10 := S9.trans s10
    have e9 := s10 _ _ e9
    have th9 : Thing K H10 (.ref t9) := Thing.tup e9 (fun v hv => by
      simp only [List.mem_cons, List.not_mem_nil, or_false] at hv
      rcases hv with rfl | rfl
      · have := g0.hw
        unfold isWordZ at this
        simp only [Bool.and_eq_true, decide_eq_true_eq] at this
        exact part_str (by omega)
      · exact part_bl)
    have kd9 : KdOf K H10 (.ref t9) .tup := .tup e9
    have hm9 : Miss H10 (.ref t9) (r0 :: rr) := fun ra _ a hxa ha => by
      cases hxa
      rw [e9] at ha
      simp at ha
    refine ⟨_, rfl, lk, _, _, .ref p0, rfl, rfl, LK S10, at00, p0, _, _, V.int r0.n, rfl, rfl, SqT.of (E0' S10), rfl, _, _, rfl, rfl, _, rfl, ite2 (fun h => ?_) (fun _ => ?_)⟩
    · exact q _ S10
    refine ⟨_, rfl, _, rfl, p, .ref t9, 0, .tup, z1, z2, ys, r0 :: rr, rfl, hB.same S10, th9.as, kd9, hm9, fun t1 H11 s11 e11 => ?_⟩
    refine ⟨_, rfl, t1, td, _, _, rfl, rfl, SqT.of e11, SqT.of (s11 _ _ e10), .cons (.same trivial) (.cons (.same trivial) (.cons (.same trivial) (.cons (.same trivial) .nil))), _, rfl, iteT ?_⟩
    refine ⟨_, rfl, _, rfl, p, .ref t9, 1, .tup, z1, z2, ys, r0 :: rr, rfl, hB.same (S10.trans s11), th9.as.same s11, TyOf.same' kd9 s11, hm9.same kd9 s11, fun t2 H12 s12 e12 => ?_⟩
    refine ⟨_, rfl, t2, td, _, _, rfl, rfl, SqT.of e12, SqT.of (s12 _ _ (s11 _ _ e10)), .cons (.same trivial) (.cons (.same trivial) (.cons (.same trivial) (.cons (.same trivial) .nil))), ?_⟩
    exact q _ ((S10.trans s11).trans s12)
end
end K14
namespace L2
open PySem PySem.Spec PyProof.Rows
theorem call_tuple_ofK {X : Cx} (K : PySem.W.Frag) (hK : X.K = K := by rfl) : CallR X (.type "tuple") (fun xs H Q => ∃ p ys, xs = [.ref p] ∧ ((SqL K H p ys ∧ ∀ l, H l = none → Q (.ref l) (upd H l (.tup ys))) ∨ (SqT K H p ys ∧ Q (.ref p) H))) := by
  subst hK
  exact call_tuple_of
end L2
namespace K14
open PySem L2 PyProof.Rows PySem.SeqAt
theorem cut_lo {zs : List Str} (h : zs.length = 12) : cutV (zs.map V.str) none (some 6) = (zs.take 6).map V.str := by
  unfold cutV
  rw [List.length_map, h, List.map_take]
  rfl
theorem cut_hi {zs : List Str} (h : zs.length = 12) : cutV (zs.map V.str) (some 6) none = (zs.drop 6).map V.str := by
  unfold cutV
  rw [List.length_map, h, List.map_drop]
  show ((zs.map V.str).drop 6).take 6 = _
  rw [List.take_of_length_le (by rw [List.length_drop, List.length_map, h]; decide)]
theorem rdStr {K : PySem.W.Frag} {H : Hp} : ∀ {zs : List Str}, RdDs K H (zs.map V.str) (zs.map PyData.str)
  | [] => .nil
  | z :: _ => .cons (.str z) rdStr
theorem rdNl {K : PySem.W.Frag} {H : Hp} {l : Addr} {zs : List Str} (e : H l = some (.lst (zs.map V.str))) : RdD K H (.ref l) (.list (zs.map PyData.str)) := .lst (SqL.of e) rdStr
theorem lay_strs : ∀ {zs : List Str}, (∀ z ∈ zs, isWordZ z = true) → PyData.canLayAll0 (zs.map PyData.str) = true ∧ PyData.depthAll (zs.map PyData.str) ≤ 4
  | [], _ => ⟨by simp [PyData.canLayAll0], by simp [PyData.depthAll]⟩
  | z :: zs, h => by
    obtain ⟨a, b⟩ := lay_strs fun x hx => h x (List.mem_cons_of_mem _ hx)
    have g := word_ok (h z List.mem_cons_self)
    refine ⟨by simp [PyData.canLayAll0, PyData.canLay0, g, a], ?_⟩
    rw [List.map_cons, PyData.depthAll]
    refine Nat.max_le.mpr ⟨?_, b⟩
    simp [PyData.depth]
theorem sh_told {z1 z2 : List Str} {L : List Row} (h1 : ∀ z ∈ z1, isWordZ z = true) (h2 : ∀ z ∈ z2, isWordZ z = true) (h : ∀ r ∈ L, r.Good) : shaped (.list [.list (z1.map PyData.str), .list (z2.map PyData.str), .list (L.map keyD)]) = true := by
  obtain ⟨a, b⟩ := lay_keys h
  obtain ⟨c, d⟩ := lay_strs h1
  obtain ⟨e, f⟩ := lay_strs h2
  unfold shaped
  rw [Bool.and_eq_true, decide_eq_true_eq]
  refine ⟨by simp only [PyData.canLay0, PyData.canLayAll0, a, c, e, Bool.and_self], ?_⟩
  simp only [PyData.depth, PyData.depthAll]
  omega
theorem lics_snoc {cL : Addr} {H : Hp} {xs : List Addr} {rs : List Row} {x : Addr} {r : Row} (h : LicsAt cL H xs rs) (g : r.Good) (l : LAt cL H x r) : LicsAt cL H (xs ++ [x]) (rs ++ [r]) := by
  refine ⟨by rw [List.length_append, List.length_append, h.1]; rfl, fun i y s hy hs => ?_⟩
  by_cases hi : i < xs.length
  · rw [List.getElem?_append_left hi] at hy
    rw [List.getElem?_append_left (by rw [← h.1]; exact hi)] at hs
    exact h.2 i y s hy hs
  · have h2 := (List.getElem?_eq_some_iff.mp hy).1
    rw [List.length_append, List.length_singleton] at h2
    have e : i = xs.length := by omega
    subst e
    rw [List.getElem?_concat_length] at hy
    rw [h.1, List.getElem?_concat_length] at hs
    cases hy
    cases hs
    exact ⟨g, l⟩
structure BMk (P : Program) (w : World) (K : PySem.W.Frag) (mg : Str → Option Value) (base : Heap) (cL cB fB : Addr) (dB : FuncData) : Prop where
  mB : mg "Book" = some (.ref cB)
  kB : Mk K cB fB
  oB : FnOk P w K mg base CX0 5 fB dB psB (spBInit cL cB)
  bB : Binds K dB psB []
section
variable {P : Program} {w : World} {K : PySem.W.Frag} {mg : Str → Option Value} {base : Heap} {ck g cT cL cB fB : Addr} {dB : FuncData}
theorem sn_in {H : Hp} {p : Addr} {z1 z2 : List Str} {ys : List Addr} {rs : List Row} {Q : VK} (hB : BookAt cL cB H p z1 z2 ys rs) (q : ∀ (l : Addr) (H' : Hp), Same H H' → H l = none → H' l = some (.lst (z1.map V.str)) → Q (.ref l) H') :
    ∃ a C dx fs sp, V.ref p = .ref a ∧ H a = some (.ins C dx fs) ∧ fs.lookup ("string_names" : Str) = none ∧ DSN cL cB C sp ∧ sp [V.ref p] H Q E0 := by
  have hB0 := hB
  obtain ⟨⟨dx, ls, ld, dk, ob, h1, h2, h3, h4⟩, hL, nd, le⟩ := hB
  exact ⟨p, cB, dx, _, spSN cL cB, rfl, h1, bF_no (by decide +kernel), ⟨rfl, rfl⟩, p, z1, z2, ys, rs, rfl, hB0, q⟩
theorem dn_in {H : Hp} {p : Addr} {z1 z2 : List Str} {ys : List Addr} {rs : List Row} {Q : VK} (hB : BookAt cL cB H p z1 z2 ys rs) (q : ∀ (l : Addr) (H' : Hp), Same H H' → H l = none → H' l = some (.lst (z2.map V.str)) → Q (.ref l) H') :
    ∃ a C dx fs sp, V.ref p = .ref a ∧ H a = some (.ins C dx fs) ∧ fs.lookup ("duty_names" : Str) = none ∧ DDN cL cB C sp ∧ sp [V.ref p] H Q E0 := by
  have hB0 := hB
  obtain ⟨⟨dx, ls, ld, dk, ob, h1, h2, h3, h4⟩, hL, nd, le⟩ := hB
  exact ⟨p, cB, dx, _, spDN cL cB, rfl, h1, bF_no (by decide +kernel), ⟨rfl, rfl⟩, p, z1, z2, ys, rs, rfl, hB0, q⟩
theorem ak_in {H : Hp} {p : Addr} {z1 z2 : List Str} {ys : List Addr} {rs : List Row} {Q : VK} (hB : BookAt cL cB H p z1 z2 ys rs) (q : ∀ (l : Addr) (ps : List Addr) (H' : Hp), Same H H' → H l = none → H' l = some (.lst (ps.map V.ref)) → KeysOf H' ps rs → Q (.ref l) H') :
    ∃ a C dx fs sp, V.ref p = .ref a ∧ H a = some (.ins C dx fs) ∧ fs.lookup ("all_keys" : Str) = none ∧ DAK cL cB C sp ∧ sp [V.ref p] H Q E0 := by
  have hB0 := hB
  obtain ⟨⟨dx, ls, ld, dk, ob, h1, h2, h3, h4⟩, hL, nd, le⟩ := hB
  exact ⟨p, cB, dx, _, spAK cL cB, rfl, h1, bF_no (by decide +kernel), ⟨rfl, rfl⟩, p, z1, z2, ys, rs, rfl, hB0, q⟩
abbrev slaw : Stmt := top 59
abbrev lawN : List Str := ["_law_script", "_law_rows", "_law_names", "_law_handed", "_law_book_here", "_law_beside", "_law_some", "_law_keys_here", "_law_turn", "_law_told"]
theorem sclaw : FnScope lawN ["_law_script"] (defScope slaw) := ⟨rfl, rfl, rfl, by decide +kernel, rfl, by decide +kernel, by decide +kernel⟩
theorem law_body (T : Txt mg) (F_cell : FnAt P w K mg base "_law_cell" 1 ["_law_script", "_law_k"] (spCell K)) (F_book : FnAt P w K mg base "_law_book" 5 ["_law_cell_here", "_law_other"] spBook) (F_words : FnAt P w K mg base "_law_words" 3 ["_law_cell_here", "_law_many"] spWords) (F_made : FnAt P w K mg base "_law_made" 8 ["_law_row"] (spMade cL)) (M : BMk P w K mg base cL cB fB dB)
    (MSN : ∀ C sp, DSN cL cB C sp → MethD P w K mg base CX0 1 C "string_names" ["self"] sp) (MDN : ∀ C sp, DDN cL cB C sp → MethD P w K mg base CX0 1 C "duty_names" ["self"] sp) (MAK : ∀ C sp, DAK cL cB C sp → MethD P w K mg base CX0 1 C "all_keys" ["self"] sp)
    (F_cg : FnAt P w K mg base "_law_covers_good" 8 ["_law_book_here", "_law_rows", "_law_keys_here"] (spCG cL cB)) (F_nk : FnAt P w K mg base "_law_no_keys" 9 ["_law_book_here", "_law_keys_here"] (spNK cL cB))
    (f : Addr) (cdv : Value) (A : Around) (outer : List Env) (s : Shared) (H : Hp) (vs : List V) (Q : VK) (E : XK) (hr : Room 9 (A.deeper (envOfC "law" (defScope slaw) s.heap.objs.size f cdv))) (h : spLaw K vs H Q E) :
    ∃ t, PSs (cxOf CX0 P w K mg base lawN "law" (defScope slaw) f cdv A outer s H E).nox (defBody slaw) t ∧ t { nx := fun _ H' => Q .non H', rt := Q } (start lawN vs) H := by
  obtain ⟨a, ns, rfl, hS, hlen, q⟩ := h
  refine ⟨_, (pss_cons (ps_set (i := 1) sclaw.nd rfl (by first | exact Or.inl rfl | exact Or.inr rfl) (pe_fn F_book hr (by decide) rfl (pa_cons (pe_fn F_cell hr (by decide) rfl (pa_cons (pv 0) (pa_cons pe_int pa_nil))) (pa_cons (pe_fn F_cell hr (by decide) rfl (pa_cons (pv 0) (pa_cons pe_int pa_nil))) pa_nil))))
      (pss_cons (ps_set (i := 2) sclaw.nd rfl (by first | exact Or.inl rfl | exact Or.inr rfl) (pe_fn F_words hr (by decide) rfl (pa_cons (pe_fn F_cell hr (by decide) rfl (pa_cons (pv 0) (pa_cons pe_int pa_nil))) (pa_cons pe_int pa_nil))))
      (pss_cons (ps_set (i := 3) sclaw.nd rfl (by first | exact Or.inl rfl | exact Or.inr rfl) (pe_lst (pa_cons (pe_slice sl_list (pv 2) po_none (po_some pe_int)) (pa_cons (pe_slice sl_list (pv 2) (po_some pe_int) po_none) (pa_cons (pe_comp (sc := defScope slaw) (N0 := lawN) (xs := ["_law_row"]) (ys := []) (js := []) ⟨rfl, by decide +kernel, by decide +kernel, by decide +kernel, by decide +kernel⟩ rfl (pi_list (pv 1)) (fun _ _ _ _ => (pg_name (i := 0) (show (["_law_row"] : List Str).Nodup by decide +kernel) rfl (by first | exact Or.inl rfl | exact Or.inr rfl))) (fun _ _ _ _ => pq_nil) (fun _ _ _ _ => (pe_fn F_made hr (by decide) rfl (pa_cons (pv 0) pa_nil)))) pa_nil)))))
      (pss_cons (ps_mid (ps_if (pt_cmpR op_eq (pe_op op_mod (pe_fn F_cell hr (by decide) rfl (pa_cons (pv 0) (pa_cons pe_int pa_nil))) pe_int) pe_int (nomark _)) (pss_one (ps_setComp (i := 3) (sc := defScope slaw) (N0 := lawN) (xs := ["_law_some"]) (ys := []) (js := []) ⟨rfl, by decide +kernel, by decide +kernel, by decide +kernel, by decide +kernel⟩ rfl sclaw.nd rfl rfl (pi_list (pv 3)) (fun _ _ _ _ => (pg_name (i := 0) (show (["_law_some"] : List Str).Nodup by decide +kernel) rfl (by first | exact Or.inl rfl | exact Or.inr rfl))) (fun _ _ _ _ => pq_nil) (fun _ _ _ _ => (pe_callTy (call_tuple_ofK K) rfl T.n_tuple boot_tuple (pa_cons (pv 0) pa_nil))))) pss_nil))
      (pss_cons (ps_set (i := 4) sclaw.nd rfl (by first | exact Or.inl rfl | exact Or.inr rfl) (pe_make M.kB M.oB (hr.mono (by decide)) rfl M.mB M.bB .nil pass0 (pa_cons (pe_ix ix_list (pv 3) pe_int (fun _ _ => rfl)) (pa_cons (pe_ix ix_list (pv 3) pe_int (fun _ _ => rfl)) (pa_cons (pe_ix ix_list (pv 3) pe_int (fun _ _ => rfl)) pa_nil)))))
      (pss_cons (ps_set (i := 5) sclaw.nd rfl (by first | exact Or.inl rfl | exact Or.inr rfl) (pe_make M.kB M.oB (hr.mono (by decide)) rfl M.mB M.bB .nil pass0 (pa_cons (pe_lst pa_nil) (pa_cons (pe_tup pa_nil) (pa_cons (pe_lst pa_nil) pa_nil)))))
      (pss_cons (ps_mid (ps_for PassesOwn.never rfl (pi_list (pv 3)) (pg_name (i := 6) sclaw.nd rfl (by first | exact Or.inl rfl | exact Or.inr rfl)) (pss_one (ps_if (pt_val (pe_callB call_isinst rfl T.n_isinstance boot_isinstance (pa_cons (pv 6) (pa_cons (pe_bltn (v := .ty "list") rfl T.n_list boot_list rfl) pa_nil)))) (pss_one (ps_expr (pe_bm0 PySem.F.plainAttrs_list PySem.F.slot_list_clear PySem.F.type_list_clear mt_clear (pv 6)))) pss_nil))))
      (pss_cons (ps_setComp (i := 7) (sc := defScope slaw) (N0 := lawN) (xs := ["_law_row"]) (ys := []) (js := []) ⟨rfl, by decide +kernel, by decide +kernel, by decide +kernel, by decide +kernel⟩ rfl sclaw.nd rfl rfl (pi_list (pv 1)) (fun _ _ _ _ => (pg_name (i := 0) (show (["_law_row"] : List Str).Nodup by decide +kernel) rfl (by first | exact Or.inl rfl | exact Or.inr rfl))) (fun _ _ _ _ => pq_nil) (fun _ _ _ _ => (pe_ix (ix_tupK K rfl) (pv 0) pe_int (fun _ _ => rfl))))
      (pss_cons (ps_mid (ps_for PassesOwn.never rfl (pi_range1 rfl T.n_range (pa_cons pe_int pa_nil)) (pg_name (i := 8) sclaw.nd rfl (by first | exact Or.inl rfl | exact Or.inr rfl))
        (pss_cons (ps_set (i := 9) sclaw.nd rfl (by first | exact Or.inl rfl | exact Or.inr rfl) (pe_lst (pa_cons (pe_methD (D := DSN cL cB) (pv 4) MSN (hr.mono (by decide)) pass0) (pa_cons (pe_methD (D := DDN cL cB) (pv 4) MDN (hr.mono (by decide)) pass0) (pa_cons (pe_methD (D := DAK cL cB) (pv 4) MAK (hr.mono (by decide)) pass0) pa_nil)))))
        (pss_cons (ps_if (pt_cmpR (op_neSD hr.units) (pv 9) (pe_lst (pa_cons (pe_slice sl_list (pv 2) po_none (po_some pe_int)) (pa_cons (pe_slice sl_list (pv 2) (po_some pe_int) po_none) (pa_cons (pv 7) pa_nil)))) (nomark _)) (pss_one (ps_ret pe_bl)) pss_nil)
        (pss_one (ps_for PassesOwn.never rfl (pi_list (pv 9)) (pg_name (i := 6) sclaw.nd rfl (by first | exact Or.inl rfl | exact Or.inr rfl)) (pss_one (ps_expr (pe_bm PySem.F.plainAttrs_list PySem.F.slot_list_append PySem.F.type_list_append mt_append (pv 6) (pa_cons pe_str pa_nil))))))))))
      (pss_cons (ps_if (pt_cmpR (op_neSD hr.units) (pe_lst (pa_cons (pe_methD (D := DSN cL cB) (pv 5) MSN (hr.mono (by decide)) pass0) (pa_cons (pe_methD (D := DDN cL cB) (pv 5) MDN (hr.mono (by decide)) pass0) (pa_cons (pe_methD (D := DAK cL cB) (pv 5) MAK (hr.mono (by decide)) pass0) pa_nil)))) (pe_lst (pa_cons (pe_lst pa_nil) (pa_cons (pe_lst pa_nil) (pa_cons (pe_lst pa_nil) pa_nil)))) (nomark _)) (pss_one (ps_ret pe_bl)) pss_nil)
      (pss_one (ps_ret (pe_and (pe_fn F_cg hr (by decide) rfl (pa_cons (pv 4) (pa_cons (pv 1) (pa_cons (pv 7) pa_nil)))) (pe_and (pe_fn F_nk hr (by decide) rfl (pa_cons (pv 4) (pa_cons (pv 7) pa_nil))) (pe_one (pe_fn F_nk hr (by decide) rfl (pa_cons (pv 5) (pa_cons (pe_lst pa_nil) pa_nil)))))))))))))))))), ?_⟩
  have hs : sizeLine = 16777216 := sizeLine_eq
  refine ⟨_, rfl, a, ns, 0, rfl, hS, fun c0 => ⟨_, rfl, a, ns, 1, rfl, hS, fun c1 => ⟨c0, c1, rfl, fun lr qs rs H1 s1 er lq rA nd _ => ?_⟩⟩⟩
  refine ⟨_, rfl, a, ns, 2, rfl, s1.seq hS, fun c2 => ⟨c2, 12, (by decide), rfl, fun ln zs H2 s2 en l12 wz nz _ => ?_⟩⟩
  have er := s2 _ _ er
  have rA := rA.same s2
  have hS2 := (s1.trans s2).seq hS
  clear s1 s2
  have hql : qs.length = rs.length := rA.1
  have gd := rA.good
  have n1 : (zs.take 6).Nodup := nz.sublist (List.take_sublist _ _)
  have n2 : (zs.drop 6).Nodup := nz.sublist (List.drop_sublist _ _)
  have w1 : ∀ z ∈ zs.take 6, isWordZ z = true := fun z hz => wz z (List.mem_of_mem_take hz)
  have w2 : ∀ z ∈ zs.drop 6, isWordZ z = true := fun z hz => wz z (List.mem_of_mem_drop hz)
  have l1 : (zs.take 6).length = 6 := by rw [List.length_take]; omega
  have l2 : (zs.drop 6).length = 6 := by rw [List.length_drop]; omega
  have c1' := cut_lo l12
  have c2' := cut_hi l12
  -- what is handed in
  refine ⟨_, rfl, _, rfl, ln, _, rfl, SqL.of en, fun x0 h0 => ?_⟩
  rw [c1']
  have s3 := Same.new (o := .lst ((zs.take 6).map V.str)) h0
  have e3 : upd H2 x0 (.lst ((zs.take 6).map V.str)) x0 = some (.lst ((zs.take 6).map V.str)) := upd_same
  generalize upd H2 x0 (.lst ((zs.take 6).map V.str)) = H3 at s3 e3 ⊢
  refine ⟨_, rfl, _, rfl, ln, _, rfl, SqL.of (s3 _ _ en), fun x1 h1 => ?_⟩
  rw [c2']
  have s4 := Same.new (o := .lst ((zs.drop 6).map V.str)) h1
  have e4 : upd H3 x1 (.lst ((zs.drop 6).map V.str)) x1 = some (.lst ((zs.drop 6).map V.str)) := upd_same
  generalize upd H3 x1 (.lst ((zs.drop 6).map V.str)) = H4 at s4 e4 ⊢
  have t4 := s3.trans s4
  have e3 := s4 _ _ e3
  refine ⟨_, rfl, lr, rfl, ⟨_, SqL.of (t4 _ _ er)⟩, comp_list (K := K) (a := lr) (xs := qs.map V.ref) (fun j us H' => ∃ ys : List Addr, us = ys.map V.ref ∧ ys.length = j ∧ Same H4 H' ∧ LicsAt cL H' ys (rs.take j)) ⟨[], rfl, rfl, Same.refl _, rfl, fun i p r h => by simp at h⟩ (by rw [List.length_map]; omega) ?_ ?_ ?_ ?_⟩
  · rintro j us H' ⟨ys, rfl, e, _⟩
    rw [List.length_map]; exact Nat.le_of_eq e
  · rintro j us H' _ ⟨ys, _, _, s', _⟩
    exact SqL.of (s' _ _ (t4 _ _ er))
  · rintro j x us H' hx ⟨ys, rfl, ej, s', lc⟩
    rw [List.getElem?_map] at hx
    obtain ⟨qj, hqj, rfl⟩ := Option.map_eq_some_iff.mp hx
    have hj : j < rs.length := by rw [← hql]; exact (List.getElem?_eq_some_iff.mp hqj).1
    have hrj : rs[j]? = some rs[j] := List.getElem?_eq_getElem hj
    have htk := List.take_succ_eq_append_getElem hj
    generalize rs[j] = r at hrj htk
    obtain ⟨gr, rj⟩ := rA.2 j qj r hqj hrj
    refine ⟨_, rfl, qj, r, rfl, gr, rj.same (t4.trans s'), fun x H5 s5 lx => ⟨ys ++ [x], by rw [List.map_append]; rfl, by rw [List.length_append, ej]; rfl, s'.trans s5, ?_⟩⟩
    rw [htk]
    exact lics_snoc (lc.same s5) gr lx
  rintro us H5 ⟨ys, rfl, ely, s5, lc⟩ x2 h2
  rw [List.length_map] at ely lc
  rw [hql, List.take_length] at lc
  have s6 := Same.new (o := .lst (ys.map V.ref)) h2
  have e6 : upd H5 x2 (.lst (ys.map V.ref)) x2 = some (.lst (ys.map V.ref)) := upd_same
  generalize upd H5 x2 (.lst (ys.map V.ref)) = H6 at s6 e6 ⊢
  have t6 := (t4.trans s5).trans s6
  have e3 := s6 _ _ (s5 _ _ e3)
  have e4 := s6 _ _ (s5 _ _ e4)
  have lc := lc.same s6
  refine ⟨(by show 3 ≤ sizeLine; decide), fun lh hlh => ?_⟩
  have g0 := (ne_of_none e3 hlh).symm
  have g1 := (ne_of_none e4 hlh).symm
  have g2 := (ne_of_none e6 hlh).symm
  have s7 := Same.new (o := .lst [.ref x0, .ref x1, .ref x2]) hlh
  have e7 : upd H6 lh (.lst [.ref x0, .ref x1, .ref x2]) lh = some (.lst [.ref x0, .ref x1, .ref x2]) := upd_same
  generalize upd H6 lh (.lst [.ref x0, .ref x1, .ref x2]) = H7 at s7 e7 ⊢
  have t7 := t6.trans s7
  have e3 := s7 _ _ e3
  have e4 := s7 _ _ e4
  have e6 := s7 _ _ e6
  have lc := lc.same s7
  have f0 : H2 x0 = none := h0
  have f1 : H2 x1 = none := s3.free h1
  have f2 : H2 x2 = none := (t4.trans s5).free h2
  refine ⟨fun σ' H' => ∃ lh x0 x1 x2 : Addr, σ' = [some (.ref a), some (.ref lr), some (.ref ln), some (.ref lh), none, none, none, none, none, none] ∧ Same H2 H' ∧ H' lh = some (.lst [.ref x0, .ref x1, .ref x2]) ∧ Sq H' x0 ((zs.take 6).map V.str) ∧ Sq H' x1 ((zs.drop 6).map V.str) ∧ Sq H' x2 (ys.map V.ref) ∧ LicsAt cL H' ys rs ∧ (H2 x0 = none ∧ H2 x1 = none ∧ H2 x2 = none) ∧ (lh ≠ x0 ∧ lh ≠ x1 ∧ lh ≠ x2), ?_, ?_⟩
  · refine ⟨_, rfl, a, ns, 3, rfl, t7.seq hS2, fun c3 => ⟨_, _, rfl, rfl, (by show (0 : Int) < 2; decide), rfl, _, rfl, ite2 (fun _ => ?_) (fun _ => ?_)⟩⟩
    · refine ⟨_, rfl, lh, rfl, ⟨_, SqL.of e7⟩, comp_list (K := K) (a := lh) (xs := [.ref x0, .ref x1, .ref x2]) (fun j us H' => ∃ ts : List Addr, us = ts.map V.ref ∧ ts.length = j ∧ Same H7 H' ∧ (∀ t ∈ ts, H2 t = none) ∧ ∀ (i : Nat) (t : Addr) (c : List V), ts[i]? = some t → [(zs.take 6).map V.str, (zs.drop 6).map V.str, ys.map V.ref][i]? = some c → H' t = some (.tup c)) ⟨[], rfl, rfl, Same.refl _, (fun t ht => by cases ht), (fun i t c h => by simp at h)⟩ (by show 3 ≤ sizeLine; decide) ?_ ?_ ?_ ?_⟩
      · rintro j us H' ⟨ts, rfl, e, _⟩
        rw [List.length_map]; exact Nat.le_of_eq e
      · rintro j us H' _ ⟨ts, _, _, s', _⟩
        exact SqL.of (s' _ _ e7)
      · rintro j x us H' hx ⟨ts, rfl, ej, s', ft, ct⟩
        have hc : ∃ (u : Addr) (c : List V), x = .ref u ∧ [(zs.take 6).map V.str, (zs.drop 6).map V.str, ys.map V.ref][j]? = some c ∧ H7 u = some (.lst c) := by
          match j, hx with
          | 0, hx => cases hx; exact ⟨_, _, rfl, rfl, e3⟩
          | 1, hx => cases hx; exact ⟨_, _, rfl, rfl, e4⟩
          | 2, hx => cases hx; exact ⟨_, _, rfl, rfl, e6⟩
          | n + 3, hx => simp at hx
        obtain ⟨u, c, rfl, hcj, hu⟩ := hc
        refine ⟨_, rfl, u, c, rfl, .inl ⟨SqL.of (s' _ _ hu), fun l hl => ?_⟩⟩
        have sn := Same.new (o := .tup c) hl
        refine ⟨ts ++ [l], by rw [List.map_append]; rfl, by rw [List.length_append, ej]; rfl, s'.trans sn, fun t ht => ?_, fun i t c' hi hc' => ?_⟩
        · rcases List.mem_append.mp ht with h | h
          · exact ft t h
          · rw [List.mem_singleton] at h
            subst h
            exact (t7.trans s').free hl
        · by_cases hlt : i < ts.length
          · rw [List.getElem?_append_left hlt] at hi
            exact sn _ _ (ct i t c' hi hc')
          · have hlt2 := (List.getElem?_eq_some_iff.mp hi).1
            rw [List.length_append, List.length_singleton] at hlt2
            have hij : i = ts.length := by omega
            subst hij
            rw [List.getElem?_concat_length] at hi
            cases hi
            rw [ej, hcj] at hc'
            cases hc'
            exact upd_same
      rintro us H' ⟨ts, rfl, ets, s', ft, ct⟩ l8 hl8
      match ts, ets with
      | [u0, u1, u2], _ =>
      have sn := Same.new (o := .lst [.ref u0, .ref u1, .ref u2]) hl8
      have z0 := ct 0 _ _ rfl rfl
      have z1 := ct 1 _ _ rfl rfl
      have z2 := ct 2 _ _ rfl rfl
      exact ⟨l8, u0, u1, u2, rfl, (t7.trans s').trans sn, upd_same, .inr (sn _ _ z0), .inr (sn _ _ z1), .inr (sn _ _ z2), (lc.same s').same sn, ⟨ft _ (by simp), ft _ (by simp), ft _ (by simp)⟩, ⟨(ne_of_none z0 hl8).symm, (ne_of_none z1 hl8).symm, (ne_of_none z2 hl8).symm⟩⟩
    · exact ⟨lh, x0, x1, x2, rfl, t7, e7, .inl e3, .inl e4, .inl e6, lc, ⟨f0, f1, f2⟩, ⟨g0, g1, g2⟩⟩
  clear g0 g1 g2 t7 e7 e3 e4 e6 lc f0 f1 f2 hlh s7 t6 s6 h2 s5 t4 s4 s3 h1 h0
  rintro σ' H8 ⟨lh, x0, x1, x2, rfl, t8, e8, q0, q1, q2, lc, ⟨f0, f1, f2⟩, ⟨g0, g1, g2⟩⟩
  have hy12 : ys.length ≤ 12 := by omega
  refine ⟨_, rfl, lh, _, _, .ref x0, rfl, rfl, SqL.of e8, rfl, _, rfl, lh, _, _, .ref x1, rfl, rfl, SqL.of e8, rfl, _, rfl, lh, _, _, .ref x2, rfl, rfl, SqL.of e8, rfl, ?_⟩
  refine fun pb dx fx fd _ => ⟨pb, dx, x0, x1, x2, zs.take 6, zs.drop 6, ys, rs, H8, rfl, upd_same, fx, mk_k fx fd, q0, q1, q2, w1, n1, Nat.le_of_eq l1, w2, n2, Nat.le_of_eq l2, lc, nd, hy12, .inr ⟨l1, l2⟩, fun H9 s9 kb => ⟨rfl, ?_⟩⟩
  clear fx fd
  have t9 := t8.trans s9
  -- a book of nothing
  refine ⟨(by show 0 ≤ sizeLine; decide), fun b0 hb0 => ?_⟩
  have s10 := Same.new (o := .lst []) hb0
  have e10 : upd H9 b0 (.lst []) b0 = some (.lst []) := upd_same
  generalize upd H9 b0 (.lst []) = H10 at s10 e10 ⊢
  refine ⟨(by show 0 ≤ sizeLine; decide), fun b1 hb1 => ?_⟩
  have s11 := Same.new (o := .tup []) hb1
  have e11 : upd H10 b1 (.tup []) b1 = some (.tup []) := upd_same
  generalize upd H10 b1 (.tup []) = H11 at s11 e11 ⊢
  refine ⟨(by show 0 ≤ sizeLine; decide), fun b2 hb2 => ?_⟩
  have s12 := Same.new (o := .lst []) hb2
  have e12 : upd H11 b2 (.lst []) b2 = some (.lst []) := upd_same
  generalize upd H11 b2 (.lst []) = H12 at s12 e12 ⊢
  have e10 := s12 _ _ (s11 _ _ e10)
  have e11 := s12 _ _ e11
  refine fun pc dc fx fd _ => ⟨pc, dc, b0, b1, b2, [], [], [], [], H12, rfl, upd_same, fx, mk_k fx fd, .inl e10, .inr e11, .inl e12, (fun z hz => by cases hz), .nil, Nat.zero_le _, (fun z hz => by cases hz), .nil, Nat.zero_le _, ⟨rfl, fun i x r h => by simp at h⟩, .nil, Nat.zero_le _, .inl rfl, fun H13 s13 kc => ⟨rfl, ?_⟩⟩
  clear fx fd
  have s912 := (s10.trans s11).trans s12
  have s913 := s912.trans s13
  have t13 := t9.trans s913
  have e13 := s913 _ _ (s9 _ _ e8)
  -- what was handed in is emptied
  refine ⟨fun σ' H' => (∃ v6 : Option V, σ' = [some (.ref a), some (.ref lr), some (.ref ln), some (.ref lh), some (.ref pb), some (.ref pc), v6, none, none, none]) ∧ ∀ b o, H13 b = some o → ((b ≠ x0 ∧ b ≠ x1 ∧ b ≠ x2) ∨ ∀ xs, o ≠ .lst xs) → H' b = some o, ?_, ?_⟩
  · refine ⟨_, rfl, lh, rfl, ⟨_, SqL.of e13⟩, for_list (K := K) (a := lh) (xs := [.ref x0, .ref x1, .ref x2]) (fun j σ H' => ((∃ v6 : Option V, σ = [some (.ref a), some (.ref lr), some (.ref ln), some (.ref lh), some (.ref pb), some (.ref pc), v6, none, none, none]) ∧ ∀ b o, H13 b = some o → ((b ≠ x0 ∧ b ≠ x1 ∧ b ≠ x2) ∨ ∀ xs, o ≠ .lst xs) → H' b = some o) ∧ ∀ u ∈ [x0, x1, x2], ∃ xs, Sq H' u xs) ⟨⟨⟨_, rfl⟩, fun b o e _ => e⟩, ?_⟩ (fun j σ H' _ h => SqL.of (h.1.2 _ _ e13 (.inl ⟨g0, g1, g2⟩))) ?_ ?_⟩
    · intro u hu
      simp only [List.mem_cons, List.not_mem_nil, or_false] at hu
      rcases hu with rfl | rfl | rfl
      · exact ⟨_, (q0.same s9).same s913⟩
      · exact ⟨_, (q1.same s9).same s913⟩
      · exact ⟨_, (q2.same s9).same s913⟩
    · rintro j x σ H' hx ⟨⟨⟨v6, rfl⟩, kp⟩, sq⟩
      have hu : ∃ u ∈ [x0, x1, x2], x = .ref u := by
        have := List.mem_of_getElem? hx
        simp only [List.mem_cons, List.not_mem_nil, or_false] at this
        rcases this with rfl | rfl | rfl
        · exact ⟨x0, by simp, rfl⟩
        · exact ⟨x1, by simp, rfl⟩
        · exact ⟨x2, by simp, rfl⟩
      obtain ⟨u, hu, rfl⟩ := hu
      obtain ⟨xs, eu | eu⟩ := sq u hu
      · refine ⟨_, rfl, _, _, .type "list", .type "list", true, rfl, rfl, .lst eu, kit_same, _, rfl, iteT ⟨_, rfl, .inl ⟨rfl, _, SqL.of eu⟩, u, xs, rfl, rfl, eu, ⟨⟨_, rfl⟩, fun b o e h => ?_⟩, fun v hv => ?_⟩⟩
        · have hne : b ≠ u := fun z => by
            subst z
            have hb := kp b o e h
            rw [eu] at hb
            cases hb
            rcases h with h | h
            · simp only [List.mem_cons, List.not_mem_nil, or_false] at hu
              rcases hu with z | z | z
              · exact h.1 z
              · exact h.2.1 z
              · exact h.2.2 z
            · exact h _ rfl
          rw [upd_ne hne]
          exact kp b o e h
        · by_cases hvu : v = u
          · subst hvu
            exact ⟨[], .inl upd_same⟩
          · obtain ⟨xs', hx'⟩ := sq v hv
            exact ⟨xs', by unfold Sq; rw [upd_ne hvu]; exact hx'⟩
      · exact ⟨_, rfl, _, _, .type "tuple", .type "list", false, rfl, rfl, .tup eu, kit_tup_list, _, rfl, iteF ⟨⟨⟨_, rfl⟩, kp⟩, sq⟩⟩
    · rintro σ H' ⟨h, _⟩
      exact h
  rintro σ' H14 ⟨⟨v6, rfl⟩, kp⟩
  have fr : ∀ {b : Addr} {o : HO}, H2 b = some o → b ≠ x0 ∧ b ≠ x1 ∧ b ≠ x2 := fun e => ⟨ne_of_none e f0, ne_of_none e f1, ne_of_none e f2⟩
  have t14 : Same H2 H14 := fun b o e => kp b o (t13 _ _ e) (.inl (fr e))
  have old : ∀ {b : Addr}, H8 b = none → b ≠ x0 ∧ b ≠ x1 ∧ b ≠ x2 := fun e => by
    refine ⟨fun z => ?_, fun z => ?_, fun z => ?_⟩
    · subst z
      rcases q0 with h | h <;> (rw [e] at h; cases h)
    · subst z
      rcases q1 with h | h <;> (rw [e] at h; cases h)
    · subst z
      rcases q2 with h | h <;> (rw [e] at h; cases h)
  have B := kb H14 fun b o e h => kp b o (s913 _ _ e) (h.imp old id)
  have C := kc H14 fun b o e h => kp b o e (h.imp (fun z => old ((s9.trans s912).free z)) id)
  clear kb kc kp old t13 e13 s913 s912 s13 s12 s11 s10 s9 t9 e10 e11 e12 hb0 hb1 hb2 q0 q1 q2 g0 g1 g2 f0 f1 f2 fr lc e8 t8
  have er := t14 _ _ er
  have en := t14 _ _ en
  have rA := rA.same t14
  clear t14 hS2 hS
  -- the keys
  refine ⟨_, rfl, lr, rfl, ⟨_, SqL.of er⟩, comp_list (K := K) (a := lr) (xs := qs.map V.ref) (fun j us H' => ∃ ps : List Addr, us = ps.map V.ref ∧ ps.length = j ∧ H14 = H' ∧ KeysOf H14 ps (rs.take j)) ⟨[], rfl, rfl, rfl, rfl, fun i p r h => by simp at h⟩ (by rw [List.length_map]; omega) ?_ ?_ ?_ ?_⟩
  · rintro j us H' ⟨ps, rfl, e, _⟩
    rw [List.length_map]; exact Nat.le_of_eq e
  · rintro j us H' _ ⟨ps, _, _, rfl, _⟩
    exact SqL.of er
  · rintro j x us H' hx ⟨ps, rfl, ej, rfl, ko⟩
    rw [List.getElem?_map] at hx
    obtain ⟨qj, hqj, rfl⟩ := Option.map_eq_some_iff.mp hx
    have hj : j < rs.length := by rw [← hql]; exact (List.getElem?_eq_some_iff.mp hqj).1
    have hrj : rs[j]? = some rs[j] := List.getElem?_eq_getElem hj
    have htk := List.take_succ_eq_append_getElem hj
    generalize rs[j] = r at hrj htk
    obtain ⟨gr, pk, pa, h1, h2, h3⟩ := rA.2 j qj r hqj hrj
    refine ⟨_, rfl, qj, _, _, .ref pk, rfl, rfl, SqT.of h1, rfl, ps ++ [pk], by rw [List.map_append]; rfl, by rw [List.length_append, ej]; rfl, rfl, ?_⟩
    rw [htk]
    exact ko.snoc h2
  rintro us H' ⟨ps, rfl, elp, rfl, ko⟩ lk hlk
  rw [List.length_map] at elp ko
  rw [hql, List.take_length] at ko
  have s15 := Same.new (o := .lst (ps.map V.ref)) hlk
  have e15 : upd H14 lk (.lst (ps.map V.ref)) lk = some (.lst (ps.map V.ref)) := upd_same
  generalize upd H14 lk (.lst (ps.map V.ref)) = H15 at s15 e15 ⊢
  have er := s15 _ _ er
  have en := s15 _ _ en
  have rA := rA.same s15
  have B := B.same s15
  have C := C.same s15
  have ko := ko.same s15
  clear s15 hlk
  have shd := sh_told w1 w2 gd
  refine ⟨fun σ' H' => (∃ v6 v8 v9 : Option V, σ' = [some (.ref a), some (.ref lr), some (.ref ln), some (.ref lh), some (.ref pb), some (.ref pc), v6, some (.ref lk), v8, v9]) ∧ Same H15 H', ?_, ?_⟩
  · refine ⟨2, rfl, (by decide), (by decide), for_range (n := 2) (fun i σ H' => (∃ v6 v8 v9 : Option V, σ = [some (.ref a), some (.ref lr), some (.ref ln), some (.ref lh), some (.ref pb), some (.ref pc), v6, some (.ref lk), v8, v9]) ∧ Same H15 H') ⟨⟨_, _, _, rfl⟩, Same.refl _⟩ ?_ (fun σ H' h => h)⟩
    rintro i σ H16 _ ⟨⟨v6', v8, v9, rfl⟩, s16⟩
    refine ⟨_, rfl, sn_in (B.same s16) fun u0 H17 s17 hu0 m0 => ⟨_, rfl, dn_in (B.same (s16.trans s17)) fun u1 H18 s18 hu1 m1 => ⟨_, rfl, ak_in (B.same ((s16.trans s17).trans s18)) fun u2 ks H19 s19 hu2 m2 kk2 => ?_⟩⟩⟩
    have s619 := (s17.trans s18).trans s19
    have m0 := s19 _ _ (s18 _ _ m0)
    have m1 := s19 _ _ m1
    have n0 : H16 u0 = none := hu0
    have n1' : H16 u1 = none := s17.free hu1
    have n2' : H16 u2 = none := (s17.trans s18).free hu2
    refine ⟨(by show 3 ≤ sizeLine; decide), fun lt hlt => ?_⟩
    have d0 := (ne_of_none m0 hlt).symm
    have d1 := (ne_of_none m1 hlt).symm
    have d2 := (ne_of_none m2 hlt).symm
    have s20 := Same.new (o := .lst [.ref u0, .ref u1, .ref u2]) hlt
    have e20 : upd H19 lt (.lst [.ref u0, .ref u1, .ref u2]) lt = some (.lst [.ref u0, .ref u1, .ref u2]) := upd_same
    generalize upd H19 lt (.lst [.ref u0, .ref u1, .ref u2]) = H20 at s20 e20 ⊢
    have s620 := s619.trans s20
    have m0 := s20 _ _ m0
    have m1 := s20 _ _ m1
    have m2 := s20 _ _ m2
    have kk2 := kk2.same s20
    refine ⟨_, rfl, _, rfl, _, rfl, ln, _, rfl, SqL.of ((s16.trans s620) _ _ en), fun p1 hp1 => ?_⟩
    rw [c1']
    have s21 := Same.new (o := .lst ((zs.take 6).map V.str)) hp1
    have e21 : upd H20 p1 (.lst ((zs.take 6).map V.str)) p1 = some (.lst ((zs.take 6).map V.str)) := upd_same
    generalize upd H20 p1 (.lst ((zs.take 6).map V.str)) = H21 at s21 e21 ⊢
    refine ⟨_, rfl, _, rfl, ln, _, rfl, SqL.of (s21 _ _ ((s16.trans s620) _ _ en)), fun p2 hp2 => ?_⟩
    rw [c2']
    have s22 := Same.new (o := .lst ((zs.drop 6).map V.str)) hp2
    have e22 : upd H21 p2 (.lst ((zs.drop 6).map V.str)) p2 = some (.lst ((zs.drop 6).map V.str)) := upd_same
    generalize upd H21 p2 (.lst ((zs.drop 6).map V.str)) = H22 at s22 e22 ⊢
    refine ⟨_, rfl, (by show 3 ≤ sizeLine; decide), fun p3 hp3 => ?_⟩
    have s23 := Same.new (o := .lst [.ref p1, .ref p2, .ref lk]) hp3
    have e23 : upd H22 p3 (.lst [.ref p1, .ref p2, .ref lk]) p3 = some (.lst [.ref p1, .ref p2, .ref lk]) := upd_same
    generalize upd H22 p3 (.lst [.ref p1, .ref p2, .ref lk]) = H23 at s23 e23 ⊢
    have s2023 := (s21.trans s22).trans s23
    have s623 := s620.trans s2023
    have e21 := s23 _ _ (s22 _ _ e21)
    have e22 := s23 _ _ e22
    have m0 := s2023 _ _ m0
    have m1 := s2023 _ _ m1
    have m2 := s2023 _ _ m2
    have m3 := s2023 _ _ e20
    have kk2 := kk2.same s2023
    refine ⟨_, .lst (SqL.of m3) (.cons (rdNl m0) (.cons (rdNl m1) (.cons (rdKl m2 kk2) .nil))), .lst (SqL.of e23) (.cons (rdNl e21) (.cons (rdNl e22) (.cons (rdKl ((s16.trans s623) _ _ e15) (ko.same (s16.trans s623))) .nil))), shd, _, rfl, iteF ?_⟩
    refine ⟨_, rfl, lt, rfl, ⟨_, SqL.of m3⟩, for_list (K := K) (a := lt) (xs := [.ref u0, .ref u1, .ref u2]) (fun j σ H' => (∃ v6 : Option V, σ = [some (.ref a), some (.ref lr), some (.ref ln), some (.ref lh), some (.ref pb), some (.ref pc), v6, some (.ref lk), some (.int (0 + (i : Int))), some (.ref lt)]) ∧ Same H16 H' ∧ H' lt = some (.lst [.ref u0, .ref u1, .ref u2]) ∧ ∀ u ∈ [u0, u1, u2], ∃ xs : List V, H' u = some (.lst xs) ∧ xs.length ≤ 12 + j) ⟨⟨_, rfl⟩, s623, m3, ?_⟩ (fun j σ H' _ h => SqL.of h.2.2.1) ?_ ?_⟩
    · intro u hu
      simp only [List.mem_cons, List.not_mem_nil, or_false] at hu
      rcases hu with rfl | rfl | rfl
      · exact ⟨_, m0, by rw [List.length_map]; omega⟩
      · exact ⟨_, m1, by rw [List.length_map]; omega⟩
      · exact ⟨_, m2, by rw [List.length_map, kk2.1]; omega⟩
    · rintro j x σ H' hx ⟨⟨v6'', rfl⟩, s', mt, al⟩
      have hj := (List.getElem?_eq_some_iff.mp hx).1
      have hj : j < 3 := hj
      have hu : ∃ u ∈ [u0, u1, u2], x = .ref u ∧ H16 u = none ∧ lt ≠ u := by
        have := List.mem_of_getElem? hx
        simp only [List.mem_cons, List.not_mem_nil, or_false] at this
        rcases this with rfl | rfl | rfl
        · exact ⟨u0, by simp, rfl, n0, d0⟩
        · exact ⟨u1, by simp, rfl, n1', d1⟩
        · exact ⟨u2, by simp, rfl, n2', d2⟩
      obtain ⟨u, hu, rfl, hn, hd⟩ := hu
      obtain ⟨xs, eu, lx⟩ := al u hu
      refine ⟨_, rfl, .inl ⟨rfl, _, SqL.of eu⟩, u, xs, _, rfl, rfl, eu, (by omega), ⟨_, rfl⟩, fun b o e => ?_, ?_, fun v hv => ?_⟩
      · rw [upd_ne (ne_of_none e hn)]
        exact s' _ _ e
      · rw [upd_ne hd]
        exact mt
      · by_cases hvu : v = u
        · subst hvu
          exact ⟨_, upd_same, by rw [List.length_append, List.length_singleton]; omega⟩
        · obtain ⟨xs', hx', lx'⟩ := al v hv
          exact ⟨xs', by rw [upd_ne hvu]; exact hx', by omega⟩
    · rintro σ H' ⟨⟨v6'', rfl⟩, s', _⟩
      exact ⟨⟨_, _, _, rfl⟩, s16.trans s'⟩
  rintro σ' H16 ⟨⟨v6', v8, v9, rfl⟩, s16⟩
  have er := s16 _ _ er
  have e15 := s16 _ _ e15
  have rA := rA.same s16
  have B := B.same s16
  have C := C.same s16
  have ko := ko.same s16
  clear s16 en
  refine ⟨_, rfl, sn_in C fun u0 H17 s17 _ m0 => ⟨_, rfl, dn_in (C.same s17) fun u1 H18 s18 _ m1 => ⟨_, rfl, ak_in (C.same (s17.trans s18)) fun u2 ks H19 s19 _ m2 kk2 => ?_⟩⟩⟩
  have s619 := (s17.trans s18).trans s19
  have m0 := s19 _ _ (s18 _ _ m0)
  have m1 := s19 _ _ m1
  refine ⟨(by show 3 ≤ sizeLine; decide), fun lt hlt => ?_⟩
  have s20 := Same.new (o := .lst [.ref u0, .ref u1, .ref u2]) hlt
  have e20 : upd H19 lt (.lst [.ref u0, .ref u1, .ref u2]) lt = some (.lst [.ref u0, .ref u1, .ref u2]) := upd_same
  generalize upd H19 lt (.lst [.ref u0, .ref u1, .ref u2]) = H20 at s20 e20 ⊢
  refine ⟨(by show 0 ≤ sizeLine; decide), fun p1 hp1 => ?_⟩
  have s21 := Same.new (o := .lst []) hp1
  have e21 : upd H20 p1 (.lst []) p1 = some (.lst []) := upd_same
  generalize upd H20 p1 (.lst []) = H21 at s21 e21 ⊢
  refine ⟨(by show 0 ≤ sizeLine; decide), fun p2 hp2 => ?_⟩
  have s22 := Same.new (o := .lst []) hp2
  have e22 : upd H21 p2 (.lst []) p2 = some (.lst []) := upd_same
  generalize upd H21 p2 (.lst []) = H22 at s22 e22 ⊢
  refine ⟨(by show 0 ≤ sizeLine; decide), fun p3 hp3 => ?_⟩
  have s23 := Same.new (o := .lst []) hp3
  have e23 : upd H22 p3 (.lst []) p3 = some (.lst []) := upd_same
  generalize upd H22 p3 (.lst []) = H23 at s23 e23 ⊢
  refine ⟨(by show 3 ≤ sizeLine; decide), fun p4 hp4 => ?_⟩
  have s24 := Same.new (o := .lst [.ref p1, .ref p2, .ref p3]) hp4
  have e24 : upd H23 p4 (.lst [.ref p1, .ref p2, .ref p3]) p4 = some (.lst [.ref p1, .ref p2, .ref p3]) := upd_same
  generalize upd H23 p4 (.lst [.ref p1, .ref p2, .ref p3]) = H24 at s24 e24 ⊢
  have s2024 := ((s21.trans s22).trans s23).trans s24
  have e21 := s24 _ _ (s23 _ _ (s22 _ _ e21))
  have e22 := s24 _ _ (s23 _ _ e22)
  have e23 := s24 _ _ e23
  have s1924 := s20.trans s2024
  have s1624 := s619.trans s1924
  refine ⟨.list [.list [], .list [], .list []], .lst (SqL.of (s2024 _ _ e20)) (.cons (rdNl (zs := []) (s1924 _ _ m0)) (.cons (rdNl (zs := []) (s1924 _ _ m1)) (.cons (rdKl (L := []) (s1924 _ _ m2) (kk2.same s1924)) .nil))), .lst (SqL.of e24) (.cons (rdNl (zs := []) e21) (.cons (rdNl (zs := []) e22) (.cons (rdNl (zs := []) e23) .nil))), (by decide +kernel), _, rfl, iteF ?_⟩
  have er := s1624 _ _ er
  have e15 := s1624 _ _ e15
  have rA := rA.same s1624
  have B := B.same s1624
  have C := C.same s1624
  have ko := ko.same s1624
  refine ⟨_, rfl, _, rfl, _, rfl, pb, lr, lk, qs, ps, ys, rs, _, _, rfl, B, er, rA, e15, ko, fun H25 s25 => ⟨_, rfl, iteT ?_⟩⟩
  refine ⟨_, rfl, _, rfl, pb, lk, ps, ys, rs, _, _, rfl, B.same s25, s25 _ _ e15, ko.same s25, gd, fun H26 s26 => ⟨_, rfl, iteT ?_⟩⟩
  refine ⟨_, rfl, (by show 0 ≤ sizeLine; decide), fun l27 hl27 => ⟨pc, l27, [], [], [], _, _, rfl, C.same ((s25.trans s26).trans (Same.new hl27)), upd_same, ⟨rfl, fun i p r h => by simp at h⟩, (fun r h => by cases h), fun H28 _ => q _⟩⟩
end
end K14
namespace L2
open PySem PyProof.Rows
structure MTop (K : PySem.W.Frag) (C : Addr) (m qual : Str) (st : Stmt) (ps : List Str) : Prop where
  ex : ∃ (f : Addr) (fd : FuncData), Fun K m qual st f fd ∧ Meth K C m f ∧ Binds K fd ps []
theorem mtop_of {K : PySem.W.Frag} {h : Heap} {C f : Addr} {m qual : Str} {st : Stmt} {ps : List Str} {oc : Value} {od an : Option Addr} {osl : Array (Option Value)} {kV doc pm cdv ct : Value} (X : K.In h)
    (hb : ∀ (kV doc pm : Value) (an : Option Addr) (cdv ct : Value) (us : List Value), us.length = ps.length → bindArgs (PySem.W.fnOf m qual (defArgs st) (defBody st) (defScope st) .none kV doc pm an cdv ct) ⟨us, []⟩ = pure (ps.zip us))
    (a : PySem.W.findIn K (.ref C) m = some (some (.ref f))) (i : PySem.W.isFn K (.ref f) = true) (l : K.lookup f = some ⟨oc, od, .func (PySem.W.fnOf m qual (defArgs st) (defBody st) (defScope st) .none kV doc pm an cdv ct), osl⟩)
    (c : PySem.W.codeIn K cdv qual = true) (k : PySem.W.keepIn K (.ref f) = true) : MTop (KOf X) C m qual st ps :=
  ⟨f, _, fun_mk l c k, ⟨a, i, k⟩, .all fun us => hb kV doc pm an cdv ct us⟩
theorem methD_of {P : Program} {w : World} {K : PySem.W.Frag} {mg : Str → Option Value} {base : Heap} {C : Addr} {m qual : Str} {st : Stmt} {ps : List Str} {k : Nat} {sp : Sp} {CX : CXT} (c : Cls K C) (h : MTop K C m qual st ps) (ok : ∀ f fd, Fun K m qual st f fd → FnOk P w K mg base CX k f fd ps sp) : MethD P w K mg base CX k C m ps sp := by
  obtain ⟨f, fd, F, hm, hb⟩ := h.ex
  exact ⟨f, fd, c, hm, ok f fd F, hb⟩
end L2
namespace K14
open PySem L2 PyProof.Rows
def tOk (K : PySem.W.Frag) (C : Addr) : Bool := PySem.W.plainGet K C Str.empty && PySem.W.hasDictIn K C && PySem.W.plainOver K C && PySem.W.findIn K (.ref C) "__setattr__" == some (some (.builtin "object.__setattr__")) && PySem.W.findIn K (.ref C) "lets" == some none && PySem.W.findIn K (.ref C) "strings" == some none && PySem.W.findIn K (.ref C) "bars" == some none && PySem.W.findIn K (.ref C) "reach" == some none
theorem tOk_of {K : PySem.W.Frag} {C : Addr} (h : tOk K C = true) : TCls K C := by
  unfold tOk at h
  simp only [Bool.and_eq_true, beq_iff_eq] at h
  obtain ⟨⟨⟨⟨⟨⟨⟨a, b⟩, c⟩, d⟩, e⟩, f⟩, g⟩, i⟩ := h
  exact ⟨⟨a, b, c, d⟩, e, f, g, i⟩
def lOk (K : PySem.W.Frag) (C : Addr) : Bool := tOk K C && PySem.W.findIn K (.ref C) "key" == some none && PySem.W.findIn K (.ref C) "same" == some none && PySem.W.findIn K (.ref C) "asks" == some none && PySem.W.findIn K (.ref C) "first" == some none && PySem.W.findIn K (.ref C) "last" == some none && PySem.W.findIn K (.ref C) "lasting" == some none
theorem lOk_of {K : PySem.W.Frag} {C : Addr} (h : lOk K C = true) : LCls K C := by
  unfold lOk at h
  simp only [Bool.and_eq_true, beq_iff_eq] at h
  obtain ⟨⟨⟨⟨⟨⟨a, b⟩, c⟩, d⟩, e⟩, f⟩, g⟩ := h
  exact { toTCls := tOk_of a, key := b, same := c, asks := d, first := e, last := f, lasting := g }
structure TTop (K : PySem.W.Frag) (C : Addr) : Prop where
  ex : ∃ (f : Addr) (fd : FuncData), Fun K "__init__" "Terms.__init__" sTerms_init f fd ∧ Mk K C f ∧ Binds K fd psT [] ∧ PySem.W.readsIn K C (.type "type") = true ∧ PySem.W.findCls K (.ref C) (.type "type") "__init__" = some (.val (.ref f)) ∧
    PySem.W.specialIn K (.ref C) "__getattribute__" = some (some (.builtin "type.__getattribute__")) ∧ PySem.W.keepIn K (.ref f) = true
theorem ttop_of {K : PySem.W.Frag} {h : Heap} {C f : Addr} {oc : Value} {od an : Option Addr} {osl : Array (Option Value)} {kV doc pm cdv ct : Value} (X : K.In h)
    (a : PySem.W.findIn K (.ref C) "__init__" = some (some (.ref f))) (i : PySem.W.isFn K (.ref f) = true) (l : K.lookup f = some ⟨oc, od, .func (PySem.W.fnOf "__init__" "Terms.__init__" (defArgs sTerms_init) (defBody sTerms_init) (defScope sTerms_init) .none kV doc pm an cdv ct), osl⟩)
    (c : PySem.W.codeIn K cdv "Terms.__init__" = true) (k : PySem.W.keepIn K (.ref f) = true) (mk : PySem.W.makesIn K C = true) (kc : PySem.W.keepIn K (.ref C) = true) (rd : PySem.W.readsIn K C (.type "type") = true) (fc : PySem.W.findCls K (.ref C) (.type "type") "__init__" = some (.val (.ref f)))
    (sp : PySem.W.specialIn K (.ref C) "__getattribute__" = some (some (.builtin "type.__getattribute__"))) : TTop (KOf X) C :=
  ⟨f, _, fun_mk l c k, ⟨mk, a, i, kc⟩, .all fun us hl => (match us, hl with | [_, _, _, _, _], _ => rfl), rd, fc, sp, k⟩
structure LTop (K : PySem.W.Frag) (C : Addr) : Prop where
  ex : ∃ (f : Addr) (fd : FuncData) (ds : List Value), FunD K "__init__" "Licence.__init__" sLicence_init f fd ∧ Mk K C f ∧ Binds K fd psL [] ∧ Binds K fd psL ds ∧ Vals [.bl false, .non, .int 0, .int 9999, .bl true] ds
theorem ltop_of {K : PySem.W.Frag} {h : Heap} {C f D : Addr} {oc oc2 : Value} {od an od2 : Option Addr} {osl osl2 : Array (Option Value)} {kV doc pm cdv ct : Value} {t1 t2 : Tok} {n2 : Nat} (X : K.In h)
    (a : PySem.W.findIn K (.ref C) "__init__" = some (some (.ref f))) (i : PySem.W.isFn K (.ref f) = true) (l : K.lookup f = some ⟨oc, od, .func (PySem.W.fnOf "__init__" "Licence.__init__" (defArgs sLicence_init) (defBody sLicence_init) (defScope sLicence_init) (.ref D) kV doc pm an cdv ct), osl⟩)
    (c : PySem.W.codeIn K cdv "Licence.__init__" = true) (k : PySem.W.keepIn K (.ref f) = true) (mk : PySem.W.makesIn K C = true) (kc : PySem.W.keepIn K (.ref C) = true)
    (dd : K.lookup D = some ⟨oc2, od2, .seq #[.bool false, .none, .int 0 t1, .int 9999 t2, .bool true] n2, osl2⟩) : LTop (KOf X) C :=
  ⟨f, _, [.bool false, .none, .int 0 t1, .int 9999 t2, .bool true], ⟨⟨oc, od, _, kV, doc, pm, an, cdv, ct, osl, rfl, l, c⟩, k⟩, ⟨mk, a, i, kc⟩,
    (fun s us hK hl => (match us, (show us.length = 11 by simpa using hl) with | [_, _, _, _, _, _, _, _, _, _, _], _ => PySem.W.binds_K hK rfl dd rfl rfl rfl)),
    (fun s us hK hl => (match us, (show us.length = 6 by simpa using hl) with | [_, _, _, _, _, _], _ => PySem.W.binds_K hK rfl dd rfl rfl rfl)),
    .cons rfl (.cons rfl (.cons ⟨_, rfl⟩ (.cons ⟨_, rfl⟩ (.cons rfl .nil))))⟩
structure BTop (K : PySem.W.Frag) (C : Addr) : Prop where
  ex : ∃ (f : Addr) (fd : FuncData), Fun K "__init__" "Book.__init__" sBook_init f fd ∧ Mk K C f ∧ Binds K fd psB []
theorem btop_of {K : PySem.W.Frag} {h : Heap} {C f : Addr} {oc : Value} {od an : Option Addr} {osl : Array (Option Value)} {kV doc pm cdv ct : Value} (X : K.In h)
    (a : PySem.W.findIn K (.ref C) "__init__" = some (some (.ref f))) (i : PySem.W.isFn K (.ref f) = true) (l : K.lookup f = some ⟨oc, od, .func (PySem.W.fnOf "__init__" "Book.__init__" (defArgs sBook_init) (defBody sBook_init) (defScope sBook_init) .none kV doc pm an cdv ct), osl⟩)
    (c : PySem.W.codeIn K cdv "Book.__init__" = true) (k : PySem.W.keepIn K (.ref f) = true) (mk : PySem.W.makesIn K C = true) (kc : PySem.W.keepIn K (.ref C) = true) : BTop (KOf X) C :=
  ⟨f, _, fun_mk l c k, ⟨mk, a, i, kc⟩, .all fun us hl => (match us, hl with | [_, _, _, _], _ => rfl)⟩
def bOk (K : PySem.W.Frag) (C : Addr) : Bool := PySem.W.plainGet K C Str.empty && PySem.W.hasDictIn K C && PySem.W.plainOver K C && PySem.W.findIn K (.ref C) "__setattr__" == some (some (.builtin "object.__setattr__")) && PySem.W.findIn K (.ref C) "strings" == some none && PySem.W.findIn K (.ref C) "duties" == some none && PySem.W.findIn K (.ref C) "by_key" == some none
theorem bOk_of {K : PySem.W.Frag} {C : Addr} (h : bOk K C = true) : BCls K C := by
  unfold bOk at h
  simp only [Bool.and_eq_true, beq_iff_eq] at h
  obtain ⟨⟨⟨⟨⟨⟨a, b⟩, c⟩, d⟩, e⟩, f⟩, g⟩ := h
  exact ⟨⟨a, b, c, d⟩, e, f, g⟩
def iOk (K : PySem.W.Frag) (C : Addr) : Bool := PySem.W.findIn K (.ref C) "__class__" == some (some (.builtin "object.__class__")) && PySem.W.specialIn K (.builtin "object.__class__") "__get__" == some (some (.builtin "getset_descriptor.__get__")) && PySem.W.takesIn K (.builtin "object.__class__") == some true && PySem.W.mroIn K C (.type "object") == some true && PySem.W.kitOne K (.ref C) (.ref C) == some true
theorem iOk_of {K : PySem.W.Frag} {C : Addr} (h : iOk K C = true) (c : Cls K C) : LKit K C := by
  unfold iOk at h
  simp only [Bool.and_eq_true, beq_iff_eq] at h
  obtain ⟨⟨⟨⟨e1, e2⟩, e3⟩, e4⟩, e5⟩ := h
  exact ⟨c, e1, e2, e3, e4, e5⟩
structure KTop (K : PySem.W.Frag) (mg : Str → Option Value) (cT cL cB ck g : Addr) : Prop where
  gb : GBase K mg "GrantError" g
  xk : XTop K mg "NoKey" "found" sNoKey ck g
  nkc : (PySem.W.clsIn K ck).isSome = true
  nkt : PySem.W.typeIn K (.ref ck) = some (.type "type")
  nkb : PySem.W.mroIn K ck (.type "BaseException") = some true
  nks : PySem.W.mroIn K ck (.ref ck) = some true
  nkg : PySem.W.kitOne K (.ref ck) (.ref g) = some true
  mT : mg "Terms" = some (.ref cT)
  mL : mg "Licence" = some (.ref cL)
  mB : mg "Book" = some (.ref cB)
  mK : mg "NoKey" = some (.ref ck)
  oT : tOk K cT = true
  oL : lOk K cL = true
  oB : bOk K cB = true
  jL : iOk K cL = true
  iT : TTop K cT
  iL : LTop K cL
  iB : BTop K cB
  wt : MTop K cT "wants_same" "Terms.wants_same" sTerms_wants ["self"]
  wl : MTop K cL "wants_same" "Licence.wants_same" sLicence_wants ["self"]
  it : MTop K cT "is_later" "Terms.is_later" sTerms_later ["self", "other"]
  il : MTop K cL "is_later" "Licence.is_later" sLicence_later ["self", "other"]
  ft : MTop K cT "fault" "Terms.fault" sTerms_fault ["self", "other"]
  fl : MTop K cL "fault" "Terms.fault" sTerms_fault ["self", "other"]
  ct : MTop K cT "covers" "Terms.covers" sTerms_covers ["self", "other"]
  cl : MTop K cL "covers" "Terms.covers" sTerms_covers ["self", "other"]
  tl : MTop K cL "told" "Licence.told" sLicence_told ["self"]
  bsn : MTop K cB "string_names" "Book.string_names" sBook_sn ["self"]
  bdn : MTop K cB "duty_names" "Book.duty_names" sBook_dn ["self"]
  bak : MTop K cB "all_keys" "Book.all_keys" sBook_ak ["self"]
  blm : MTop K cB "licence" "Book.licence" sBook_lm ["self", "key"]
  bcm : MTop K cB "coverers" "Book.coverers" sBook_cm ["self", "key"]
theorem ktop_mk {K : PySem.W.Frag} {mg : Str → Option Value} {cT cL cB ck g : Addr} (gb : GBase K mg "GrantError" g) (xk : XTop K mg "NoKey" "found" sNoKey ck g) (nkc : (PySem.W.clsIn K ck).isSome = true) (nkt : PySem.W.typeIn K (.ref ck) = some (.type "type")) (nkb : PySem.W.mroIn K ck (.type "BaseException") = some true) (nks : PySem.W.mroIn K ck (.ref ck) = some true) (nkg : PySem.W.kitOne K (.ref ck) (.ref g) = some true) (mT : mg "Terms" = some (.ref cT)) (mL : mg "Licence" = some (.ref cL)) (mB : mg "Book" = some (.ref cB)) (mK : mg "NoKey" = some (.ref ck)) (oT : tOk K cT = true) (oL : lOk K cL = true) (oB : bOk K cB = true) (jL : iOk K cL = true) (iT : TTop K cT) (iL : LTop K cL) (iB : BTop K cB) (wt : MTop K cT "wants_same" "Terms.wants_same" sTerms_wants ["self"]) (wl : MTop K cL "wants_same" "Licence.wants_same" sLicence_wants ["self"]) (it : MTop K cT "is_later" "Terms.is_later" sTerms_later ["self", "other"]) (il : MTop K cL "is_later" "Licence.is_later" sLicence_later ["self", "other"]) (ft : MTop K cT "fault" "Terms.fault" sTerms_fault ["self", "other"]) (fl : MTop K cL "fault" "Terms.fault" sTerms_fault ["self", "other"]) (ct : MTop K cT "covers" "Terms.covers" sTerms_covers ["self", "other"]) (cl : MTop K cL "covers" "Terms.covers" sTerms_covers ["self", "other"]) (tl : MTop K cL "told" "Licence.told" sLicence_told ["self"]) (bsn : MTop K cB "string_names" "Book.string_names" sBook_sn ["self"]) (bdn : MTop K cB "duty_names" "Book.duty_names" sBook_dn ["self"]) (bak : MTop K cB "all_keys" "Book.all_keys" sBook_ak ["self"]) (blm : MTop K cB "licence" "Book.licence" sBook_lm ["self", "key"]) (bcm : MTop K cB "coverers" "Book.coverers" sBook_cm ["self", "key"]) : ∃ cT cL cB ck g, KTop K mg cT cL cB ck g := ⟨cT, cL, cB, ck, g, gb, xk, nkc, nkt, nkb, nks, nkg, mT, mL, mB, mK, oT, oL, oB, jL, iT, iL, iB, wt, wl, it, il, ft, fl, ct, cl, tl, bsn, bdn, bak, blm, bcm⟩
section
variable {P : Program} {w : World} {K : PySem.W.Frag} {mg : Str → Option Value} {base : Heap} {cT cL cB ck g : Addr}
theorem has_of (h : KTop K mg cT cL cB ck g) : Has P w K mg base ck g :=
  ⟨ok_NoKey h.gb h.xk, h.xk.mro, h.gb.mg, h.mK, h.nkc, h.nkt, h.nkb, h.nks, h.nkg⟩
theorem faultD_of (k : KTop K mg cT cL cB ck g) (tc : TCls K cT) (lc : LCls K cL) (D : THas P w K mg base cT cL) (Fb : FnAt P w K mg base "least_beyond" 3 ["mask", "bound"] spBeyond) : FaultD P w K mg base cT cL := by
  rintro C sp ⟨rfl | rfl, rfl⟩
  · exact methD_of tc.cl k.ft fun f fd F => ok_fault D Fb F
  · exact methD_of lc.cl k.fl fun f fd F => ok_fault D Fb F
theorem covD_of (k : KTop K mg cT cL cB ck g) (tc : TCls K cT) (lc : LCls K cL) (D : THas P w K mg base cT cL) (NF : FaultD P w K mg base cT cL) : CovD P w K mg base cT cL := by
  rintro C sp ⟨rfl | rfl, rfl⟩
  · exact methD_of tc.cl k.ct fun f fd F => ok_covers D NF F
  · exact methD_of lc.cl k.cl fun f fd F => ok_covers D NF F
end
theorem law_fn2 {P : Program} {w : World} {K : PySem.W.Frag} {mg : Str → Option Value} {fa : Addr} (hfa : mg "law" = some (.ref fa)) (T : Txt mg)
    (tis_whole : TopFn K mg "is_whole" sis_whole ["thing"]) (tis_word : TopFn K mg "is_word" sis_word ["thing"]) (tis_key : TopFn K mg "is_key" sis_key ["thing"]) (tis_day : TopFn K mg "is_day" sis_day ["thing"]) (tis_mask : TopFn K mg "is_mask" sis_mask ["thing", "many"]) (tbits_of : TopFn K mg "bits_of" sbits_of ["mask"]) (tleast_bit : TopFn K mg "least_bit" sleast_bit ["mask"]) (tleast_beyond : TopFn K mg "least_beyond" sleast_beyond ["mask", "bound"]) (tare_terms : TopFn K mg "are_terms" sare_terms ["lets", "strings", "bars", "reach"]) (tare_asks : TopFn K mg "are_asks" sare_asks ["thing"]) (tneed_truth : TopFn K mg "need_truth" sneed_truth ["thing"]) (tneed_span : TopFn K mg "need_span" sneed_span ["first", "last"]) (tkept_asks : TopFn K mg "kept_asks" skept_asks ["asks"]) (tkept_names : TopFn K mg "kept_names" skept_names ["names", "most"]) (tkept_strings : TopFn K mg "kept_strings" skept_strings ["names"]) (tkept_duties : TopFn K mg "kept_duties" skept_duties ["names"]) (tneed_named : TopFn K mg "need_named" sneed_named ["licence", "strings", "duties"]) (tkept_licences : TopFn K mg "kept_licences" skept_licences ["licences", "strings", "duties"]) (t_law_cell : TopFn K mg "_law_cell" s_law_cell ["_law_script", "_law_k"]) (t_law_mixed : TopFn K mg "_law_mixed" s_law_mixed ["_law_cell_here", "_law_k"]) (t_law_box : TopFn K mg "_law_box" s_law_box ["_law_cell_here"]) (t_law_take : TopFn K mg "_law_take" s_law_take ["_law_box_here", "_law_many"]) (t_law_words : TopFn K mg "_law_words" s_law_words ["_law_cell_here", "_law_many"]) (t_law_within : TopFn K mg "_law_within" s_law_within ["_law_box_here", "_law_mask", "_law_many"]) (t_law_licence : TopFn K mg "_law_licence" s_law_licence ["_law_box_here", "_law_keys_here", "_law_known"]) (t_law_keys : TopFn K mg "_law_keys" s_law_keys ["_law_cell_here", "_law_many"]) (t_law_book : TopFn K mg "_law_book" s_law_book ["_law_cell_here", "_law_other"]) (t_law_made : TopFn K mg "_law_made" s_law_made ["_law_row"]) (t_law_least : TopFn K mg "_law_least" s_law_least ["_law_mask"]) (t_law_fault : TopFn K mg "_law_fault" s_law_fault ["_law_one", "_law_other"]) (t_law_refused : TopFn K mg "_law_refused" s_law_refused ["_law_book_here", "_law_thing", "_law_way"]) (t_law_no_keys : TopFn K mg "_law_no_keys" s_law_no_keys ["_law_book_here", "_law_keys_here"]) (t_law_covers_good : TopFn K mg "_law_covers_good" s_law_covers_good ["_law_book_here", "_law_rows", "_law_keys_here"]) (tlaw : TopFn K mg "law" slaw ["_law_script"]) (hk : ∃ cT cL cB ck g, KTop K mg cT cL cB ck g) :
    ∃ fd : FuncData, (∀ (s : Shared) (v : Value), BindsTo s fd ⟨[v], []⟩ [("_law_script", v)]) ∧ ∀ base : Heap, K.In base → base.Ns mainGlobals mg → FnOk P w K mg base CX0 10 fa fd ["_law_script"] (spLaw K) := by
  obtain ⟨cT, cL, cB, ck, g, k⟩ := hk
  obtain ⟨fB, dB, FB, MB, BB⟩ := k.iB.ex
  have bc : BCls K cB := bOk_of k.oB
  obtain ⟨fT, dT, FT, MT, BT, rd, fc, sp, kf⟩ := k.iT.ex
  obtain ⟨fL, dL, ds, FL, ML, BL, BD, VD⟩ := k.iL.ex
  have tc : TCls K cT := tOk_of k.oT
  have lc : LCls K cL := lOk_of k.oL
  exact law_mk tlaw hfa sclaw fun base _ _ f cdv A outer s H vs Q E hr h =>
    have D : THas P w K mg base cT cL := ⟨tc, lc, methD_of tc.cl k.wt fun f fd F => ok_twants F, methD_of lc.cl k.wl fun f fd F => ok_lwants lc F, methD_of tc.cl k.it fun f fd F => ok_tlater F, methD_of lc.cl k.il fun f fd F => ok_llater lc F⟩
    have Fw := ok_whole T tis_whole
    have Fwo := ok_word T tis_word
    have Fm := ok_mask Fw tis_mask
    have Fb := ok_beyond (ok_least (ok_bits tbits_of) tleast_bit) tleast_beyond
    have Fa := ok_are_terms T Fm Fw tare_terms
    have Fkept := ok_kept T (ok_are_asks T Fm Fb tare_asks) tkept_asks
    have OT : FnOk P w K mg base CX0 4 fT dT psT (spTInit cT) := ok_tinit tc Fa FT
    have OTL : FnOk P w K mg base CX0 4 fT dT psT (spTInit cL) := ok_tinit lc.toTCls Fa FT
    have CT : CFn P w K mg base "Terms" "__init__" 4 psT (spTInit cL) := ⟨cT, fT, dT, OTL, k.mT, rd, fc, sp, kf, BT⟩
    have OL : FnOk P w K mg base CX0 6 fL dL psL (spLInit cL) := ok_linit lc CT (ok_key T Fwo Fw tis_key) (ok_truth T tneed_truth) Fkept (ok_span (ok_day T Fw tis_day) tneed_span) FL
    have M : Makes P w K mg base cT cL fT fL dT dL ds := ⟨k.mT, k.mL, MT, ML, OT, OL, BT, BL, BD, VD⟩
    have NF : FaultD P w K mg base cT cL := faultD_of k tc lc D Fb
    have NC : CovD P w K mg base cT cL := covD_of k tc lc D NF
    have Fc := ok_cell T t_law_cell
    have Fx := ok_mixed t_law_mixed
    have Fbx := ok_box t_law_box
    have Ft := ok_take Fx t_law_take
    have Fwd := ok_words T Fbx Ft t_law_words
    have Fwi := ok_within Ft t_law_within
    have Fli := ok_licence T Ft Fwi t_law_licence
    have Fke := ok_keys T Fx Fwd t_law_keys
    have Fbo := ok_book T Fbx Ft Fke Fli t_law_book
    have Fma := ok_lmade M t_law_made
    have Fk := ok_key T Fwo Fw tis_key
    have HA : Has P w K mg base ck g := has_of k
    have kit : LKit K cL := iOk_of k.jL lc.cl
    have FN := ok_names T Fwo tkept_names
    have OB : FnOk P w K mg base CX0 5 fB dB psB (spBInit cL cB) := ok_binit bc (ok_strings T FN tkept_strings) (ok_duties T FN tkept_duties) (ok_lics T lc kit k.mL (ok_named T lc Fm tneed_named) tkept_licences) FB
    have BM : BMk P w K mg base cL cB fB dB := ⟨k.mB, MB, OB, BB⟩
    have MLM : ∀ C sp, DLM K cL cB ck C sp → MethD P w K mg base (CXR P w) 3 C "licence" ["self", "key"] sp := fun C sp ⟨e1, e2⟩ => by
      subst e1 e2
      exact methD_of bc.cl k.blm fun f fd F => ok_lm HA bc Fk F
    have MCM : ∀ C sp, DCM K cL cB ck C sp → MethD P w K mg base (CXR P w) 6 C "coverers" ["self", "key"] sp := fun C sp ⟨e1, e2⟩ => by
      subst e1 e2
      exact methD_of bc.cl k.bcm fun f fd F => ok_cm D NC bc MLM F
    have MTL : ∀ C sp, DTL cL C sp → MethD P w K mg base CX0 1 C "told" ["self"] sp := fun C sp ⟨e1, e2⟩ => by
      subst e1 e2
      exact methD_of lc.cl k.tl fun f fd F => ok_ltold lc F
    have MSN : ∀ C sp, DSN cL cB C sp → MethD P w K mg base CX0 1 C "string_names" ["self"] sp := fun C sp ⟨e1, e2⟩ => by
      subst e1 e2
      exact methD_of bc.cl k.bsn fun f fd F => ok_sn T bc F
    have MDN : ∀ C sp, DDN cL cB C sp → MethD P w K mg base CX0 1 C "duty_names" ["self"] sp := fun C sp ⟨e1, e2⟩ => by
      subst e1 e2
      exact methD_of bc.cl k.bdn fun f fd F => ok_dn T bc F
    have MAK : ∀ C sp, DAK cL cB C sp → MethD P w K mg base CX0 1 C "all_keys" ["self"] sp := fun C sp ⟨e1, e2⟩ => by
      subst e1 e2
      exact methD_of bc.cl k.bak fun f fd F => ok_ak T bc F
    law_body T Fc Fbo Fwd Fma BM MSN MDN MAK (ok_cg T lc (ok_lfault T (ok_lleast T t_law_least) t_law_fault) MLM MCM MTL t_law_covers_good) (ok_nk T (ok_refused T HA MLM MCM t_law_refused) t_law_no_keys) f cdv A outer s H vs Q E hr h
end K14
def PySem.W.Fast.tw15210059988974903394 : Nat := 0
def PySem.W.Fast.tw9779535236380579076 : Nat := 0
def PySem.W.Fast.tw17445243016731634848 : Nat := 0
def PySem.W.Fast.tw15392958120155870762 : Nat := 0
def PySem.W.Fast.tw10867438393977682179 : Nat := 0
def PySem.W.Fast.tw15251065722218626985 : Nat := 0
def PySem.W.Fast.tw1734323299931431430 : Nat := 0
def PySem.W.Fast.tw3285145719700782821 : Nat := 0
def PySem.W.Fast.tw7600205779362025707 : Nat := 0
def PySem.W.Fast.tw15016930608489488745 : Nat := 0
def PySem.W.Fast.tw7002681205291412322 : Nat := 0
def PySem.W.Fast.tw9799039085906080315 : Nat := 0
def PySem.W.Fast.tw7675593578831440133 : Nat := 0
def PySem.W.Fast.tw4689938028321793659 : Nat := 0
def PySem.W.Fast.tw5420329739358852751 : Nat := 0
def PySem.W.Fast.tw15794938647839268091 : Nat := 0
def PySem.W.Fast.tw18253644320125507589 : Nat := 0
def PySem.W.Fast.tw16602371922099682812 : Nat := 0
def PySem.W.Fast.tw9049259366173520589 : Nat := 0
def PySem.W.Fast.tw5142755265442422468 : Nat := 0
def PySem.W.Fast.tw29747120131387709 : Nat := 0
def PySem.W.Fast.tw1031491120966279256 : Nat := 0
def PySem.W.Fast.tw6613304469587841144 : Nat := 0
def PySem.W.Fast.tw15707189306380612903 : Nat := 0
def PySem.W.Fast.tw819447400429687438 : Nat := 0
open PySem PySem.W PyProof.Rows
set_option maxRecDepth 100000 in
set_option maxHeartbeats 0 in
theorem PySem.Challenge.cw_grantweave_k14_whole_coverers_holds : PySem.Challenge.rw_grantweave_k14_whole_coverers.Holds := by
  w_on; o_law; k_head; (case hw => w_witness2)
  k_fill
  refine L2.law_walk (l := PySem.Challenge.rw_grantweave_k14_whole_coverers) (x := "_law_script") (k := 10) rfl rfl ⟨rfl, by decide, by decide, rfl⟩ (fun w h Y => PySem.W.kIn_of Y) ?F
  case F =>
    intro w mg fa h KX G hmg
    have t_is_whole : L2.TopFn (L2.KOf KX) mg "is_whole" K14.sis_whole ["thing"] := by
      refine' L2.topFn_of KX G (fun _ _ _ _ _ _ us hl => match us, hl with | [_], _ => rfl) ?a ?l ?c ?k
      (case a => k_is); (case l => k_is); (case c => k_is); (case k => k_is)
    have t_is_word : L2.TopFn (L2.KOf KX) mg "is_word" K14.sis_word ["thing"] := by
      refine' L2.topFn_of KX G (fun _ _ _ _ _ _ us hl => match us, hl with | [_], _ => rfl) ?a ?l ?c ?k
      (case a => k_is); (case l => k_is); (case c => k_is); (case k => k_is)
    have t_is_key : L2.TopFn (L2.KOf KX) mg "is_key" K14.sis_key ["thing"] := by
      refine' L2.topFn_of KX G (fun _ _ _ _ _ _ us hl => match us, hl with | [_], _ => rfl) ?a ?l ?c ?k
      (case a => k_is); (case l => k_is); (case c => k_is); (case k => k_is)
    have t_is_day : L2.TopFn (L2.KOf KX) mg "is_day" K14.sis_day ["thing"] := by
      refine' L2.topFn_of KX G (fun _ _ _ _ _ _ us hl => match us, hl with | [_], _ => rfl) ?a ?l ?c ?k
      (case a => k_is); (case l => k_is); (case c => k_is); (case k => k_is)
    have t_is_mask : L2.TopFn (L2.KOf KX) mg "is_mask" K14.sis_mask ["thing", "many"] := by
      refine' L2.topFn_of KX G (fun _ _ _ _ _ _ us hl => match us, hl with | [_, _], _ => rfl) ?a ?l ?c ?k
      (case a => k_is); (case l => k_is); (case c => k_is); (case k => k_is)
    have t_bits_of : L2.TopFn (L2.KOf KX) mg "bits_of" K14.sbits_of ["mask"] := by
      refine' L2.topFn_of KX G (fun _ _ _ _ _ _ us hl => match us, hl with | [_], _ => rfl) ?a ?l ?c ?k
      (case a => k_is); (case l => k_is); (case c => k_is); (case k => k_is)
    have t_least_bit : L2.TopFn (L2.KOf KX) mg "least_bit" K14.sleast_bit ["mask"] := by
      refine' L2.topFn_of KX G (fun _ _ _ _ _ _ us hl => match us, hl with | [_], _ => rfl) ?a ?l ?c ?k
      (case a => k_is); (case l => k_is); (case c => k_is); (case k => k_is)
    have t_least_beyond : L2.TopFn (L2.KOf KX) mg "least_beyond" K14.sleast_beyond ["mask", "bound"] := by
      refine' L2.topFn_of KX G (fun _ _ _ _ _ _ us hl => match us, hl with | [_, _], _ => rfl) ?a ?l ?c ?k
      (case a => k_is); (case l => k_is); (case c => k_is); (case k => k_is)
    have t_are_terms : L2.TopFn (L2.KOf KX) mg "are_terms" K14.sare_terms ["lets", "strings", "bars", "reach"] := by
      refine' L2.topFn_of KX G (fun _ _ _ _ _ _ us hl => match us, hl with | [_, _, _, _], _ => rfl) ?a ?l ?c ?k
      (case a => k_is); (case l => k_is); (case c => k_is); (case k => k_is)
    have t_are_asks : L2.TopFn (L2.KOf KX) mg "are_asks" K14.sare_asks ["thing"] := by
      refine' L2.topFn_of KX G (fun _ _ _ _ _ _ us hl => match us, hl with | [_], _ => rfl) ?a ?l ?c ?k
      (case a => k_is); (case l => k_is); (case c => k_is); (case k => k_is)
    have t_need_truth : L2.TopFn (L2.KOf KX) mg "need_truth" K14.sneed_truth ["thing"] := by
      refine' L2.topFn_of KX G (fun _ _ _ _ _ _ us hl => match us, hl with | [_], _ => rfl) ?a ?l ?c ?k
      (case a => k_is); (case l => k_is); (case c => k_is); (case k => k_is)
    have t_need_span : L2.TopFn (L2.KOf KX) mg "need_span" K14.sneed_span ["first", "last"] := by
      refine' L2.topFn_of KX G (fun _ _ _ _ _ _ us hl => match us, hl with | [_, _], _ => rfl) ?a ?l ?c ?k
      (case a => k_is); (case l => k_is); (case c => k_is); (case k => k_is)
    have t_kept_asks : L2.TopFn (L2.KOf KX) mg "kept_asks" K14.skept_asks ["asks"] := by
      refine' L2.topFn_of KX G (fun _ _ _ _ _ _ us hl => match us, hl with | [_], _ => rfl) ?a ?l ?c ?k
      (case a => k_is); (case l => k_is); (case c => k_is); (case k => k_is)
    have t_kept_names : L2.TopFn (L2.KOf KX) mg "kept_names" K14.skept_names ["names", "most"] := by
      refine' L2.topFn_of KX G (fun _ _ _ _ _ _ us hl => match us, hl with | [_, _], _ => rfl) ?a ?l ?c ?k
      (case a => k_is); (case l => k_is); (case c => k_is); (case k => k_is)
    have t_kept_strings : L2.TopFn (L2.KOf KX) mg "kept_strings" K14.skept_strings ["names"] := by
      refine' L2.topFn_of KX G (fun _ _ _ _ _ _ us hl => match us, hl with | [_], _ => rfl) ?a ?l ?c ?k
      (case a => k_is); (case l => k_is); (case c => k_is); (case k => k_is)
    have t_kept_duties : L2.TopFn (L2.KOf KX) mg "kept_duties" K14.skept_duties ["names"] := by
      refine' L2.topFn_of KX G (fun _ _ _ _ _ _ us hl => match us, hl with | [_], _ => rfl) ?a ?l ?c ?k
      (case a => k_is); (case l => k_is); (case c => k_is); (case k => k_is)
    have t_need_named : L2.TopFn (L2.KOf KX) mg "need_named" K14.sneed_named ["licence", "strings", "duties"] := by
      refine' L2.topFn_of KX G (fun _ _ _ _ _ _ us hl => match us, hl with | [_, _, _], _ => rfl) ?a ?l ?c ?k
      (case a => k_is); (case l => k_is); (case c => k_is); (case k => k_is)
    have t_kept_licences : L2.TopFn (L2.KOf KX) mg "kept_licences" K14.skept_licences ["licences", "strings", "duties"] := by
      refine' L2.topFn_of KX G (fun _ _ _ _ _ _ us hl => match us, hl with | [_, _, _], _ => rfl) ?a ?l ?c ?k
      (case a => k_is); (case l => k_is); (case c => k_is); (case k => k_is)
    have t__law_cell : L2.TopFn (L2.KOf KX) mg "_law_cell" K14.s_law_cell ["_law_script", "_law_k"] := by
      refine' L2.topFn_of KX G (fun _ _ _ _ _ _ us hl => match us, hl with | [_, _], _ => rfl) ?a ?l ?c ?k
      (case a => k_is); (case l => k_is); (case c => k_is); (case k => k_is)
    have t__law_mixed : L2.TopFn (L2.KOf KX) mg "_law_mixed" K14.s_law_mixed ["_law_cell_here", "_law_k"] := by
      refine' L2.topFn_of KX G (fun _ _ _ _ _ _ us hl => match us, hl with | [_, _], _ => rfl) ?a ?l ?c ?k
      (case a => k_is); (case l => k_is); (case c => k_is); (case k => k_is)
    have t__law_box : L2.TopFn (L2.KOf KX) mg "_law_box" K14.s_law_box ["_law_cell_here"] := by
      refine' L2.topFn_of KX G (fun _ _ _ _ _ _ us hl => match us, hl with | [_], _ => rfl) ?a ?l ?c ?k
      (case a => k_is); (case l => k_is); (case c => k_is); (case k => k_is)
    have t__law_take : L2.TopFn (L2.KOf KX) mg "_law_take" K14.s_law_take ["_law_box_here", "_law_many"] := by
      refine' L2.topFn_of KX G (fun _ _ _ _ _ _ us hl => match us, hl with | [_, _], _ => rfl) ?a ?l ?c ?k
      (case a => k_is); (case l => k_is); (case c => k_is); (case k => k_is)
    have t__law_words : L2.TopFn (L2.KOf KX) mg "_law_words" K14.s_law_words ["_law_cell_here", "_law_many"] := by
      refine' L2.topFn_of KX G (fun _ _ _ _ _ _ us hl => match us, hl with | [_, _], _ => rfl) ?a ?l ?c ?k
      (case a => k_is); (case l => k_is); (case c => k_is); (case k => k_is)
    have t__law_within : L2.TopFn (L2.KOf KX) mg "_law_within" K14.s_law_within ["_law_box_here", "_law_mask", "_law_many"] := by
      refine' L2.topFn_of KX G (fun _ _ _ _ _ _ us hl => match us, hl with | [_, _, _], _ => rfl) ?a ?l ?c ?k
      (case a => k_is); (case l => k_is); (case c => k_is); (case k => k_is)
    have t__law_licence : L2.TopFn (L2.KOf KX) mg "_law_licence" K14.s_law_licence ["_law_box_here", "_law_keys_here", "_law_known"] := by
      refine' L2.topFn_of KX G (fun _ _ _ _ _ _ us hl => match us, hl with | [_, _, _], _ => rfl) ?a ?l ?c ?k
      (case a => k_is); (case l => k_is); (case c => k_is); (case k => k_is)
    have t__law_keys : L2.TopFn (L2.KOf KX) mg "_law_keys" K14.s_law_keys ["_law_cell_here", "_law_many"] := by
      refine' L2.topFn_of KX G (fun _ _ _ _ _ _ us hl => match us, hl with | [_, _], _ => rfl) ?a ?l ?c ?k
      (case a => k_is); (case l => k_is); (case c => k_is); (case k => k_is)
    have t__law_book : L2.TopFn (L2.KOf KX) mg "_law_book" K14.s_law_book ["_law_cell_here", "_law_other"] := by
      refine' L2.topFn_of KX G (fun _ _ _ _ _ _ us hl => match us, hl with | [_, _], _ => rfl) ?a ?l ?c ?k
      (case a => k_is); (case l => k_is); (case c => k_is); (case k => k_is)
    have t__law_made : L2.TopFn (L2.KOf KX) mg "_law_made" K14.s_law_made ["_law_row"] := by
      refine' L2.topFn_of KX G (fun _ _ _ _ _ _ us hl => match us, hl with | [_], _ => rfl) ?a ?l ?c ?k
      (case a => k_is); (case l => k_is); (case c => k_is); (case k => k_is)
    have t__law_least : L2.TopFn (L2.KOf KX) mg "_law_least" K14.s_law_least ["_law_mask"] := by
      refine' L2.topFn_of KX G (fun _ _ _ _ _ _ us hl => match us, hl with | [_], _ => rfl) ?a ?l ?c ?k
      (case a => k_is); (case l => k_is); (case c => k_is); (case k => k_is)
    have t__law_fault : L2.TopFn (L2.KOf KX) mg "_law_fault" K14.s_law_fault ["_law_one", "_law_other"] := by
      refine' L2.topFn_of KX G (fun _ _ _ _ _ _ us hl => match us, hl with | [_, _], _ => rfl) ?a ?l ?c ?k
      (case a => k_is); (case l => k_is); (case c => k_is); (case k => k_is)
    have t__law_refused : L2.TopFn (L2.KOf KX) mg "_law_refused" K14.s_law_refused ["_law_book_here", "_law_thing", "_law_way"] := by
      refine' L2.topFn_of KX G (fun _ _ _ _ _ _ us hl => match us, hl with | [_, _, _], _ => rfl) ?a ?l ?c ?k
      (case a => k_is); (case l => k_is); (case c => k_is); (case k => k_is)
    have t__law_no_keys : L2.TopFn (L2.KOf KX) mg "_law_no_keys" K14.s_law_no_keys ["_law_book_here", "_law_keys_here"] := by
      refine' L2.topFn_of KX G (fun _ _ _ _ _ _ us hl => match us, hl with | [_, _], _ => rfl) ?a ?l ?c ?k
      (case a => k_is); (case l => k_is); (case c => k_is); (case k => k_is)
    have t__law_covers_good : L2.TopFn (L2.KOf KX) mg "_law_covers_good" K14.s_law_covers_good ["_law_book_here", "_law_rows", "_law_keys_here"] := by
      refine' L2.topFn_of KX G (fun _ _ _ _ _ _ us hl => match us, hl with | [_, _, _], _ => rfl) ?a ?l ?c ?k
      (case a => k_is); (case l => k_is); (case c => k_is); (case k => k_is)
    have t_law : L2.TopFn (L2.KOf KX) mg "law" K14.slaw ["_law_script"] := by
      refine' L2.topFn_of KX G (fun _ _ _ _ _ _ us hl => match us, hl with | [_], _ => rfl) ?a ?l ?c ?k
      (case a => k_is); (case l => k_is); (case c => k_is); (case k => k_is)
    have n_len : mg "len" = none := by
      refine' PySem.W.mg_none_of KX G ?a
      (case a => k_is)
    have n_isinstance : mg "isinstance" = none := by
      refine' PySem.W.mg_none_of KX G ?a
      (case a => k_is)
    have n_range : mg "range" = none := by
      refine' PySem.W.mg_none_of KX G ?a
      (case a => k_is)
    have n_int : mg "int" = none := by
      refine' PySem.W.mg_none_of KX G ?a
      (case a => k_is)
    have n_bool : mg "bool" = none := by
      refine' PySem.W.mg_none_of KX G ?a
      (case a => k_is)
    have n_str : mg "str" = none := by
      refine' PySem.W.mg_none_of KX G ?a
      (case a => k_is)
    have n_tuple : mg "tuple" = none := by
      refine' PySem.W.mg_none_of KX G ?a
      (case a => k_is)
    have n_list : mg "list" = none := by
      refine' PySem.W.mg_none_of KX G ?a
      (case a => k_is)
    have n_all : mg "all" = none := by
      refine' PySem.W.mg_none_of KX G ?a
      (case a => k_is)
    have n_zip : mg "zip" = none := by
      refine' PySem.W.mg_none_of KX G ?a
      (case a => k_is)
    have n_min : mg "min" = none := by
      refine' PySem.W.mg_none_of KX G ?a
      (case a => k_is)
    have n_max : mg "max" = none := by
      refine' PySem.W.mg_none_of KX G ?a
      (case a => k_is)
    have n_enumerate : mg "enumerate" = none := by
      refine' PySem.W.mg_none_of KX G ?a
      (case a => k_is)
    have g_LETTERS : ∃ t, mg "LETTERS" = some (.str "abcdefghijklmnopqrstuvwxyz" t) := by
      refine' L2.glob_S KX G ?a ?b
      (case a => k_is)
      (case b => decide +kernel)
    have g_LONGEST_WORD : ∃ t, mg "LONGEST_WORD" = some (.int 8 t) := by
      refine' L2.glob_I KX G ?a ?b
      (case a => k_is)
      (case b => exact ⟨_, rfl⟩)
    have g_GREATEST_NUMBER : ∃ t, mg "GREATEST_NUMBER" = some (.int 99 t) := by
      refine' L2.glob_I KX G ?a ?b
      (case a => k_is)
      (case b => exact ⟨_, rfl⟩)
    have g_LAST_DAY : ∃ t, mg "LAST_DAY" = some (.int 9999 t) := by
      refine' L2.glob_I KX G ?a ?b
      (case a => k_is)
      (case b => exact ⟨_, rfl⟩)
    have g_DEED_BITS : ∃ t, mg "DEED_BITS" = some (.int 5 t) := by
      refine' L2.glob_I KX G ?a ?b
      (case a => k_is)
      (case b => exact ⟨_, rfl⟩)
    have g_STRING_BITS : ∃ t, mg "STRING_BITS" = some (.int 6 t) := by
      refine' L2.glob_I KX G ?a ?b
      (case a => k_is)
      (case b => exact ⟨_, rfl⟩)
    have g_DUTY_BITS : ∃ t, mg "DUTY_BITS" = some (.int 6 t) := by
      refine' L2.glob_I KX G ?a ?b
      (case a => k_is)
      (case b => exact ⟨_, rfl⟩)
    have g_GREATEST_REACH : ∃ t, mg "GREATEST_REACH" = some (.int 3 t) := by
      refine' L2.glob_I KX G ?a ?b
      (case a => k_is)
      (case b => exact ⟨_, rfl⟩)
    have g_MOST_LICENCES : ∃ t, mg "MOST_LICENCES" = some (.int 12 t) := by
      refine' L2.glob_I KX G ?a ?b
      (case a => k_is)
      (case b => exact ⟨_, rfl⟩)
    have g_JOIN_COUNT : ∃ t, mg "JOIN_COUNT" = some (.int 4 t) := by
      refine' L2.glob_I KX G ?a ?b
      (case a => k_is)
      (case b => exact ⟨_, rfl⟩)
    have hk : ∃ cT cL cB ck g, K14.KTop (L2.KOf KX) mg cT cL cB ck g := by
      refine' K14.ktop_mk ?gb ?xk ?nkc ?nkt ?nkb ?nks ?nkg ?mT ?mL ?mB ?mK ?oT ?oL ?oB ?jL ?iT ?iL ?iB ?wt ?wl ?it ?il ?ft ?fl ?ct ?cl ?tl ?bsn ?bdn ?bak ?blm ?bcm
      case gb =>
        refine' L2.gbase_of KX G ?a ?b ?c ?d
        (case a => k_is); (case b => k_is); (case c => k_is); (case d => k_is)
      case xk =>
        refine' L2.xtop_of KX G (fun _ _ _ _ _ _ us hl => match us, hl with | [_, _], _ => rfl) ?a ?kp ?i ?l ?c ?k ?fn ?o ?m
        (case a => k_is); (case kp => k_is); (case i => k_is); (case l => k_is); (case c => k_is); (case k => k_is); (case fn => k_is); (case o => kernel_rfl); (case m => kernel_rfl)
      case mT =>
        refine' PySem.W.mg_of KX G ?a
        (case a => k_is)
      case mL =>
        refine' PySem.W.mg_of KX G ?a
        (case a => k_is)
      case mB =>
        refine' PySem.W.mg_of KX G ?a
        (case a => k_is)
      case mK =>
        refine' PySem.W.mg_of KX G ?a
        (case a => k_is)
      case iT =>
        refine' K14.ttop_of KX ?a ?i ?l ?c ?k ?mk ?kc ?rd ?fc ?sp
        (case a => k_is); (case i => k_is); (case l => k_is); (case c => k_is); (case k => k_is); (case mk => k_is); (case kc => k_is); (case rd => k_is); (case fc => k_is); (case sp => k_is)
      case iL =>
        refine' K14.ltop_of KX ?a ?i ?l ?c ?k ?mk ?kc ?dd
        (case a => k_is); (case i => k_is); (case l => k_is); (case c => k_is); (case k => k_is); (case mk => k_is); (case kc => k_is); (case dd => k_is)
      case iB =>
        refine' K14.btop_of KX ?a ?i ?l ?c ?k ?mk ?kc
        (case a => k_is); (case i => k_is); (case l => k_is); (case c => k_is); (case k => k_is); (case mk => k_is); (case kc => k_is)
      case wt =>
        refine' L2.mtop_of KX (fun _ _ _ _ _ _ us hl => match us, hl with | [_], _ => rfl) ?a ?i ?l ?c ?k
        (case a => k_is); (case i => k_is); (case l => k_is); (case c => k_is); (case k => k_is)
      case wl =>
        refine' L2.mtop_of KX (fun _ _ _ _ _ _ us hl => match us, hl with | [_], _ => rfl) ?a ?i ?l ?c ?k
        (case a => k_is); (case i => k_is); (case l => k_is); (case c => k_is); (case k => k_is)
      case it =>
        refine' L2.mtop_of KX (fun _ _ _ _ _ _ us hl => match us, hl with | [_, _], _ => rfl) ?a ?i ?l ?c ?k
        (case a => k_is); (case i => k_is); (case l => k_is); (case c => k_is); (case k => k_is)
      case il =>
        refine' L2.mtop_of KX (fun _ _ _ _ _ _ us hl => match us, hl with | [_, _], _ => rfl) ?a ?i ?l ?c ?k
        (case a => k_is); (case i => k_is); (case l => k_is); (case c => k_is); (case k => k_is)
      case ft =>
        refine' L2.mtop_of KX (fun _ _ _ _ _ _ us hl => match us, hl with | [_, _], _ => rfl) ?a ?i ?l ?c ?k
        (case a => k_is); (case i => k_is); (case l => k_is); (case c => k_is); (case k => k_is)
      case fl =>
        refine' L2.mtop_of KX (fun _ _ _ _ _ _ us hl => match us, hl with | [_, _], _ => rfl) ?a ?i ?l ?c ?k
        (case a => k_is); (case i => k_is); (case l => k_is); (case c => k_is); (case k => k_is)
      case ct =>
        refine' L2.mtop_of KX (fun _ _ _ _ _ _ us hl => match us, hl with | [_, _], _ => rfl) ?a ?i ?l ?c ?k
        (case a => k_is); (case i => k_is); (case l => k_is); (case c => k_is); (case k => k_is)
      case cl =>
        refine' L2.mtop_of KX (fun _ _ _ _ _ _ us hl => match us, hl with | [_, _], _ => rfl) ?a ?i ?l ?c ?k
        (case a => k_is); (case i => k_is); (case l => k_is); (case c => k_is); (case k => k_is)
      case tl =>
        refine' L2.mtop_of KX (fun _ _ _ _ _ _ us hl => match us, hl with | [_], _ => rfl) ?a ?i ?l ?c ?k
        (case a => k_is); (case i => k_is); (case l => k_is); (case c => k_is); (case k => k_is)
      case bsn =>
        refine' L2.mtop_of KX (fun _ _ _ _ _ _ us hl => match us, hl with | [_], _ => rfl) ?a ?i ?l ?c ?k
        (case a => k_is); (case i => k_is); (case l => k_is); (case c => k_is); (case k => k_is)
      case bdn =>
        refine' L2.mtop_of KX (fun _ _ _ _ _ _ us hl => match us, hl with | [_], _ => rfl) ?a ?i ?l ?c ?k
        (case a => k_is); (case i => k_is); (case l => k_is); (case c => k_is); (case k => k_is)
      case bak =>
        refine' L2.mtop_of KX (fun _ _ _ _ _ _ us hl => match us, hl with | [_], _ => rfl) ?a ?i ?l ?c ?k
        (case a => k_is); (case i => k_is); (case l => k_is); (case c => k_is); (case k => k_is)
      case blm =>
        refine' L2.mtop_of KX (fun _ _ _ _ _ _ us hl => match us, hl with | [_, _], _ => rfl) ?a ?i ?l ?c ?k
        (case a => k_is); (case i => k_is); (case l => k_is); (case c => k_is); (case k => k_is)
      case bcm =>
        refine' L2.mtop_of KX (fun _ _ _ _ _ _ us hl => match us, hl with | [_, _], _ => rfl) ?a ?i ?l ?c ?k
        (case a => k_is); (case i => k_is); (case l => k_is); (case c => k_is); (case k => k_is)
      case nkc => kernel_rfl
      case nkt => kernel_rfl
      case nkb => kernel_rfl
      case nks => kernel_rfl
      case nkg => kernel_rfl
      case oT => kernel_rfl
      case oL => kernel_rfl
      case oB => kernel_rfl
      case jL => kernel_rfl
    exact K14.law_fn2 hmg ⟨n_len, n_isinstance, n_range, n_int, n_bool, n_str, n_tuple, n_list, n_all, n_zip, n_min, n_max, n_enumerate, g_LETTERS, g_LONGEST_WORD, g_GREATEST_NUMBER, g_LAST_DAY, g_DEED_BITS, g_STRING_BITS, g_DUTY_BITS, g_GREATEST_REACH, g_MOST_LICENCES, g_JOIN_COUNT⟩ t_is_whole t_is_word t_is_key t_is_day t_is_mask t_bits_of t_least_bit t_least_beyond t_are_terms t_are_asks t_need_truth t_need_span t_kept_asks t_kept_names t_kept_strings t_kept_duties t_need_named t_kept_licences t__law_cell t__law_mixed t__law_box t__law_take t__law_words t__law_within t__law_licence t__law_keys t__law_book t__law_made t__law_least t__law_fault t__law_refused t__law_no_keys t__law_covers_good t_law hk
