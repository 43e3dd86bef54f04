import PyProof.Rows.All
import Wide.All
import OpenK.AllK
import Wide.FinOn
import Lean
import PyProof.EqAt
import PyProof.EqKinds
import PyProof.TupleCall
import KE.KUnpack
import KE.KDictList
import KE.KIntText
import PyProof.ListMulAny
import KE.KEqDict
import PyProof.InstEq
import KE.KRevIter
import KE.KDictSum
import KE.KItemsList
import KE.KDictOf
import PyProof.AttrMissHeap
import PySem.Challenge.RW_grantweave_k78_whole_any_folder_text
set_option Elab.async false
set_option linter.all false
set_option maxRecDepth 100000
set_option maxHeartbeats 4000000
namespace L2
open PySem PySem.Spec PyProof.Rows

abbrev Key := Sum Int Str
def keyIs : Key → Value → Bool
  | .inl k, v => Value.isInt k v
  | .inr x, v => Value.isStrOf x v
def keyH (w : World) : Key → Int
  | .inl k => hashInt k
  | .inr x => hashStr w x
theorem keyIs_shape : ∀ {k : Key} {v : Value}, keyIs k v = true → (∃ i t, k = Sum.inl i ∧ v = Value.int i t) ∨ (∃ x t, k = Sum.inr x ∧ v = Value.str x t)
  | .inl i, v, h => by
    obtain ⟨t, e⟩ := Value.isInt_shape (k := i) (v := v) h
    exact .inl ⟨i, t, rfl, e⟩
  | .inr x, v, h => by
    obtain ⟨t, e⟩ := Value.isStrOf_shape (x := x) (v := v) h
    exact .inr ⟨x, t, rfl, e⟩
theorem keyIs_int (i : Int) (t : Tok) : keyIs (.inl i) (.int i t) = true := by simp [keyIs, Value.isInt]
theorem keyIs_str (x : Str) (t : Tok) : keyIs (.inr x) (.str x t) = true := by simp [keyIs, Value.isStrOf]
theorem key_ll (a b : Int) : decide ((Sum.inl a : Key) = Sum.inl b) = (a == b) := by
  by_cases e : a = b
  · subst e; simp
  · have h : ¬ (Sum.inl a : Key) = Sum.inl b := fun q => e (Sum.inl.inj q)
    rw [decide_eq_false h]
    exact (beq_eq_false_iff_ne.mpr e).symm
theorem key_rr (a b : Str) : decide ((Sum.inr a : Key) = Sum.inr b) = decide (a = b) := by
  by_cases e : a = b
  · subst e; simp
  · have h : ¬ (Sum.inr a : Key) = Sum.inr b := fun q => e (Sum.inr.inj q)
    rw [decide_eq_false h, decide_eq_false e]
theorem key_lr (a : Int) (b : Str) : decide ((Sum.inl a : Key) = Sum.inr b) = false := decide_eq_false (fun q => nomatch q)
theorem key_rl (a : Str) (b : Int) : decide ((Sum.inr a : Key) = Sum.inl b) = false := decide_eq_false (fun q => nomatch q)

def mixKind (prog : Program) (w : World) : PySem.KeyKind prog w Key where
  is := keyIs
  hash := keyH w
  inj := fun v a b ha hb => by
    rcases keyIs_shape ha with ⟨i, t, rfl, rfl⟩ | ⟨x, t, rfl, rfl⟩
    · rcases keyIs_shape hb with ⟨j, u, rfl, e⟩ | ⟨y, u, rfl, e⟩
      · injection e with e1 _; rw [e1]
      · exact nomatch e
    · rcases keyIs_shape hb with ⟨j, u, rfl, e⟩ | ⟨y, u, rfl, e⟩
      · exact nomatch e
      · injection e with e1 _; rw [e1]
  byValue := fun k v h => by
    rcases keyIs_shape h with ⟨i, t, rfl, rfl⟩ | ⟨x, t, rfl, rfl⟩ <;> rfl
  pyHash := fun hv h => by
    rcases keyIs_shape hv with ⟨i, t, rfl, rfl⟩ | ⟨x, t, rfl, rfl⟩
    · exact wpAny_pyHash_int h
    · exact wpAny_pyHash_str h
  eqBool := fun hu hv h => by
    rcases keyIs_shape hu with ⟨i, t, rfl, rfl⟩ | ⟨x, t, rfl, rfl⟩
    · rcases keyIs_shape hv with ⟨j, u, rfl, rfl⟩ | ⟨y, u, rfl, rfl⟩
      · rw [key_ll] at h; exact wpAny_eqBool_int h
      · rw [key_lr] at h; exact SeqAt.EqAt.int_str i t y u _ _ _ _ h
    · rcases keyIs_shape hv with ⟨j, u, rfl, rfl⟩ | ⟨y, u, rfl, rfl⟩
      · rw [key_rl] at h; exact SeqAt.EqAt.str_int x t j u _ _ _ _ h
      · rw [key_rr] at h; exact wpAny_eqBool_str h
  «strs» := fun k x t v h => by
    rcases keyIs_shape h with ⟨i, u, rfl, e⟩ | ⟨y, u, rfl, e⟩
    · exact nomatch e
    · injection e with e1 _
      subst e1
      cases v <;> rfl

theorem mixKind_int (prog : Program) (w : World) (i : Int) (t : Tok) : (mixKind prog w).is (.inl i) (.int i t) = true := keyIs_int i t
theorem mixKind_str (prog : Program) (w : World) (x : Str) (t : Tok) : (mixKind prog w).is (.inr x) (.str x t) = true := keyIs_str x t
end L2

namespace L2
open PySem PySem.Spec PyProof.Rows

inductive V where
  | non | bl (b : Bool) | int (i : Int) | str (x : Str) | byt (b : Array UInt8) | flt (b : UInt64) | ref (a : Addr) | ty (n : String)
  deriving DecidableEq

def RelV : V → Value → Prop
  | .non, u => u = Value.none
  | .bl b, u => u = Value.bool b
  | .int i, u => ∃ t, u = Value.int i t
  | .str x, u => ∃ t, u = Value.str x t
  | .byt b, u => ∃ t, u = Value.bytes b t
  | .flt b, u => ∃ t, u = Value.float b t
  | .ref a, u => u = Value.ref a
  | .ty n, u => u = Value.type n

abbrev Vals : List V → List Value → Prop := Paired RelV
theorem Vals.length {xs : List V} {us : List Value} (r : Vals xs us) : xs.length = us.length := Paired.length r
theorem Vals.get : ∀ {xs : List V} {us : List Value} {i : Nat} {x : V}, Vals xs us → xs[i]? = some x → ∃ u, us[i]? = some u ∧ RelV x u
  | _, _, _, _, .nil, e => by simp at e
  | _, _, 0, _, .cons r _, e => by simp at e; subst e; exact ⟨_, rfl, r⟩
  | _, _, i + 1, x, .cons _ t, e => by
    obtain ⟨u, h1, h2⟩ := Vals.get (i := i) (x := x) t (by simpa using e)
    exact ⟨u, by simpa using h1, h2⟩
theorem Vals.set {x : V} {u : Value} (r : RelV x u) : ∀ {xs : List V} {us : List Value} (i : Nat), Vals xs us → Vals (xs.set i x) (us.set i u)
  | _, _, _, .nil => .nil
  | _, _, 0, .cons _ t => .cons r t
  | _, _, i + 1, .cons q t => .cons q (Vals.set r i t)
theorem Vals.append : ∀ {xs ys : List V} {us ws : List Value}, Vals xs us → Vals ys ws → Vals (xs ++ ys) (us ++ ws)
  | _, _, _, _, .nil, s => s
  | _, _, _, _, .cons r t, s => .cons r (Vals.append t s)
theorem Vals.take : ∀ {xs : List V} {us : List Value} (n : Nat), Vals xs us → Vals (xs.take n) (us.take n)
  | _, _, 0, _ => .nil
  | _, _, _ + 1, .nil => .nil
  | _, _, n + 1, .cons r t => .cons r (Vals.take n t)
theorem Vals.drop : ∀ {xs : List V} {us : List Value} (n : Nat), Vals xs us → Vals (xs.drop n) (us.drop n)
  | _, _, 0, r => r
  | _, _, _ + 1, .nil => .nil
  | _, _, n + 1, .cons _ t => Vals.drop n t
def RelO : Option V → Option Value → Prop
  | some v, some u => RelV v u
  | none, none => True
  | _, _ => False
def KV {κ : Type} : List (κ × V) → List (κ × Value) → Prop := Paired fun (p : κ × V) (q : κ × Value) => p.1 = q.1 ∧ RelV p.2 q.2

def kV : Key → V
  | .inl i => .int i
  | .inr x => .str x

inductive HO where
    | lst (xs : List V)
    | tup (xs : List V)
    | dK (kvs : List (Key × V)) | dT (kvs : List (List Key × V))
    | set (S : Int → Bool) (n : Nat)
    | ins (C dx : Addr) (fs : List (Str × V))
    | own (x : Addr)
    | xd (fs : List (Str × V))
    | met (f x : Addr)
    | rng (lo hi : Int)
    | frz (o : Obj) (u : HO)
    | tbl (ps : Array Value)
    | ext (φ : Heap → Prop)

abbrev Hp := Addr → Option HO
def upd (H : Hp) (a : Addr) (o : HO) : Hp := fun b => if b = a then some o else H b
theorem upd_same {H : Hp} {a : Addr} {o : HO} : upd H a o a = some o := by unfold upd; rw [if_pos rfl]
theorem upd_ne {H : Hp} {a b : Addr} {o : HO} (h : b ≠ a) : upd H a o b = H b := by unfold upd; rw [if_neg h]
theorem upd_upd {H : Hp} {a : Addr} {o u : HO} : upd (upd H a o) a u = upd H a u := by
  funext b; unfold upd; split <;> rfl
theorem ne_of {H : Hp} {a b : Addr} {o u : HO} (h : H a = some o) (h' : H b = some u) (d : o ≠ u) : a ≠ b := by
  intro e; subst e; rw [h] at h'; exact d (Option.some.inj h')
theorem ne_of_none {H : Hp} {a b : Addr} {o : HO} (h : H a = some o) (h' : H b = none) : a ≠ b := by
  intro e; subst e; rw [h] at h'; cases h'

section
variable (P : Program) (w : World)
def ObjOk (H : Hp) (h : Heap) (a : Addr) : HO → Prop
  | .lst xs => xs.length ≤ sizeLine ∧ ∃ (its : List Value) (n : Nat), Vals xs its ∧ h.get? a = some { cls := .type "list", data := .seq its.toArray n }
  | .tup xs => xs.length ≤ sizeLine ∧ ∃ its : List Value, Vals xs its ∧ IsTup h a its.toArray
  | .dK kvs => kvs.length ≤ sizeLine ∧ (a == sysModules) = false ∧ ∃ vs, KV kvs vs ∧ h.DictOf (mixKind P w) a vs
  | .dT kvs => kvs.length ≤ sizeLine ∧ (a == sysModules) = false ∧ ∃ xs : List (List Key × Addr × Value),
      Paired (fun (p : List Key × V) (q : List Key × Addr × Value) => p.1 = q.1 ∧ H q.2.1 = some (.tup (p.1.map kV)) ∧ RelV p.2 q.2.2) kvs xs ∧
      ∃ o es ep, h.get? a = some o ∧ o.ExactDict ∧ o.data = .dict es ep ∧ es.toList = xs.map (entryOfKey (tupleKind (mixKind P w))) ∧ (xs.map (·.1)).Nodup
  | .set S n => h.SetOf (intKind P w) a S n
  | .ins C dx fs => H dx = some (.own a) ∧ fs.length ≤ 1000 ∧ dx ≠ a ∧ h.get? a = some (PySem.W.instObj C dx) ∧
      ∃ mA, h.Ns1 dx mA ∧ (∀ f, RelO (fs.lookup f) (mA f)) ∧ PySem.Within mA (fs.map (·.1))
  | .own _ => ∃ o, h.get? a = some o
  | .xd fs => ∃ mA, h.Ns1 a mA ∧ ∀ f, RelO (fs.lookup f) (mA f)
  | .rng lo hi => ∃ t u v, h.get? a = some { cls := .type "range", data := .fields #[.int lo t, .int hi u, .int 1 v] }
  | .frz o u => h.get? a = some o ∧ ObjOk H h a u
  | .tbl ps => h.get? a = some { cls := .none, data := .fields ps }
  | .met f x => h.get? a = some (PySem.W.methodObj (.ref f) (.ref x))
  | .ext φ => φ h ∧ (∃ o, h.get? a = some o) ∧ ∀ h1 h2 : Heap, φ h1 → (∀ o, h1.get? a = some o → h2.get? a = some o) → φ h2
def HOk (H : Hp) (h : Heap) : Prop := ∀ a o, H a = some o → ObjOk P w H h a o
end

section
variable {P : Program} {w : World} {H H' : Hp} {h h' : Heap} {a : Addr} {o : HO}
theorem ObjOk.lt (x : ObjOk P w H h a o) : a < h.objs.size := by
  cases o with
  | lst xs => obtain ⟨_, _, _, _, e⟩ := x; exact Heap.lt_size e
  | tup xs => obtain ⟨_, _, _, p⟩ := x; exact p.lt
  | dK kvs => obtain ⟨_, _, _, _, o, _, _, e, _⟩ := x; exact Heap.lt_size e
  | dT kvs => obtain ⟨_, _, _, _, o, _, _, e, _⟩ := x; exact Heap.lt_size e
  | set S n => obtain ⟨o, _, _, _, e, _⟩ := x; exact Heap.lt_size e
  | ins C dx fs => obtain ⟨_, _, _, e, _⟩ := x; exact Heap.lt_size e
  | own y => obtain ⟨_, e⟩ := x; exact Heap.lt_size e
  | xd fs => obtain ⟨_, ⟨_, _, _, e, _⟩, _⟩ := x; exact Heap.lt_size e
  | rng lo hi => obtain ⟨_, _, _, e⟩ := x; exact Heap.lt_size e
  | frz ob u => obtain ⟨e, _⟩ := x; exact Heap.lt_size e
  | tbl ps => exact Heap.lt_size (show h.get? a = some _ from x)
  | met f y => exact Heap.lt_size (show h.get? a = some _ from x)
  | ext φ => obtain ⟨_, ⟨_, e⟩, _⟩ := x; exact Heap.lt_size e
theorem Paired.mapP {α β : Type} {F G : α → β → Prop} : ∀ {l₁ : List α} {l₂ : List β}, Paired F l₁ l₂ → (∀ a b, F a b → G a b) → Paired G l₁ l₂
  | _, _, .nil, _ => .nil
  | _, _, .cons r t, f => .cons (f _ _ r) (Paired.mapP t f)
theorem ObjOk.stay (x : ObjOk P w H h a o) (k : ∀ b u, (b = a ∨ H b = some (.own a)) → h.get? b = some u → h'.get? b = some u)
    (ho : ∀ b, H b = some (.own a) → H' b = some (.own a)) (ht : ∀ b xs, H b = some (.tup xs) → H' b = some (.tup xs)) : ObjOk P w H' h' a o := by
  induction o with
  | lst xs => obtain ⟨z, its, n, r, e⟩ := x; exact ⟨z, its, n, r, k _ _ (.inl rfl) e⟩
  | tup xs => obtain ⟨z, its, r, ob, e, c⟩ := x; exact ⟨z, its, r, ob, k _ _ (.inl rfl) e, c⟩
  | dK kvs => obtain ⟨z, y, vs, r, ob, es, ep, e, c⟩ := x; exact ⟨z, y, vs, r, ob, es, ep, k _ _ (.inl rfl) e, c⟩
  | dT kvs =>
    obtain ⟨z, y, xs, r, ob, es, ep, e, c⟩ := x
    exact ⟨z, y, xs, Paired.mapP r fun p q z => ⟨z.1, ht _ _ z.2.1, z.2.2⟩, ob, es, ep, k _ _ (.inl rfl) e, c⟩
  | set S n => obtain ⟨ob, es, ep, t, e, c⟩ := x; exact ⟨ob, es, ep, t, k _ _ (.inl rfl) e, c⟩
  | ins C dx fs =>
    obtain ⟨d, z, ne, e, mA, ⟨od, es, ep, e2, c⟩, r⟩ := x
    exact ⟨ho _ d, z, ne, k _ _ (.inl rfl) e, mA, ⟨od, es, ep, k _ _ (.inr d) e2, c⟩, r⟩
  | own y => obtain ⟨ob, e⟩ := x; exact ⟨ob, k _ _ (.inl rfl) e⟩
  | xd fs => obtain ⟨mA, ⟨od, es, ep, e, c⟩, r⟩ := x; exact ⟨mA, ⟨od, es, ep, k _ _ (.inl rfl) e, c⟩, r⟩
  | rng lo hi => obtain ⟨t, u, v, e⟩ := x; exact ⟨t, u, v, k _ _ (.inl rfl) e⟩
  | frz ob u ih => obtain ⟨e, q⟩ := x; exact ⟨k _ _ (.inl rfl) e, ih q⟩
  | tbl ps =>
    have e : h.get? a = some { cls := .none, data := .fields ps } := x
    show h'.get? a = some { cls := .none, data := .fields ps }
    exact k a _ (.inl rfl) e
  | met f y =>
    have e : h.get? a = some (PySem.W.methodObj (.ref f) (.ref y)) := x
    show h'.get? a = some (PySem.W.methodObj (.ref f) (.ref y))
    exact k a _ (.inl rfl) e
  | ext φ => obtain ⟨p, ⟨o, e⟩, st⟩ := x; exact ⟨st _ _ p fun o q => k _ _ (.inl rfl) q, ⟨o, k _ _ (.inl rfl) e⟩, st⟩
theorem HOk.lt (x : HOk P w H h) (e : H a = some o) : a < h.objs.size := (x a o e).lt
theorem HOk.fresh (x : HOk P w H h) (e : h.objs.size ≤ a) : H a = none := by
  cases q : H a with
  | none => rfl
  | some u => exact absurd (Nat.lt_of_lt_of_le (x.lt q) e) (Nat.lt_irrefl _)
theorem HOk.kept (x : HOk P w H h) (k : ∀ b u, h.get? b = some u → h'.get? b = some u) : HOk P w H h' := fun a o e =>
  (x a o e).stay (fun b u _ q => k b u q) (fun _ q => q) fun _ _ q => q
theorem HOk.laid (x : HOk P w H h) (k : ∀ b u, h.get? b = some u → h'.get? b = some u) (hp : h.objs.size ≤ a) (new : ObjOk P w (upd H a o) h' a o) : HOk P w (upd H a o) h' := fun b u e => by
  have hn := x.fresh hp
  by_cases hb : b = a
  · subst hb; rw [upd_same] at e; cases e; exact new
  · rw [upd_ne hb] at e
    exact (x b u e).stay (fun c v _ q => k c v q) (fun c q => by rw [upd_ne (ne_of_none q hn)]; exact q) fun c xs q => by rw [upd_ne (ne_of_none q hn)]; exact q
end

def Rd (H : Hp) (a : Addr) (u : HO) : Prop := H a = some u ∨ ∃ o, H a = some (.frz o u)
theorem Rd.ok {P : Program} {w : World} {H : Hp} {h : Heap} {a : Addr} {u : HO} (r : Rd H a u) (x : HOk P w H h) : ObjOk P w H h a u := by
  rcases r with r | ⟨o, r⟩
  · exact x a u r
  · obtain ⟨_, q⟩ := x a _ r
    exact q
def Mut : Option HO → Prop
  | some (.lst _) => True
  | some (.dK _) => True
  | some (.dT _) => True
  | some (.set _ _) => True
  | some (.ins _ _ _) => True
  | some (.ext _) => True
  | _ => False
section
variable {P : Program} {w : World} {H : Hp} {h h' : Heap} {x e : Addr} {o' : HO}
theorem HOk.write (ok : HOk P w H h) (mu : Mut (H x)) (he : e = x ∨ H e = some (.own x)) (k : ∀ b u, b ≠ e → h.get? b = some u → h'.get? b = some u) (heo : ∃ u, h'.get? e = some u)
    (new : ObjOk P w (upd H x o') h' x o') : HOk P w (upd H x o') h' := fun b u q => by
  have nown : ∀ c y, H c = some (.own y) → c ≠ x := fun c y r z => by subst z; rw [r] at mu; exact mu
  have ntup : ∀ c xs, H c = some (.tup xs) → c ≠ x := fun c xs r z => by subst z; rw [r] at mu; exact mu
  by_cases hb : b = x
  · subst hb; rw [upd_same] at q; cases q; exact new
  · rw [upd_ne hb] at q
    by_cases hbe : b = e
    · have q' : H b = some (.own x) := by
        rcases he with z | z
        · exact absurd (hbe.trans z) hb
        · rw [hbe]; exact z
      rw [q] at q'; cases q'
      obtain ⟨v, hv⟩ := heo
      exact ⟨v, by rw [hbe]; exact hv⟩
    · refine (ok b u q).stay (fun c v hc r => k c v ?_ r) (fun c r => by rw [upd_ne (nown c b r)]; exact r) fun c xs r => by rw [upd_ne (ntup c xs r)]; exact r
      rcases hc with rfl | hc
      · exact hbe
      · rintro rfl
        rcases he with z | z
        · exact nown c b hc z
        · rw [hc] at z; cases z; exact hb rfl
end

structure Un (fs ex : List Addr) (H H' : Hp) (h h' : Heap) : Prop where
  keep : ∀ b o, h.get? b = some o → H b = none → b ∉ fs → b ∉ ex → h'.get? b = some o
  slot : ∀ b o, h.get? b = some o → H b = none → b ∈ fs → b ∉ ex → ∃ sl, h'.get? b = some { o with slots := sl }
  free : ∀ b o, h.get? b = some o → H b = none → b ∉ ex → H' b = none
  there : ∀ b o, h.get? b = some o → b ∉ ex → ∃ o', h'.get? b = some o'
  tups : ∀ b xs, H b = some (.tup xs) → H' b = some (.tup xs)
  frzs : ∀ b o u, H b = some (.frz o u) → H' b = some (.frz o u)
  tbls : ∀ b ps, H b = some (.tbl ps) → ∃ more, H' b = some (.tbl (ps ++ more))
section
variable {fs fs' ex ex' : List Addr} {H H1 H2 : Hp} {h h1 h2 h' : Heap} {a x e : Addr} {o : HO}
theorem Un.any (u : Un fs ex H H1 h h1) {b : Addr} {ob : Obj} (q : h.get? b = some ob) (n : H b = none) (hx : b ∉ ex) : ∃ sl, h1.get? b = some { ob with slots := sl } := by
  by_cases hb : b ∈ fs
  · exact u.slot b ob q n hb hx
  · exact ⟨ob.slots, u.keep b ob q n hb hx⟩
theorem Un.kept (k : ∀ b u, h.get? b = some u → h'.get? b = some u) : Un fs ex H H h h' :=
  ⟨fun b ob q _ _ _ => k b ob q, fun b ob q _ _ _ => ⟨ob.slots, k b ob q⟩, fun _ _ _ n _ => n, fun b ob q _ => ⟨ob, k b ob q⟩, fun _ _ q => q, fun _ _ _ q => q, fun _ ps q => ⟨#[], by rw [q]; simp⟩⟩
theorem Un.refl : Un fs ex H H h h := Un.kept fun _ _ q => q
theorem Un.laid (k : ∀ b u, h.get? b = some u → h'.get? b = some u) (hp : h.objs.size ≤ a) (hn : H a = none) : Un fs ex H (upd H a o) h h' where
  keep := fun b u q _ _ _ => k b u q
  slot := fun b u q _ _ _ => ⟨u.slots, k b u q⟩
  free := fun b u q n _ => by rw [upd_ne (Nat.ne_of_lt (Nat.lt_of_lt_of_le (Heap.lt_size q) hp))]; exact n
  there := fun b u q _ => ⟨u, k b u q⟩
  tups := fun b xs q => by rw [upd_ne (ne_of_none q hn)]; exact q
  frzs := fun b u xs q => by rw [upd_ne (ne_of_none q hn)]; exact q
  tbls := fun b ps q => ⟨#[], by rw [upd_ne (ne_of_none q hn), q]; simp⟩
theorem Un.write (mu : Mut (H x)) (he : e = x ∨ H e = some (.own x)) (k : ∀ b u, b ≠ e → h.get? b = some u → h'.get? b = some u) (heo : ∃ u, h'.get? e = some u) : Un fs ex H (upd H x o) h h' := by
  have hx : ∀ b, H b = none → b ≠ x := fun b n z => by subst z; rw [n] at mu; exact mu
  have hb : ∀ b, H b = none → b ≠ e := fun b n z => by
    subst z
    rcases he with r | r
    · exact hx b n r
    · rw [n] at r; cases r
  have hm : ∀ b u, H b = some u → ¬ Mut (some u) → b ≠ x := fun b u q nm z => by subst z; rw [q] at mu; exact nm mu
  refine ⟨fun b u q n _ _ => k b u (hb b n) q, fun b u q n _ _ => ⟨u.slots, k b u (hb b n) q⟩, fun b u q n _ => by rw [upd_ne (hx b n)]; exact n, fun b u q _ => ?_,
    fun b xs q => by rw [upd_ne (hm b _ q fun z => z)]; exact q, fun b u xs q => by rw [upd_ne (hm b _ q fun z => z)]; exact q, fun b ps q => ⟨#[], by rw [upd_ne (hm b _ q fun z => z), q]; simp⟩⟩
  by_cases hbe : b = e
  · subst hbe; exact heo
  · exact ⟨u, k b u hbe q⟩
end

def trk (h : Heap) (H : Hp) : List Addr := (List.range h.objs.size).filter fun a => (H a).isSome
def hidT (h : Heap) (H : Hp) : Heap := PySem.W.hideAll h (trk h H)
theorem hidT_size (h : Heap) (H : Hp) : (hidT h H).objs.size = h.objs.size := PySem.W.hideAll_size _ _
theorem hidT_get {h : Heap} {H : Hp} {b : Addr} {o : Obj} (e : h.get? b = some o) (n : H b = none) : (hidT h H).get? b = some o :=
  PySem.W.hideAll_get _ e fun hm => by
    have q : (H b).isSome = true := (List.mem_filter.mp hm).2
    rw [n] at q; simp at q
theorem of_hidT {h : Heap} {H : Hp} {b : Addr} {o : Obj} (e : (hidT h H).get? b = some o) : h.get? b = some o ∧ H b = none := by
  have e' : h.get? b = some o := PySem.W.of_hideAll (trk h H) e
  refine ⟨e', ?_⟩
  cases q : H b with
  | none => rfl
  | some x =>
    have hm : b ∈ trk h H := List.mem_filter.mpr ⟨List.mem_range.mpr (Heap.lt_size e'), by simp [q]⟩
    have z : (hidT h H).get? b = none := PySem.W.hideAll_none (trk h H) hm
    rw [z] at e; cases e

def allNews (g h : Heap) (L : Addr) : List (Addr × Obj) := (List.range h.objs.size).filterMap fun a => if a = L ∨ (g.get? a).isSome = true then none else (h.get? a).map fun o => (a, o)
def rest (g h : Heap) (L d : Addr) : List (Addr × Obj) := (allNews g h L).filter fun p => decide (p.1 ≠ d)
end L2

namespace L2
open PySem PySem.Spec PyProof.Rows

structure Mod (K : PySem.W.Frag) (mg : Str → Option Value) (base : Heap) : Prop where
  kin : K.In base
  glob : base.Ns mainGlobals mg
  blt : ∃ mb, base.Ns builtinsNs mb ∧ ∀ x : Str, x ≠ "__name__" → mb x = bootBuiltins x
  nolimit : base.NoLimit

structure Cx where
  prog : Program
  w : World
  K : PySem.W.Frag
  mg : Str → Option Value
  base : Heap
  A : Around
  N : List Str
  s₀ : Shared
  H₀ : Hp
  env : Env
  outer : List Env
  stack : List Env
  ex : List Addr
  fn : Str → Bool
  calm : Bool
  pn : List (Addr × Obj)
  xe : Value → Shared → Prop
def frs (l : List Env) : List Addr := l.filterMap (·.frame)
abbrev Cx.fs (X : Cx) : List Addr := frs X.outer

def Vis (sc : Scope) (x : Str) : Prop := sc.names.lookup x = some .local ∨ sc.names.lookup x = some .cell ∨ sc.names.lookup x = some .free
def Loc (sc : Scope) (x : Str) : Prop := sc.names.lookup x = some .local ∨ sc.names.lookup x = some .cell
def Look (env : Env) (h : Heap) (m : Str → Option Value) (x : Str) (u : Value) : Prop :=
  (env.kindOf x = some .local ∧ m x = some u) ∨ ((env.kindOf x = some .cell ∨ env.kindOf x = some .free) ∧ ∃ c, env.cells.lookup x = some c ∧ h.IsCell c (some u))

structure Cx.Ok (X : Cx) : Prop where
  mod : Mod X.K X.mg X.base
  kind : X.env.scope.kind = .function
  glob : X.env.globals = mainGlobals
  blt : X.env.builtins = builtinsNs
  above : X.s₀.heap.objs.size ≤ X.env.locals
  inj : ∀ x y c, X.env.cells.lookup x = some c → X.env.cells.lookup y = some c → x = y
  has : ∀ x, (X.env.kindOf x = some .cell ∨ X.env.kindOf x = some .free) → ∃ c, X.env.cells.lookup x = some c
  cab : ∀ x c, X.fn x = true → X.env.cells.lookup x = some c → X.s₀.heap.objs.size ≤ c
  hd : X.calm = true → X.A.handled = none
  frames : X.A.frames = some X.stack
  stk : X.stack = X.outer ∨ (X.stack = X.env :: X.outer ∧ X.env.frame = some X.env.locals)
  exf : ∀ b ∈ X.ex, b ≠ X.env.locals ∧ ∀ x c, X.env.cells.lookup x = some c → c ≠ b
  bs : ∀ b o, X.base.get? b = some o → X.s₀.heap.get? b = some o ∧ X.H₀ b = none
  bsz : X.base.objs.size ≤ X.s₀.heap.objs.size
  noex : ∀ b o, X.base.get? b = some o → b ∉ X.ex
  exfs : ∀ b ∈ X.ex, b ∉ X.fs
  funs : X.s₀.heap.FunFrames X.base X.outer
  frf : ∀ b ∈ X.fs, X.H₀ b = none

structure Inv (X : Cx) (pins : List (Addr × Obj)) (σ : List (Option V)) (H : Hp) (s : Shared) : Prop where
  ok : X.Ok
  os : s.os = X.s₀.os
  bare : AllBare s.gens
  base : Un X.fs X.ex X.H₀ H X.s₀.heap s.heap
  loc : ∃ m, s.heap.Ns X.env.locals m ∧ ∀ (i : Nat) (x : Str) (v : V), X.N[i]? = some x → σ[i]? = some (some v) → Vis X.env.scope x → ∃ u, RelV v u ∧ Look X.env s.heap m x u
  cell : ∀ x c, X.env.cells.lookup x = some c → ∃ v, s.heap.IsCell c v
  free : H X.env.locals = none
  freeC : ∀ x c, X.env.cells.lookup x = some c → H c = none
  pin : ∀ p ∈ X.pn ++ pins, s.heap.get? p.1 = some p.2 ∧ H p.1 = none ∧ p.1 ≠ X.env.locals ∧ p.1 ∉ X.fs ∧ ∀ v, p.2.data ≠ .cell v
  hok : HOk X.prog X.w H s.heap
  len : σ.length = X.N.length

section
variable {X : Cx} {pins : List (Addr × Obj)} {σ : List (Option V)} {H H' : Hp} {s : Shared} {h' : Heap}

theorem Cx.Ok.nofr (ok : X.Ok) {b : Addr} {o : Obj} (e : X.base.get? b = some o) : b ∉ X.fs := fun hb => by
  have := (ok.funs.mem hb).1
  rw [e] at this; cases this
theorem Inv.bs (I : Inv X pins σ H s) : ∀ b o, X.base.get? b = some o → s.heap.get? b = some o ∧ H b = none := fun b o e =>
  ⟨I.base.keep b o (I.ok.bs b o e).1 (I.ok.bs b o e).2 (I.ok.nofr e) (I.ok.noex b o e), I.base.free b o (I.ok.bs b o e).1 (I.ok.bs b o e).2 (I.ok.noex b o e)⟩
theorem Inv.bk (I : Inv X pins σ H s) : ∀ b o, X.base.get? b = some o → s.heap.get? b = some o := fun b o e => (I.bs b o e).1
theorem Inv.mod (I : Inv X pins σ H s) : Mod X.K X.mg X.base := I.ok.mod
theorem Inv.kIn (I : Inv X pins σ H s) : X.K.In s.heap := I.ok.mod.kin.keeps I.bk
theorem Inv.lt (I : Inv X pins σ H s) : X.env.locals < s.heap.objs.size := let ⟨_, hn, _⟩ := I.loc; hn.lt
theorem Inv.sz (I : Inv X pins σ H s) : X.s₀.heap.objs.size ≤ s.heap.objs.size := Nat.le_trans I.ok.above (Nat.le_of_lt I.lt)
theorem Inv.nofs (I : Inv X pins σ H s) {a : Addr} (h : s.heap.objs.size ≤ a) : a ∉ X.fs := fun hb => by
  obtain ⟨_, o, ho, _⟩ := I.ok.funs.mem hb
  exact absurd (Nat.lt_of_lt_of_le (Heap.lt_size ho) (Nat.le_trans I.sz h)) (Nat.lt_irrefl _)
theorem Inv.cne (I : Inv X pins σ H s) : ∀ x c, X.env.cells.lookup x = some c → c ≠ X.env.locals := fun x c e z => by
  obtain ⟨v, o, ho, hd⟩ := I.cell x c e
  obtain ⟨m, ⟨o', es, ep, ho', hd', _⟩, _⟩ := I.loc
  rw [z, ho'] at ho; cases ho; rw [hd'] at hd; cases hd
theorem Inv.funs (I : Inv X pins σ H s) : s.heap.FunFrames X.base X.outer := by
  have all : ∀ (l : List Env), (∀ b ∈ frs l, b ∈ X.fs) → X.s₀.heap.FunFrames X.base l → s.heap.FunFrames X.base l := by
    intro l
    induction l with
    | nil => intro _ _; trivial
    | cons env r ih =>
      intro hs hl
      obtain ⟨hk, ⟨L, o, hf, hn, ho, hd⟩, hr⟩ := hl
      have hL : L ∈ X.fs := hs L (by unfold frs; rw [List.filterMap_cons, hf]; exact List.mem_cons_self)
      obtain ⟨sl, e⟩ := I.base.slot L o ho (I.ok.frf L hL) hL fun z => I.ok.exfs L z hL
      exact ⟨hk, ⟨L, _, hf, hn, e, hd⟩, ih (fun b hb => hs b (by unfold frs; rw [List.filterMap_cons, hf]; exact List.mem_cons_of_mem _ hb)) hr⟩
  exact all X.outer (fun _ hb => hb) I.ok.funs

theorem Inv.stack (I : Inv X pins σ H s) : s.heap.FunFrames X.base X.stack := by
  rcases I.ok.stk with e | ⟨e, hf⟩
  · rw [e]; exact I.funs
  · rw [e]
    obtain ⟨m, hn, _⟩ := I.loc
    refine .cons (by rw [I.ok.kind]; decide) hf hn ?_ I.funs
    exact Heap.get?_none_of_le (Nat.le_trans I.ok.bsz I.ok.above)
theorem Inv.stkSub (I : Inv X pins σ H s) : ∀ b ∈ frs X.stack, b ∈ X.env.locals :: X.fs := fun b hb => by
  rcases I.ok.stk with e | ⟨e, hf⟩
  · rw [e] at hb; exact List.mem_cons_of_mem _ hb
  · rw [e] at hb
    unfold frs at hb
    rw [List.filterMap_cons, hf] at hb
    exact hb
theorem Inv.stkFree (I : Inv X pins σ H s) : ∀ b ∈ frs X.stack, H b = none := fun b hb => by
  rcases List.mem_cons.mp (I.stkSub b hb) with e | hb
  · rw [e]; exact I.free
  · obtain ⟨_, o, ho, _⟩ := I.ok.funs.mem hb
    exact I.base.free b o ho (I.ok.frf b hb) fun z => I.ok.exfs b z hb

theorem Inv.step {g' : Array GenState} {t' : Nat} {d' : Drawn} {ch : List Addr} (I : Inv X pins σ H s)
    (hch : ∀ b ∈ ch, (b ∈ X.ex ∨ X.s₀.heap.objs.size ≤ b) ∧ b ≠ X.env.locals ∧ (∀ x c, X.env.cells.lookup x = some c → c ≠ b) ∧ ∀ p ∈ X.pn ++ pins, p.1 ≠ b)
    (keep : ∀ b o, b ≠ X.env.locals → b ∉ X.fs → b ∉ ch → s.heap.get? b = some o → H b = none → h'.get? b = some o)
    (slot : ∀ b o, b ≠ X.env.locals → b ∈ X.fs → b ∉ ch → s.heap.get? b = some o → H b = none → ∃ sl, h'.get? b = some { o with slots := sl }) (free : ∀ b o, b ∉ ch → s.heap.get? b = some o → H b = none → H' b = none)
    (there : ∀ b o, b ∉ ch → s.heap.get? b = some o → ∃ o', h'.get? b = some o')
    (tups : ∀ b xs, H b = some (.tup xs) → H' b = some (.tup xs)) (frzs : ∀ b o u, H b = some (.frz o u) → H' b = some (.frz o u)) (tbls : ∀ b ps, H b = some (.tbl ps) → ∃ more, H' b = some (.tbl (ps ++ more)))
    (ns : ∀ m, s.heap.Ns X.env.locals m → h'.Ns X.env.locals m) (hok : HOk X.prog X.w H' h') (hg : AllBare g') :
    Inv X pins σ H' { s with heap := h', gens := g', drawn := d', toks := t' } := by
  have neL : ∀ b o, X.s₀.heap.get? b = some o → b ≠ X.env.locals := fun b o e => Nat.ne_of_lt (Nat.lt_of_lt_of_le (Heap.lt_size e) I.ok.above)
  have neC : ∀ b o, X.s₀.heap.get? b = some o → b ∉ X.ex → b ∉ ch := fun b o e hx hb => by
    rcases (hch b hb).1 with z | z
    · exact hx z
    · exact absurd (Nat.lt_of_lt_of_le (Heap.lt_size e) z) (Nat.lt_irrefl _)
  have cellK : ∀ x c, X.env.cells.lookup x = some c → ∀ v, s.heap.IsCell c v → h'.IsCell c v := fun x c e v ⟨o, ho, hd⟩ => by
    have nch : c ∉ ch := fun z => (hch c z).2.2.1 x c e rfl
    by_cases hc : c ∈ X.fs
    · obtain ⟨sl, q⟩ := slot c o (I.cne x c e) hc nch ho (I.freeC x c e)
      exact ⟨_, q, hd⟩
    · exact ⟨o, keep c o (I.cne x c e) hc nch ho (I.freeC x c e), hd⟩
  refine ⟨I.ok, I.os, hg, ⟨fun b o e n hb hx => ?_, fun b o e n hb hx => ?_, fun b o e n hx => ?_, fun b o e hx => ?_, fun b xs e => tups b xs (I.base.tups b xs e), fun b o xs e => frzs b o xs (I.base.frzs b o xs e), fun b ps e => ?_⟩, ?_, fun x c e => ?_, ?_, fun x c e => ?_, fun p hp => ?_, hok, I.len⟩
  · exact keep b o (neL b o e) hb (neC b o e hx) (I.base.keep b o e n hb hx) (I.base.free b o e n hx)
  · obtain ⟨sl, e1⟩ := I.base.slot b o e n hb hx
    obtain ⟨sl', e2⟩ := slot b _ (neL b o e) hb (neC b o e hx) e1 (I.base.free b o e n hx)
    exact ⟨sl', e2⟩
  · obtain ⟨o', e1⟩ := I.base.there b o e hx
    exact free b o' (neC b o e hx) e1 (I.base.free b o e n hx)
  · obtain ⟨o', e1⟩ := I.base.there b o e hx
    exact there b o' (neC b o e hx) e1
  · obtain ⟨m1, e1⟩ := I.base.tbls b ps e
    obtain ⟨m2, e2⟩ := tbls b _ e1
    exact ⟨m1 ++ m2, by rw [e2, Array.append_assoc]⟩
  · obtain ⟨m, hn, hl⟩ := I.loc
    refine ⟨m, ns m hn, fun i x v e1 e2 e3 => ?_⟩
    obtain ⟨u, r, l⟩ := hl i x v e1 e2 e3
    refine ⟨u, r, ?_⟩
    rcases l with l | ⟨k, c, e, z⟩
    · exact .inl l
    · exact .inr ⟨k, c, e, cellK x c e _ z⟩
  · obtain ⟨v, z⟩ := I.cell x c e
    exact ⟨v, cellK x c e v z⟩
  · obtain ⟨m, ⟨o, _, _, ho, _⟩, _⟩ := I.loc
    exact free _ o (fun z => (hch _ z).2.1 rfl) ho I.free
  · obtain ⟨v, o, ho, hd⟩ := I.cell x c e
    exact free c o (fun z => (hch c z).2.2.1 x c e rfl) ho (I.freeC x c e)
  · obtain ⟨e, n, ne, nf, d⟩ := I.pin p hp
    have nch : p.1 ∉ ch := fun z => (hch p.1 z).2.2.2 p hp rfl
    exact ⟨keep p.1 p.2 ne nf nch e n, free p.1 p.2 nch e n, ne, nf, d⟩
theorem Inv.un {t' : Nat} (I : Inv X pins σ H s) (u : Un X.fs [] H H' s.heap h') (hok : HOk X.prog X.w H' h') : Inv X pins σ H' { s with heap := h', toks := t' } := by
  obtain ⟨m, ⟨o, es, ep, ho, r⟩, _⟩ := id I.loc
  obtain ⟨sl, hL⟩ := u.any ho I.free (by simp)
  exact I.step (g' := s.gens) (d' := s.drawn) (ch := []) (fun _ z => nomatch z) (fun b o _ hb _ e n => u.keep b o e n hb (by simp)) (fun b o _ hb _ e n => u.slot b o e n hb (by simp)) (fun b o _ e n => u.free b o e n (by simp)) (fun b o _ e => u.there b o e (by simp)) u.tups u.frzs u.tbls (fun m' hm => by
    obtain ⟨o', es', ep', ho', r'⟩ := hm
    rw [ho] at ho'; cases ho'
    exact ⟨_, es', ep', hL, r'⟩) hok I.bare
theorem Inv.call {g' : Array GenState} {t' : Nat} {d' : Drawn} {ch : List Addr} (I : Inv X pins σ H s) (u : Un (frs X.stack) ch H H' s.heap h') (hok : HOk X.prog X.w H' h') (hg : AllBare g')
    (hch : ∀ b ∈ ch, (b ∈ X.ex ∨ X.s₀.heap.objs.size ≤ b) ∧ b ≠ X.env.locals ∧ (∀ x c, X.env.cells.lookup x = some c → c ≠ b) ∧ ∀ p ∈ X.pn ++ pins, p.1 ≠ b) :
    Inv X pins σ H' { s with heap := h', gens := g', drawn := d', toks := t' } := by
  obtain ⟨m, ⟨o, es, ep, ho, r⟩, _⟩ := id I.loc
  obtain ⟨sl, hL⟩ := u.any ho I.free fun z => (hch _ z).2.1 rfl
  exact I.step (ch := ch) hch (fun b o hL hb hc e n => u.keep b o e n (fun z => (List.mem_cons.mp (I.stkSub b z)).elim hL hb) hc) (fun b o _ _ hc e n => u.any e n hc) (fun b o hc e n => u.free b o e n hc) (fun b o hc e => u.there b o e hc) u.tups u.frzs u.tbls (fun m' hm => by
    obtain ⟨o', es', ep', ho', r'⟩ := hm
    rw [ho] at ho'; cases ho'
    exact ⟨_, es', ep', hL, r'⟩) hok hg
theorem Inv.turned {t' : Nat} {it : Addr} (I : Inv X pins σ H s) (k : ∀ b o, b ≠ it → s.heap.get? b = some o → h'.get? b = some o) (hn : H it = none) (hL : it ≠ X.env.locals)
    (h1 : it ∈ X.ex ∨ X.s₀.heap.objs.size ≤ it) (h2 : ∀ x c, X.env.cells.lookup x = some c → c ≠ it) (h3 : ∀ p ∈ X.pn ++ pins, p.1 ≠ it) : Inv X pins σ H { s with heap := h', toks := t' } := by
  have nit : ∀ b u, H b = some u → b ≠ it := fun b u e z => by rw [z, hn] at e; cases e
  refine I.step (g' := s.gens) (d' := s.drawn) (ch := [it]) (fun b hb => ?_) (fun b o _ _ hc e _ => k b o (fun z => hc (by simp [z])) e) (fun b o _ _ hc e _ => ⟨o.slots, k b o (fun z => hc (by simp [z])) e⟩) (fun _ _ _ _ n => n)
    (fun b o hc e => ⟨o, k b o (fun z => hc (by simp [z])) e⟩) (fun _ _ e => e) (fun _ _ _ e => e) (fun b ps e => ⟨#[], by rw [e]; simp⟩) (fun m hm => ?_) (fun b u e => ?_) I.bare
  · have e : b = it := by simpa using hb
    subst e
    exact ⟨h1, hL, h2, h3⟩
  · obtain ⟨o, es, ep, ho, r⟩ := hm
    exact ⟨o, es, ep, k _ o (Ne.symm hL) ho, r⟩
  · refine (I.hok b u e).stay (fun c v hc q => k c v ?_ q) (fun _ q => q) fun _ _ q => q
    rcases hc with z | z
    · rw [z]; exact nit b u e
    · exact nit c _ z
theorem Inv.tok (I : Inv X pins σ H s) (t : Nat) : Inv X pins σ H { s with toks := t } := I.un (h' := s.heap) (t' := t) Un.refl I.hok
theorem Inv.kept {t' : Nat} (I : Inv X pins σ H s) (k : ∀ b u, s.heap.get? b = some u → h'.get? b = some u) : Inv X pins σ H { s with heap := h', toks := t' } := I.un (Un.kept k) (I.hok.kept k)
theorem Inv.laid {a : Addr} {o : HO} {t' : Nat} (I : Inv X pins σ H s) (k : ∀ b u, s.heap.get? b = some u → h'.get? b = some u) (hp : s.heap.objs.size ≤ a) (new : ObjOk X.prog X.w (upd H a o) h' a o) :
    Inv X pins σ (upd H a o) { s with heap := h', toks := t' } := I.un (Un.laid k hp (I.hok.fresh hp)) (I.hok.laid k hp new)
theorem Inv.write {x e : Addr} {o : HO} {t' : Nat} (I : Inv X pins σ H s) (mu : Mut (H x)) (he : e = x ∨ H e = some (.own x)) (k : ∀ b u, b ≠ e → s.heap.get? b = some u → h'.get? b = some u) (heo : ∃ u, h'.get? e = some u)
    (new : ObjOk X.prog X.w (upd H x o) h' x o) : Inv X pins σ (upd H x o) { s with heap := h', toks := t' } := I.un (Un.write mu he k heo) (I.hok.write mu he k heo new)
theorem Inv.pins_of {pins' : List (Addr × Obj)} (I : Inv X pins σ H s) (h : ∀ p ∈ pins', s.heap.get? p.1 = some p.2 ∧ H p.1 = none ∧ p.1 ≠ X.env.locals ∧ p.1 ∉ X.fs ∧ ∀ v, p.2.data ≠ .cell v) : Inv X pins' σ H s :=
  ⟨I.ok, I.os, I.bare, I.base, I.loc, I.cell, I.free, I.freeC, fun p hp => (List.mem_append.mp hp).elim (fun z => I.pin p (List.mem_append_left _ z)) (h p), I.hok, I.len⟩

theorem nodup_ix {N : List Str} (hN : N.Nodup) {i j : Nat} {x : Str} (a : N[i]? = some x) (b : N[j]? = some x) : i = j := by
  obtain ⟨h1, e1⟩ := List.getElem?_eq_some_iff.mp a
  obtain ⟨h2, e2⟩ := List.getElem?_eq_some_iff.mp b
  exact (List.getElem_inj hN).mp (e1.trans e2.symm)

theorem store_ok2 {M : Model} {A : Around} {E : Value → Shared → Prop} {i : Nat} {x : Str} {v : V} {u : Value} {Q : Unit → Shared → Prop} (I : Inv X pins σ H s) (hN : X.N.Nodup) (hi : X.N[i]? = some x) (hx : Loc X.env.scope x) (r : RelV v u)
    (h : ∀ s', Inv X pins (σ.set i (some v)) H s' → (∃ a, Heap.SameBut a s.heap s'.heap ∧ (a = X.env.locals ∨ X.env.cells.lookup x = some a)) → Q () s') (hf : X.fn x = true ∨ X.env.scope.names.lookup x = some .local := by first | exact .inl rfl | exact .inr rfl | assumption) : wpAny M A (storeName X.env x u) Q E s := by
  obtain ⟨m, hn, hl⟩ := id I.loc
  have hcls : (X.env.scope.kind == .class || (X.env.scope.kind == .module && X.env.locals != X.env.globals)) = false := by rw [I.ok.kind]; rfl
  have hiσ : i < σ.length := by rw [I.len]; exact (List.getElem?_eq_some_iff.mp hi).1
  have cne := I.cne
  have tracked : ∀ {a : Addr} {h' : Heap}, (∃ o, s.heap.get? a = some o ∧ H a = none) → Heap.SameBut a s.heap h' → HOk X.prog X.w H h' := fun {a h'} ha hs b ob e => by
    obtain ⟨_, _, hfree⟩ := ha
    refine (I.hok b ob e).stay (fun c w' hc q => (hs.2 c ?_).trans q) (fun _ q => q) fun _ _ q => q
    rintro rfl
    rcases hc with rfl | hc
    · rw [hfree] at e; cases e
    · rw [hfree] at hc; cases hc
  rcases hx with hk | hk
  · refine wpAny_storeName_local hk hn (fun h' hn' hs => ?_) hcls
    obtain ⟨oL, _, _, hoL, _⟩ := id hn
    refine h _ ⟨I.ok, I.os, I.bare, ⟨fun b o e n hb hx => ?_, fun b o e n hb hx => ?_, I.base.free, fun b o e hx => ?_, I.base.tups, I.base.frzs, I.base.tbls⟩, ⟨_, hn', fun j y v' e1 e2 e3 => ?_⟩, fun y c e => ?_, I.free, I.freeC, fun p hp => ?_, tracked ⟨oL, hoL, I.free⟩ hs, by simpa using I.len⟩ ⟨_, hs, .inl rfl⟩
    · exact (hs.2 b (Nat.ne_of_lt (Nat.lt_of_lt_of_le (Heap.lt_size e) I.ok.above))).trans (I.base.keep b o e n hb hx)
    · obtain ⟨sl, e1⟩ := I.base.slot b o e n hb hx
      exact ⟨sl, (hs.2 b (Nat.ne_of_lt (Nat.lt_of_lt_of_le (Heap.lt_size e) I.ok.above))).trans e1⟩
    · obtain ⟨o', e1⟩ := I.base.there b o e hx
      exact ⟨o', (hs.2 b (Nat.ne_of_lt (Nat.lt_of_lt_of_le (Heap.lt_size e) I.ok.above))).trans e1⟩
    · by_cases hj : j = i
      · subst hj
        rw [hi] at e1; cases e1
        rw [List.getElem?_set_self hiσ] at e2
        cases e2
        exact ⟨u, r, .inl ⟨hk, by simp⟩⟩
      · rw [List.getElem?_set_ne (Ne.symm hj)] at e2
        obtain ⟨u', r', q⟩ := hl j y v' e1 e2 e3
        refine ⟨u', r', ?_⟩
        rcases q with ⟨k, e⟩ | ⟨k, c, e, z⟩
        · refine .inl ⟨k, ?_⟩
          have : y ≠ x := fun e => hj (nodup_ix hN e1 (e ▸ hi))
          simp [this, e]
        · exact .inr ⟨k, c, e, z.sameBut hs (cne y c e)⟩
    · obtain ⟨w', z⟩ := I.cell y c e
      exact ⟨w', z.sameBut hs (cne y c e)⟩
    · obtain ⟨e, n, ne, nf, d⟩ := I.pin p hp
      exact ⟨(hs.2 p.1 ne).trans e, n, ne, nf, d⟩
  · have hfn : X.fn x = true := by
      rcases hf with z | z
      · exact z
      · rw [z] at hk; cases hk
    obtain ⟨c, hc⟩ := I.ok.has x (.inl hk)
    obtain ⟨w', z⟩ := I.cell x c hc
    refine wpAny_storeName_cell I.ok.kind hk hc z (fun h' hc' hs => ?_)
    obtain ⟨oc, hoc, hocd⟩ := id z
    refine h { s with heap := h' } ⟨I.ok, I.os, I.bare, ⟨fun b o e n hb hx => ?_, fun b o e n hb hx => ?_, I.base.free, fun b o e hx => ?_, I.base.tups, I.base.frzs, I.base.tbls⟩, ⟨m, hn.sameBut hs (Ne.symm (cne x c hc)), fun j y v' e1 e2 e3 => ?_⟩, fun y c' e => ?_, I.free, I.freeC, fun p hp => ?_, tracked ⟨oc, hoc, I.freeC x c hc⟩ hs, by simpa using I.len⟩ ⟨c, hs, .inr hc⟩
    · exact (hs.2 b (Nat.ne_of_lt (Nat.lt_of_lt_of_le (Heap.lt_size e) (I.ok.cab x c hfn hc)))).trans (I.base.keep b o e n hb hx)
    · obtain ⟨sl, e1⟩ := I.base.slot b o e n hb hx
      exact ⟨sl, (hs.2 b (Nat.ne_of_lt (Nat.lt_of_lt_of_le (Heap.lt_size e) (I.ok.cab x c hfn hc)))).trans e1⟩
    · obtain ⟨o', e1⟩ := I.base.there b o e hx
      exact ⟨o', (hs.2 b (Nat.ne_of_lt (Nat.lt_of_lt_of_le (Heap.lt_size e) (I.ok.cab x c hfn hc)))).trans e1⟩
    · by_cases hj : j = i
      · subst hj
        rw [hi] at e1; cases e1
        rw [List.getElem?_set_self hiσ] at e2
        cases e2
        exact ⟨u, r, .inr ⟨.inl hk, c, hc, hc'⟩⟩
      · rw [List.getElem?_set_ne (Ne.symm hj)] at e2
        obtain ⟨u', r', q⟩ := hl j y v' e1 e2 e3
        refine ⟨u', r', ?_⟩
        rcases q with q | ⟨k, c', e, z'⟩
        · exact .inl q
        · refine .inr ⟨k, c', e, z'.sameBut hs ?_⟩
          rintro rfl
          exact hj (nodup_ix hN e1 (I.ok.inj _ _ _ e hc ▸ hi))
    · by_cases hcc : c' = c
      · subst hcc; exact ⟨_, hc'⟩
      · obtain ⟨w2, z2⟩ := I.cell y c' e
        exact ⟨w2, z2.sameBut hs hcc⟩
    · obtain ⟨e, n, ne, nf, d⟩ := I.pin p hp
      refine ⟨(hs.2 p.1 ?_).trans e, n, ne, nf, d⟩
      intro q
      rw [q, hoc] at e
      have q' : oc = p.2 := Option.some.inj e
      exact d w' (by rw [← q']; exact hocd)
theorem store_ok {M : Model} {A : Around} {E : Value → Shared → Prop} {i : Nat} {x : Str} {v : V} {u : Value} {Q : Unit → Shared → Prop} (I : Inv X pins σ H s) (hN : X.N.Nodup) (hi : X.N[i]? = some x) (hx : Loc X.env.scope x) (r : RelV v u)
    (h : ∀ s', Inv X pins (σ.set i (some v)) H s' → Q () s') (hf : X.fn x = true ∨ X.env.scope.names.lookup x = some .local := by first | exact .inl rfl | exact .inr rfl | assumption) : wpAny M A (storeName X.env x u) Q E s :=
  store_ok2 I hN hi hx r (fun s' I' _ => h s' I') hf
theorem Inv.call' {s' : Shared} {ch : List Addr} (I : Inv X pins σ H s) (ho : s'.os = s.os) (u : Un (frs X.stack) ch H H' s.heap s'.heap) (hok : HOk X.prog X.w H' s'.heap) (hg : AllBare s'.gens)
    (hch : ∀ b ∈ ch, (b ∈ X.ex ∨ X.s₀.heap.objs.size ≤ b) ∧ b ≠ X.env.locals ∧ (∀ x c, X.env.cells.lookup x = some c → c ≠ b) ∧ ∀ p ∈ X.pn ++ pins, p.1 ≠ b) : Inv X pins σ H' s' := by
  obtain ⟨h', g', d', t', o'⟩ := s'
  have e : o' = s.os := ho
  subst e
  exact I.call (g' := g') (t' := t') (d' := d') u hok hg hch
end

abbrev XK := Value → Option Addr → Hp → Prop
abbrev St := List (Option V)
abbrev VK := V → Hp → Prop
abbrev TE := St → Hp → VK → Prop
abbrev TT := St → Hp → (Bool → Hp → Prop) → Prop
abbrev TA := St → Hp → (List V → Hp → Prop) → Prop
structure Ends where
  nx : St → Hp → Prop
  rt : VK
  bk : St → Hp → Prop := fun _ _ => False
  ct : St → Hp → Prop := fun _ _ => False
abbrev TS := Ends → St → Hp → Prop

def EP (X : Cx) (pins : List (Addr × Obj)) (σ : St) (Q : VK) (u : Value) (s' : Shared) : Prop := ∃ v H', Inv X pins σ H' s' ∧ RelV v u ∧ Q v H'
def TP (X : Cx) (pins : List (Addr × Obj)) (σ : St) (Q : Bool → Hp → Prop) (b : Bool) (s' : Shared) : Prop := ∃ H', Inv X pins σ H' s' ∧ Q b H'
def AP (X : Cx) (pins : List (Addr × Obj)) (σ : St) (Q : List V → Hp → Prop) (us : List Value) (s' : Shared) : Prop := ∃ vs H', Inv X pins σ H' s' ∧ Vals vs us ∧ Q vs H'
def SP (X : Cx) (pins : List (Addr × Obj)) (D : Ends) (f : Flow) (s' : Shared) : Prop :=
  match f with
  | .next => ∃ σ' H', Inv X pins σ' H' s' ∧ D.nx σ' H'
  | .brk => ∃ σ' H', Inv X pins σ' H' s' ∧ D.bk σ' H'
  | .cont => ∃ σ' H', Inv X pins σ' H' s' ∧ D.ct σ' H'
  | .ret u => ∃ v σ' H', Inv X pins σ' H' s' ∧ RelV v u ∧ D.rt v H'

def PE (X : Cx) (e : Expr) (t : TE) : Prop :=
  ∀ (pins : List (Addr × Obj)) (s : Shared) (σ : St) (H : Hp) (Q : VK), Inv X pins σ H s → t σ H Q → wpAny (model X.prog X.w) X.A (eval e X.env) (EP X pins σ Q) X.xe s
def PT (X : Cx) (e : Expr) (t : TT) : Prop :=
  ∀ (pins : List (Addr × Obj)) (s : Shared) (σ : St) (H : Hp) (Q : Bool → Hp → Prop), Inv X pins σ H s → t σ H Q → wpAny (model X.prog X.w) X.A (isTrue e X.env (eval e X.env)) (TP X pins σ Q) X.xe s
def PW (X : Cx) (e : Expr) (t : TT) : Prop :=
  ∀ (whole : Sem Value) (pins : List (Addr × Obj)) (s : Shared) (σ : St) (H : Hp) (Q : Bool → Hp → Prop), Inv X pins σ H s → t σ H Q → wpAny (model X.prog X.w) X.A (isTrue e X.env whole) (TP X pins σ Q) X.xe s
theorem PW.pt {X : Cx} {e : Expr} {t : TT} (h : PW X e t) : PT X e t := h _
def PA (X : Cx) (es : List Expr) (t : TA) : Prop :=
  ∀ (pos : Pos) (pins : List (Addr × Obj)) (s : Shared) (σ : St) (H : Hp) (Q : List V → Hp → Prop), Inv X pins σ H s → t σ H Q → wpAny (model X.prog X.w) X.A (spliced (backTo pos (starEach es X.env))) (AP X pins σ Q) X.xe s
def PS (X : Cx) (st : Stmt) (t : TS) : Prop :=
  ∀ (pins : List (Addr × Obj)) (s : Shared) (σ : St) (H : Hp) (D : Ends), Inv X pins σ H s → t D σ H → wpAny (model X.prog X.w) X.A (exec st X.env) (SP X pins D) X.xe s
def PSs (X : Cx) (st : List Stmt) (t : TS) : Prop :=
  ∀ (pins : List (Addr × Obj)) (s : Shared) (σ : St) (H : Hp) (D : Ends), Inv X pins σ H s → t D σ H → wpAny (model X.prog X.w) X.A (execs st X.env) (SP X pins D) X.xe s
theorem thn {α : Type} {t : Sem α} {Q Q' : α → Shared → Prop} {M : Model} {A : Around} {E : Value → Shared → Prop} {s : Shared} (h : wpAny M A t Q E s) (hQ : ∀ a s, Q a s → Q' a s) : wpAny M A t Q' E s := wpAny_mono h hQ fun _ _ x => x
end L2

namespace L2
open PySem PySem.Spec PyProof.Rows
section
variable {X : Cx}

def tVar (i : Nat) : TE := fun σ H Q => ∃ v, σ[i]? = some (some v) ∧ Q v H
def tC (v : V) : TE := fun _ H Q => Q v H
theorem pe_var {i : Nat} {x : Str} {pos : Pos} (hN : X.N[i]? = some x) (hv : Vis X.env.scope x) (hd : (x == ("__debug__" : Str)) = false := by decide) (hcd : (x == ("__classdict__" : Str)) = false := by decide) : PE X (.Name x pos) (tVar i) := by
  intro pins s σ H Q I h
  obtain ⟨v, e, h⟩ := h
  obtain ⟨m, hn, hl⟩ := I.loc
  obtain ⟨u, r, l⟩ := hl i x v hN e hv
  have fin : EP X pins σ Q u s := ⟨v, H, I, r, h⟩
  rcases l with ⟨hk, hm⟩ | ⟨hk, c, hc, hcell⟩
  · exact wpAny_Name (wpAny_loadName_local I.ok.kind hk hn hm fin) hd
  · rcases hk with hk | hk
    · exact wpAny_Name (wpAny_loadName_cell I.ok.kind hk hc hcell fin) hd
    · exact wpAny_Name (wpAny_loadName_free I.ok.kind hk hc hcell fin hcd) hd
theorem pe_int {i j pos} : PE X (.Constant (.int i) j pos) (tC (.int i)) := fun _ _ _ H _ I h => wpAny_Constant_int ⟨.int i, H, I.tok _, ⟨_, rfl⟩, h⟩
theorem pe_bl {b j pos} : PE X (.Constant (.bool b) j pos) (tC (.bl b)) := fun _ _ _ H _ I h => Constant_bool ⟨.bl b, H, I, rfl, h⟩
theorem pe_non {j pos} : PE X (.Constant .none j pos) (tC .non) := fun _ _ _ H _ I h => Constant_none ⟨.non, H, I, rfl, h⟩
theorem pe_str {x j pos} : PE X (.Constant (.str x) j pos) (tC (.str x)) := fun _ _ _ H _ I h => Calls.Constant_str ⟨.str x, H, I.tok _, ⟨_, rfl⟩, h⟩

def Gl (X : Cx) (x : Str) : Prop := X.env.kindOf x = some .globalImplicit
theorem ld_glob {E : Value → Shared → Prop} {pins : List (Addr × Obj)} {s : Shared} {σ : St} {H : Hp} {x : Str} {u : Value} {pos : Pos} {Q : Value → Shared → Prop} (I : Inv X pins σ H s) (hg : Gl X x) (hm : X.mg x = some u) (h : Q u s)
    (hd : (x == ("__debug__" : Str)) = false := by decide) : wpAny (model X.prog X.w) X.A (eval (.Name x pos) X.env) Q E s :=
  Calls.Name_function_global I.ok.kind hg (Calls.loadGlobal_global (by rw [I.ok.glob]; exact I.mod.glob.keeps I.bk) hm h) hd
theorem ld_blt {E : Value → Shared → Prop} {pins : List (Addr × Obj)} {s : Shared} {σ : St} {H : Hp} {x : Str} {u : Value} {pos : Pos} {Q : Value → Shared → Prop} (I : Inv X pins σ H s) (hg : Gl X x) (hm : X.mg x = none) (hv : bootBuiltins x = some u) (h : Q u s)
    (hn : x ≠ "__name__" := by decide) (hd : (x == ("__debug__" : Str)) = false := by decide) : wpAny (model X.prog X.w) X.A (eval (.Name x pos) X.env) Q E s := by
  obtain ⟨mb, h1, h2⟩ := I.mod.blt
  exact Calls.Name_function_global I.ok.kind hg (Calls.loadGlobal_builtin (by rw [I.ok.glob]; exact I.mod.glob.keeps I.bk) hm (by rw [I.ok.blt]; exact h1.keeps I.bk) ((h2 x hn).trans hv) h) hd
theorem pe_glob {x : Str} {v : V} {u : Value} {pos : Pos} (hg : Gl X x) (hm : X.mg x = some u) (r : RelV v u) (hd : (x == ("__debug__" : Str)) = false := by decide) : PE X (.Name x pos) (tC v) :=
  fun _ _ _ H _ I h => ld_glob I hg hm ⟨v, H, I, r, h⟩ hd
theorem pe_bltn {x : Str} {v : V} {u : Value} {pos : Pos} (hg : Gl X x) (hm : X.mg x = none) (hv : bootBuiltins x = some u) (r : RelV v u) (hn : x ≠ "__name__" := by decide) (hd : (x == ("__debug__" : Str)) = false := by decide) : PE X (.Name x pos) (tC v) :=
  fun _ _ _ H _ I h => ld_blt I hg hm hv ⟨v, H, I, r, h⟩ hn hd

variable {a b : Expr} {ta tb : TE} {pos : Pos}
def PC (X : Cx) (op : CmpOp) (a b : Expr) (t : TE) : Prop :=
  ∀ (pins : List (Addr × Obj)) (s : Shared) (σ : St) (H : Hp) (Q : VK), Inv X pins σ H s → t σ H Q →
    wpAny (model X.prog X.w) X.A (eval a X.env) (fun v s₁ => wpAny (model X.prog X.w) X.A (eval b X.env) (fun u s₂ => wpAny (model X.prog X.w) X.A (compareOp op v u) (EP X pins σ Q) X.xe s₂) X.xe s₁) X.xe s
theorem nobehind (b : Expr) {op : CmpOp} (h : op ≠ .In) (h2 : op ≠ .NotIn) : behindInMarks op b = false := by
  have e1 : (op == CmpOp.In) = false := by cases op <;> first | rfl | exact absurd rfl h
  have e2 : (op == CmpOp.NotIn) = false := by cases op <;> first | rfl | exact absurd rfl h2
  cases b <;> simp [behindInMarks, e1, e2]
def tIsN (ta : TE) : TE := fun σ H Q => ta σ H fun x H1 => Q (.bl (decide (x = .non))) H1
theorem RelV.none_iff {x : V} {v : Value} (r : RelV x v) : (v == Value.none) = decide (x = .non) := by
  cases x with
  | non => cases r; rfl
  | bl _ => cases r; rfl
  | int _ => obtain ⟨t, rfl⟩ := r; rfl
  | str _ => obtain ⟨t, rfl⟩ := r; rfl
  | byt _ => obtain ⟨t, rfl⟩ := r; rfl
  | flt _ => obtain ⟨t, rfl⟩ := r; rfl
  | ref _ => cases r; rfl
  | ty _ => cases r; rfl
theorem pc_isN {j pos'} (ha : PE X a ta) : PC X .Is a (.Constant .none j pos') (tIsN ta) := by
  intro pins s σ H Q I h
  refine thn (ha pins s σ H _ I h) fun v s1 ⟨x, H1, I1, r1, q1⟩ => ?_
  exact Constant_none (is_none_gen ⟨.bl _, H1, I1, by rw [r1.none_iff]; rfl, q1⟩)
def tB (t : TE) : TT := fun σ H Q => t σ H fun x H1 => ∃ c, x = .bl c ∧ Q c H1
theorem pt_cmp {op : CmpOp} {t : TE} (h : PC X op a b t) (h1 : behindInMarks op b = false := by first | exact nobehind _ (by decide) (by decide) | rfl) : PT X (.Compare a [op] [b] pos) (tB t) := by
  intro pins s σ H Q I hw
  refine wpAny_isTrue_Compare1 (thn (h pins s σ H _ I hw) fun v s1 h1 => thn h1 fun u s2 h2 => thn h2 fun c s3 ⟨x, H1, I1, r1, q1⟩ => ?_) h1
  obtain ⟨d, rfl, q⟩ := q1
  cases r1
  exact wpAny_truthy_bool ⟨H1, I1, q⟩
theorem pt_val {e : Expr} {t : TE} (h : PE X e t) (he : ∀ whole, isTrue e X.env whole = (do let v ← whole; standAt e.pos; holding [v] (truthy v)) := by intro _; rfl) : PT X e (tB t) := by
  intro pins s σ H Q I hw
  refine isTrue_plain (thn (h pins s σ H _ I hw) fun v s1 ⟨x, H1, I1, r1, q1⟩ => ?_) (he _)
  obtain ⟨d, rfl, q⟩ := q1
  cases r1
  exact wpAny_truthy_bool ⟨H1, I1, q⟩

variable {tA tB' : TT} {rest : List Expr}
def tAnd (t u : TT) : TT := fun σ H Q => t σ H fun c H1 => if c = true then u σ H1 Q else Q false H1
def tOr (t u : TT) : TT := fun σ H Q => t σ H fun c H1 => if c = true then Q true H1 else u σ H1 Q
def tNot (t : TT) : TT := fun σ H Q => t σ H fun c H1 => Q (!c) H1
theorem pw_and1 (ha : PT X a tA) : PW X (.BoolOp .And [a] pos) tA := by
  intro wh pins s σ H Q I h
  refine isTrue_and (thn (ha pins s σ H Q I h) fun c s1 e => ?_)
  cases c with
  | true => exact isTrue_and_nil e
  | false => exact e
theorem pw_or1 (ha : PT X a tA) : PW X (.BoolOp .Or [a] pos) tA := by
  intro wh pins s σ H Q I h
  refine isTrue_or (thn (ha pins s σ H Q I h) fun c s1 e => ?_)
  cases c with
  | false => exact isTrue_or_nil e
  | true => exact e
theorem pw_and (ha : PT X a tA) (hb : PW X (.BoolOp .And (b :: rest) pos) tB') : PW X (.BoolOp .And (a :: b :: rest) pos) (tAnd tA tB') := by
  intro wh pins s σ H Q I h
  refine isTrue_and (thn (ha pins s σ H _ I h) fun c s1 ⟨H1, I1, q1⟩ => ?_)
  cases c with
  | true => exact hb wh pins s1 σ H1 Q I1 q1
  | false => exact ⟨H1, I1, q1⟩
theorem pw_or (ha : PT X a tA) (hb : PW X (.BoolOp .Or (b :: rest) pos) tB') : PW X (.BoolOp .Or (a :: b :: rest) pos) (tOr tA tB') := by
  intro wh pins s σ H Q I h
  refine isTrue_or (thn (ha pins s σ H _ I h) fun c s1 ⟨H1, I1, q1⟩ => ?_)
  cases c with
  | true => exact ⟨H1, I1, q1⟩
  | false => exact hb wh pins s1 σ H1 Q I1 q1
theorem pt_not (ha : PT X a tA) : PT X (.UnaryOp .Not a pos) (tNot tA) := by
  intro pins s σ H Q I h
  exact isTrue_not (ha pins s σ H (fun c H1 => Q (!c) H1) I h)
def tAndV (ta tb : TE) : TE := fun σ H Q => ta σ H fun x H1 => ∃ c, x = .bl c ∧ if c = true then tb σ H1 Q else Q (.bl false) H1
def tOrV (ta tb : TE) : TE := fun σ H Q => ta σ H fun x H1 => ∃ c, x = .bl c ∧ if c = true then Q (.bl true) H1 else tb σ H1 Q
def tNotV (ta : TE) : TE := fun σ H Q => ta σ H fun x H1 => ∃ c, x = .bl c ∧ Q (.bl (!c)) H1
theorem pe_one {op} {t : TE} (h : PE X a t) : PE X (.BoolOp op [a] pos) t := fun pins s σ H Q I hw => BoolOp_one (h pins s σ H Q I hw)
theorem pe_and (ha : PE X a ta) (hb : PE X (.BoolOp .And (b :: rest) pos) tb) : PE X (.BoolOp .And (a :: b :: rest) pos) (tAndV ta tb) := by
  intro pins s σ H Q I h
  refine BoolOp_and (thn (ha pins s σ H _ I h) fun v s1 ⟨x, H1, I1, r1, q1⟩ => ?_)
  obtain ⟨c, rfl, q1⟩ := q1
  cases r1
  refine wpAny_truthy_bool ?_
  cases c with
  | true => exact hb pins s1 σ H1 Q I1 q1
  | false => exact ⟨.bl false, H1, I1, rfl, q1⟩
theorem pe_or (ha : PE X a ta) (hb : PE X (.BoolOp .Or (b :: rest) pos) tb) : PE X (.BoolOp .Or (a :: b :: rest) pos) (tOrV ta tb) := by
  intro pins s σ H Q I h
  refine BoolOp_or (thn (ha pins s σ H _ I h) fun v s1 ⟨x, H1, I1, r1, q1⟩ => ?_)
  obtain ⟨c, rfl, q1⟩ := q1
  cases r1
  refine wpAny_truthy_bool ?_
  cases c with
  | false => exact hb pins s1 σ H1 Q I1 q1
  | true => exact ⟨.bl true, H1, I1, rfl, q1⟩
theorem pe_not (ha : PE X a ta) : PE X (.UnaryOp .Not a pos) (tNotV ta) := by
  intro pins s σ H Q I h
  refine UnaryOp_ (thn (ha pins s σ H _ I h) fun v s1 ⟨x, H1, I1, r1, q1⟩ => ?_)
  obtain ⟨c, rfl, q1⟩ := q1
  cases r1
  exact not_of (wpAny_truthy_bool ⟨.bl (!c), H1, I1, rfl, q1⟩)
end
end L2

namespace L2
open PySem PySem.Spec PyProof.Rows

def SqL (K : PySem.W.Frag) (H : Hp) (a : Addr) (xs : List V) : Prop :=
  Rd H a (.lst xs) ∨
    ∃ (o : Obj) (its : Array Value) (n : Nat), K.lookup a = some o ∧ o.cls = .type "list" ∧ o.dict = none ∧ o.data = .seq its n ∧ its.size ≤ sizeLine ∧ Vals xs its.toList
def SqT (K : PySem.W.Frag) (H : Hp) (a : Addr) (xs : List V) : Prop :=
  Rd H a (.tup xs) ∨
    ∃ (o : Obj) (its : Array Value) (n : Nat), K.lookup a = some o ∧ o.cls = .type "tuple" ∧ o.data = .seq its n ∧ its.size ≤ sizeLine ∧ Vals xs its.toList
def absV : Value → Option V
  | .none => some .non
  | .bool b => some (.bl b)
  | .int i _ => some (.int i)
  | .str x _ => some (.str x)
  | .bytes b _ => some (.byt b)
  | .float b _ => some (.flt b)
  | .ref a => some (.ref a)
  | .type n => some (.ty n)
  | _ => none
theorem RelV.abs {x : V} {u : Value} (r : RelV x u) : absV u = some x := by
  cases x with
  | non => cases r; rfl
  | bl _ => cases r; rfl
  | int _ => obtain ⟨t, rfl⟩ := r; rfl
  | str _ => obtain ⟨t, rfl⟩ := r; rfl
  | byt _ => obtain ⟨t, rfl⟩ := r; rfl
  | flt _ => obtain ⟨t, rfl⟩ := r; rfl
  | ref _ => cases r; rfl
  | ty _ => cases r; rfl
theorem RelV.inj {x y : V} {u : Value} (r : RelV x u) (q : RelV y u) : x = y := Option.some.inj (r.abs.symm.trans q.abs)
theorem Vals.inj : ∀ {xs ys : List V} {us : List Value}, Vals xs us → Vals ys us → xs = ys
  | _, _, _, .nil, .nil => rfl
  | _, _, _, .cons r t, .cons r' t' => by rw [r.inj r', Vals.inj t t']
section
variable {X : Cx} {pins : List (Addr × Obj)} {σ : St} {H : Hp} {s : Shared} {a : Addr} {xs ys : List V}
theorem SqL.of {K : PySem.W.Frag} (h : H a = some (.lst xs)) : SqL K H a xs := .inl (.inl h)
theorem SqT.of {K : PySem.W.Frag} (h : H a = some (.tup xs)) : SqT K H a xs := .inl (.inl h)
theorem Inv.list (I : Inv X pins σ H s) (h : SqL X.K H a xs) : ∃ its : List Value, Vals xs its ∧ PlainL s.heap a its.toArray ∧ xs.length ≤ sizeLine := by
  rcases h with h | ⟨o, its, n, hk, hc, hd, hs, hz, r⟩
  · obtain ⟨z, its, n, r, e⟩ := h.ok I.hok
    exact ⟨its, r, ⟨_, n, e, rfl, rfl, rfl⟩, z⟩
  · refine ⟨its.toList, r, ⟨o, n, I.kIn a o hk, hc, hd, by simpa using hs⟩, ?_⟩
    have e := r.length
    simp only [Array.length_toList] at e
    omega
theorem Inv.tuple (I : Inv X pins σ H s) (h : SqT X.K H a xs) : ∃ its : List Value, Vals xs its ∧ IsTup s.heap a its.toArray ∧ xs.length ≤ sizeLine := by
  rcases h with h | ⟨o, its, n, hk, hc, hs, hz, r⟩
  · obtain ⟨z, its, r, p⟩ := h.ok I.hok
    exact ⟨its, r, p, z⟩
  · refine ⟨its.toList, r, ⟨o, I.kIn a o hk, hc, n, by simpa using hs⟩, ?_⟩
    have e := r.length
    simp only [Array.length_toList] at e
    omega
theorem Inv.list_inj (I : Inv X pins σ H s) (h : SqL X.K H a xs) (h' : SqL X.K H a ys) : xs = ys := by
  obtain ⟨its, r, ⟨o, n, e, _, _, d⟩, _⟩ := I.list h
  obtain ⟨its', r', ⟨o', n', e', _, _, d'⟩, _⟩ := I.list h'
  rw [e] at e'; cases e'
  rw [d] at d'
  injection d' with d1 _
  have : its = its' := by simpa using congrArg Array.toList d1
  subst this
  exact r.inj r'
theorem Inv.tuple_inj (I : Inv X pins σ H s) (h : SqT X.K H a xs) (h' : SqT X.K H a ys) : xs = ys := by
  obtain ⟨its, r, ⟨o, e, _, n, d⟩, _⟩ := I.tuple h
  obtain ⟨its', r', ⟨o', e', _, n', d'⟩, _⟩ := I.tuple h'
  rw [e] at e'; cases e'
  rw [d] at d'
  injection d' with d1 _
  have : its = its' := by simpa using congrArg Array.toList d1
  subst this
  exact r.inj r'
end

abbrev Cx.wish (X : Cx) (E : Value → Shared → Prop) : Cx := { X with xe := E }
abbrev Cx.nox (X : Cx) : Cx := X.wish fun _ _ => False
theorem Cx.Ok.wish {X : Cx} (ok : X.Ok) (E : Value → Shared → Prop) : (X.wish E).Ok :=
  ⟨ok.mod, ok.kind, ok.glob, ok.blt, ok.above, ok.inj, ok.has, ok.cab, ok.hd, ok.frames, ok.stk, ok.exf, ok.bs, ok.bsz, ok.noex, ok.exfs, ok.funs, ok.frf⟩
theorem Cx.Ok.unwish {X : Cx} {E : Value → Shared → Prop} (ok : (X.wish E).Ok) : X.Ok :=
  ⟨ok.mod, ok.kind, ok.glob, ok.blt, ok.above, ok.inj, ok.has, ok.cab, ok.hd, ok.frames, ok.stk, ok.exf, ok.bs, ok.bsz, ok.noex, ok.exfs, ok.funs, ok.frf⟩
section
variable {X : Cx} {pins : List (Addr × Obj)} {σ : St} {H : Hp} {s : Shared} {E : Value → Shared → Prop}
theorem Inv.wish (I : Inv X pins σ H s) (E : Value → Shared → Prop) : Inv (X.wish E) pins σ H s := ⟨I.ok.wish E, I.os, I.bare, I.base, I.loc, I.cell, I.free, I.freeC, I.pin, I.hok, I.len⟩
theorem Inv.unwish (I : Inv (X.wish E) pins σ H s) : Inv X pins σ H s := ⟨I.ok.unwish, I.os, I.bare, I.base, I.loc, I.cell, I.free, I.freeC, I.pin, I.hok, I.len⟩
theorem SP.unwish {D : Ends} {f : Flow} {s' : Shared} (h : SP (X.wish E) pins D f s') : SP X pins D f s' := by
  cases f with
  | next => obtain ⟨σ', H', I, q⟩ := h; exact ⟨σ', H', I.unwish, q⟩
  | brk => obtain ⟨σ', H', I, q⟩ := h; exact ⟨σ', H', I.unwish, q⟩
  | cont => obtain ⟨σ', H', I, q⟩ := h; exact ⟨σ', H', I.unwish, q⟩
  | ret u => obtain ⟨v, σ', H', I, r, q⟩ := h; exact ⟨v, σ', H', I.unwish, r, q⟩
theorem PSs.nox {st : List Stmt} {t : TS} (h : PSs X.nox st t) : PSs X st t := fun pins s σ H D I hw =>
  wpAny_mono (h pins s σ H D (I.wish _) hw) (fun _ _ q => q.unwish) fun _ _ z => False.elim z
end

section
variable {X : Cx} {st : Stmt} {rest : List Stmt} {t u : TS} {e : Expr} {te : TE} {pos : Pos}
def tNext : TS := fun D σ H => D.nx σ H
def tSeq (t u : TS) : TS := fun D σ H => t { D with nx := u D } σ H
theorem pss_nil : PSs X [] tNext := fun _ _ σ H _ I h => wpAny_execs_nil ⟨σ, H, I, h⟩
theorem pss_cons (h1 : PS X st t) (h2 : PSs X rest u) : PSs X (st :: rest) (tSeq t u) := by
  intro pins s σ H D I h
  refine wpAny_execs_cons (thn (h1 pins s σ H { D with nx := u D } I h) fun f s1 q => ?_)
  cases f with
  | next =>
    obtain ⟨σ', H', I', q⟩ := q
    exact h2 pins s1 σ' H' D I' q
  | ret v => exact q
  | brk => exact q
  | cont => exact q
theorem pss_one (h1 : PS X st t) : PSs X [st] t := by
  intro pins s σ H D I h
  refine wpAny_execs_cons (thn (h1 pins s σ H D I h) fun f s1 q => ?_)
  cases f with
  | next => exact wpAny_execs_nil q
  | ret v => exact q
  | brk => exact q
  | cont => exact q
theorem Inv.quiet {pins : List (Addr × Obj)} {σ : St} {H : Hp} {s : Shared} (I : Inv X pins σ H s) : interactive X.env = false := by simp [interactive, I.ok.kind]
def tDrop (te : TE) : TS := fun D σ H => te σ H fun _ H1 => D.nx σ H1
theorem ps_expr (he : PE X e te) (hs : swapsWith e none pos.line X.env = pure false := by rfl) : PS X (.Expr e pos) (tDrop te) := by
  intro pins s σ H D I h
  exact wpAny_Expr_any (thn (he pins s σ H _ I h) fun v s1 ⟨x, H1, I1, r1, q1⟩ => ⟨σ, H1, I1, q1⟩) I.quiet hs
def tRet (te : TE) : TS := fun D σ H => te σ H D.rt
theorem ps_ret (he : PE X e te) : PS X (.Return (some e) pos) (tRet te) := by
  intro pins s σ H D I h
  exact wpAny_Return_some (thn (he pins s σ H _ I h) fun v s1 ⟨x, H1, I1, r1, q1⟩ => ⟨x, σ, H1, I1, r1, q1⟩)
def tIfS (c : TT) (t u : TS) : TS := fun D σ H => c σ H fun b H1 => if b = true then t D σ H1 else u D σ H1
theorem ps_if {c : Expr} {a b : List Stmt} {tc : TT} (hc : PT X c tc) (ha : PSs X a t) (hb : PSs X b u) : PS X (.If c a b pos) (tIfS tc t u) := by
  intro pins s σ H D I h
  refine wpAny_If (thn (hc pins s σ H _ I h) fun d s1 ⟨H1, I1, q1⟩ => ?_)
  cases d with
  | true => exact ha pins s1 σ H1 D I1 q1
  | false => exact hb pins s1 σ H1 D I1 q1
def tNever : TS := fun _ _ _ => False
theorem ps_never : PS X st tNever := fun _ _ _ _ _ _ h => h.elim
end

abbrev TG := V → St → Hp → (St → Hp → Prop) → Prop
abbrev TGs := List V → St → Hp → (St → Hp → Prop) → Prop
def PG (X : Cx) (target : Expr) (t : TG) : Prop :=
  ∀ (pins : List (Addr × Obj)) (s : Shared) (σ : St) (H : Hp) (v : V) (u : Value) (Q : St → Hp → Prop), Inv X pins σ H s → RelV v u → t v σ H Q →
    wpAny (model X.prog X.w) X.A (assign target X.env u) (fun _ s' => ∃ σ' H', Inv X pins σ' H' s' ∧ Q σ' H') X.xe s
def PGs (X : Cx) (ts : List Expr) (t : TGs) : Prop :=
  ∀ (pins : List (Addr × Obj)) (s : Shared) (σ : St) (H : Hp) (vs : List V) (us : List Value) (Q : St → Hp → Prop), Inv X pins σ H s → Vals vs us → t vs σ H Q →
    wpAny (model X.prog X.w) X.A (assignInOrder ((assignEach ts X.env).map (·.2)) us) (fun _ s' => ∃ σ' H', Inv X pins σ' H' s' ∧ Q σ' H') X.xe s
abbrev TSet := V → V → V → Hp → (Hp → Prop) → Prop
def PSet (X : Cx) (t : TSet) : Prop :=
  ∀ (pins : List (Addr × Obj)) (s : Shared) (σ : St) (H : Hp) (o i v : V) (ov iv u : Value) (Q : Hp → Prop), Inv X pins σ H s → RelV o ov → RelV i iv → RelV v u → t o i v H Q →
    wpAny (model X.prog X.w) X.A (setItem ov iv u) (fun _ s' => ∃ H', Inv X pins σ H' s' ∧ Q H') X.xe s
section
variable {X : Cx} {pos : Pos}
def gName (i : Nat) : TG := fun v σ H Q => Q (σ.set i (some v)) H
theorem pg_name {i : Nat} {x : Str} (hN : X.N.Nodup) (hi : X.N[i]? = some x) (hx : Loc X.env.scope x) (hf : X.fn x = true ∨ X.env.scope.names.lookup x = some .local := by first | exact .inl rfl | exact .inr rfl | assumption) : PG X (.Name x pos) (gName i) := by
  intro pins s σ H v u Q I r h
  exact wpAny_assign_Name (store_ok I hN hi hx r (fun s' I' => ⟨_, H, I', h⟩) hf)
def gNil : TGs := fun vs σ H Q => vs = [] ∧ Q σ H
def gCons (t : TG) (u : TGs) : TGs := fun vs σ H Q => ∃ v r, vs = v :: r ∧ t v σ H fun σ' H' => u r σ' H' Q
theorem pgs_nil : PGs X [] gNil := by
  intro pins s σ H vs us Q I r h
  obtain ⟨e, h⟩ := h
  subst e
  cases r
  exact assignInOrder_nil ⟨σ, H, I, h⟩
theorem pgs_cons {e : Expr} {es : List Expr} {t : TG} {u : TGs} (h1 : PG X e t) (h2 : PGs X es u)
    (hs : (assignEach (e :: es) X.env).map (·.2) = assign e X.env :: (assignEach es X.env).map (·.2) := by rfl) : PGs X (e :: es) (gCons t u) := by
  intro pins s σ H vs us Q I r h
  obtain ⟨v, vr, e1, h⟩ := h
  subst e1
  cases r with
  | cons r rr =>
    rw [hs]
    refine assignInOrder_cons (thn (h1 pins s σ H _ _ _ I r h) fun _ s1 ⟨σ1, H1, I1, q1⟩ => ?_)
    exact h2 pins s1 σ1 H1 _ _ Q I1 rr q1
def gTup (K : PySem.W.Frag) (n : Nat) (t : TGs) : TG := fun v σ H Q => ∃ a xs, v = .ref a ∧ SqT K H a xs ∧ xs.length = n ∧ t xs σ H Q
theorem pg_tup {es : List Expr} {k : Nat} {t : TGs} {n : Nat} (hc : X.calm = true) (h : PGs X es t)
    (hn : (assignEach es X.env).length = n := by rfl) (hst : (assignEach es X.env).findIdx? (·.1) = none := by rfl) : PG X (.Tuple es k pos) (gTup X.K n t) := by
  intro pins s σ H v u Q I r hw
  obtain ⟨a, xs, e1, hq, hl, hw⟩ := hw
  subst e1
  cases r
  obtain ⟨its, rv, ht, hz⟩ := I.tuple hq
  refine assign_Tuple_tuple (I.ok.hd hc) ht (by simp [hn, ← hl, rv.length]) hst fun h' hx => ?_
  have I1 : Inv X pins σ H { s with heap := h' } := I.kept (t' := s.toks) fun b o e => hx b o (Nat.ne_of_lt (Heap.lt_size e)) e
  exact h pins _ σ H xs _ Q I1 (by simpa using rv) hw
def gSub (to ti : TE) (t : TSet) : TG := fun v σ H Q => to σ H fun o H1 => ti σ H1 fun i H2 => t o i v H2 fun H3 => Q σ H3
theorem pg_sub {o i : Expr} {to ti : TE} {t : TSet} (ho : PE X o to) (hi : PE X i ti) (hs : PSet X t)
    (ha : ∀ v, assign (.Subscript o i pos) X.env v = (do
      let ov ← holding [v] (eval o X.env)
      let iv ← holding [v, ov] (eval i X.env)
      standAt pos
      holding [v, ov, iv] (setItem ov iv v)
      release [v, ov, iv] []) := by intro _; rfl) : PG X (.Subscript o i pos) (gSub to ti t) := by
  intro pins s σ H v u Q I r h
  rw [ha]
  refine wpAny_bind (wpAny_holding (thn (ho pins s σ H _ I h) fun ov s1 ⟨x, H1, I1, r1, q1⟩ => ?_))
  refine wpAny_bind (wpAny_holding (thn (hi pins s1 σ H1 _ I1 q1) fun iv s2 ⟨y, H2, I2, r2, q2⟩ => ?_))
  refine wpAny_bind (wpAny_standAt (wpAny_bind (wpAny_holding (thn (hs pins s2 σ H2 x y v ov iv u _ I2 r1 r2 r q2) fun _ s3 ⟨H3, I3, q3⟩ => ?_))))
  exact wpAny_release ⟨σ, H3, I3, q3⟩
def tAsg (te : TE) (g : TG) : TS := fun D σ H => te σ H fun x H1 => g x σ H1 D.nx
theorem ps_asg {tg e : Expr} {te : TE} {g : TG} (he : PE X e te) (hg : PG X tg g) (hs : swapsWithSole [tg] e pos.line X.env = pure false := by rfl) (hw : swappedStores [tg] e X.env = pure none := by rfl)
    (h1 : (assignEach [tg] X.env).map (·.2) = [assign tg X.env] := by rfl) : PS X (.Assign [tg] e pos) (tAsg te g) := by
  intro pins s σ H D I h
  refine wpAny_Assign_stores (thn (he pins s σ H _ I h) fun v s1 ⟨x, H1, I1, r1, q1⟩ => ?_) hs hw
  rw [h1]
  exact thn (hg pins s1 σ H1 x v _ I1 r1 q1) fun _ s2 q => q
theorem ps_set {i : Nat} {x : Str} {e : Expr} {te : TE} {pos' : Pos} (hN : X.N.Nodup) (hi : X.N[i]? = some x) (hx : Loc X.env.scope x) (he : PE X e te) (hs : swapsWith e (some (.Name x pos')) pos.line X.env = pure false := by rfl) (hf : X.fn x = true ∨ X.env.scope.names.lookup x = some .local := by first | exact .inl rfl | exact .inr rfl | assumption) :
    PS X (.Assign [.Name x pos'] e pos) (tAsg te (gName i)) := by
  intro pins s σ H D I h
  refine wpAny_Assign_Name (thn (he pins s σ H _ I h) fun v s1 ⟨y, H1, I1, r1, q1⟩ => ?_) hs
  exact store_ok I1 hN hi hx r1 (fun s2 I2 => ⟨_, H1, I2, q1⟩) hf
end

section
variable {X : Cx} {pos : Pos}
end

structure It where
  go : Nat → Hp → Prop
  yld : Nat → Hp → V → Hp → Prop
  stop : Nat → Hp → Prop
def FpOk (X : Cx) (pins : List (Addr × Obj)) (H : Hp) (b : Addr) : Prop :=
  H b = none ∧ b ≠ X.env.locals ∧ b ∉ X.fs ∧ (b ∈ X.ex ∨ X.s₀.heap.objs.size ≤ b) ∧ (∀ x c, X.env.cells.lookup x = some c → c ≠ b) ∧ ∀ p ∈ X.pn ++ pins, p.1 ≠ b
theorem Inv.fpOk {X : Cx} {pins : List (Addr × Obj)} {σ : St} {H H' : Hp} {s : Shared} {b : Addr} (I : Inv X pins σ H s) (hb : s.heap.objs.size ≤ b) (hn : H' b = none) : FpOk X pins H' b := by
  refine ⟨hn, Nat.ne_of_gt (Nat.lt_of_lt_of_le I.lt hb), I.nofs hb, .inr (Nat.le_trans I.sz hb), fun x c e z => ?_, fun p hp z => ?_⟩
  · obtain ⟨v, q⟩ := I.cell x c e
    exact absurd (Nat.lt_of_lt_of_le q.lt (by rw [z]; exact hb)) (Nat.lt_irrefl _)
  · exact absurd (Nat.lt_of_lt_of_le (Heap.lt_size (I.pin p hp).1) (by rw [z]; exact hb)) (Nat.lt_irrefl _)
structure Turn (P : Program) (w : World) (K : PySem.W.Frag) (tg : Expr) (J : It) (fp : List Addr) (it : Addr) (tn : Nat → Heap → Prop) : Prop where
  mem : it ∈ fp
  obj : ∀ i h, tn i h → ∀ b ∈ fp, ∃ o, h.get? b = some o ∧ ∀ v, o.data ≠ .cell v
  keep : ∀ i h h', tn i h → (∀ b ∈ fp, ∀ o, h.get? b = some o → h'.get? b = some o) → tn i h'
  item : ∀ (X : Cx), X.prog = P → X.w = w → X.K = K → X.calm = true → ∀ (i : Nat) (pins : List (Addr × Obj)) (s : Shared) (σ : St) (H : Hp) (E : Value → Shared → Prop), Inv X pins σ H s → (∀ b ∈ fp, FpOk X pins H b) → tn i s.heap → J.go i H →
    wpAny (model P w) X.A (pyNext (.ref it)) (fun r s1 => ∃ u, r = some u ∧
      wpAny (model P w) X.A (letOwnedTupleGo tg (.ref it) u) (fun _ s2 => ∃ x H', Inv X pins σ H' s2 ∧ RelV x u ∧ J.yld i H x H' ∧ tn (i + 1) s2.heap ∧ ∀ b ∈ fp, H' b = none) E s1) E s
  done : ∀ (X : Cx), X.prog = P → X.w = w → X.K = K → X.calm = true → ∀ (i : Nat) (pins : List (Addr × Obj)) (s : Shared) (σ : St) (H : Hp) (E : Value → Shared → Prop), Inv X pins σ H s → (∀ b ∈ fp, FpOk X pins H b) → tn i s.heap → J.stop i H →
    wpAny (model P w) X.A (pyNext (.ref it)) (fun r s1 => r = none ∧ Inv X pins σ H s1) E s
  self : ∀ (A : Around) (i : Nat) (s : Shared) (Q : Value → Shared → Prop) (E : Value → Shared → Prop), tn i s.heap → Q (.ref it) s → wpAny (model P w) A (pyIter (.ref it)) Q E s
abbrev TI := St → Hp → (It → Hp → Prop) → Prop
def PIE (X : Cx) (pins : List (Addr × Obj)) (σ : St) (tg : Expr) (R : It → Hp → Prop) (itv : Value) (s2 : Shared) : Prop :=
  ∃ (it : Addr) (fp : List Addr) (tn : Nat → Heap → Prop) (J : It) (H' : Hp), itv = .ref it ∧ Inv X pins σ H' s2 ∧ Turn X.prog X.w X.K tg J fp it tn ∧ tn 0 s2.heap ∧ (∀ b ∈ fp, FpOk X pins H' b) ∧ R J H'
def PI (X : Cx) (tg iter : Expr) (wi : TI) : Prop :=
  ∀ (pins : List (Addr × Obj)) (s : Shared) (σ : St) (H : Hp) (R : It → Hp → Prop), Inv X pins σ H s → wi σ H R →
    wpAny (model X.prog X.w) X.A (eval iter X.env) (fun v s1 => wpAny (model X.prog X.w) X.A (pyIter v) (PIE X pins σ tg R) X.xe s1) X.xe s

theorem go_of {M : Model} {A : Around} {E : Value → Shared → Prop} {s : Shared} {tg : Expr} {it : Addr} {u : Value} {o : Obj} {n : String} {vs : Array Value} {Q : Unit → Shared → Prop} (ho : s.heap.get? it = some o) (hc : o.cls = .type n) (hd : o.data = .fields vs)
    (hn : ["enumerate", "zip", "dict_itemiterator", "dict_reverseitemiterator", "odict_iterator", "itertools.zip_longest", "itertools.pairwise"].contains n = false) (hQ : Q () s) : wpAny M A (letOwnedTupleGo tg (.ref it) u) Q E s := by
  unfold letOwnedTupleGo
  cases tg <;> first
    | exact wpAny_pure hQ
    | (cases u <;> first
        | exact wpAny_pure hQ
        | (refine wpAny_bind (wpAny_load ho ?_)
           rw [hc, hd]
           show wpAny M A (if (["enumerate", "zip", "dict_itemiterator", "dict_reverseitemiterator", "odict_iterator", "itertools.zip_longest", "itertools.pairwise"].contains n && vs[0]? == some (rawInt _)) = true then _ else _) Q E s
           rw [if_neg (by intro h; rw [hn, Bool.false_and] at h; cases h)]
           exact wpAny_pure hQ))

def Itl (K : PySem.W.Frag) (a : Addr) : It :=
  ⟨fun i H => ∃ xs x, SqL K H a xs ∧ xs[i]? = some x, fun i H x H' => H' = H ∧ ∀ xs, SqL K H a xs → xs[i]? = some x, fun i H => ∃ xs, SqL K H a xs ∧ xs.length ≤ i⟩
def Itt (K : PySem.W.Frag) (a : Addr) : It :=
  ⟨fun i H => ∃ xs x, SqT K H a xs ∧ xs[i]? = some x, fun i H x H' => H' = H ∧ ∀ xs, SqT K H a xs → xs[i]? = some x, fun i H => ∃ xs, SqT K H a xs ∧ xs.length ≤ i⟩
def Itr (lo : Int) (n : Nat) : It := ⟨fun i _ => i < n, fun i H x H' => H' = H ∧ x = .int (lo + i), fun i _ => n ≤ i⟩
theorem turn_list {P : Program} {w : World} {K : PySem.W.Frag} {tg : Expr} (a it : Addr) : Turn P w K tg (Itl K a) [it] it (fun i h => h.IsListIter it a i) where
  mem := by simp
  obj := fun i h st b hb => by
    have e : b = it := by simpa using hb
    subst e
    obtain ⟨o, e, c, d⟩ := st
    exact ⟨o, e, fun v z => by rw [d] at z; cases z⟩
  keep := fun i h h' st k => st.at fun o e => k it (by simp) o e
  item := by
    intro X hP hw hK hc i pins s σ H E I hf st hg
    subst hP hw hK
    obtain ⟨xs, x, hq, hx⟩ := hg
    obtain ⟨its, rv, p, hz⟩ := I.list hq
    obtain ⟨u, hu, ru⟩ := rv.get hx
    obtain ⟨f0, f1, f2, f3, f4, f5⟩ := hf it (by simp)
    refine wpAny_pyNext_list_item st p.isList (x := u) (by simpa using hu) fun h' st' sb => ?_
    have I1 : Inv X pins σ H { s with heap := h' } := I.turned (t' := s.toks) (fun b o hb e => (sb.2 b hb).trans e) f0 f1 f3 f4 f5
    obtain ⟨o, e, c, d⟩ := id st'
    exact ⟨u, rfl, go_of (s := { s with heap := h' }) e c d (by decide) ⟨x, H, I1, ru, ⟨rfl, fun ys hy => by rw [I.list_inj hy hq]; exact hx⟩, st', fun b hb => (hf b hb).1⟩⟩
  done := by
    intro X hP hw hK hc i pins s σ H E I hf st hg
    subst hP hw hK
    obtain ⟨xs, hq, hx⟩ := hg
    obtain ⟨its, rv, p, hz⟩ := I.list hq
    obtain ⟨f0, f1, f2, f3, f4, f5⟩ := hf it (by simp)
    have hl := rv.length
    exact wpAny_pyNext_list_end (I.ok.hd hc) st p.isList (by simp; omega) fun h' eb => ⟨rfl, I.turned (t' := s.toks) (fun b o hb e => eb b o hb e) f0 f1 f3 f4 f5⟩
  self := fun _ _ _ _ _ st h => wpAny_pyIter_listiter st h
theorem turn_tuple {P : Program} {w : World} {K : PySem.W.Frag} {tg : Expr} (a it : Addr) : Turn P w K tg (Itt K a) [it] it (fun i h => h.IsTupleIter it a i) where
  mem := by simp
  obj := fun i h st b hb => by
    have e : b = it := by simpa using hb
    subst e
    obtain ⟨o, e, c, d⟩ := st
    exact ⟨o, e, fun v z => by rw [d] at z; cases z⟩
  keep := fun i h h' st k => st.at fun o e => k it (by simp) o e
  item := by
    intro X hP hw hK hc i pins s σ H E I hf st hg
    subst hP hw hK
    obtain ⟨xs, x, hq, hx⟩ := hg
    obtain ⟨its, rv, p, hz⟩ := I.tuple hq
    obtain ⟨u, hu, ru⟩ := rv.get hx
    obtain ⟨f0, f1, f2, f3, f4, f5⟩ := hf it (by simp)
    refine wpAny_pyNext_tuple_item st (show s.heap.IsTuple a its.toArray from p) (x := u) (by simpa using hu) fun h' st' sb => ?_
    have I1 : Inv X pins σ H { s with heap := h' } := I.turned (t' := s.toks) (fun b o hb e => (sb.2 b hb).trans e) f0 f1 f3 f4 f5
    obtain ⟨o, e, c, d⟩ := id st'
    exact ⟨u, rfl, go_of (s := { s with heap := h' }) e c d (by decide) ⟨x, H, I1, ru, ⟨rfl, fun ys hy => by rw [I.tuple_inj hy hq]; exact hx⟩, st', fun b hb => (hf b hb).1⟩⟩
  done := by
    intro X hP hw hK hc i pins s σ H E I hf st hg
    subst hP hw hK
    obtain ⟨xs, hq, hx⟩ := hg
    obtain ⟨its, rv, p, hz⟩ := I.tuple hq
    obtain ⟨f0, f1, f2, f3, f4, f5⟩ := hf it (by simp)
    have hl := rv.length
    exact wpAny_pyNext_tuple_end (I.ok.hd hc) st (show s.heap.IsTuple a its.toArray from p) (by simp; omega) fun h' eb => ⟨rfl, I.turned (t' := s.toks) (fun b o hb e => eb b o hb e) f0 f1 f3 f4 f5⟩
  self := fun _ _ _ _ _ st h => wpAny_pyIter_tupleiter st h
theorem turn_range {P : Program} {w : World} {K : PySem.W.Frag} {tg : Expr} (it : Addr) (lo : Int) (n : Nat) : Turn P w K tg (Itr lo n) [it] it (fun i h => IsRangeIter h it (lo + (i : Nat) * 1) ((n : Int) - (i : Nat)) 1) where
  mem := by simp
  obj := fun i h st b hb => by
    have e : b = it := by simpa using hb
    subst e
    exact ⟨_, st, fun v z => by
      have z' : Data.fields _ = Data.cell v := z
      cases z'⟩
  keep := fun i h h' st k => k it (by simp) _ st
  item := by
    intro X hP hw hK hc i pins s σ H E I hf st hg
    subst hP hw hK
    obtain ⟨f0, f1, f2, f3, f4, f5⟩ := hf it (by simp)
    have W := Walks.range (prog := X.prog) (w := X.w) (I.ok.hd hc) it lo 1 n
    refine W.item i s _ _ hg st fun v h' tk hv st' kk => ?_
    obtain ⟨t, rfl⟩ := hv
    have I1 : Inv X pins σ H { s with heap := h', toks := tk } := I.turned (fun b o hb e => kk b o (by simpa using hb) e) f0 f1 f3 f4 f5
    refine ⟨_, rfl, go_of (s := { s with heap := h', toks := tk }) (n := "range_iterator") st' rfl rfl (by decide) ⟨.int (lo + i), H, I1, ⟨t, ?_⟩, ⟨rfl, rfl⟩, st', fun b hb => (hf b hb).1⟩⟩
    rw [Int.mul_one]
  done := by
    intro X hP hw hK hc i pins s σ H E I hf st hg
    subst hP hw hK
    obtain ⟨f0, f1, f2, f3, f4, f5⟩ := hf it (by simp)
    exact wpAny_pyNext_range_end (I.ok.hd hc) st (by have : n ≤ i := hg; omega) fun h' eb => ⟨rfl, I.turned (t' := s.toks) (fun b o hb e => eb b o hb e) f0 f1 f3 f4 f5⟩
  self := fun _ _ _ _ _ st h => wpAny_pyIter_rangeiter st h
end L2

namespace L2
open PySem PySem.Spec PyProof.Rows
section
variable {X : Cx} {tg : Expr}
def iList (K : PySem.W.Frag) (tl : TE) : TI := fun σ H R => tl σ H fun x H1 => ∃ a, x = .ref a ∧ (∃ xs, SqL K H1 a xs) ∧ R (Itl K a) H1
def iTup (K : PySem.W.Frag) (tl : TE) : TI := fun σ H R => tl σ H fun x H1 => ∃ a, x = .ref a ∧ (∃ xs, SqT K H1 a xs) ∧ R (Itt K a) H1
theorem pi_list {l : Expr} {tl : TE} (hl : PE X l tl) : PI X tg l (iList X.K tl) := by
  intro pins s σ H R I h
  refine thn (hl pins s σ H _ I h) fun v s1 ⟨x, H1, I1, r1, q1⟩ => ?_
  obtain ⟨a, e, ⟨xs, hq⟩, q⟩ := q1
  subst e
  cases r1
  obtain ⟨its, rv, p, hz⟩ := I1.list hq
  refine wpAny_pyIter_list p.isList ?_
  refine ⟨s1.heap.objs.size, [s1.heap.objs.size], _, _, H1, rfl, I1.kept (t' := s1.toks) fun b o e => Heap.get?_push_of_some _ e, turn_list a _, ⟨_, Heap.get?_push_size _ rfl, rfl, rfl⟩, fun b hb => ?_, q⟩
  have e : b = s1.heap.objs.size := by simpa using hb
  subst e
  exact I1.fpOk (Nat.le_refl _) (I1.hok.fresh (Nat.le_refl _))
theorem pi_tup {l : Expr} {tl : TE} (hl : PE X l tl) : PI X tg l (iTup X.K tl) := by
  intro pins s σ H R I h
  refine thn (hl pins s σ H _ I h) fun v s1 ⟨x, H1, I1, r1, q1⟩ => ?_
  obtain ⟨a, e, ⟨xs, hq⟩, q⟩ := q1
  subst e
  cases r1
  obtain ⟨its, rv, p, hz⟩ := I1.tuple hq
  refine wpAny_pyIter_tuple (show s1.heap.IsTuple a its.toArray from p) ?_
  refine ⟨s1.heap.objs.size, [s1.heap.objs.size], _, _, H1, rfl, I1.kept (t' := s1.toks) fun b o e => Heap.get?_push_of_some _ e, turn_tuple a _, ⟨_, Heap.get?_push_size _ rfl, rfl, rfl⟩, fun b hb => ?_, q⟩
  have e : b = s1.heap.objs.size := by simpa using hb
  subst e
  exact I1.fpOk (Nat.le_refl _) (I1.hok.fresh (Nat.le_refl _))
theorem range_it {pins : List (Addr × Obj)} {σ : St} {H : Hp} {s : Shared} {R : It → Hp → Prop} {E : Value → Shared → Prop} {lo hi : Int} {t u v : Tok} {tk : Nat} (I : Inv X pins σ H s) (h1 : -(2 ^ 62) ≤ lo) (h2 : lo < 2 ^ 62) (h3 : -(2 ^ 62) ≤ hi) (h4 : hi < 2 ^ 62)
    (q : R (Itr lo (hi - lo).toNat) H) : wpAny (model X.prog X.w) X.A (pyIter (.ref s.heap.objs.size)) (PIE X pins σ tg R) E { s with heap := s.heap.push { cls := .type "range", data := .fields #[.int lo t, .int hi u, .int 1 v] }, toks := tk } := by
  refine wpAny_pyIter_range (IsRange.new ..) (small_one h1 h2 h3 h4) ?_
  have I1 : Inv X pins σ H { s with heap := s.heap.push { cls := .type "range", data := .fields #[.int lo t, .int hi u, .int 1 v] }, toks := tk } := I.kept fun b o e => Heap.get?_push_of_some _ e
  refine ⟨(s.heap.push { cls := .type "range", data := .fields #[.int lo t, .int hi u, .int 1 v] }).objs.size, [(s.heap.push { cls := .type "range", data := .fields #[.int lo t, .int hi u, .int 1 v] }).objs.size], _, _, H, rfl,
    I1.kept (t' := tk) fun b o e => Heap.get?_push_of_some _ e, turn_range _ lo (hi - lo).toNat, ?_, fun b hb => ?_, q⟩
  · have e1 : lo + ((0 : Nat) : Int) * 1 = lo := by simp
    have e2 : (((hi - lo).toNat : Nat) : Int) - ((0 : Nat) : Int) = Builtin.Range.rangeSize lo hi 1 := by rw [rangeSize_one]; split <;> omega
    show IsRangeIter _ _ (lo + ((0 : Nat) : Int) * 1) ((((hi - lo).toNat : Nat) : Int) - ((0 : Nat) : Int)) 1
    rw [e1, e2]
    exact Heap.get?_push_size _ rfl
  · have e : b = (s.heap.push { cls := .type "range", data := .fields #[.int lo t, .int hi u, .int 1 v] }).objs.size := by simpa using hb
    subst e
    exact I1.fpOk (Nat.le_refl _) (I1.hok.fresh (Nat.le_refl _))
def iRng1 (ta : TA) : TI := fun σ H R => ta σ H fun vs H1 => ∃ j : Int, vs = [.int j] ∧ -(2 ^ 62) ≤ j ∧ j < 2 ^ 62 ∧ R (Itr 0 j.toNat) H1
def iRng2 (ta : TA) : TI := fun σ H R => ta σ H fun vs H1 => ∃ i j : Int, vs = [.int i, .int j] ∧ (-(2 ^ 62) ≤ i ∧ i < 2 ^ 62 ∧ -(2 ^ 62) ≤ j ∧ j < 2 ^ 62) ∧ R (Itr i (j - i).toNat) H1
theorem pi_range1 {a : Expr} {ta : TA} {p pos : Pos} (hg : Gl X "range") (hm : X.mg "range" = none) (ha : PA X [a] ta) (hs : starEach [a] X.env = [(false, eval a X.env)] := by rfl) : PI X tg (.Call (.Name "range" p) [a] [] pos) (iRng1 ta) := by
  intro pins s σ H R I h
  refine Call_ (ld_blt I hg hm boot_range (PyProof.Rows.callWith_type1 (thn (ha pos pins s σ H _ I h) fun us s1 ⟨vs, H1, I1, r1, q1⟩ => ?_) hs rfl))
  obtain ⟨j, e, q1, q2, q⟩ := q1
  subst e
  cases r1 with
  | cons r rr =>
    cases rr
    obtain ⟨t, rfl⟩ := r
    exact call_range_1 (range_it I1 (by omega) (by omega) q1 q2 (by simpa using q))
theorem pi_range2 {a b : Expr} {ta : TA} {p pos : Pos} (hg : Gl X "range") (hm : X.mg "range" = none) (ha : PA X [a, b] ta) (hs : starEach [a, b] X.env = [(false, eval a X.env), (false, eval b X.env)] := by rfl) (hs2 : starEach [b] X.env = [(false, eval b X.env)] := by rfl) :
    PI X tg (.Call (.Name "range" p) [a, b] [] pos) (iRng2 ta) := by
  intro pins s σ H R I h
  refine Call_ (ld_blt I hg hm boot_range (PyProof.Rows.callWith_type1 (thn (ha pos pins s σ H _ I h) fun us s1 ⟨vs, H1, I1, r1, q1⟩ => ?_) (by rw [hs, hs2]) (by rw [hs2]; rfl)))
  obtain ⟨i, j, e, ⟨q1, q2, q3, q4⟩, q⟩ := q1
  subst e
  cases r1 with
  | cons r rr =>
    cases rr with
    | cons r' rr =>
      cases rr
      obtain ⟨t, rfl⟩ := r
      obtain ⟨t', rfl⟩ := r'
      exact call_range_2 (range_it I1 q1 q2 q3 q4 q)

def tFor (wi : TI) (g : TG) (tb : TS) : TS := fun D σ H => wi σ H fun J H1 => ∃ W : Nat → Nat → St → Hp → Prop, (∃ m, W 0 m σ H1) ∧ ∀ i m σ H, W i m σ H →
  (J.stop i H ∧ D.nx σ H) ∨ (J.go i H ∧ ∃ N : St → Hp → Prop, (∀ σ' H', N σ' H' → ∃ m', m' < m ∧ W (i + 1) m' σ' H') ∧ ∀ x H', J.yld i H x H' → g x σ H' fun σ2 H2 => tb { D with nx := N, ct := N, bk := D.nx } σ2 H2)
def pinsAt (fp : List Addr) (h : Heap) : List (Addr × Obj) := fp.filterMap fun b => (h.get? b).map fun o => (b, o)
theorem mem_pinsAt {fp : List Addr} {h : Heap} {b : Addr} {o : Obj} (hb : b ∈ fp) (e : h.get? b = some o) : (b, o) ∈ pinsAt fp h := List.mem_filterMap.mpr ⟨b, hb, by rw [e]; rfl⟩
theorem of_pinsAt {fp : List Addr} {h : Heap} {p : Addr × Obj} (hp : p ∈ pinsAt fp h) : p.1 ∈ fp ∧ h.get? p.1 = some p.2 := by
  obtain ⟨b, hb, e⟩ := List.mem_filterMap.mp hp
  cases q : h.get? b with
  | none => rw [q] at e; cases e
  | some o =>
    rw [q] at e
    have e' : (b, o) = p := Option.some.inj e
    subst e'
    exact ⟨hb, q⟩
theorem Inv.pinned {pins : List (Addr × Obj)} {σ : St} {H : Hp} {s : Shared} {fp : List Addr} (I : Inv X pins σ H s) (hf : ∀ b ∈ fp, FpOk X pins H b) (ho : ∀ b ∈ fp, ∃ o, s.heap.get? b = some o ∧ ∀ v, o.data ≠ .cell v) : Inv X (pins ++ pinsAt fp s.heap) σ H s :=
  I.pins_of fun p hp => (List.mem_append.mp hp).elim (fun z => I.pin p (List.mem_append_right _ z)) fun z => by
    obtain ⟨hb, e⟩ := of_pinsAt z
    obtain ⟨f0, f1, f2, _⟩ := hf p.1 hb
    obtain ⟨o, e', d⟩ := ho p.1 hb
    rw [e] at e'; cases e'
    exact ⟨e, f0, f1, f2, d⟩
theorem Inv.unpinned {pins pl : List (Addr × Obj)} {σ : St} {H : Hp} {s : Shared} (I : Inv X (pins ++ pl) σ H s) : Inv X pins σ H s := I.pins_of fun p hp => I.pin p (List.mem_append_right _ (List.mem_append_left _ hp))
theorem ps_for {iter : Expr} {body : List Stmt} {wi : TI} {g : TG} {tb : TS} {pos : Pos} (hp : PassesOwn (model X.prog X.w) X.A X.env X.xe) (hc : X.calm = true) (hi : PI X tg iter wi) (hg : PG X tg g) (hb : PSs X body tb)
    (hs : ∀ x, foldedSetIterable iter X.env x = pure x := by intro _; rfl) : PS X (.For tg iter body [] pos) (tFor wi g tb) := by
  intro pins s σ H D I h
  refine wpAny_For (thn (hi pins s σ H _ I h) fun v s1 h1 => thn h1 fun itv s2 h2 => ?_) hs
  obtain ⟨it, fp, tn, J, H2, e, I2, T, st2, f2, W, ⟨m0, w0⟩, turn⟩ := h2
  subst e
  -- what stays true of the iterator's objects through the loop
  have stat : ∀ {H' : Hp}, (∀ b ∈ fp, H' b = none) → ∀ b ∈ fp, FpOk X pins H' b := fun hn b hb => ⟨hn b hb, (f2 b hb).2⟩
  refine codeAny_forLoop_any (fun n s' => ∃ i σ' H', Inv X pins σ' H' s' ∧ tn i s'.heap ∧ (∀ b ∈ fp, H' b = none) ∧ W i n σ' H') ?_ m0 ⟨0, σ, H2, I2, st2, fun b hb => (f2 b hb).1, w0⟩
  rintro n s3 ⟨i, σ3, H3, I3, st3, fr3, w3⟩
  rcases turn i n σ3 H3 w3 with ⟨stop, qn⟩ | ⟨go, N, hN, step⟩
  · refine wpAny_passesOwn hp (thn (T.done X rfl rfl rfl hc i pins s3 σ3 H3 X.xe I3 (stat fr3) st3 stop) fun r s4 ⟨hr, I4⟩ => ?_)
    subst hr
    exact wpAny_execs_nil ⟨σ3, H3, I4, qn⟩
  · refine wpAny_passesOwn hp (thn (T.item X rfl rfl rfl hc i pins s3 σ3 H3 X.xe I3 (stat fr3) st3 go) fun r s4 ⟨u, hr, h4⟩ => ?_)
    subst hr
    refine wpAny_passesOwn hp (thn h4 fun _ s5 ⟨x, H5, I5, r5, y5, st5, fr5⟩ => ?_)
    have I5' := I5.pinned (stat fr5) (T.obj _ _ st5)
    refine wpAny_passesOwn hp (thn (hg _ s5 σ3 H5 x u _ I5' r5 (step x H5 y5)) fun _ s6 ⟨σ6, H6, I6, q6⟩ => ?_)
    refine wpAny_passesOwn hp (thn (hb _ s6 σ6 H6 _ I6 q6) fun f s7 q7 => ?_)
    have again : ∀ {σ7 : St} {H7 : Hp}, Inv X (pins ++ pinsAt fp s5.heap) σ7 H7 s7 → N σ7 H7 → ∃ m, m < n ∧ ∃ i σ' H', Inv X pins σ' H' s7 ∧ tn i s7.heap ∧ (∀ b ∈ fp, H' b = none) ∧ W i m σ' H' := fun {σ7 H7} I7 n7 => by
      obtain ⟨m', hm, w7⟩ := hN σ7 H7 n7
      refine ⟨m', hm, i + 1, σ7, H7, I7.unpinned, T.keep _ _ _ st5 fun b hb o e => (I7.pin (b, o) (List.mem_append_right _ (List.mem_append_right _ (mem_pinsAt hb e)))).1, fun b hb => ?_, w7⟩
      obtain ⟨o, e, d⟩ := T.obj _ _ st5 b hb
      exact (I7.pin (b, o) (List.mem_append_right _ (List.mem_append_right _ (mem_pinsAt hb e)))).2.1
    cases f with
    | next => obtain ⟨σ7, H7, I7, n7⟩ := q7; exact again I7 n7
    | cont => obtain ⟨σ7, H7, I7, n7⟩ := q7; exact again I7 n7
    | brk => obtain ⟨σ7, H7, I7, q7⟩ := q7; exact ⟨σ7, H7, I7.unpinned, q7⟩
    | ret v => obtain ⟨x7, σ7, H7, I7, r7, q7⟩ := q7; exact ⟨x7, σ7, H7, I7.unpinned, r7, q7⟩
end

theorem for_list {K : PySem.W.Frag} {a : Addr} {xs : List V} {g : TG} {tb : TS} {D : Ends} {σ : St} {H : Hp} (Pv : Nat → St → Hp → Prop) (h0 : Pv 0 σ H) (hl : ∀ i σ H, i ≤ xs.length → Pv i σ H → SqL K H a xs)
    (hs : ∀ i x σ H, xs[i]? = some x → Pv i σ H → g x σ H fun σ2 H2 => tb { D with nx := Pv (i + 1), ct := Pv (i + 1), bk := D.nx } σ2 H2) (hd : ∀ σ H, Pv xs.length σ H → D.nx σ H) :
    ∃ W : Nat → Nat → St → Hp → Prop, (∃ m, W 0 m σ H) ∧ ∀ i m σ H, W i m σ H →
      ((Itl K a).stop i H ∧ D.nx σ H) ∨ ((Itl K a).go i H ∧ ∃ N : St → Hp → Prop, (∀ σ' H', N σ' H' → ∃ m', m' < m ∧ W (i + 1) m' σ' H') ∧ ∀ x H', (Itl K a).yld i H x H' → g x σ H' fun σ2 H2 => tb { D with nx := N, ct := N, bk := D.nx } σ2 H2) := by
  refine ⟨fun i m σ H => m = xs.length - i ∧ i ≤ xs.length ∧ Pv i σ H, ⟨xs.length, by simp, Nat.zero_le _, h0⟩, ?_⟩
  rintro i m σ H ⟨rfl, hi, p⟩
  have q := hl i σ H hi p
  by_cases hlt : i < xs.length
  · refine .inr ⟨⟨xs, xs[i], q, by simp [hlt]⟩, Pv (i + 1), fun σ' H' p' => ⟨xs.length - (i + 1), by omega, rfl, hlt, p'⟩, fun x H' y => ?_⟩
    obtain ⟨e, y⟩ := y
    subst e
    exact hs i x σ _ (y xs q) p
  · have e : i = xs.length := by omega
    subst e
    exact .inl ⟨⟨xs, q, Nat.le_refl _⟩, hd σ H p⟩
theorem for_tup {K : PySem.W.Frag} {a : Addr} {xs : List V} {g : TG} {tb : TS} {D : Ends} {σ : St} {H : Hp} (Pv : Nat → St → Hp → Prop) (h0 : Pv 0 σ H) (hl : ∀ i σ H, i ≤ xs.length → Pv i σ H → SqT K H a xs)
    (hs : ∀ i x σ H, xs[i]? = some x → Pv i σ H → g x σ H fun σ2 H2 => tb { D with nx := Pv (i + 1), ct := Pv (i + 1), bk := D.nx } σ2 H2) (hd : ∀ σ H, Pv xs.length σ H → D.nx σ H) :
    ∃ W : Nat → Nat → St → Hp → Prop, (∃ m, W 0 m σ H) ∧ ∀ i m σ H, W i m σ H →
      ((Itt K a).stop i H ∧ D.nx σ H) ∨ ((Itt K a).go i H ∧ ∃ N : St → Hp → Prop, (∀ σ' H', N σ' H' → ∃ m', m' < m ∧ W (i + 1) m' σ' H') ∧ ∀ x H', (Itt K a).yld i H x H' → g x σ H' fun σ2 H2 => tb { D with nx := N, ct := N, bk := D.nx } σ2 H2) := by
  refine ⟨fun i m σ H => m = xs.length - i ∧ i ≤ xs.length ∧ Pv i σ H, ⟨xs.length, by simp, Nat.zero_le _, h0⟩, ?_⟩
  rintro i m σ H ⟨rfl, hi, p⟩
  have q := hl i σ H hi p
  by_cases hlt : i < xs.length
  · refine .inr ⟨⟨xs, xs[i], q, by simp [hlt]⟩, Pv (i + 1), fun σ' H' p' => ⟨xs.length - (i + 1), by omega, rfl, hlt, p'⟩, fun x H' y => ?_⟩
    obtain ⟨e, y⟩ := y
    subst e
    exact hs i x σ _ (y xs q) p
  · have e : i = xs.length := by omega
    subst e
    exact .inl ⟨⟨xs, q, Nat.le_refl _⟩, hd σ H p⟩
theorem for_range {lo : Int} {n : Nat} {g : TG} {tb : TS} {D : Ends} {σ : St} {H : Hp} (Pv : Nat → St → Hp → Prop) (h0 : Pv 0 σ H)
    (hs : ∀ i σ H, i < n → Pv i σ H → g (.int (lo + i)) σ H fun σ2 H2 => tb { D with nx := Pv (i + 1), ct := Pv (i + 1), bk := D.nx } σ2 H2) (hd : ∀ σ H, Pv n σ H → D.nx σ H) :
    ∃ W : Nat → Nat → St → Hp → Prop, (∃ m, W 0 m σ H) ∧ ∀ i m σ H, W i m σ H →
      ((Itr lo n).stop i H ∧ D.nx σ H) ∨ ((Itr lo n).go i H ∧ ∃ N : St → Hp → Prop, (∀ σ' H', N σ' H' → ∃ m', m' < m ∧ W (i + 1) m' σ' H') ∧ ∀ x H', (Itr lo n).yld i H x H' → g x σ H' fun σ2 H2 => tb { D with nx := N, ct := N, bk := D.nx } σ2 H2) := by
  refine ⟨fun i m σ H => m = n - i ∧ i ≤ n ∧ Pv i σ H, ⟨n, by simp, Nat.zero_le _, h0⟩, ?_⟩
  rintro i m σ H ⟨rfl, hi, p⟩
  by_cases hlt : i < n
  · refine .inr ⟨hlt, Pv (i + 1), fun σ' H' p' => ⟨n - (i + 1), by omega, rfl, hlt, p'⟩, fun x H' y => ?_⟩
    obtain ⟨e, y⟩ := y
    subst e y
    exact hs i σ _ hlt p
  · have e : i = n := by omega
    subst e
    exact .inl ⟨Nat.le_refl _, hd σ H p⟩
end L2

namespace L2
open PySem PySem.Spec PyProof.Rows

abbrev R2 := V → V → Hp → VK → Prop
def OpR (X : Cx) (f : Value → Value → Sem Value) (r : R2) : Prop :=
  ∀ (pins : List (Addr × Obj)) (s : Shared) (σ : St) (H : Hp) (x y : V) (v u : Value) (Q : VK), Inv X pins σ H s → RelV x v → RelV y u → r x y H Q →
    wpAny (model X.prog X.w) X.A (f v u) (EP X pins σ Q) X.xe s
def UnR (X : Cx) (f : Value → Sem Value) (r : V → Hp → VK → Prop) : Prop :=
  ∀ (pins : List (Addr × Obj)) (s : Shared) (σ : St) (H : Hp) (x : V) (v : Value) (Q : VK), Inv X pins σ H s → RelV x v → r x H Q →
    wpAny (model X.prog X.w) X.A (f v) (EP X pins σ Q) X.xe s
def CallR (X : Cx) (f : Value) (r : List V → Hp → VK → Prop) : Prop :=
  ∀ (pins : List (Addr × Obj)) (s : Shared) (σ : St) (H : Hp) (xs : List V) (us : List Value) (Q : VK), Inv X pins σ H s → Vals xs us → r xs H Q →
    wpAny (model X.prog X.w) X.A (call f us) (EP X pins σ Q) X.xe s
def tOp (r : R2) (ta tb : TE) : TE := fun σ H Q => ta σ H fun x H1 => tb σ H1 fun y H2 => r x y H2 Q
def tUn (r : V → Hp → VK → Prop) (ta : TE) : TE := fun σ H Q => ta σ H fun x H1 => r x H1 Q
def rI (C : Int → Int → Prop) (g : Int → Int → V) : R2 := fun x y H Q => ∃ i j, x = .int i ∧ y = .int j ∧ C i j ∧ Q (g i j) H
def rI0 (g : Int → Int → V) : R2 := fun x y H Q => ∃ i j, x = .int i ∧ y = .int j ∧ Q (g i j) H
def rU (g : Int → V) : V → Hp → VK → Prop := fun x H Q => ∃ i, x = .int i ∧ Q (g i) H

section
variable {X : Cx} {a b c : Expr} {ta tb tc : TE} {pos : Pos}

theorem binT (ha : PE X a ta) (hb : PE X b tb) {pins : List (Addr × Obj)} {s : Shared} {σ : St} {H : Hp} {R : V → V → Hp → Prop} (I : Inv X pins σ H s)
    (h : ta σ H fun x H1 => tb σ H1 fun y H2 => R x y H2) {Q : Value → Shared → Prop} {f : Value → Value → Sem Value}
    (hf : ∀ v u s2 x y H2, Inv X pins σ H2 s2 → RelV x v → RelV y u → R x y H2 → wpAny (model X.prog X.w) X.A (f v u) Q X.xe s2) :
    wpAny (model X.prog X.w) X.A (eval a X.env) (fun v s₁ => wpAny (model X.prog X.w) X.A (eval b X.env) (fun u s₂ => wpAny (model X.prog X.w) X.A (f v u) Q X.xe s₂) X.xe s₁) X.xe s := by
  refine thn (ha pins s σ H _ I h) fun v s1 ⟨x, H1, I1, r1, q1⟩ => ?_
  refine thn (hb pins s1 σ H1 _ I1 q1) fun u s2 ⟨y, H2, I2, r2, q2⟩ => ?_
  exact hf v u s2 x y H2 I2 r1 r2 q2

theorem pe_op {op : Operator} {r : R2} (ho : OpR X (binaryOp op) r) (ha : PE X a ta) (hb : PE X b tb) : PE X (.BinOp a op b pos) (tOp r ta tb) := by
  intro pins s σ H Q I h
  exact wpAny_BinOp (binT ha hb I h fun v u s2 x y H2 I2 rx ry q => ho pins s2 σ H2 x y v u Q I2 rx ry q)
theorem pe_un {op : UnaryOp} {r : V → Hp → VK → Prop} (ho : UnR X (unaryOp op) r) (ha : PE X a ta) : PE X (.UnaryOp op a pos) (tUn r ta) := by
  intro pins s σ H Q I h
  exact UnaryOp_ (thn (ha pins s σ H _ I h) fun v s1 ⟨x, H1, I1, r1, q1⟩ => ho pins s1 σ H1 x v Q I1 r1 q1)
theorem opI {f : Value → Value → Sem Value} {C : Int → Int → Prop} {g : Int → Int → Int}
    (rule : ∀ (i j : Int) (t u : Tok) (s : Shared) (Q : Value → Shared → Prop) (E : Value → Shared → Prop), C i j → Q (.int (g i j) s.toks) { s with toks := s.toks + 1 } → wpAny (model X.prog X.w) X.A (f (.int i t) (.int j u)) Q E s) :
    OpR X f (rI C fun i j => .int (g i j)) := by
  intro pins s σ H x y v u Q I rx ry h
  obtain ⟨i, j, rfl, rfl, hc, q⟩ := h
  obtain ⟨t, rfl⟩ := rx
  obtain ⟨t', rfl⟩ := ry
  exact rule i j t t' s _ _ hc ⟨.int (g i j), H, I.tok _, ⟨_, rfl⟩, q⟩
theorem opI0 {f : Value → Value → Sem Value} {g : Int → Int → Int}
    (rule : ∀ (i j : Int) (t u : Tok) (s : Shared) (Q : Value → Shared → Prop) (E : Value → Shared → Prop), Q (.int (g i j) s.toks) { s with toks := s.toks + 1 } → wpAny (model X.prog X.w) X.A (f (.int i t) (.int j u)) Q E s) :
    OpR X f (rI0 fun i j => .int (g i j)) := by
  intro pins s σ H x y v u Q I rx ry h
  obtain ⟨i, j, rfl, rfl, q⟩ := h
  obtain ⟨t, rfl⟩ := rx
  obtain ⟨t', rfl⟩ := ry
  exact rule i j t t' s _ _ ⟨.int (g i j), H, I.tok _, ⟨_, rfl⟩, q⟩
theorem opB0 {f : Value → Value → Sem Value} {g : Int → Int → Bool}
    (rule : ∀ (i j : Int) (t u : Tok) (s : Shared) (Q : Value → Shared → Prop) (E : Value → Shared → Prop), Q (.bool (g i j)) s → wpAny (model X.prog X.w) X.A (f (.int i t) (.int j u)) Q E s) :
    OpR X f (rI0 fun i j => .bl (g i j)) := by
  intro pins s σ H x y v u Q I rx ry h
  obtain ⟨i, j, rfl, rfl, q⟩ := h
  obtain ⟨t, rfl⟩ := rx
  obtain ⟨t', rfl⟩ := ry
  exact rule i j t t' s _ _ ⟨.bl (g i j), H, I, rfl, q⟩

def CPow (i j : Int) : Prop := 0 ≤ j ∧ j ≤ 1000000 ∧ i.natAbs < 2 ^ 64
def CMul (i j : Int) : Prop := (-(2 ^ 64) < i ∧ i < 2 ^ 64) ∨ (-(2 ^ 64) < j ∧ j < 2 ^ 64)
theorem CMul.ok {i j : Int} (h : CMul i j) : IntMulOk i j := by
  rcases h with ⟨h1, h2⟩ | ⟨h1, h2⟩
  · exact .of_left (intBits_le_64 h1 h2)
  · exact .of_right (intBits_le_64 h1 h2)
theorem op_add : OpR X (binaryOp .Add) (rI0 fun i j => .int (i + j)) := opI0 fun _ _ _ _ _ _ _ q => add_int q
theorem op_sub : OpR X (binaryOp .Sub) (rI0 fun i j => .int (i - j)) := opI0 fun _ _ _ _ _ _ _ q => sub_int q
theorem op_mul : OpR X (binaryOp .Mult) (rI CMul fun i j => .int (i * j)) := opI fun _ _ _ _ _ _ _ hc q => mul_int q hc.ok
theorem op_mod : OpR X (binaryOp .Mod) (rI (fun _ j => 0 < j) fun i j => .int (i % j)) := opI fun i j _ _ _ _ _ hc q => by
  have h1 : (0 : Int) < j := hc
  exact mod_int' (by omega) (by rw [Int.fmod_eq_emod_of_nonneg i (by omega)]; exact q)
theorem op_pow : OpR X (binaryOp .Pow) (rI CPow fun i j => .int (i ^ j.toNat)) := opI fun _ _ _ _ _ _ _ hc q => pow_int_small hc.1 hc.2.1 hc.2.2 q
theorem unI {f : Value → Sem Value} {g : Int → Int}
    (rule : ∀ (i : Int) (t : Tok) (s : Shared) (Q : Value → Shared → Prop) (E : Value → Shared → Prop), Q (.int (g i) s.toks) { s with toks := s.toks + 1 } → wpAny (model X.prog X.w) X.A (f (.int i t)) Q E s) :
    UnR X f (rU fun i => .int (g i)) := by
  intro pins s σ H x v Q I rx h
  obtain ⟨i, rfl, q⟩ := h
  obtain ⟨t, rfl⟩ := rx
  exact rule i t s _ _ ⟨.int (g i), H, I.tok _, ⟨_, rfl⟩, q⟩
theorem un_neg : UnR X (unaryOp .USub) (rU fun i => .int (-i)) := unI fun _ _ _ _ _ q => neg_int q
end

def scal : V → V → Bool
  | .non, .non => true | .non, .int _ => true | .int _, .non => true | .non, .bl _ => true | .bl _, .non => true | .non, .str _ => true | .str _, .non => true
  | .int _, .int _ => true | .bl _, .bl _ => true | .str _, .str _ => true | .byt _, .byt _ => true
  | .int _, .str _ => true | .str _, .int _ => true | .bl _, .str _ => true | .str _, .bl _ => true
  | _, _ => false
def rEq : R2 := fun x y H Q => scal x y = true ∧ Q (.bl (decide (x = y))) H
def rNe : R2 := fun x y H Q => scal x y = true ∧ Q (.bl (!decide (x = y))) H

theorem dec_int {i j : Int} : decide (V.int i = V.int j) = (i == j) := by
  rw [Bool.eq_iff_iff]
  simp
theorem dec_bl {i j : Bool} : decide (V.bl i = V.bl j) = (i == j) := by
  rw [Bool.eq_iff_iff]
  simp
theorem dec_str {i j : Str} : decide (V.str i = V.str j) = (i == j) := by
  rw [Bool.eq_iff_iff]
  simp
theorem dec_byt {i j : Array UInt8} : decide (V.byt i = V.byt j) = (i.toList == j.toList) := by
  rw [Bool.eq_iff_iff]
  cases i
  cases j
  simp

section
variable {X : Cx} {a b c : Expr} {ta tb tc : TE} {pos : Pos}
theorem fin_bl {pins : List (Addr × Obj)} {σ : St} {H : Hp} {s : Shared} {Q : VK} {k k' : Bool} (I : Inv X pins σ H s) (q : Q (.bl k) H) (e : k = k') : EP X pins σ Q (.bool k') s := by
  subst e
  exact ⟨.bl k, H, I, rfl, q⟩
theorem op_eq : OpR X (compareOp .Eq) rEq := by
  intro pins s σ H x y v u Q I rx ry h
  obtain ⟨hs, q⟩ := h
  cases x with
  | non =>
    cases rx
    cases y with
    | non => cases ry; exact PySem.EqNone.eq_none_none (fin_bl I q (by simp))
    | bl j => cases ry; exact PySem.EqNone.eq_none_bool (fin_bl I q (by simp))
    | int j => obtain ⟨t', rfl⟩ := ry; exact PySem.EqNone.eq_none_int (fin_bl I q (by simp))
    | str j => obtain ⟨t', rfl⟩ := ry; exact PySem.EqNone.eq_none_str (fin_bl I q (by simp))
    | _ => exact absurd (show false = true from hs) Bool.false_ne_true
  | bl i =>
    cases rx
    cases y with
    | non => cases ry; exact PySem.EqNone.eq_bool_none (fin_bl I q (by simp))
    | bl j => cases ry; exact eq_bool (fin_bl I q dec_bl)
    | str j => obtain ⟨t', rfl⟩ := ry; exact PySem.EqMixed.eq_bool_str (fin_bl I q (by simp))
    | _ => exact absurd (show false = true from hs) Bool.false_ne_true
  | int i =>
    obtain ⟨t, rfl⟩ := rx
    cases y with
    | non => cases ry; exact PySem.EqNone.eq_int_none (fin_bl I q (by simp))
    | int j => obtain ⟨t', rfl⟩ := ry; exact eq_int (fin_bl I q dec_int)
    | str j => obtain ⟨t', rfl⟩ := ry; exact PySem.EqMixed.eq_int_str (fin_bl I q (by simp))
    | _ => exact absurd (show false = true from hs) Bool.false_ne_true
  | str i =>
    obtain ⟨t, rfl⟩ := rx
    cases y with
    | non => cases ry; exact PySem.EqNone.eq_str_none (fin_bl I q (by simp))
    | bl j => cases ry; exact PySem.EqMixed.eq_str_bool (fin_bl I q (by simp))
    | int j => obtain ⟨t', rfl⟩ := ry; exact PySem.EqMixed.eq_str_int (fin_bl I q (by simp))
    | str j => obtain ⟨t', rfl⟩ := ry; exact eq_str (fin_bl I q dec_str)
    | _ => exact absurd (show false = true from hs) Bool.false_ne_true
  | byt i =>
    obtain ⟨t, rfl⟩ := rx
    cases y with
    | byt j => obtain ⟨t', rfl⟩ := ry; exact PySem.W.eq_bytes (fin_bl I q dec_byt)
    | _ => exact absurd (show false = true from hs) Bool.false_ne_true
  | _ => cases y <;> exact absurd (show false = true from hs) Bool.false_ne_true
theorem op_ne : OpR X (compareOp .NotEq) rNe := by
  intro pins s σ H x y v u Q I rx ry h
  obtain ⟨hs, q⟩ := h
  cases x with
  | non =>
    cases rx
    cases y with
    | non => cases ry; exact PySem.EqNone.ne_none_none (fin_bl I q (by simp))
    | bl j => cases ry; exact PySem.EqNone.ne_none_bool (fin_bl I q (by simp))
    | int j => obtain ⟨t', rfl⟩ := ry; exact PySem.EqNone.ne_none_int (fin_bl I q (by simp))
    | str j => obtain ⟨t', rfl⟩ := ry; exact PySem.EqNone.ne_none_str (fin_bl I q (by simp))
    | _ => exact absurd (show false = true from hs) Bool.false_ne_true
  | bl i =>
    cases rx
    cases y with
    | non => cases ry; exact PySem.EqNone.ne_bool_none (fin_bl I q (by simp))
    | bl j => cases ry; exact ne_bool (fin_bl I q (congrArg not dec_bl))
    | str j => obtain ⟨t', rfl⟩ := ry; exact PySem.EqMixed.ne_bool_str (fin_bl I q (by simp))
    | _ => exact absurd (show false = true from hs) Bool.false_ne_true
  | int i =>
    obtain ⟨t, rfl⟩ := rx
    cases y with
    | non => cases ry; exact PySem.EqNone.ne_int_none (fin_bl I q (by simp))
    | int j => obtain ⟨t', rfl⟩ := ry; exact ne_int (fin_bl I q (congrArg not dec_int))
    | str j => obtain ⟨t', rfl⟩ := ry; exact PySem.EqMixed.ne_int_str (fin_bl I q (by simp))
    | _ => exact absurd (show false = true from hs) Bool.false_ne_true
  | str i =>
    obtain ⟨t, rfl⟩ := rx
    cases y with
    | non => cases ry; exact PySem.EqNone.ne_str_none (fin_bl I q (by simp))
    | bl j => cases ry; exact PySem.EqMixed.ne_str_bool (fin_bl I q (by simp))
    | int j => obtain ⟨t', rfl⟩ := ry; exact PySem.EqMixed.ne_str_int (fin_bl I q (by simp))
    | str j => obtain ⟨t', rfl⟩ := ry; exact ne_str (fin_bl I q (congrArg not dec_str))
    | _ => exact absurd (show false = true from hs) Bool.false_ne_true
  | byt i =>
    obtain ⟨t, rfl⟩ := rx
    cases y with
    | byt j => obtain ⟨t', rfl⟩ := ry; exact PySem.W.ne_bytes (fin_bl I q (congrArg not dec_byt))
    | _ => exact absurd (show false = true from hs) Bool.false_ne_true
  | _ => cases y <;> exact absurd (show false = true from hs) Bool.false_ne_true

theorem op_lt : OpR X (compareOp .Lt) (rI0 fun i j => .bl (decide (i < j))) := opB0 fun _ _ _ _ _ _ _ q => lt_int q
theorem op_le : OpR X (compareOp .LtE) (rI0 fun i j => .bl (decide (i ≤ j))) := opB0 fun _ _ _ _ _ _ _ q => le_int q
theorem op_gt : OpR X (compareOp .Gt) (rI0 fun i j => .bl (decide (j < i))) := opB0 fun _ _ _ _ _ _ _ q => gt_int q
theorem op_ge : OpR X (compareOp .GtE) (rI0 fun i j => .bl (decide (j ≤ i))) := opB0 fun _ _ _ _ _ _ _ q => ge_int q
theorem op_lt_str : OpR X (compareOp .Lt) (fun x y H Q => ∃ i j, x = .str i ∧ y = .str j ∧ Q (.bl (decide (i.cps.toList < j.cps.toList))) H) := by
  intro pins s σ H x y v u Q I rx ry h
  obtain ⟨i, j, rfl, rfl, q⟩ := h
  obtain ⟨t, rfl⟩ := rx
  obtain ⟨t', rfl⟩ := ry
  exact lt_str (fin_bl I q rfl)
theorem op_in_str : OpR X (compareOp .In) (fun x y H Q => ∃ i j, x = .str i ∧ y = .str j ∧ Q (.bl (!(Builtin.Str.occurrences j i 0 j.length 1).isEmpty)) H) := by
  intro pins s σ H x y v u Q I rx ry h
  obtain ⟨i, j, rfl, rfl, q⟩ := h
  obtain ⟨t, rfl⟩ := rx
  obtain ⟨t', rfl⟩ := ry
  exact in_str (fin_bl I q rfl)

theorem nomark (b : Expr) {op : CmpOp} (h : op ≠ .In := by decide) (h2 : op ≠ .NotIn := by decide) : behindInMarks op b = false := by
  have e1 : (op == CmpOp.In) = false := by cases op <;> first | rfl | exact absurd rfl h
  have e2 : (op == CmpOp.NotIn) = false := by cases op <;> first | rfl | exact absurd rfl h2
  cases b <;> simp [behindInMarks, e1, e2]
theorem pe_cmpR {op : CmpOp} {r : R2} (ho : OpR X (compareOp op) r) (ha : PE X a ta) (hb : PE X b tb) (hm : behindInMarks op b = false) : PE X (.Compare a [op] [b] pos) (tOp r ta tb) := by
  intro pins s σ H Q I h
  exact wpAny_Compare1 (binT ha hb I h fun v u s2 x y H2 I2 rx ry q => ho pins s2 σ H2 x y v u Q I2 rx ry q) hm
def tTest (t : TE) : TT := fun σ H Q => t σ H fun x H' => ∃ k, x = .bl k ∧ Q k H'
theorem pt_cmpR {op : CmpOp} {r : R2} (ho : OpR X (compareOp op) r) (ha : PE X a ta) (hb : PE X b tb) (hm : behindInMarks op b = false) : PT X (.Compare a [op] [b] pos) (tTest (tOp r ta tb)) := by
  intro pins s σ H Q I h
  refine wpAny_isTrue_Compare1 (thn (ha pins s σ H _ I h) fun v s1 ⟨x, H1, I1, r1, q1⟩ => thn (hb pins s1 σ H1 _ I1 q1) fun u s2 ⟨y, H2, I2, r2, q2⟩ =>
    thn (ho pins s2 σ H2 x y v u _ I2 r1 r2 q2) fun c s3 ⟨z, H3, I3, r3, k, e, q3⟩ => ?_) hm
  subst e
  cases r3
  exact wpAny_truthy_bool ⟨H3, I3, q3⟩
def tChain (r r' : R2) (ta tb tc : TE) : TE := fun σ H Q => ta σ H fun x H1 => tb σ H1 fun y H2 => r x y H2 fun z H3 => ∃ k, z = .bl k ∧
  (if k = true then tc σ H3 fun w' H4 => r' y w' H4 Q else Q (.bl false) H3)
theorem pe_chain {op op' : CmpOp} {r r' : R2} (ho : OpR X (compareOp op) r) (ho' : OpR X (compareOp op') r') (ha : PE X a ta) (hb : PE X b tb) (hc : PE X c tc)
    (hm : lastMarks [op, op'] [b, c] = false := by with_unfolding_all rfl) : PE X (.Compare a [op, op'] [b, c] pos) (tChain r r' ta tb tc) := by
  intro pins s σ H Q I h
  refine Compare_chain (thn (ha pins s σ H _ I h) fun v s1 ⟨x, H1, I1, r1, q1⟩ => chain_link (thn (hb pins s1 σ H1 _ I1 q1) fun u s2 ⟨y, H2, I2, r2, q2⟩ =>
    thn (ho pins s2 σ H2 x y v u _ I2 r1 r2 q2) fun d s3 ⟨z, H3, I3, r3, k, e, q3⟩ => ?_)) hm
  subst e
  cases r3
  refine wpAny_truthy_bool ?_
  cases k with
  | false => exact ite_ff ⟨.bl false, H3, I3, rfl, q3⟩
  | true => exact ite_tt (chain_last (thn (hc pins s3 σ H3 _ I3 q3) fun w' s4 ⟨z', H4, I4, r4, q4⟩ => ho' pins s4 σ H4 y z' u w' Q I4 r2 r4 q4))
theorem pt_chain {op op' : CmpOp} {r r' : R2} (ho : OpR X (compareOp op) r) (ho' : OpR X (compareOp op') r') (ha : PE X a ta) (hb : PE X b tb) (hc : PE X c tc)
    (hm : lastMarks [op, op'] [b, c] = false := by with_unfolding_all rfl) : PT X (.Compare a [op, op'] [b, c] pos) (tTest (tChain r r' ta tb tc)) := by
  intro pins s σ H Q I h
  refine isTrue_chain (thn (ha pins s σ H _ I h) fun v s1 ⟨x, H1, I1, r1, q1⟩ => test_link (thn (hb pins s1 σ H1 _ I1 q1) fun u s2 ⟨y, H2, I2, r2, q2⟩ =>
    thn (ho pins s2 σ H2 x y v u _ I2 r1 r2 q2) fun d s3 ⟨z, H3, I3, r3, k, e, q3⟩ => ?_)) hm
  subst e
  cases r3
  refine wpAny_truthy_bool ?_
  cases k with
  | false =>
    obtain ⟨k', e', q'⟩ := q3
    cases e'
    exact ite_ff ⟨H3, I3, q'⟩
  | true =>
    refine ite_tt (test_last (thn (hc pins s3 σ H3 _ I3 q3) fun w' s4 ⟨z', H4, I4, r4, q4⟩ => thn (ho' pins s4 σ H4 y z' u w' _ I4 r2 r4 q4) fun d' s5 ⟨z2, H5, I5, r5, k2, e2, q5⟩ => ?_))
    subst e2
    cases r5
    exact wpAny_truthy_bool ⟨H5, I5, q5⟩

theorem line63 : (sizeLine : Nat) < 2 ^ 63 := by rw [sizeLine_eq]; decide
theorem op_add_str : OpR X (binaryOp .Add) (fun x y H Q => ∃ i j, x = .str i ∧ y = .str j ∧ i.length + j.length ≤ sizeLine ∧ Q (.str (i ++ j)) H) := by
  intro pins s σ H x y v u Q I rx ry h
  obtain ⟨i, j, rfl, rfl, hz, q⟩ := h
  obtain ⟨t, rfl⟩ := rx
  obtain ⟨t', rfl⟩ := ry
  exact add_str (fun t' tk => ⟨.str (i ++ j), H, I.tok _, ⟨_, rfl⟩, q⟩) hz
theorem vals1 {x : V} {us : List Value} (r : Vals [x] us) : ∃ u, us = [u] ∧ RelV x u := by
  cases r with
  | cons r1 r2 => cases r2; exact ⟨_, rfl, r1⟩
theorem vals2 {x y : V} {us : List Value} (r : Vals [x, y] us) : ∃ u w', us = [u, w'] ∧ RelV x u ∧ RelV y w' := by
  cases r with
  | cons r1 r2 =>
    cases r2 with
    | cons r3 r4 => cases r4; exact ⟨_, _, rfl, r1, r3⟩
theorem call_max2 (hc : X.calm = true) : CallR X (.builtin "max") (fun xs H Q => ∃ i j, xs = [.int i, .int j] ∧ Q (.int (if j > i then j else i)) H) := by
  intro pins s σ H xs us Q I r h
  obtain ⟨i, j, rfl, q⟩ := h
  obtain ⟨u, w', rfl, ⟨t, rfl⟩, ⟨t', rfl⟩⟩ := vals2 r
  refine max_two_ints (I.ok.hd hc) fun h' tk k => ⟨_, H, I.kept k, ?_, q⟩
  by_cases hj : j > i
  · rw [if_pos hj, if_pos hj]; exact ⟨_, rfl⟩
  · rw [if_neg hj, if_neg hj]; exact ⟨_, rfl⟩
theorem call_min2 (hc : X.calm = true) : CallR X (.builtin "min") (fun xs H Q => ∃ i j, xs = [.int i, .int j] ∧ Q (.int (if j < i then j else i)) H) := by
  intro pins s σ H xs us Q I r h
  obtain ⟨i, j, rfl, q⟩ := h
  obtain ⟨u, w', rfl, ⟨t, rfl⟩, ⟨t', rfl⟩⟩ := vals2 r
  refine min_two_ints (I.ok.hd hc) fun h' tk k => ⟨_, H, I.kept k, ?_, q⟩
  by_cases hj : j < i
  · rw [if_pos hj, if_pos hj]; exact ⟨_, rfl⟩
  · rw [if_neg hj, if_neg hj]; exact ⟨_, rfl⟩
theorem call_int1 : CallR X (.type "int") (fun xs H Q => (∃ i, xs = [.int i] ∧ Q (.int i) H) ∨ ∃ k, xs = [.bl k] ∧ Q (.int (if k then 1 else 0)) H) := by
  intro pins s σ H xs us Q I r h
  rcases h with ⟨i, rfl, q⟩ | ⟨k, rfl, q⟩
  · obtain ⟨u, rfl, t, rfl⟩ := vals1 r
    exact call_int_int ⟨.int i, H, I, ⟨_, rfl⟩, q⟩
  · obtain ⟨u, rfl, r1⟩ := vals1 r
    cases r1
    exact call_int_bool ⟨.int (if k then 1 else 0), H, I.tok _, ⟨_, rfl⟩, q⟩
theorem call_str_int : CallR X (.type "str") (fun xs H Q => ∃ i, xs = [.int i] ∧ i.natAbs.log2 < 1920 ∧ Q (.str (toString i)) H) := by
  intro pins s σ H xs us Q I r h
  obtain ⟨i, rfl, hz, q⟩ := h
  obtain ⟨u, rfl, t, rfl⟩ := vals1 r
  exact PySem.P.str_of_int hz ⟨.str _, H, I.tok _, ⟨_, rfl⟩, q⟩
def LenV (K : PySem.W.Frag) (x : V) (H : Hp) (n : Nat) : Prop :=
  match x with
  | .str y => y.length ≤ sizeLine ∧ n = y.length
  | .byt y => y.size ≤ sizeLine ∧ n = y.size
  | .ref p => (∃ xs, SqL K H p xs ∧ n = xs.length) ∨ ∃ xs, SqT K H p xs ∧ n = xs.length
  | _ => False
theorem call_len : CallR X (.builtin "len") (fun xs H Q => ∃ x n, xs = [x] ∧ LenV X.K x H n ∧ Q (.int n) H) := by
  intro pins s σ H xs us Q I r h
  obtain ⟨x, n, rfl, e, q⟩ := h
  obtain ⟨u, rfl, rx⟩ := vals1 r
  have hl := line63
  have hs : sizeLine = 16777216 := sizeLine_eq
  cases x with
  | str y =>
    obtain ⟨t, rfl⟩ := rx
    obtain ⟨hy, e'⟩ : y.length ≤ sizeLine ∧ n = y.length := e
    subst e'
    exact len_str (by omega) ⟨.int _, H, I.tok _, ⟨_, rfl⟩, q⟩
  | byt y =>
    obtain ⟨t, rfl⟩ := rx
    obtain ⟨hy, e'⟩ : y.size ≤ sizeLine ∧ n = y.size := e
    subst e'
    exact PySem.W.len_bytes (by omega) ⟨.int _, H, I.tok _, ⟨_, rfl⟩, q⟩
  | ref p =>
    cases rx
    have e' : (∃ xs, SqL X.K H p xs ∧ n = xs.length) ∨ ∃ xs, SqT X.K H p xs ∧ n = xs.length := e
    rcases e' with ⟨xs, hx, e'⟩ | ⟨xs, hx, e'⟩
    · subst e'
      obtain ⟨its, r', pl, hz⟩ := I.list hx
      have hlen := r'.length
      exact Calls.call_len_list pl.isList (by simp only [List.size_toArray]; omega) ⟨.int xs.length, H, I.tok _, ⟨_, by simp only [List.size_toArray]; rw [hlen]⟩, q⟩
    · subst e'
      obtain ⟨its, r', pl, hz⟩ := I.tuple hx
      have hlen := r'.length
      exact len_tuple pl (by simp only [List.size_toArray]; omega) ⟨.int xs.length, H, I.tok _, ⟨_, by simp only [List.size_toArray]; rw [hlen]⟩, q⟩
  | _ => exact (show False from e).elim
end
end L2

namespace L2
open PySem PySem.Spec PyProof.Rows

structure ObjM (h : Heap) (x dx C : Addr) (mA : Str → Option Value) : Prop where
  obj : h.get? x = some (PySem.W.instObj C dx)
  ns : h.Ns1 dx mA
  ne : dx ≠ x

theorem lookIn_ns {h : Heap} {dx : Addr} {mA : Str → Option Value} (n : h.Ns1 dx mA) : ∃ od, h.get? dx = some od ∧ ∀ name, PySem.W.lookIn name od = some (mA name) := by
  obtain ⟨o, es, ep, ho, hd, hk, _, hm⟩ := n
  refine ⟨o, ho, fun name => ?_⟩
  have e := hm name
  unfold nsFind findBy at e
  rw [← Array.find?_toList] at e
  unfold PySem.W.lookIn
  rw [hd]
  dsimp only
  split
  · rename_i y q
    rw [q] at e
    exact congrArg some e
  · rename_i q
    rw [q] at e
    have a : es.toList.any (·.refKey) = false := by
      rw [List.any_eq_false]
      intro y hy
      obtain ⟨z, t, hkey⟩ := hk y (Array.mem_toList_iff.mp hy)
      simp [DictEntry.refKey, hkey]
    have a' : ¬ es.toList.any (·.refKey) = true := by rw [a]; exact Bool.false_ne_true
    rw [if_neg a']
    exact congrArg some e

theorem ObjM.look {h : Heap} {x dx C : Addr} {mA : Str → Option Value} (I : ObjM h x dx C mA) : ∃ od, PySem.W.InstAt h x (PySem.W.instObj C dx) C (some od) ∧ ∀ name, PySem.W.lookIn name od = some (mA name) :=
  let ⟨od, ho, hl⟩ := lookIn_ns I.ns
  ⟨od, ⟨I.obj, rfl, rfl, ho⟩, hl⟩

section
variable {prog : Program} {w : World} {A : Around} {E : Value → Shared → Prop} {s : Shared} {K : PySem.W.Frag} {x dx C f : Addr} {mA : Str → Option Value} {name : Str} {v : Value}

theorem get_meth {pl : Sem Bool} {Q : Value × List Value → Shared → Prop} (X : K.In s.heap) (I : ObjM s.heap x dx C mA) (hg : PySem.W.plainGet K C name = true)
    (hf : PySem.W.findIn K (.ref C) name = some (some (.ref f))) (ht : PySem.W.isFn K (.ref f) = true) (hv : mA name = none) (h : Q (.ref f, [.ref x]) s) :
    wpAny (model prog w) A (getMethod (.ref x) name pl) Q E s := by
  obtain ⟨od, J, hl⟩ := I.look
  exact PySem.W.method_fn X J (PySem.W.plainGet_of hg).1 (PySem.W.plainGet_of hg).2 hf (beq_iff_eq.mp ht) (by show (PySem.W.lookIn name od).map (·.isSome) = some false; rw [hl, hv]; rfl) h

theorem make_map0 {R : Result → Shared → Prop} (X : K.In s.heap) (hm : PySem.W.makesIn K C = true)
    (hi : PySem.W.findIn K (.ref C) "__init__" = some (some (.builtin "object.__init__")))
    (hb : ∀ self, PySem.W.Looks (model prog w) s.heap (bindSpecial (.builtin "object.__init__") self) (.builtin "object.__init__", [self]))
    (h : codeAny (model prog w) (A.under (.builtin "type.__call__" ⟨[.ref C], []⟩)) (.call (.builtin "object.__init__") ⟨[.ref (s.heap.objs.size + 1)], []⟩) (PySem.W.InitBack (s.heap.objs.size + 1) R)
      { s with heap := (s.heap.push PySem.W.emptyDict).push (PySem.W.instObj C s.heap.objs.size) }) :
    codeAny (model prog w) A (.call (.ref C) ⟨[], []⟩) R s := by
  obtain ⟨hh, g, d, t, os⟩ := s
  exact PySem.W.make_core (PySem.W.makes_of X hm) (PySem.W.looks_findIn X hi) hb (.inr ⟨rfl, rfl⟩) h
end

theorem RelO.some_of {v : V} {o : Option Value} (r : RelO (some v) o) : ∃ u, o = some u ∧ RelV v u := by
  cases o with
  | none => exact (show False from r).elim
  | some u => exact ⟨u, rfl, r⟩
theorem RelO.none_of {o : Option Value} (r : RelO none o) : o = none := by
  cases o with
  | none => rfl
  | some u => exact (show False from r).elim
theorem handed_of {v : V} {u : Value} (r : RelV v u) : PySem.W.handedIn u = true := by
  cases v with
  | non => cases (show u = Value.none from r); rfl
  | bl b => cases (show u = Value.bool b from r); rfl
  | int i => obtain ⟨t, e⟩ := (show ∃ t, u = Value.int i t from r); cases e; rfl
  | str x => obtain ⟨t, e⟩ := (show ∃ t, u = Value.str x t from r); cases e; rfl
  | byt b => obtain ⟨t, e⟩ := (show ∃ t, u = Value.bytes b t from r); cases e; rfl
  | flt b => obtain ⟨t, e⟩ := (show ∃ t, u = Value.float b t from r); cases e; rfl
  | ref a => cases (show u = Value.ref a from r); rfl
  | ty n => cases (show u = Value.type n from r); rfl

section
variable {P : Program} {w : World} {H H' : Hp} {h h' : Heap} {a C dx : Addr} {fs fs' : List (Str × V)}
theorem ins_get (hok : HOk P w H h) (e : H a = some (.ins C dx fs)) : ∃ mA, ObjM h a dx C mA ∧ (∀ f, RelO (fs.lookup f) (mA f)) ∧ PySem.Within mA (fs.map (·.1)) ∧ fs.length ≤ 1000 ∧ H dx = some (.own a) := by
  obtain ⟨d, z, ne, ob, mA, n, r, q⟩ := (show ObjOk P w H h a (.ins C dx fs) from hok a _ e)
  exact ⟨mA, ⟨ob, n, ne⟩, r, q, z, d⟩
end

structure Cls (K : PySem.W.Frag) (C : Addr) : Prop where
  pg : PySem.W.plainGet K C Str.empty = true
  hd : PySem.W.hasDictIn K C = true
  po : PySem.W.plainOver K C = true
  sa : PySem.W.findIn K (.ref C) "__setattr__" = some (some (.builtin "object.__setattr__"))
theorem Cls.get {K : PySem.W.Frag} {C : Addr} (c : Cls K C) (f : Str) : PySem.W.plainGet K C f = true := c.pg
structure Meth (K : PySem.W.Frag) (C : Addr) (m : Str) (f : Addr) : Prop where
  at_ : PySem.W.findIn K (.ref C) m = some (some (.ref f))
  fn : PySem.W.isFn K (.ref f) = true
  kp : PySem.W.keepIn K (.ref f) = true

section
variable {X : Cx} {pins : List (Addr × Obj)} {σ : St} {H : Hp} {s : Shared} {a C dx : Addr} {fs : List (Str × V)} {f : Str} {v : V} {A : Around} {E : Value → Shared → Prop}

theorem getmeth_ok {m : Str} {g : Addr} {pl : Sem Bool} {Q : Value × List Value → Shared → Prop} (I : Inv X pins σ H s) (e : H a = some (.ins C dx fs)) (c : Cls X.K C) (k : Meth X.K C m g) (l : fs.lookup m = none)
    (h : Q (.ref g, [.ref a]) s) : wpAny (model X.prog X.w) A (getMethod (.ref a) m pl) Q E s := by
  obtain ⟨mA, O, r, _, _, _⟩ := ins_get I.hok e
  have hn : mA m = none := RelO.none_of (by rw [← l]; exact r m)
  exact get_meth I.kIn O (c.get m) k.at_ k.fn hn h

theorem Inv.made (I : Inv X pins σ H s) : Inv X pins σ (upd (upd H s.heap.objs.size (.own (s.heap.objs.size + 1))) (s.heap.objs.size + 1) (.ins C s.heap.objs.size []))
    { s with heap := (s.heap.push PySem.W.emptyDict).push (PySem.W.instObj C s.heap.objs.size) } := by
  have e1 : (s.heap.push PySem.W.emptyDict).get? s.heap.objs.size = some PySem.W.emptyDict := Heap.get?_push_size s.heap rfl
  have e2 : ((s.heap.push PySem.W.emptyDict).push (PySem.W.instObj C s.heap.objs.size)).get? (s.heap.objs.size + 1) = some (PySem.W.instObj C s.heap.objs.size) := by
    have := Heap.get?_push_size (s.heap.push PySem.W.emptyDict) (o := PySem.W.instObj C s.heap.objs.size) rfl
    rwa [Heap.size_push] at this
  have e3 : (s.heap.push PySem.W.emptyDict).Ns s.heap.objs.size (fun _ => none) := ⟨PySem.W.emptyDict, #[], _, e1, rfl, (fun e he => absurd he (by simp)), fun _ => rfl⟩
  have I1 := I.laid (a := s.heap.objs.size) (o := .own (s.heap.objs.size + 1)) (h' := s.heap.push PySem.W.emptyDict) (t' := s.toks) (fun b u q => Heap.get?_push_of_some _ q) (Nat.le_refl _) ⟨_, e1⟩
  refine I1.laid (a := s.heap.objs.size + 1) (o := .ins C s.heap.objs.size []) (t' := s.toks) (fun b u q => Heap.get?_push_of_some _ q) (Nat.le_of_eq (Heap.size_push _ _)) ?_
  have ne : s.heap.objs.size ≠ s.heap.objs.size + 1 := Nat.ne_of_lt (Nat.lt_succ_self _)
  refine ⟨by rw [upd_ne ne, upd_same], Nat.zero_le _, ne, e2, fun _ => none, (Heap.Ns1.of_empty e3).at fun o q => Heap.get?_push_of_some _ q, fun _ => True.intro, fun y hy => absurd rfl hy⟩

theorem attr_of {prog : Program} {w : World} {env : Env} {e : Expr} {f : Str} {pos : Pos} {s : Shared} {Q : Value → Shared → Prop} (hb : attributeBase e f env (eval e env) = eval e env)
    (h : wpAny (model prog w) A (eval e env) (fun o s₁ => wpAny (model prog w) A (getAttr o f true) Q E s₁) E s) : wpAny (model prog w) A (eval (.Attribute e f pos) env) Q E s :=
  Attribute_any_ h (by rw [arm_eval_Attribute, hb])
end

section
variable {X : Cx} {o e value : Expr} {f : Str} {pos pos' tpos : Pos} {ta tv : TE}
end

section
variable {X : Cx} {pins : List (Addr × Obj)} {σ : St} {H : Hp} {s : Shared} {A : Around} {E : Value → Shared → Prop} {Q : Value → Shared → Prop} {c : Value} {b : Bool}
inductive TyOf (K : PySem.W.Frag) (H : Hp) : V → Value → Prop where
  | non : TyOf K H .non (.type "NoneType")
  | bl (x : Bool) : TyOf K H (.bl x) (.type "bool")
  | int (i : Int) : TyOf K H (.int i) (.type "int")
  | str (x : Str) : TyOf K H (.str x) (.type "str")
  | flt (x : UInt64) : TyOf K H (.flt x) (.type "float")
  | lst {a : Addr} {xs : List V} (e : H a = some (.lst xs)) : TyOf K H (.ref a) (.type "list")
  | frz {a : Addr} {o : Obj} {xs : List V} (e : H a = some (.frz o (.lst xs))) : TyOf K H (.ref a) (.type "list")
  | tup {a : Addr} {xs : List V} (e : H a = some (.tup xs)) : TyOf K H (.ref a) (.type "tuple")
  | dK {a : Addr} {kvs : List (Key × V)} (e : H a = some (.dK kvs)) : TyOf K H (.ref a) (.type "dict")
  | dT {a : Addr} {kvs : List (List Key × V)} (e : H a = some (.dT kvs)) : TyOf K H (.ref a) (.type "dict")
  | ins {a C dx : Addr} {fs : List (Str × V)} (e : H a = some (.ins C dx fs)) (cl : Cls K C) (ha : PySem.W.findIn K (.ref C) "__class__" = some (some (.builtin "object.__class__")))
      (hn : PySem.W.specialIn K (.builtin "object.__class__") "__get__" = some (some (.builtin "getset_descriptor.__get__"))) (htk : PySem.W.takesIn K (.builtin "object.__class__") = some true)
      (hm : PySem.W.mroIn K C (.type "object") = some true) : TyOf K H (.ref a) (.ref C)
theorem isinst_ok {x : V} {u t : Value} (I : Inv X pins σ H s) (rx : RelV x u) (ty : TyOf X.K H x t) (e : PySem.W.kitOne X.K t c = some b) (h : ∀ tk, Q (.bool b) { s with toks := tk }) :
    wpAny (model X.prog X.w) A (call (.builtin "isinstance") [u, c]) Q E s := by
  cases ty with
  | non => cases (show u = Value.none from rx); exact PySem.W.kia_one PySem.W.kitx_none I.kIn True.intro e (fun z => nomatch z) h
  | bl y => cases (show u = Value.bool y from rx); exact PySem.W.kia_one PySem.W.kitx_bool I.kIn True.intro e (fun z => nomatch z) h
  | int i => obtain ⟨t, q⟩ := (show ∃ t, u = Value.int i t from rx); cases q; exact PySem.W.kia_one PySem.W.kitx_int I.kIn True.intro e (fun z => nomatch z) h
  | str y => obtain ⟨t, q⟩ := (show ∃ t, u = Value.str y t from rx); cases q; exact PySem.W.kia_one PySem.W.kitx_str I.kIn True.intro e (fun z => nomatch z) h
  | flt y => obtain ⟨t, q⟩ := (show ∃ t, u = Value.float y t from rx); cases q; exact PySem.W.kia_one PySem.W.kitx_float I.kIn True.intro e (fun z => nomatch z) h
  | @lst a xs ea =>
    cases (show u = Value.ref a from rx)
    obtain ⟨_, _, n, _, h1⟩ := (show ObjOk X.prog X.w H s.heap a (.lst xs) from I.hok a _ ea)
    exact PySem.W.kia_one PySem.W.kitx_list I.kIn ⟨_, h1, rfl⟩ e (fun z => nomatch z) h
  | @frz a ob xs ea =>
    cases (show u = Value.ref a from rx)
    obtain ⟨_, _, _, n, _, h1⟩ := (show ObjOk X.prog X.w H s.heap a (.frz ob (.lst xs)) from I.hok a _ ea)
    exact PySem.W.kia_one PySem.W.kitx_list I.kIn ⟨_, h1, rfl⟩ e (fun z => nomatch z) h
  | @tup a xs ea =>
    cases (show u = Value.ref a from rx)
    obtain ⟨_, _, _, p⟩ := (show ObjOk X.prog X.w H s.heap a (.tup xs) from I.hok a _ ea)
    obtain ⟨o, h1, h2, _⟩ := p
    exact PySem.W.kia_one PySem.W.kitx_tuple I.kIn ⟨o, h1, h2⟩ e (fun z => nomatch z) h
  | @dK a kvs ea =>
    cases (show u = Value.ref a from rx)
    obtain ⟨_, _, vs, _, p⟩ := (show ObjOk X.prog X.w H s.heap a (.dK kvs) from I.hok a _ ea)
    obtain ⟨o, es, ep, h1, h2, _⟩ := p
    exact PySem.W.kia_one PySem.W.kitx_dict I.kIn ⟨o, h1, h2.1⟩ e (fun z => nomatch z) h
  | @dT a kvs ea =>
    cases (show u = Value.ref a from rx)
    obtain ⟨_, _, xs, _, o, es, ep, h1, h2, _⟩ := (show ObjOk X.prog X.w H s.heap a (.dT kvs) from I.hok a _ ea)
    exact PySem.W.kia_one PySem.W.kitx_dict I.kIn ⟨o, h1, h2.1⟩ e (fun z => nomatch z) h
  | @ins a C dx fs ea cl ha hn htk hm =>
    cases (show u = Value.ref a from rx)
    obtain ⟨mA, O, _⟩ := ins_get I.hok ea
    obtain ⟨od, J, _⟩ := O.look
    exact PySem.W.kia_one (PySem.W.kitx_own (cl.get _) cl.hd ha hn htk hm) I.kIn J e (fun z => nomatch z) h
end
end L2

namespace L2
open PySem PySem.Spec PyProof.Rows

structure Room (k : Nat) (A : Around) : Prop where
  hd : A.handled = none
  dp : A.depth + 3 * k + 5 < recursionLimit
  un : A.units + 16 * k + 200 < cLine
  gd : A.guards = some []
theorem Room.mono {j k : Nat} {A : Around} (r : Room k A) (h : j ≤ k) : Room j A := ⟨r.hd, by have := r.dp; omega, by have := r.un; omega, r.gd⟩
theorem Room.deeper {k : Nat} {A : Around} (r : Room (k + 1) A) (env : Env) : Room k (A.deeper env) :=
  ⟨r.hd, by have := r.dp; show A.depth + 1 + 3 * k + 5 < _; omega, by have := r.un; show A.units + 3 + 16 * k + 200 < _; omega, by have := r.gd; first | exact this | simpa [Around.deeper] using this⟩
theorem make_depth {A : Around} {C : Addr} {us : List Value} {kw : List (Str × Value)} : (A.under (.builtin "type.__call__" ⟨.ref C :: us, kw⟩)).depth = A.depth + 1 := by
  first | rfl | simp [Around.under, Code.weight, Code.isCreation, Code.isGuard, Code.isCaller, Code.frames, Code.isFrame, guardIds]
theorem make_units {A : Around} {C : Addr} {us : List Value} {kw : List (Str × Value)} : (A.under (.builtin "type.__call__" ⟨.ref C :: us, kw⟩)).units = A.units + 1 := by
  first | rfl | simp [Around.under, Code.cUnits, Code.frames, Code.isFrame]
theorem Room.make {k : Nat} {A : Around} (r : Room (k + 1) A) (C : Addr) (us : List Value) (kw : List (Str × Value)) : Room k (A.under (.builtin "type.__call__" ⟨.ref C :: us, kw⟩)) :=
  ⟨r.hd, by have := r.dp; rw [make_depth]; omega, by have := r.un; rw [make_units]; omega, by have := r.gd; first | exact this | simpa [Around.under, Code.guards, Code.isGuard, guardIds, pushGuards] using this⟩
theorem Room.depth {k : Nat} {A : Around} (r : Room k A) : A.depth < recursionLimit := by have := r.dp; omega
theorem Room.units {k : Nat} {A : Around} (r : Room k A) : A.units + 64 < cLine := by have := r.un; omega
def tNil : TA := fun _ H Q => Q [] H
def tCons (ta : TE) (tr : TA) : TA := fun σ H Q => ta σ H fun x H1 => tr σ H1 fun xs H2 => Q (x :: xs) H2
section
variable {X : Cx} {e : Expr} {es : List Expr} {te : TE} {t : TA} {pos : Pos}
theorem pa_nil : PA X [] tNil := fun _ _ _ _ H Q I h => Calls.spliced_nil ⟨[], H, I, .nil, h⟩
theorem pa_cons (ha : PE X e te) (hr : PA X es t) (hs : starEach (e :: es) X.env = (false, eval e X.env) :: starEach es X.env := by rfl) : PA X (e :: es) (tCons te t) := by
  intro pos pins s σ H Q I h
  rw [hs]
  show wpAny _ _ (spliced ((false, eval e X.env) :: backTo pos (starEach es X.env))) _ _ s
  refine Calls.spliced_cons (thn (ha pins s σ H _ I h) fun u s1 ⟨x, H1, I1, r1, q1⟩ => ?_)
  exact thn (hr pos pins s1 σ H1 _ I1 q1) fun us s2 ⟨xs, H2, I2, r2, q2⟩ => ⟨x :: xs, H2, I2, .cons r1 r2, q2⟩

def tTup (t : TA) : TE := fun σ H Q => t σ H fun xs H1 => xs.length ≤ sizeLine ∧ ∀ p, H1 p = none → Q (.ref p) (upd H1 p (.tup xs))
def tLst (t : TA) : TE := fun σ H Q => t σ H fun xs H1 => xs.length ≤ sizeLine ∧ ∀ p, H1 p = none → Q (.ref p) (upd H1 p (.lst xs))
theorem pe_tup {x1} (h : PA X es t) : PE X (.Tuple es x1 pos) (tTup t) := by
  intro pins s σ H Q I hq
  refine wpAny_Tuple_spliced (thn (h pos pins s σ H _ I hq) fun us s1 ⟨xs, H1, I1, r, z, q⟩ => ⟨by rw [← r.length]; exact z, ?_⟩)
  have hf : H1 s1.heap.objs.size = none := I1.hok.fresh (Nat.le_refl _)
  refine ⟨.ref s1.heap.objs.size, upd H1 s1.heap.objs.size (.tup xs), I1.laid (t' := s1.toks) (fun b u e => Heap.get?_push_of_some _ e) (Nat.le_refl _) ?_, rfl, q _ hf⟩
  exact ⟨z, us, r, ⟨_, Heap.get?_push_size _ rfl, rfl, _, rfl⟩⟩
theorem pe_lst (h : PA X es t) : PE X (.List es pos) (tLst t) := by
  intro pins s σ H Q I hq
  refine wpAny_List_spliced (thn (h pos pins s σ H _ I hq) fun us s1 ⟨xs, H1, I1, r, z, q⟩ => ⟨by rw [← r.length]; exact z, ?_⟩)
  have hf : H1 s1.heap.objs.size = none := I1.hok.fresh (Nat.le_refl _)
  refine ⟨.ref s1.heap.objs.size, upd H1 s1.heap.objs.size (.lst xs), I1.laid (t' := s1.toks) (fun b u e => Heap.get?_push_of_some _ e) (Nat.le_refl _) ?_, rfl, q _ hf⟩
  exact ⟨z, us, 0, r, Heap.get?_push_size _ rfl⟩
end

abbrev Sp := List V → Hp → VK → XK → Prop
abbrev CXT := List Env → Hp → Shared → XK → Value → Shared → Prop

structure Env0 (P : Program) (w : World) (K : PySem.W.Frag) (mg : Str → Option Value) (base : Heap) (A : Around) (outer : List Env) (s : Shared) (H : Hp) : Prop where
  frames : A.frames = some outer
  mod : Mod K mg base
  bs : ∀ b o, base.get? b = some o → s.heap.get? b = some o ∧ H b = none
  bsz : base.objs.size ≤ s.heap.objs.size
  funs : s.heap.FunFrames base outer
  frf : ∀ b ∈ frs outer, H b = none
  hok : HOk P w H s.heap
  bare : AllBare s.gens
def CE (outer : List Env) (P : Program) (w : World) (H : Hp) (s : Shared) (Q : VK) (u : Value) (s' : Shared) : Prop :=
  ∃ v H', s'.os = s.os ∧ AllBare s'.gens ∧ Un (frs outer) [] H H' s.heap s'.heap ∧ HOk P w H' s'.heap ∧ RelV v u ∧ Q v H'
def CR (CX : CXT) (outer : List Env) (P : Program) (w : World) (H : Hp) (s : Shared) (Q : VK) (E : XK) (r : Result) (s' : Shared) : Prop :=
  match r with
  | .ok (.ret u) => CE outer P w H s Q u s'
  | .ok _ => False
  | .error e => CX outer H s E e s'
structure FnOk (P : Program) (w : World) (K : PySem.W.Frag) (mg : Str → Option Value) (base : Heap) (CX : CXT) (k : Nat) (f : Addr) (fd : FuncData) (ps : List Str) (sp : Sp) : Prop where
  len : ∀ vs H Q E, sp vs H Q E → vs.length = ps.length
  run : ∀ (A : Around) (outer : List Env) (s : Shared) (H : Hp) (args : Args) (us : List Value) (vs : List V) (Q : VK) (E : XK), Room k A → Env0 P w K mg base A outer s H → BindsTo s fd args (ps.zip us) → Vals vs us → sp vs H Q E →
    codeAny (model P w) A (.call (.ref f) args) (CR CX outer P w H s Q E) s
theorem Env0.make {P : Program} {w : World} {K : PySem.W.Frag} {mg : Str → Option Value} {base : Heap} {A : Around} {outer : List Env} {s : Shared} {H : Hp} (e : Env0 P w K mg base A outer s H) (C : Addr) (us : List Value) (kw : List (Str × Value)) :
    Env0 P w K mg base (A.under (.builtin "type.__call__" ⟨.ref C :: us, kw⟩)) outer s H := ⟨by first | exact e.frames | (simpa [Around.under, Code.envs, Code.isFrame, pushEnvs] using e.frames), e.mod, e.bs, e.bsz, e.funs, e.frf, e.hok, e.bare⟩
section
variable {X : Cx} {pins : List (Addr × Obj)} {σ : St} {H : Hp} {s s' : Shared}
theorem Inv.env0 (I : Inv X pins σ H s) : Env0 X.prog X.w X.K X.mg X.base X.A X.stack s H :=
  ⟨I.ok.frames, I.ok.mod, I.bs, Nat.le_trans I.ok.bsz I.sz, I.stack, I.stkFree, I.hok, I.bare⟩
theorem Inv.after {Q : VK} {u : Value} (I : Inv X pins σ H s) (h : CE X.stack X.prog X.w H s Q u s') : EP X pins σ Q u s' := by
  obtain ⟨v, H', os, bare, un, hok, r, q⟩ := h
  obtain ⟨hh, g, d, t, os'⟩ := s'
  obtain rfl : os' = s.os := os
  exact ⟨v, H', I.call (h' := hh) (g' := g) (d' := d) (t' := t) (ch := []) un hok bare (fun b z => absurd z (by simp)), r, q⟩
end

def tCall (sp : Sp) (dvs : List V) (E : XK) (t : TA) : TE := fun σ H Q => t σ H fun vs H1 => sp (vs ++ dvs) H1 Q E
def Binds (K : PySem.W.Frag) (fd : FuncData) (ps : List Str) (ds : List Value) : Prop :=
  ∀ (s : Shared) (us : List Value), K.In s.heap → (us ++ ds).length = ps.length → BindsTo s fd ⟨us, []⟩ (ps.zip (us ++ ds))
theorem Binds.all {K : PySem.W.Frag} {fd : FuncData} {ps : List Str} (h : ∀ us : List Value, us.length = ps.length → bindArgs fd ⟨us, []⟩ = pure (ps.zip us)) : Binds K fd ps [] := fun s us _ hl => by
  rw [List.append_nil] at hl ⊢
  exact .of_eq (h us hl)

def Passes (CX : CXT) (X : Cx) (E : XK) : Prop := ∀ (pins : List (Addr × Obj)) (σ : St) (H : Hp) (s : Shared) (e : Value) (s' : Shared), Inv X pins σ H s → CX X.stack H s E e s' → X.xe e s'

section
variable {X : Cx} {CX : CXT} {k : Nat} {f C : Addr} {fd : FuncData} {ps : List Str} {sp : Sp} {dvs : List V} {ds : List Value} {E : XK} {x m : Str} {p pos apos : Pos} {e o : Expr} {es : List Expr} {ta : TE} {t : TA}

theorem run_fn {pins : List (Addr × Obj)} {σ : St} {H : Hp} {s : Shared} {Q : VK} {us : List Value} {vs : List V} (F : FnOk X.prog X.w X.K X.mg X.base CX k f fd ps sp) (hr : Room k X.A) (hb : Binds X.K fd ps ds) (hd : Vals dvs ds) (hx : Passes CX X E)
    (I : Inv X pins σ H s) (r : Vals vs us) (h : sp (vs ++ dvs) H Q E) : wpAny (model X.prog X.w) X.A (call (.ref f) us) (EP X pins σ Q) X.xe s := by
  have r2 : Vals (vs ++ dvs) (us ++ ds) := r.append hd
  have hl : (us ++ ds).length = ps.length := by rw [← r2.length]; exact F.len _ _ _ _ h
  refine wpAny_call (codeAny_mono (F.run X.A X.stack s H ⟨us, []⟩ (us ++ ds) (vs ++ dvs) Q E hr I.env0 (hb s us I.kIn hl) r2 h) fun r s' hq => ?_)
  cases r with
  | error e => exact hx pins σ H s e s' I hq
  | ok fl =>
    cases fl with
    | ret u => exact I.after hq
    | next => exact False.elim hq
    | brk => exact False.elim hq
    | cont => exact False.elim hq

theorem pe_call (F : FnOk X.prog X.w X.K X.mg X.base CX k f fd ps sp) (hr : Room k X.A) (hg : Gl X x) (hm : X.mg x = some (.ref f)) (hk : PySem.W.keepIn X.K (.ref f) = true) (hb : Binds X.K fd ps ds) (hd : Vals dvs ds) (hx : Passes CX X E)
    (ha : PA X (e :: es) t) (hdb : (x == ("__debug__" : Str)) = false := by decide) (he : starEach (e :: es) X.env = (false, eval e X.env) :: starEach es X.env := by rfl) (hpl : (backTo pos (starEach es X.env)).any (·.1) = false := by rfl) :
    PE X (.Call (.Name x p) (e :: es) [] pos) (tCall sp dvs E t) := by
  intro pins s σ H Q I h
  refine wpAny_Call_Name_kw (ld_glob I hg hm ?_ hdb)
  refine PySem.W.callWith_K (h₀ := X.base) I.ok.mod.kin hk (thn (ha pos pins s σ H _ I h) fun us s1 ⟨vs, H1, I1, r, q⟩ => ⟨I1.kIn, ?_⟩) he hpl
  exact run_fn F hr hb hd hx I1 r q
theorem pe_call0 (F : FnOk X.prog X.w X.K X.mg X.base CX k f fd ps sp) (hr : Room k X.A) (hg : Gl X x) (hm : X.mg x = some (.ref f)) (hk : PySem.W.keepIn X.K (.ref f) = true) (hb : Binds X.K fd ps ds) (hd : Vals dvs ds) (hx : Passes CX X E)
    (hdb : (x == ("__debug__" : Str)) = false := by decide) : PE X (.Call (.Name x p) [] [] pos) (tCall sp dvs E tNil) := by
  intro pins s σ H Q I h
  refine wpAny_Call_Name_kw (ld_glob I hg hm ?_ hdb)
  exact PySem.W.callWith_K0 I.kIn hk (run_fn (us := []) F hr hb hd hx I .nil h)

end

section
variable {X : Cx} {CX : CXT} {k : Nat} {f C : Addr} {fd : FuncData} {ps ks : List Str} {sp : Sp} {E : XK} {x m : Str} {p pos apos kpos : Pos} {e o : Expr} {es : List Expr} {kws : List Keyword} {te ta : TE} {t tk : TA} {nm : Option Str}
variable {g : List Value → List Value → List Value} {gV : List V → List V → List V}
end

structure FnScope (N P : List Str) (sc : Scope) : Prop where
  kind : sc.kind = .function
  co : sc.isCoroutine = false
  gen : sc.isGenerator = false
  nd : N.Nodup
  pre : N.take P.length = P
  par : ∀ x ∈ P, sc.names.lookup x = some .local ∨ sc.names.lookup x = some .cell
  nofree : ∀ y ∈ sc.names, y.2 ≠ .free

theorem bindL_out {kindOf : Str → Option NameKind} {x : Str} : ∀ {binds : List (Str × Value)} {m : Str → Option Value}, (∀ v, (x, v) ∉ binds) → bindL kindOf binds m x = m x
  | [], _, _ => rfl
  | (n, v) :: r, m, h => by
    unfold bindL
    rw [bindL_out fun w hw => h w (List.mem_cons_of_mem _ hw)]
    split
    · have : x ≠ n := by rintro rfl; exact h v List.mem_cons_self
      simp [this]
    · rfl
theorem bindC_out {kindOf : Str → Option NameKind} {x : Str} : ∀ {binds : List (Str × Value)} {m : Str → Option Value}, (∀ v, (x, v) ∉ binds) → bindC kindOf binds m x = m x
  | [], _, _ => rfl
  | (n, v) :: r, m, h => by
    unfold bindC
    rw [bindC_out fun w hw => h w (List.mem_cons_of_mem _ hw)]
    split
    · rfl
    · have : x ≠ n := by rintro rfl; exact h v List.mem_cons_self
      simp [this]
theorem bindL_get {kindOf : Str → Option NameKind} {x : Str} {v : Value} : ∀ {P : List Str} {vs : List Value} {i : Nat} {m : Str → Option Value}, P.Nodup → P[i]? = some x → vs[i]? = some v → kindOf x = some .local →
    bindL kindOf (P.zip vs) m x = some v
  | [], _, _, _, _, h, _, _ => by simp at h
  | _ :: _, [], _, _, _, _, h, _ => by simp at h
  | p :: P, w :: vs, 0, m, nd, h1, h2, hk => by
    simp at h1 h2; subst h1; subst h2
    show bindL kindOf ((p, w) :: P.zip vs) m p = _
    unfold bindL
    rw [bindL_out fun v hv => (List.nodup_cons.mp nd).1 (List.of_mem_zip hv).1, if_pos hk]
    simp
  | p :: P, w :: vs, i + 1, m, nd, h1, h2, hk => by
    show bindL kindOf ((p, w) :: P.zip vs) m x = _
    unfold bindL
    exact bindL_get (i := i) (List.nodup_cons.mp nd).2 (by simpa using h1) (by simpa using h2) hk
theorem bindC_get {kindOf : Str → Option NameKind} {x : Str} {v : Value} : ∀ {P : List Str} {vs : List Value} {i : Nat} {m : Str → Option Value}, P.Nodup → P[i]? = some x → vs[i]? = some v → kindOf x ≠ some .local →
    bindC kindOf (P.zip vs) m x = some v
  | [], _, _, _, _, h, _, _ => by simp at h
  | _ :: _, [], _, _, _, _, h, _ => by simp at h
  | p :: P, w :: vs, 0, m, nd, h1, h2, hk => by
    simp at h1 h2; subst h1; subst h2
    show bindC kindOf ((p, w) :: P.zip vs) m p = _
    unfold bindC
    rw [bindC_out fun v hv => (List.nodup_cons.mp nd).1 (List.of_mem_zip hv).1, if_neg hk]
    simp
  | p :: P, w :: vs, i + 1, m, nd, h1, h2, hk => by
    show bindC kindOf ((p, w) :: P.zip vs) m x = _
    unfold bindC
    exact bindC_get (i := i) (List.nodup_cons.mp nd).2 (by simpa using h1) (by simpa using h2) hk

def start (N : List Str) (vs : List V) : St := vs.map some ++ List.replicate (N.length - vs.length) none

def cxOf (CX : CXT) (P : Program) (w : World) (K : PySem.W.Frag) (mg : Str → Option Value) (base : Heap) (N : List Str) (qual : Str) (scope : Scope) (f : Addr) (cd : Value) (A : Around) (outer : List Env) (s : Shared) (H : Hp) (E : XK) : Cx where
  prog := P
  w := w
  K := K
  mg := mg
  base := base
  A := A.deeper (envOfC qual scope s.heap.objs.size f cd)
  N := N
  s₀ := s
  H₀ := H
  env := envOfC qual scope s.heap.objs.size f cd
  outer := outer
  stack := envOfC qual scope s.heap.objs.size f cd :: outer
  ex := []
  calm := true
  fn := fun _ => true
  pn := []
  xe := fun e s' => wpAny (model P w) (A.deeper (envOfC qual scope s.heap.objs.size f cd)) (leaving (envOfC qual scope s.heap.objs.size f cd) e) (fun _ s'' => CX outer H s E e s'') (fun e' s'' => CX outer H s E e' s'') s'

theorem cell_has {sc : Scope} {n : Nat} {x : Str} (h : sc.names.lookup x = some .cell) : ∃ c, (cellsFrom n sc.names []).lookup x = some c := by
  have q := PySem.W.cellsFrom_some sc.names n [] (.inl h)
  exact Option.isSome_iff_exists.mp q

theorem inv_start {CX : CXT} {P : Program} {w : World} {K : PySem.W.Frag} {mg : Str → Option Value} {base : Heap} {N ps : List Str} {qual : Str} {scope : Scope} {f : Addr} {cd : Value} {A : Around} {outer : List Env} {s s1 : Shared} {H : Hp} {E : XK} {us : List Value} {vs : List V}
    (S : FnScope N ps scope) (hd : A.handled = none) (e0 : Env0 P w K mg base A outer s H) (hl : vs.length = ps.length) (r : Vals vs us)
    (x : InCallC s s.heap.objs.size (bindL (envOfC qual scope s.heap.objs.size f cd).kindOf (ps.zip us) fun _ => none) (cellsFrom (s.heap.objs.size + 1) scope.names []) (bindC (envOfC qual scope s.heap.objs.size f cd).kindOf (ps.zip us) fun _ => none) s1) :
    Inv (cxOf CX P w K mg base N qual scope f cd A outer s H E) [] (start N vs) H s1 := by
  have hpl : ps.length ≤ N.length := by have := congrArg List.length S.pre; rw [List.length_take] at this; omega
  obtain ⟨h1, tk, rfl, hk⟩ := x.done
  have noA : ∀ b : Addr, b ∉ (cxOf CX P w K mg base N qual scope f cd A outer s H E).ex := fun b z => absurd (show b ∈ ([] : List Addr) from z) (by simp)
  refine ⟨⟨e0.mod, S.kind, rfl, rfl, Nat.le_refl _, fun y z c h1 h2 => ?_, fun y hy => ?_, fun y c _ h => ?_, fun _ => hd, Around.frames_deeper e0.frames, .inr ⟨rfl, rfl⟩, fun b z => absurd z (noA b), e0.bs, e0.bsz, fun b _ _ => noA b, fun b z => absurd z (noA b), e0.funs, e0.frf⟩,
    rfl, e0.bare, Un.kept hk, ⟨_, x.toInCall.ns, fun i y v h1 h2 h3 => ?_⟩, fun y c h => ⟨_, x.cell y c h⟩, e0.hok.fresh (Nat.le_refl _), fun y c h => ?_, fun p hp => absurd (show p ∈ ([] : List (Addr × Obj)) from hp) (by simp), e0.hok.kept hk, ?_⟩
  · exact name_of_addr x.apart (PySem.mem_of_lookup h1) (PySem.mem_of_lookup h2)
  · have hy : scope.names.lookup y = some .cell ∨ scope.names.lookup y = some .free := hy
    rcases hy with hy | hy
    · exact cell_has hy
    · exact absurd rfl (S.nofree _ (PySem.mem_of_lookup hy))
  · exact Nat.le_of_lt (x.above y c (PySem.mem_of_lookup h))
  · have hi : i < vs.length := by
      unfold start at h2
      by_cases hi : i < vs.length
      · exact hi
      · rw [List.getElem?_append_right (by simpa using hi)] at h2
        rw [List.getElem?_replicate] at h2
        split at h2 <;> cases h2
    have ha : vs[i]? = some v := by
      unfold start at h2
      rw [List.getElem?_append_left (by simpa using hi), List.getElem?_map] at h2
      cases e : vs[i]? with
      | none => rw [e] at h2; cases h2
      | some a => rw [e] at h2; cases h2; rfl
    obtain ⟨u, hu, rv⟩ := r.get ha
    have hp : ps[i]? = some y := by
      rw [← S.pre, List.getElem?_take_of_lt (by omega)]; exact h1
    have ndP : ps.Nodup := by rw [← S.pre]; exact S.nd.sublist (List.take_sublist _ _)
    refine ⟨u, rv, ?_⟩
    rcases S.par y (List.mem_of_getElem? hp) with k | k
    · exact .inl ⟨k, bindL_get ndP hp hu k⟩
    · obtain ⟨c, e⟩ := cell_has (n := s.heap.objs.size + 1) k
      refine .inr ⟨.inl k, c, e, ?_⟩
      have q := x.cell y c e
      rw [bindC_get ndP hp hu (by show scope.names.lookup y ≠ _; rw [k]; decide)] at q
      exact q
  · exact e0.hok.fresh (Nat.le_of_lt (x.above y c (PySem.mem_of_lookup h)))
  · unfold start
    show _ = N.length
    rw [List.length_append, List.length_map, List.length_replicate]
    omega

theorem fn_of {CX : CXT} {P : Program} {w : World} {K : PySem.W.Frag} {mg : Str → Option Value} {base : Heap} {k : Nat} {f : Addr} {name qual : Str} {params : Arguments} {body : List Stmt} {scope : Scope} {dV kV doc pm cdv ct oc : Value} {an od : Option Addr}
    {osl : Array (Option Value)} {N ps : List Str} {sp : Sp} (lk : K.lookup f = some ⟨oc, od, .func (PySem.W.fnOf name qual params body scope dV kV doc pm an cdv ct), osl⟩) (hcd : PySem.W.codeIn K cdv qual = true) (S : FnScope N ps scope)
    (len : ∀ vs H Q E, sp vs H Q E → vs.length = ps.length)
    (hbody : ∀ (A : Around) (outer : List Env) (s : Shared) (H : Hp) (vs : List V) (Q : VK) (E : XK), Room k (A.deeper (envOfC qual scope s.heap.objs.size f cdv)) → sp vs H Q E →
      ∃ t, PSs (cxOf CX P w K mg base N qual scope f cdv A outer s H E) body t ∧ t { nx := fun _ H' => Q .non H', rt := Q } (start N vs) H) :
    FnOk P w K mg base CX (k + 1) f (PySem.W.fnOf name qual params body scope dV kV doc pm an cdv ct) ps sp := by
  refine ⟨len, fun A outer s H args us vs Q E hr e0 hb r hsp => ?_⟩
  have hl := len _ _ _ _ hsp
  have KX : K.In s.heap := e0.mod.kin.keeps fun b o e => (e0.bs b o e).1
  have lim : s.heap.NoLimit := e0.mod.nolimit.keeps fun b o e => (e0.bs b o e).1
  have hkind : ∀ y ∈ ps.zip us, scope.names.lookup y.1 = some .local ∨ (scope.names.lookup y.1 = some .cell ∧ ((cellsFrom (s.heap.objs.size + 1) scope.names []).lookup y.1).isSome = true) := fun ⟨n, v⟩ hy => by
    rcases S.par n (List.of_mem_zip hy).1 with q | q
    · exact .inl q
    · exact .inr ⟨q, PySem.W.cellsFrom_some _ _ _ (.inl q)⟩
  refine codeAny_call_function hr.depth (KX _ _ lk) rfl S.co S.gen rfl (PySem.W.codeRec_of KX hcd) (hb _ _ _ _ ?_)
  refine wpAny_newFunctionEnv_cells S.kind hkind fun env he s1 x => ?_
  subst he
  refine ⟨lim.keeps x.toInCall.keep, codeAny_func ?_⟩
  obtain ⟨t, ht, hq⟩ := hbody A outer s H vs Q E (hr.deeper _) hsp
  have I : Inv (cxOf CX P w K mg base N qual scope f cdv A outer s H E) [] (start N vs) H s1 := inv_start S hr.hd e0 hl r x
  refine wpAny_mono (ht [] s1 (start N vs) H _ I hq) (fun fl s' hs => ?_) fun e s' hs => hs
  have fin : ∀ {σ' : St} {H' : Hp} {v : V} {u : Value}, Inv (cxOf CX P w K mg base N qual scope f cdv A outer s H E) [] σ' H' s' → RelV v u → Q v H' → CE outer P w H s Q u s' :=
    fun {σ' H' v u} J rv q => ⟨v, H', J.os, J.bare, J.base, J.hok, rv, q⟩
  cases fl with
  | ret u =>
    obtain ⟨v, σ', H', J, rv, q⟩ := hs
    exact fin J rv q
  | next =>
    obtain ⟨σ', H', J, q⟩ := hs
    exact fin (v := V.non) (u := Value.none) J rfl q
  | brk =>
    obtain ⟨_, _, _, q⟩ := hs
    exact False.elim q
  | cont =>
    obtain ⟨_, _, _, q⟩ := hs
    exact False.elim q
end L2

namespace L2
open PySem PySem.Spec PyProof.Rows
section
variable {X : Cx} {x : Str} {p pos : Pos} {e : Expr} {es : List Expr} {t : TA} {id T : String} {r : List V → Hp → VK → Prop}

def tCB (r : List V → Hp → VK → Prop) (t : TA) : TE := fun σ H Q => t σ H fun vs H1 => r vs H1 Q
theorem pe_callB (hc : CallR X (.builtin id) r) (hg : Gl X x) (hm : X.mg x = none) (hv : bootBuiltins x = some (.builtin id)) (ha : PA X (e :: es) t) (hn : x ≠ "__name__" := by decide) (hdb : (x == ("__debug__" : Str)) = false := by decide)
    (he : starEach (e :: es) X.env = (false, eval e X.env) :: starEach es X.env := by rfl) (hpl : (backTo pos (starEach es X.env)).any (·.1) = false := by rfl) : PE X (.Call (.Name x p) (e :: es) [] pos) (tCB r t) := by
  intro pins s σ H Q I h
  refine wpAny_Call_Name_kw (ld_blt I hg hm hv ?_ hn hdb)
  exact PyProof.Rows.callWith_builtin1 (thn (ha pos pins s σ H _ I h) fun us s1 ⟨vs, H1, I1, r1, q1⟩ => hc pins s1 σ H1 vs us Q I1 r1 q1) he hpl
theorem pe_callTy (hc : CallR X (.type T) r) (hg : Gl X x) (hm : X.mg x = none) (hv : bootBuiltins x = some (.type T)) (ha : PA X (e :: es) t) (hn : x ≠ "__name__" := by decide) (hdb : (x == ("__debug__" : Str)) = false := by decide)
    (he : starEach (e :: es) X.env = (false, eval e X.env) :: starEach es X.env := by rfl) (hpl : (backTo pos (starEach es X.env)).any (·.1) = false := by rfl) : PE X (.Call (.Name x p) (e :: es) [] pos) (tCB r t) := by
  intro pins s σ H Q I h
  refine wpAny_Call_Name_kw (ld_blt I hg hm hv ?_ hn hdb)
  exact PyProof.Rows.callWith_type1 (thn (ha pos pins s σ H _ I h) fun us s1 ⟨vs, H1, I1, r1, q1⟩ => hc pins s1 σ H1 vs us Q I1 r1 q1) he hpl
end
end L2

namespace HT
open PySem PyProof.Rows

section
open PySem.SeqAt
open PySem.AutoSeq1 (wpAny_loadPart')
open PySem.MeetsSeq PySem.MeetsSeq2 PySem.MeetsSeq3

end

section
variable {prog : Program} {w : World} {A : Around} {E : Value → Shared → Prop} {s : Shared}

theorem cat_tup {t b : Addr} {vs ws : List Value} {Q : Value → Shared → Prop} (ht : IsTup s.heap t vs.toArray) (hb : IsTup s.heap b ws.toArray) (hv : vs ≠ [])
    (h1 : ws = [] → Q (.ref t) s) (h2 : ws ≠ [] → Q (.ref s.heap.objs.size) { s with heap := s.heap.push { cls := .type "tuple", data := .seq (vs ++ ws).toArray } })
    (hsz : vs.length + ws.length ≤ sizeLine) : wpAny (model prog w) A (binaryOp .Add (.ref t) (.ref b)) Q E s := by
  obtain ⟨⟨cls, dd, data, sl⟩, ho, hc, n, hd⟩ := id ht
  obtain ⟨⟨cls2, dd2, data2, sl2⟩, ho2, hc2, n2, hd2⟩ := id hb
  simp only at hc hd hc2 hd2
  subst hc hd hc2 hd2
  have e : vs.toArray ++ ws.toArray = (vs ++ ws).toArray := by simp
  by_cases hw : ws = []
  · exact concat_meets ⟨_, ho, rfl⟩ ⟨_, ho2, rfl⟩ noFill_tuple_add seq_tuple_add PySem.F.slot_tuple_add PySem.F.entry_tuple_add (PySem.F.args_tuple_add_2 _ _)
      (tuple_addW1 t b vs.toArray ws.toArray n n2 dd dd2 sl sl2 (by simpa using hv) (by simp [hw])) ⟨ho, ho2, h1 hw⟩
  · refine concat_meets ⟨_, ho, rfl⟩ ⟨_, ho2, rfl⟩ noFill_tuple_add seq_tuple_add PySem.F.slot_tuple_add PySem.F.entry_tuple_add (PySem.F.args_tuple_add_2 _ _)
      (tuple_addW2 t b vs.toArray ws.toArray n n2 dd dd2 sl sl2 (by simpa using hv) (by simpa using hw) (by rw [List.size_toArray, List.size_toArray]; exact hsz)) ⟨ho, ho2, ?_⟩
    rw [e]
    exact h2 hw

def sIx (n d : Nat) : Option Int → Nat
  | none => d
  | some v => if v < 0 then (v + (n : Int)).toNat else min v.toNat n
theorem sIx_none (n d : Nat) : sIx n d none = d := rfl
theorem sIx_nat (n d k : Nat) : sIx n d (some (k : Int)) = min k n := by
  show (if (k : Int) < 0 then ((k : Int) + (n : Int)).toNat else min (k : Int).toNat n) = min k n
  rw [if_neg (by omega), Int.toNat_natCast]
end
end HT

namespace L2
open PySem PySem.Spec PyProof.Rows

abbrev TO := St → Hp → (Option Int → Hp → Prop) → Prop
def PO (X : Cx) (e : Option Expr) (t : TO) : Prop :=
  ∀ (pins : List (Addr × Obj)) (s : Shared) (σ : St) (H : Hp) (Q : Option Int → Hp → Prop), Inv X pins σ H s → t σ H Q →
    wpAny (model X.prog X.w) X.A (evalPart e X.env) (fun u s' => ∃ o H', Inv X pins σ H' s' ∧ IsPart u o ∧ Q o H') X.xe s
def tNoPart : TO := fun _ H Q => Q none H
def tPart (t : TE) : TO := fun σ H Q => t σ H fun x H1 => ∃ i, x = .int i ∧ Q (some i) H1

section
variable {X : Cx} {e : Expr} {te : TE} {lo hi : Option Expr} {tl th : TO} {pos p2 : Pos}

theorem po_none : PO X none tNoPart := by
  intro pins s σ H Q I h
  rw [evalPart_none]
  exact wpAny_pure ⟨none, H, I, .none, h⟩
theorem po_some (h : PE X e te) : PO X (some e) (tPart te) := by
  intro pins s σ H Q I hw
  rw [evalPart_some]
  refine thn (h pins s σ H _ I hw) fun u s1 ⟨x, H1, I1, r1, q1⟩ => ?_
  obtain ⟨i, rfl, q⟩ := q1
  obtain ⟨t, rfl⟩ := r1
  exact ⟨some i, H1, I1, .int i t, q⟩

def SlR (X : Cx) (r : V → Option Int → Option Int → Hp → VK → Prop) : Prop :=
  ∀ (pins : List (Addr × Obj)) (s : Shared) (σ : St) (H : Hp) (x : V) (v vl vu : Value) (lo hi : Option Int) (sl : Addr) (Q : VK), Inv X pins σ H s → RelV x v → s.heap.IsSliceOf sl vl vu .none → IsPart vl lo → IsPart vu hi → r x lo hi H Q →
    ∃ T id, typeLookup (.type T) "__getitem__" = pure (some (.builtin id)) ∧ s.TypeIs v T ∧ wpAny (model X.prog X.w) X.A (getItem v (.ref sl)) (EP X pins σ Q) X.xe s
def tSl (r : V → Option Int → Option Int → Hp → VK → Prop) (te : TE) (tl th : TO) : TE := fun σ H Q => te σ H fun x H1 => tl σ H1 fun l H2 => th σ H2 fun u H3 => r x l u H3 Q
theorem pe_slice {r : V → Option Int → Option Int → Hp → VK → Prop} (hr : SlR X r) (he : PE X e te) (hl : PO X lo tl) (hu : PO X hi th) : PE X (.Subscript e (.Slice lo hi none p2) pos) (tSl r te tl th) := by
  intro pins s σ H Q I h
  refine Subscript_ (thn (he pins s σ H _ I h) fun v s1 ⟨x, H1, I1, r1, q1⟩ => ?_)
  refine wpAny_Slice (thn (hl pins s1 σ H1 _ I1 q1) fun vl s2 ⟨l, H2, I2, pl, q2⟩ => thn (hu pins s2 σ H2 _ I2 q2) fun vu s3 ⟨u, H3, I3, pu, q3⟩ => ?_)
  rw [evalPart_none]
  refine wpAny_pure ?_
  have I4 : Inv X pins σ H3 { s3 with heap := s3.heap.push { cls := .type "slice", data := .fields #[vl, vu, .none] } } := I3.kept (t' := s3.toks) fun b ob q => Heap.get?_push_of_some _ q
  obtain ⟨T, id, hT, ht, hg⟩ := hr pins { s3 with heap := s3.heap.push { cls := .type "slice", data := .fields #[vl, vu, .none] } } σ H3 x v vl vu l u s3.heap.objs.size Q I4 r1 (Heap.IsSliceOf.new ..) pl pu q3
  show wpAny (model X.prog X.w) X.A (subscriptTail e (.Slice lo hi none p2) v (.ref s3.heap.objs.size)) (EP X pins σ Q) X.xe { s3 with heap := s3.heap.push { cls := .type "slice", data := .fields #[vl, vu, .none] } }
  exact tail_any (ops := [.ref s3.heap.objs.size, v]) ht hT hg (by with_unfolding_all rfl)

def cutV (xs : List V) (lo hi : Option Int) : List V := (xs.drop (HT.sIx xs.length 0 lo)).take (HT.sIx xs.length xs.length hi - HT.sIx xs.length 0 lo)
theorem cutV_length (xs : List V) (lo hi : Option Int) : (cutV xs lo hi).length ≤ xs.length := by
  unfold cutV
  rw [List.length_take, List.length_drop]
  omega
def rCatT (K : PySem.W.Frag) : R2 := fun x y H Q => ∃ a b xs ys, x = .ref a ∧ y = .ref b ∧ SqT K H a xs ∧ SqT K H b ys ∧ xs ≠ [] ∧ xs.length + ys.length ≤ sizeLine ∧
  (ys = [] → Q (.ref a) H) ∧ (ys ≠ [] → ∀ p, H p = none → Q (.ref p) (upd H p (.tup (xs ++ ys))))
theorem Vals.nil_iff {xs : List V} {us : List Value} (r : Vals xs us) : us = [] ↔ xs = [] := by
  cases r with
  | nil => simp
  | cons _ _ => simp
theorem op_catT : OpR X (binaryOp .Add) (rCatT X.K) := by
  intro pins s σ H x y v u Q I rx ry h
  obtain ⟨a, b, xs, ys, rfl, rfl, ha, hb, hx, hz, q1, q2⟩ := h
  cases rx
  cases ry
  obtain ⟨its, r1, p1, _⟩ := I.tuple ha
  obtain ⟨its2, r2, p2, _⟩ := I.tuple hb
  refine HT.cat_tup p1 p2 (fun z => hx (r1.nil_iff.mp z)) (fun z => ⟨.ref a, H, I, rfl, q1 (r2.nil_iff.mp z)⟩) (fun z => ?_) (by rw [← r1.length, ← r2.length]; exact hz)
  refine ⟨.ref s.heap.objs.size, _, I.laid (t' := s.toks) (o := .tup (xs ++ ys)) (fun b ob q => Heap.get?_push_of_some _ q) (Nat.le_refl _) ?_, rfl, q2 (fun w => z (r2.nil_iff.mpr w)) _ (I.hok.fresh (Nat.le_refl _))⟩
  exact ⟨by rw [List.length_append]; exact hz, _, r1.append r2, IsTup.new _ _⟩
end
end L2

namespace L2
open PySem PySem.Spec PyProof.Rows

def ixN (n : Nat) (i : Int) : Option Nat := if 0 ≤ i then (if i < n then some i.toNat else none) else if -(n : Int) ≤ i then some (i + n).toNat else none
def atI {α : Type} (xs : List α) (i : Int) : Option α := (ixN xs.length i).bind fun j => xs[j]?
theorem ixN_seq {n : Nat} {i : Int} {j : Nat} (h : ixN n i = some j) : seqIndex? i n = some j ∧ j < n ∧ -(n : Int) ≤ i ∧ i < n := by
  unfold ixN at h
  by_cases h0 : 0 ≤ i
  · rw [if_pos h0] at h
    by_cases h1 : i < n
    · rw [if_pos h1] at h
      have e : i.toNat = j := Option.some.inj h
      exact ⟨by rw [seqIndex_of h0 h1, e], by omega, by omega, h1⟩
    · rw [if_neg h1] at h; cases h
  · rw [if_neg h0] at h
    by_cases h1 : -(n : Int) ≤ i
    · rw [if_pos h1] at h
      have e : (i + n).toNat = j := Option.some.inj h
      exact ⟨by rw [seqIndex_neg (by omega) h1, e], by omega, h1, by omega⟩
    · rw [if_neg h1] at h; cases h
theorem atI_get {α : Type} {xs : List α} {i : Int} {v : α} (h : atI xs i = some v) : ∃ j, seqIndex? i xs.length = some j ∧ xs[j]? = some v ∧ j < xs.length ∧ -(xs.length : Int) ≤ i ∧ i < xs.length := by
  unfold atI at h
  cases e : ixN xs.length i with
  | none => rw [e] at h; cases h
  | some j =>
    rw [e] at h
    obtain ⟨h1, h2, h3, h4⟩ := ixN_seq e
    exact ⟨j, h1, h, h2, h3, h4⟩
theorem atI_nat {α : Type} {xs : List α} {j : Nat} {v : α} (h : xs[j]? = some v) : atI xs (j : Int) = some v := by
  have hj : j < xs.length := (List.getElem?_eq_some_iff.mp h).1
  have e : ixN xs.length (j : Int) = some j := by
    unfold ixN
    rw [if_pos (by omega), if_pos (by omega)]; simp
  unfold atI; rw [e]; exact h
def PlainIx (b : Expr) : Prop := ∀ o i, subscripted b false o i = operate [o, i] (getItem o i)
def IxR (X : Cx) (r : R2) : Prop :=
  ∀ (value slice : Expr) (pins : List (Addr × Obj)) (s : Shared) (σ : St) (H : Hp) (x y : V) (v u : Value) (Q : VK), Inv X pins σ H s → RelV x v → RelV y u → r x y H Q →
    subscripted slice false v u = operate [v, u] (getItem v u) → wpAny (model X.prog X.w) X.A (subscriptTail value slice v u) (EP X pins σ Q) X.xe s
def MtR (X : Cx) (id : String) (r : V → List V → Hp → VK → Prop) : Prop :=
  ∀ (pins : List (Addr × Obj)) (s : Shared) (σ : St) (H : Hp) (x : V) (xs : List V) (v : Value) (us : List Value) (Q : VK), Inv X pins σ H s → RelV x v → Vals xs us → r x xs H Q →
    wpAny (model X.prog X.w) X.A (call (.builtin id) (v :: us)) (EP X pins σ Q) X.xe s
section
variable {X : Cx} {a b : Expr} {ta tb : TE} {pos : Pos}
theorem pe_ix {r : R2} (hr : IxR X r) (ha : PE X a ta) (hb : PE X b tb) (hs : PlainIx b) : PE X (.Subscript a b pos) (tOp r ta tb) := by
  intro pins s σ H Q I h
  exact Subscript_ (binT ha hb I h fun v u s2 x y H2 I2 rx ry q => hr a b pins s2 σ H2 x y v u Q I2 rx ry q (hs _ _))

def rIxL (K : PySem.W.Frag) : R2 := fun x y H Q => ∃ p xs i v, x = .ref p ∧ y = .int i ∧ SqL K H p xs ∧ atI xs i = some v ∧ Q v H
def rIxT (K : PySem.W.Frag) : R2 := fun x y H Q => ∃ p xs i v, x = .ref p ∧ y = .int i ∧ SqT K H p xs ∧ atI xs i = some v ∧ Q v H
def rIxS : R2 := fun x y H Q => ∃ z i c, x = .str z ∧ y = .int i ∧ z.length ≤ sizeLine ∧ atI z.cps.toList i = some c ∧ Q (.str ⟨#[c]⟩) H
theorem ix_list : IxR X (rIxL X.K) := by
  intro value slice pins s σ H x y v u Q I rx ry h hs
  obtain ⟨p, xs, i, z, rfl, rfl, hq, he, q⟩ := h
  cases rx
  obtain ⟨t, rfl⟩ := ry
  obtain ⟨its, r, pl, hz⟩ := I.list hq
  obtain ⟨j, h1, h2, h3, h4, h5⟩ := atI_get he
  obtain ⟨w, ew, rw'⟩ := r.get h2
  have hl := r.length
  have hn := line63
  have fin : EP X pins σ Q w s := ⟨z, H, I, rw', q⟩
  by_cases h0 : 0 ≤ i
  · have hj : i.toNat = j := by
      rw [seqIndex_of h0 h5] at h1
      exact Option.some.inj h1
    exact item_listR pl.isList h0 (by omega) (by rw [hj]; simpa using ew) fin hs
  · have hj : (i + (its.toArray.size : Int)).toNat = j := by
      rw [seqIndex_neg (by omega) h4] at h1
      rw [List.size_toArray, ← hl]
      exact Option.some.inj h1
    exact subscriptTail_builtinR (x := w) pl.isList.typeIs slot_list_getitem.lookup
      (wpAny_getItem_list_neg (Q := fun r s' => r = w ∧ EP X pins σ Q r s') pl.isList (by omega) (by rw [List.size_toArray] <;> omega) (by omega) (by rw [hj]; simpa using ew) ⟨rfl, fin⟩) hs
theorem ix_tup : IxR X (rIxT X.K) := by
  intro value slice pins s σ H x y v u Q I rx ry h hs
  obtain ⟨p, xs, i, z, rfl, rfl, hq, he, q⟩ := h
  cases rx
  obtain ⟨t, rfl⟩ := ry
  obtain ⟨its, r, pl, hz⟩ := I.tuple hq
  obtain ⟨j, h1, h2, h3, h4, h5⟩ := atI_get he
  obtain ⟨w, ew, rw'⟩ := r.get h2
  have hl := r.length
  have hn := line63
  have fin : EP X pins σ Q w s := ⟨z, H, I, rw', q⟩
  exact subscriptTail_builtinR (x := w) pl.typeIs slot_tuple_getitem.lookup
    (getItem_tuple (j := j) (Q := fun r s' => r = w ∧ EP X pins σ Q r s') pl (by omega) (by omega) (by rw [List.size_toArray, ← hl]; exact h1) (by simpa using ew) ⟨rfl, fin⟩) hs
theorem ix_str : IxR X rIxS := by
  intro value slice pins s σ H x y v u Q I rx ry h hs
  obtain ⟨z, i, c, rfl, rfl, hz, he, q⟩ := h
  obtain ⟨t, rfl⟩ := rx
  obtain ⟨t', rfl⟩ := ry
  obtain ⟨j, h1, h2, h3, h4, h5⟩ := atI_get he
  have hl : z.cps.toList.length = z.length := by simp [Str.length]
  rw [hl] at h1 h4 h5
  have hn := line63
  exact tail_any (typeIs_str s z t) slot_str_getitem.lookup (getItem_str (c := c) (by
    have e1 : decide (i < -(2 ^ 63 : Int)) = false := decide_eq_false (by omega)
    have e2 : decide (i ≥ 2 ^ 63) = false := decide_eq_false (by omega)
    rw [e1, e2, Bool.or_false]) (by rw [h1]; simpa using h2) ⟨.str ⟨#[c]⟩, H, I.tok _, ⟨_, rfl⟩, q⟩) hs
theorem mapSeq_set (its : List Value) (n j : Nat) (u : Value) : Obj.mapSeq (·.setIfInBounds j u) { cls := .type "list", data := .seq its.toArray n } = { cls := .type "list", data := .seq (its.set j u).toArray n } := by
  simp [Obj.mapSeq]
theorem Inv.lst {pins : List (Addr × Obj)} {σ : St} {H : Hp} {s : Shared} {p : Addr} {xs : List V} (I : Inv X pins σ H s) (h : H p = some (.lst xs)) :
    ∃ (its : List Value) (n : Nat), Vals xs its ∧ s.heap.get? p = some { cls := .type "list", data := .seq its.toArray n } ∧ xs.length ≤ sizeLine := by
  obtain ⟨z, its, n, r, e⟩ := I.hok p _ h
  exact ⟨its, n, r, e, z⟩
theorem Inv.lstUpd {pins : List (Addr × Obj)} {σ : St} {H : Hp} {s : Shared} {p : Addr} {xs ys : List V} {its its' : List Value} {n n' : Nat} {f : Obj → Obj} (I : Inv X pins σ H s) (h : H p = some (.lst xs))
    (ho : s.heap.get? p = some { cls := .type "list", data := .seq its.toArray n }) (hf : f { cls := .type "list", data := .seq its.toArray n } = { cls := .type "list", data := .seq its'.toArray n' }) (r : Vals ys its') (hz : ys.length ≤ sizeLine) (t : Nat) :
    Inv X pins σ (upd H p (.lst ys)) { s with heap := s.heap.update p f, toks := t } := by
  have e : (s.heap.update p f).get? p = some { cls := .type "list", data := .seq its'.toArray n' } := by
    rw [Heap.get?_update_self f ho (by rw [hf] <;> rfl), hf]
  refine I.write (x := p) (e := p) (by rw [h]; trivial) (.inl rfl) (fun b u hb q => (Heap.get?_update_other _ _ (Ne.symm hb)).trans q) ⟨_, e⟩ ?_
  exact ⟨hz, its', n', r, e⟩
def rSetL : V → V → V → Hp → (Hp → Prop) → Prop := fun o i v H Q => ∃ p xs k j, o = .ref p ∧ i = .int k ∧ H p = some (.lst xs) ∧ ixN xs.length k = some j ∧ Q (upd H p (.lst (xs.set j v)))
theorem set_list : PSet X rSetL := by
  intro pins s σ H o i v ov iv u Q I ro ri rv h
  obtain ⟨p, xs, k, j, rfl, rfl, hp, hj, q⟩ := h
  cases ro
  obtain ⟨t, rfl⟩ := ri
  obtain ⟨its, n, r, ho, hz⟩ := I.lst hp
  obtain ⟨h1, h2, h3, h4⟩ := ixN_seq hj
  have hl := r.length
  have hn := line63
  have I' : Inv X pins σ (upd H p (.lst (xs.set j v))) { s with heap := s.heap.update p (Obj.mapSeq (·.setIfInBounds j u)) } :=
    I.lstUpd hp ho (mapSeq_set its n j u) (r.set rv j) (by rw [List.length_set]; exact hz) s.toks
  by_cases h0 : 0 ≤ k
  · have hk : k.toNat = j := by
      rw [seqIndex_of h0 h4] at h1
      exact Option.some.inj h1
    exact PySem.W.ki_setAt ho h0 (by omega) (by rw [List.size_toArray, ← hl]; exact h4) (by rw [hk]; exact ⟨_, I', q⟩)
  · have hk : (k + (its.toArray.size : Int)).toNat = j := by
      rw [seqIndex_neg (by omega) h3] at h1
      rw [List.size_toArray, ← hl]
      exact Option.some.inj h1
    exact PySem.W.ki_setBack ho (by omega) (by rw [List.size_toArray, ← hl]; exact h3) (by omega) (by rw [hk]; exact ⟨_, I', q⟩)

theorem slice_bounds (lo hi : Option Int) (n : Nat) : (sliceBounds lo hi none n).1 = ((HT.sIx n 0 lo : Nat) : Int) ∧ (sliceBounds lo hi none n).2.1 = ((HT.sIx n n hi : Nat) : Int) ∧ (sliceBounds lo hi none n).2.2 = 1 := by
  refine ⟨?_, ?_, rfl⟩
  · cases lo with
    | none => simp [sliceBounds, HT.sIx]
    | some i =>
      simp only [sliceBounds, HT.sIx, Option.getD_none, show (1 : Int) > 0 by decide, if_true]
      by_cases h : i < 0
      · simp only [h, if_true] <;> omega
      · simp only [h, if_false] <;> omega
  · cases hi with
    | none => simp [sliceBounds, HT.sIx]
    | some i =>
      simp only [sliceBounds, HT.sIx, Option.getD_none, show (1 : Int) > 0 by decide, if_true]
      by_cases h : i < 0
      · simp only [h, if_true] <;> omega
      · simp only [h, if_false] <;> omega
theorem slicePick_cut (its : List Value) (lo hi : Option Int) : slicePick its.toArray lo hi none = ((its.drop (HT.sIx its.length 0 lo)).take (HT.sIx its.length its.length hi - HT.sIx its.length 0 lo)).toArray := by
  obtain ⟨h1, h2, h3⟩ := slice_bounds lo hi its.toArray.size
  unfold slicePick
  rw [h1, h2, h3]
  simp only [sliceRange_one, pick_run, List.size_toArray] <;> rfl
def rSlL (K : PySem.W.Frag) : V → Option Int → Option Int → Hp → VK → Prop := fun x lo hi H Q => ∃ a xs, x = .ref a ∧ SqL K H a xs ∧ ∀ p, H p = none → Q (.ref p) (upd H p (.lst (cutV xs lo hi)))
theorem sl_list : SlR X (rSlL X.K) := by
  intro pins s σ H x v vl vu lo hi sl Q I rx hs pl pu h
  obtain ⟨a, xs, rfl, hx, q⟩ := h
  cases rx
  obtain ⟨its, r, ht, hz⟩ := I.list hx
  have hlen := r.length
  refine ⟨"list", _, slot_list_getitem.lookup, ht.isList.typeIs, ?_⟩
  refine wpAny_getItem_list_slice ht.isList hs pl pu .none (by simp) ?_ (by rw [List.size_toArray] <;> omega)
  rw [slicePick_cut, ← hlen]
  refine ⟨.ref s.heap.objs.size, _, I.laid (t' := s.toks) (o := .lst (cutV xs lo hi)) (fun b ob q => Heap.get?_push_of_some _ q) (Nat.le_refl _) ?_, rfl, q _ (I.hok.fresh (Nat.le_refl _))⟩
  exact ⟨Nat.le_trans (cutV_length xs lo hi) hz, _, 0, (r.drop (HT.sIx xs.length 0 lo)).take (HT.sIx xs.length xs.length hi - HT.sIx xs.length 0 lo), Heap.get?_push_size _ rfl⟩

def flatV : V → Bool
  | .non => true
  | .bl _ => true
  | .int _ => true
  | .str _ => true
  | _ => false
def eqV : V → V → Bool
  | .non, .non => true
  | .bl a, .bl b => a == b
  | .bl a, .int b => (if a then 1 else 0) == b
  | .int a, .bl b => a == (if b then 1 else 0)
  | .int a, .int b => a == b
  | .str a, .str b => a == b
  | _, _ => false
theorem eqAt_V {A : Around} {s : Shared} {y x : V} {u v : Value} (ry : RelV y u) (rx : RelV x v) (fy : flatV y = true) (fx : flatV x = true) : SeqAt.EqAt A s u v (eqV y x) := by
  cases y with
  | non =>
    cases ry
    cases x with
    | non => cases rx; exact SeqAt.EqAt.same _
    | bl b => cases rx; exact SeqAt.EqAt.none_bool b
    | int b => obtain ⟨t, rfl⟩ := rx; exact SeqAt.EqAt.none_int b t
    | str b => obtain ⟨t, rfl⟩ := rx; exact SeqAt.EqAt.none_str b t
    | _ => exact absurd (show false = true from fx) Bool.false_ne_true
  | bl a =>
    cases ry
    cases x with
    | non => cases rx; exact SeqAt.EqAt.bool_none a
    | bl b => cases rx; exact SeqAt.EqAt.bool_bool a b
    | int b => obtain ⟨t, rfl⟩ := rx; exact SeqAt.EqAt.bool_int a b t
    | str b => obtain ⟨t, rfl⟩ := rx; exact SeqAt.EqAt.bool_str a b t
    | _ => exact absurd (show false = true from fx) Bool.false_ne_true
  | int a =>
    obtain ⟨t', rfl⟩ := ry
    cases x with
    | non => cases rx; exact SeqAt.EqAt.int_none a t'
    | bl b => cases rx; exact SeqAt.EqAt.int_bool a t' b
    | int b => obtain ⟨t, rfl⟩ := rx; exact SeqAt.EqAt.int_int a t' b t
    | str b => obtain ⟨t, rfl⟩ := rx; exact SeqAt.EqAt.int_str a t' b t
    | _ => exact absurd (show false = true from fx) Bool.false_ne_true
  | str a =>
    obtain ⟨t', rfl⟩ := ry
    cases x with
    | non => cases rx; exact SeqAt.EqAt.str_none a t'
    | bl b => cases rx; exact SeqAt.EqAt.str_bool a t' b
    | int b => obtain ⟨t, rfl⟩ := rx; exact SeqAt.EqAt.str_int a t' b t
    | str b => obtain ⟨t, rfl⟩ := rx; exact SeqAt.EqAt.str_str a t' b t
    | _ => exact absurd (show false = true from fx) Bool.false_ne_true
  | _ => exact absurd (show false = true from fy) Bool.false_ne_true
def eqU (x : V) (u : Value) : Bool := match u with
  | .none => eqV .non x
  | .bool b => eqV (.bl b) x
  | .int i _ => eqV (.int i) x
  | .str z _ => eqV (.str z) x
  | _ => false
theorem eqU_of {x y : V} {u : Value} (r : RelV y u) (f : flatV y = true) : eqU x u = eqV y x := by
  cases y with
  | non => cases r; rfl
  | bl b => cases r; rfl
  | int i => obtain ⟨t, rfl⟩ := r; rfl
  | str z => obtain ⟨t, rfl⟩ := r; rfl
  | _ => exact absurd (show false = true from f) Bool.false_ne_true
theorem any_eqU {x : V} : ∀ {xs : List V} {us : List Value}, Vals xs us → xs.all flatV = true → us.any (eqU x) = xs.any fun y => eqV y x
  | _, _, .nil, _ => rfl
  | y :: xs, u :: us, .cons r t, f => by
    rw [List.all_cons, Bool.and_eq_true] at f
    rw [List.any_cons, List.any_cons, eqU_of r f.1, any_eqU t f.2]
theorem mem_eqAt {A : Around} {s : Shared} {x : V} {v : Value} (rx : RelV x v) (fx : flatV x = true) : ∀ {xs : List V} {us : List Value}, Vals xs us → xs.all flatV = true → ∀ u ∈ us, SeqAt.EqAt A s u v (eqU x u)
  | _, _, .nil, _ => fun u hu => by cases hu
  | y :: xs, u :: us, .cons r t, f => fun u' hu => by
    rw [List.all_cons, Bool.and_eq_true] at f
    rcases List.mem_cons.mp hu with rfl | hu
    · rw [eqU_of r f.1]; exact eqAt_V r rx f.1 fx
    · exact mem_eqAt rx fx t f.2 u' hu
def inV (x : V) (xs : List V) : Bool := xs.any fun y => eqV y x
def rIn (K : PySem.W.Frag) (neg : Bool) : R2 := fun x y H Q => ∃ p xs, y = .ref p ∧ (SqL K H p xs ∨ SqT K H p xs) ∧ flatV x = true ∧ xs.all flatV = true ∧ Q (.bl (if neg then !inV x xs else inV x xs)) H
theorem op_in_seq : OpR X (compareOp .In) (rIn X.K false) := by
  intro pins s σ H x y v u Q I rx ry h
  obtain ⟨p, xs, rfl, hq, fx, fs, q⟩ := h
  cases ry
  rcases hq with hq | hq
  · obtain ⟨its, r, pl, hz⟩ := I.list hq
    refine SeqAt.in_listAt (eqU x) pl.isList (fun w hw => mem_eqAt rx fx r fs w (by simpa using hw)) ⟨.bl _, H, I, rfl, ?_⟩
    rw [show its.toArray.any (eqU x) = its.any (eqU x) by simp, any_eqU r fs]
    exact q
  · obtain ⟨its, r, pl, hz⟩ := I.tuple hq
    refine SeqAt.in_tupleAt (eqU x) pl (fun w hw => mem_eqAt rx fx r fs w (by simpa using hw)) ⟨.bl _, H, I, rfl, ?_⟩
    rw [show its.toArray.any (eqU x) = its.any (eqU x) by simp, any_eqU r fs]
    exact q
theorem op_notIn_seq : OpR X (compareOp .NotIn) (rIn X.K true) := by
  intro pins s σ H x y v u Q I rx ry h
  obtain ⟨p, xs, rfl, hq, fx, fs, q⟩ := h
  cases ry
  rcases hq with hq | hq
  · obtain ⟨its, r, pl, hz⟩ := I.list hq
    refine SeqAt.notIn_listAt (eqU x) pl.isList (fun w hw => mem_eqAt rx fx r fs w (by simpa using hw)) ⟨.bl _, H, I, rfl, ?_⟩
    rw [show its.toArray.any (eqU x) = its.any (eqU x) by simp, any_eqU r fs]
    exact q
  · obtain ⟨its, r, pl, hz⟩ := I.tuple hq
    refine SeqAt.notIn_tupleAt (eqU x) pl (fun w hw => mem_eqAt rx fx r fs w (by simpa using hw)) ⟨.bl _, H, I, rfl, ?_⟩
    rw [show its.toArray.any (eqU x) = its.any (eqU x) by simp, any_eqU r fs]
    exact q
theorem call_list_of : CallR X (.type "list") (fun xs H Q => ∃ p ys, xs = [.ref p] ∧ (SqL X.K H p ys ∨ SqT X.K H p ys) ∧ ∀ l, H l = none → Q (.ref l) (upd H l (.lst ys))) := by
  intro pins s σ H xs us Q I r h
  obtain ⟨p, ys, rfl, hq, q⟩ := h
  obtain ⟨u, rfl, rx⟩ := vals1 r
  cases rx
  have fin : ∀ (its : List Value), Vals ys its → ys.length ≤ sizeLine → ∀ (h' : Heap) (c' : Nat), (∀ b o', s.heap.get? b = some o' → h'.get? b = some o') →
      h'.get? s.heap.objs.size = some { cls := .type "list", dict := none, data := .seq its.toArray c', slots := #[] } → EP X pins σ Q (.ref s.heap.objs.size) { s with heap := h' } := fun its r' hz h' c' kp e =>
    ⟨.ref s.heap.objs.size, _, I.laid (t' := s.toks) kp (Nat.le_refl _) (show ObjOk X.prog X.w _ h' _ (.lst ys) from ⟨hz, its, c', r', e⟩), rfl, q _ (I.hok.fresh (Nat.le_refl _))⟩
  rcases hq with hq | hq
  · obtain ⟨its, r', pl, hz⟩ := I.list hq
    have hlen := r'.length
    obtain ⟨o, ho, hc, n, hd⟩ := pl.isList
    exact call_list_seq p (.inl rfl) ho hc hd (fun h' c' kp e => fin its r' hz h' c' kp e) (by simp only [List.size_toArray] <;> omega)
  · obtain ⟨its, r', pl, hz⟩ := I.tuple hq
    have hlen := r'.length
    obtain ⟨o, ho, hc, n, hd⟩ := pl
    exact call_list_seq p (.inr rfl) ho hc hd (fun h' c' kp e => fin its r' hz h' c' kp e) (by simp only [List.size_toArray] <;> omega)
theorem call_tuple_of : CallR X (.type "tuple") (fun xs H Q => ∃ p ys, xs = [.ref p] ∧ ((SqL X.K H p ys ∧ ∀ l, H l = none → Q (.ref l) (upd H l (.tup ys))) ∨ (SqT X.K H p ys ∧ Q (.ref p) H))) := by
  intro pins s σ H xs us Q I r h
  obtain ⟨p, ys, rfl, h⟩ := h
  obtain ⟨u, rfl, rx⟩ := vals1 r
  cases rx
  rcases h with ⟨hq, q⟩ | ⟨hq, q⟩
  · obtain ⟨its, r', pl, hz⟩ := I.list hq
    have hlen := r'.length
    refine call_tuple_list pl.isList (fun h' kp => ?_) (by simp only [List.size_toArray] <;> omega)
    have I1 : Inv X pins σ H { s with heap := h' } := I.kept (t' := s.toks) kp
    have I2 : Inv X pins σ (upd H h'.objs.size (.tup ys)) { s with heap := h'.push { cls := .type "tuple", data := .seq its.toArray } } :=
      I1.laid (t' := s.toks) (fun b o e => Heap.get?_push_of_some _ e) (Nat.le_refl _) (show ObjOk X.prog X.w _ _ _ (.tup ys) from ⟨hz, its, r', IsTup.new _ _⟩)
    exact ⟨.ref h'.objs.size, _, I2, rfl, q _ (I1.hok.fresh (Nat.le_refl _))⟩
  · obtain ⟨its, r', pl, hz⟩ := I.tuple hq
    exact call_tuple_same pl ⟨.ref p, H, I, rfl, q⟩

def tyV (K : PySem.W.Frag) (T : String) (x : V) (H : Hp) : Prop := match x with
  | .str _ => T = "str"
  | .int _ => T = "int"
  | .ref p => (T = "list" ∧ ∃ xs, SqL K H p xs) ∨ (T = "tuple" ∧ ∃ o, K.lookup p = some o ∧ o.cls = .type "tuple" ∧ o.dict = none) ∨
      (T = "dict" ∧ ((∃ kvs, H p = some (.dK kvs)) ∨ ∃ kvs, H p = some (.dT kvs))) ∨ (T = "set" ∧ ∃ S n, H p = some (.set S n))
  | _ => False
theorem tyV_is {pins : List (Addr × Obj)} {σ : St} {H : Hp} {s : Shared} {T : String} {x : V} {v : Value} (I : Inv X pins σ H s) (r : RelV x v) (ty : tyV X.K T x H) :
    s.TypeIs v T ∧ ∀ a, v = .ref a → ∃ ob, s.heap.get? a = some ob ∧ ob.dict = none := by
  cases x with
  | str z =>
    obtain ⟨t, rfl⟩ := r
    cases (show T = "str" from ty)
    exact ⟨typeIs_str s z t, fun _ e => nomatch e⟩
  | int i =>
    obtain ⟨t, rfl⟩ := r
    cases (show T = "int" from ty)
    exact ⟨typeIs_int s i t, fun _ e => nomatch e⟩
  | ref p =>
    cases r
    rcases ty with ⟨rfl, xs, hq⟩ | ⟨rfl, o, hk, hc, hd⟩ | ⟨rfl, hk⟩ | ⟨rfl, S, n, hk⟩
    · obtain ⟨its, _, pl, _⟩ := I.list hq
      refine ⟨pl.isList.typeIs, fun a e => ?_⟩
      cases e
      obtain ⟨o, n, e, c, hd, _⟩ := pl
      exact ⟨o, e, hd⟩
    · refine ⟨⟨o, I.kIn p o hk, hc⟩, fun a e => ?_⟩
      cases e
      exact ⟨o, I.kIn _ o hk, hd⟩
    · have z : ∃ o, s.heap.get? p = some o ∧ o.ExactDict := by
        rcases hk with ⟨kvs, hk⟩ | ⟨kvs, hk⟩
        · obtain ⟨_, _, _, _, o, _, _, e, ex, _⟩ := I.hok p _ hk
          exact ⟨o, e, ex⟩
        · obtain ⟨_, _, _, _, o, _, _, e, ex, _⟩ := I.hok p _ hk
          exact ⟨o, e, ex⟩
      obtain ⟨o, e, ex⟩ := z
      refine ⟨⟨o, e, ex.1⟩, fun a e2 => ?_⟩
      cases e2
      exact ⟨o, e, ex.2.1⟩
    · obtain ⟨o, _, _, _, e, ex, _⟩ := I.hok p _ hk
      refine ⟨⟨o, e, ex.1⟩, fun a e2 => ?_⟩
      cases e2
      exact ⟨o, e, ex.2.1⟩
  | _ => exact False.elim ty
def tBM0 (K : PySem.W.Frag) (T : String) (r : V → List V → Hp → VK → Prop) (to : TE) : TE := fun σ H Q => to σ H fun x H1 => tyV K T x H1 ∧ r x [] H1 Q
def tBM (K : PySem.W.Frag) (T : String) (r : V → List V → Hp → VK → Prop) (to : TE) (t : TA) : TE := fun σ H Q => to σ H fun x H1 => tyV K T x H1 ∧ t σ H1 fun xs H2 => r x xs H2 Q
variable {o e : Expr} {es : List Expr} {to : TE} {t : TA} {name : Str} {apos cpos : Pos} {T id : String} {r : V → List V → Hp → VK → Prop}
theorem pe_bm0 (pa : PlainAttrs T) (slot : Slot T name id) (hty : typeOf (.builtin id) = pure (.type "method_descriptor")) (hm : MtR X id r) (ho : PE X o to)
    (hbase : attributeBase o name X.env (eval o X.env) = eval o X.env := by rfl) (hline : (apos.endLine == cpos.line) = true := by rfl) : PE X (.Call (.Attribute o name apos) [] [] cpos) (tBM0 X.K T r to) := by
  intro pins s σ H Q I h
  refine wpAny_Call_method0_late hbase hline (thn (ho pins s σ H _ I h) fun v s1 ⟨x, H1, I1, r1, ty, q1⟩ => ?_)
  obtain ⟨h1, h2⟩ := tyV_is I1 r1 ty
  exact ⟨T, id, pa, slot, hty, h1, h2, Calls.callWith_builtin rfl (PySem.evalArgs_none (hm pins s1 σ H1 x [] v [] Q I1 r1 .nil q1))⟩
theorem pe_bm (pa : PlainAttrs T) (slot : Slot T name id) (hty : typeOf (.builtin id) = pure (.type "method_descriptor")) (hm : MtR X id r) (ho : PE X o to) (ha : PA X (e :: es) t)
    (hbase : attributeBase o name X.env (eval o X.env) = eval o X.env := by rfl)
    (hfew : ((backTo cpos (starEach (e :: es) X.env)).all (fun x => !x.1) && (backToKw cpos (keywordEach [] X.env)).all (fun x => x.1.isSome)
      && decide ((e :: es).length + ([] : List Keyword).length + (if ([] : List Keyword).isEmpty then 0 else 1) < 30)) = true := by rfl)
    (hline : (apos.endLine == cpos.line) = true := by rfl) (hs : starEach (e :: es) X.env = (false, eval e X.env) :: starEach es X.env := by rfl) (hplain : (backTo cpos (starEach es X.env)).any (·.1) = false := by rfl) :
    PE X (.Call (.Attribute o name apos) (e :: es) [] cpos) (tBM X.K T r to t) := by
  intro pins s σ H Q I h
  refine wpAny_Call_method_late hbase hfew hline rfl (thn (ho pins s σ H _ I h) fun v s1 ⟨x, H1, I1, r1, ty, q1⟩ => ?_)
  obtain ⟨h1, h2⟩ := tyV_is I1 r1 ty
  refine ⟨T, id, pa, slot, hty, h1, h2, ?_⟩
  have hA := ha cpos pins s1 σ H1 _ I1 q1
  rw [hs] at hA ⊢
  refine Calls.callWith_builtin (by show (false || (backTo cpos (starEach es X.env)).any (·.1)) = false; rw [hplain] <;> rfl) (Calls.evalArgs_plain ?_)
  exact thn hA fun us s2 ⟨vs, H2, I2, r2, q2⟩ => hm pins s2 σ H2 x vs v us Q I2 r1 r2 q2
/- xs.append(e), list.index on a module's tuple .. are MtR facts of 06m -/
end
end L2

namespace L2
open PySem PySem.Spec PyProof.Rows

def MtM (X : Cx) (id : String) (r : V → List V → Hp → VK → Prop) : Prop :=
  ∀ (pins : List (Addr × Obj)) (s : Shared) (σ : St) (H : Hp) (x : V) (xs : List V) (v : Value) (us : List Value) (Q : VK), Inv X pins σ H s → RelV x v → Vals xs us → r x xs H Q →
    wpAny (model X.prog X.w) X.A (call (.builtin id) (v :: us)) (EP X pins σ Q) X.xe s

theorem Vals.one : ∀ {x : V} {us : List Value}, Vals [x] us → ∃ u, us = [u] ∧ RelV x u
  | _, _, .cons r .nil => ⟨_, rfl, r⟩
theorem Vals.zero : ∀ {us : List Value}, Vals [] us → us = []
  | _, .nil => rfl
theorem Vals.eraseIdx : ∀ {xs : List V} {us : List Value} (i : Nat), Vals xs us → Vals (xs.eraseIdx i) (us.eraseIdx i)
  | _, _, _, .nil => .nil
  | _, _, 0, .cons _ t => t
  | _, _, i + 1, .cons r t => .cons r (Vals.eraseIdx i t)
theorem len_erase {α : Type} : ∀ (l : List α) (i : Nat), (l.eraseIdx i).length ≤ l.length
  | [], _ => Nat.le_refl _
  | _ :: _, 0 => Nat.le_succ _
  | _ :: r, i + 1 => Nat.succ_le_succ (len_erase r i)
section
variable {X : Cx} {pins : List (Addr × Obj)} {σ : St} {H : Hp} {s : Shared} {l b : Addr} {xs ys zs : List V}

theorem Inv.lset {its its' : List Value} {n : Nat} {f : Array Value → Array Value} {t' : Nat} (I : Inv X pins σ H s) (hH : H l = some (.lst xs))
    (e : s.heap.get? l = some { cls := .type "list", data := .seq its.toArray n }) (hf : f its.toArray = its'.toArray) (hv : Vals ys its') (hz : ys.length ≤ sizeLine) :
    Inv X pins σ (upd H l (.lst ys)) { s with heap := s.heap.update l (Obj.mapSeq f), toks := t' } := by
  have q := PySem.IsL.update e f
  rw [hf] at q
  refine I.write (x := l) (e := l) (by rw [hH]; exact trivial) (.inl rfl) (fun b' u hb hu => (Heap.get?_update_other s.heap (Obj.mapSeq f) (Ne.symm hb)).trans hu) ⟨_, q⟩ ?_
  exact ⟨hz, its', _, hv, q⟩
theorem Inv.lnew {its : List Value} {t' : Nat} (I : Inv X pins σ H s) (hv : Vals ys its) (hz : ys.length ≤ sizeLine) :
    Inv X pins σ (upd H s.heap.objs.size (.lst ys)) { s with heap := s.heap.push { cls := .type "list", data := .seq its.toArray }, toks := t' } :=
  I.laid (fun _ _ q => Heap.get?_push_of_some _ q) (Nat.le_refl _) ⟨hz, its, 0, hv, Heap.get?_push_size _ rfl⟩
theorem Inv.fresh (I : Inv X pins σ H s) : H s.heap.objs.size = none := I.hok.fresh (Nat.le_refl _)
theorem Inv.lstM (I : Inv X pins σ H s) (hH : H l = some (.lst xs)) : xs.length ≤ sizeLine ∧ ∃ (its : List Value) (n : Nat), Vals xs its ∧ xs.length = its.length ∧ s.heap.get? l = some { cls := .type "list", data := .seq its.toArray n } := by
  obtain ⟨z, its, n, r, e⟩ := I.hok l _ hH
  exact ⟨z, its, n, r, r.length, e⟩

theorem notLongL {n : Nat} (h : n ≤ sizeLine) : Builtin.List.listTooLong n = false := by
  unfold Builtin.List.listTooLong
  exact decide_eq_false (by omega)
end

section
variable {X : Cx}

def rAppend : V → List V → Hp → VK → Prop := fun x vs H Q => ∃ l xs y, x = .ref l ∧ vs = [y] ∧ H l = some (.lst xs) ∧ xs.length < sizeLine ∧ Q .non (upd H l (.lst (xs ++ [y])))
theorem mt_append : MtM X "list.append" rAppend := by
  intro pins s σ H x vs v us Q I rx rv h
  obtain ⟨l, xs, y, rfl, rfl, hH, hz, q⟩ := h
  cases rx
  obtain ⟨u, rfl, ru⟩ := rv.one
  obtain ⟨z, its, n, r, hl, e⟩ := I.lstM hH
  refine call_meets F.slot_list_append ⟨_, e, rfl⟩ F.entry_list_append (F.args_list_append_2 _ _) (PySem.list_append l its.toArray n u (by rw [List.size_toArray]; omega)) ⟨e, ?_⟩
  refine ⟨.non, _, I.lset (its' := its ++ [u]) hH e (by simp) (r.append (.cons ru .nil)) ?_, rfl, q⟩
  rw [List.length_append, List.length_singleton]
  omega

def rExtend : V → List V → Hp → VK → Prop := fun x vs H Q => ∃ l b xs zs, x = .ref l ∧ vs = [.ref b] ∧ H l = some (.lst xs) ∧ H b = some (.lst zs) ∧ xs.length + zs.length ≤ sizeLine ∧ Q .non (upd H l (.lst (xs ++ zs)))
theorem mt_extend : MtM X "list.extend" rExtend := by
  intro pins s σ H x vs v us Q I rx rv h
  obtain ⟨l, b, xs, zs, rfl, rfl, hH, hB, hz, q⟩ := h
  cases rx
  obtain ⟨u, rfl, ru⟩ := rv.one
  cases ru
  obtain ⟨z, its, n, r, hl, e⟩ := I.lstM hH
  obtain ⟨z2, its2, n2, r2, hl2, e2⟩ := I.lstM hB
  have hsz : its.toArray.size + its2.toArray.size ≤ sizeLine := by rw [List.size_toArray, List.size_toArray]; omega
  have hlong : ¬ (!its.toArray.isEmpty && Builtin.List.listTooLong (its.toArray.size + its2.toArray.size)) = true := by
    rw [notLongL hsz, Bool.and_false]
    exact Bool.false_ne_true
  refine call_meets F.slot_list_extend ⟨_, e, rfl⟩ F.entry_list_extend (F.args_list_extend_2 _ _)
    (AutoSeq1.list_extend_list_list_0 l its.toArray n b its2.toArray n2 hlong (by rw [List.size_toArray]; omega) (by omega)) ⟨e, e2, ?_⟩
  refine ⟨.non, _, I.lset (its' := its ++ its2) hH e (by simp) (r.append r2) ?_, rfl, q⟩
  rw [List.length_append]
  omega

def rPopAt : V → List V → Hp → VK → Prop := fun x vs H Q => ∃ l xs i k y, x = .ref l ∧ vs = [.int i] ∧ H l = some (.lst xs) ∧ -(2 ^ 63) ≤ i ∧ i < 2 ^ 63 ∧ seqIndex? i xs.length = some k ∧ xs[k]? = some y ∧ Q y (upd H l (.lst (xs.eraseIdx k)))
theorem mt_popAt : MtM X "list.pop" rPopAt := by
  intro pins s σ H x vs v us Q I rx rv h
  obtain ⟨l, xs, i, k, y, rfl, rfl, hH, h1, h2, hk, hy, q⟩ := h
  cases rx
  obtain ⟨u, rfl, ru⟩ := rv.one
  obtain ⟨t, rfl⟩ := ru
  obtain ⟨z, its, n, r, hl, e⟩ := I.lstM hH
  obtain ⟨w, hw, rw'⟩ := r.get hy
  refine call_meets F.slot_list_pop ⟨_, e, rfl⟩ F.entry_list_pop (F.args_list_pop_2 _ _)
    (MeetsSeq.list_pop_at l its.toArray n i t k w (fitsIndex_both h1 h2) (by rw [List.size_toArray, ← hl]; exact hk) (by rw [← Array.getElem?_toList]; exact hw) (by rw [List.size_toArray]; omega)) ⟨e, ?_⟩
  refine ⟨y, _, I.lset (its' := its.eraseIdx k) hH e ?_ (r.eraseIdx k) ?_, rw', q⟩
  · show its.toArray.eraseIdxIfInBounds k = (its.eraseIdx k).toArray
    rw [List.eraseIdxIfInBounds_toArray]
  · have := len_erase xs k
    omega

def rClear : V → List V → Hp → VK → Prop := fun x vs H Q => ∃ l xs, x = .ref l ∧ vs = [] ∧ H l = some (.lst xs) ∧ Q .non (upd H l (.lst []))
theorem mt_clear : MtM X "list.clear" rClear := by
  intro pins s σ H x vs v us Q I rx rv h
  obtain ⟨l, xs, rfl, rfl, hH, q⟩ := h
  cases rx
  have hus := rv.zero
  subst hus
  obtain ⟨z, its, n, r, hl, e⟩ := I.lstM hH
  refine call_meets F.slot_list_clear ⟨_, e, rfl⟩ F.entry_list_clear (F.args_list_clear_1 _) (AutoSeq1.list_clear_list_0 l its.toArray n (by rw [List.size_toArray]; omega)) ⟨e, ?_⟩
  exact ⟨.non, _, I.lset (its' := []) (ys := []) hH e rfl .nil (Nat.zero_le _), rfl, q⟩

def rCat : R2 := fun x y H Q => ∃ l b xs zs, x = .ref l ∧ y = .ref b ∧ H l = some (.lst xs) ∧ H b = some (.lst zs) ∧ xs.length + zs.length ≤ sizeLine ∧ ∀ p, H p = none → Q (.ref p) (upd H p (.lst (xs ++ zs)))
theorem op_cat : OpR X (binaryOp .Add) rCat := by
  intro pins s σ H x y v u Q I rx ry h
  obtain ⟨l, b, xs, zs, rfl, rfl, hH, hB, hz, q⟩ := h
  cases rx
  cases ry
  obtain ⟨z, its, n, r, hl, e⟩ := I.lstM hH
  obtain ⟨z2, its2, n2, r2, hl2, e2⟩ := I.lstM hB
  refine PySem.P.add_list e e2 ?_ (by rw [List.size_toArray, List.size_toArray]; omega)
  have ea : its.toArray ++ its2.toArray = (its ++ its2).toArray := by simp
  rw [ea]
  exact ⟨.ref _, _, I.lnew (t' := s.toks) (r.append r2) (by rw [List.length_append]; omega), rfl, q _ I.fresh⟩
end

section
variable {prog : Program} {w : World} {A : Around} {E : Value → Shared → Prop} {s : Shared}
set_option maxRecDepth 100000 in
end

section
variable {X : Cx}
end
end L2

namespace Att
open PySem PySem.W PySem.Calls PyProof.Rows

theorem ints_of_wellAll {P : Params} {h : Heap} : ∀ (ns : List Int) (vs : List Value), WellAll P h vs (ns.map WData.int) → IntsAre vs ns := by
  intro ns
  induction ns with
  | nil =>
    intro vs w
    rw [List.map_nil] at w
    cases w
    exact .nil
  | cons n ns ih =>
    intro vs w
    rw [List.map_cons] at w
    cases w with
    | cons a b =>
      cases a
      exact .cons _ _ (ih _ b)

theorem script_of {l : OpenLaw} {n : Nat} (hn : l.most = some n) {P : Params} {h : Heap} {args : List WData} {vals : List Value}
    (hpre : l.row.toRowW.claim.pre args = true) (hwl : WellAll P h vals args) :
    ∃ a vs ns, vals = [Value.ref a] ∧ args = [WData.list (ns.map WData.int)] ∧ h.get? a = some { cls := .type "list", data := .seq vs.toArray } ∧ IntsAre vs ns ∧ ns.length ≤ n := by
  have hsh : WShape.hasAll [] args [.list .int] = true := (pre_splitW hpre).1
  have hc : l.pre.holds [] { args := args } = true := (pre_splitW hpre).2
  obtain ⟨d, r, rfl, h1, h2⟩ := hasAllW_cons hsh
  obtain rfl := hasAllW_nil h2
  obtain ⟨xs, rfl, h3⟩ := hasW_list h1
  obtain ⟨ns, rfl⟩ := items_int h3
  have hlen : ns.length ≤ n := by
    unfold OpenLaw.pre at hc
    have h4 : (WTm.not (.lt (.lit (.int (n : Int))) (.len (.arg 0)))).holds [] { args := [.list (ns.map .int)] } = true := by
      have h4 := (holds_andW hc).1
      rw [hn] at h4
      exact h4
    have h5 := condW_of h4 (w_not (w_lt w_lit (w_len_list (w_arg rfl))))
    rw [List.length_map] at h5
    refine Nat.le_of_not_lt fun q => ?_
    have q' : (n : Int) < ((ns.length : Nat) : Int) := by omega
    first
      | (rw [decide_eq_true q'] at h5; exact absurd h5 (by decide))
      | (simp at h5; omega)
  cases hwl with
  | cons w1 w2 =>
    cases w2
    cases w1 with
    | list ho hall => exact ⟨_, _, ns, rfl, rfl, ho, ints_of_wellAll ns _ hall, hlen⟩

theorem post_true (l : OpenLaw) (args : List WData) : l.row.toRowW.claim.post args (.bool true) args = true :=
  postW_of (r := l.row.toRowW) (X := (true == true))
    (show WShape.has [] (.bool true) .bool = true by first | rfl | decide | simp [WShape.has, WShape.arms, WShape.armsAll])
    (show (WTm.eq .res (.lit (.bool true))).value [] { args := args, res := some (.bool true), after := args } = some (.bool (true == true)) from w_eq_bool (w_res rfl) w_lit) rfl

theorem attach_call {l : OpenLaw} {n : Nat} {q : Program} {loose : List Str} {XP : (Str → Option Value) → Heap → Prop} {YP : World → Heap → Prop} {d : DefRec}
    (hn : l.most = some n) (hdf : d.params.defaults = [])
    (call : ∀ (w : World) (s₀ s₁ : Shared) (mg mb : Str → Option Value) (fa : Addr) (o : Obj) (pm cd doc : Value) (a : Addr) (vs : List Value) (ns : List Int),
      Ground q loose [] XP w s₀ mg mb s₁.heap → YP w s₁.heap →
      s₁.heap.get? fa = some o → o.data = .func (docDef d.name d.params d.body d.scope pm cd doc) → s₁.heap.CodeRec cd d.name → mg d.name = some (.ref fa) →
      s₁.heap.get? a = some { cls := .type "list", data := .seq vs.toArray } → IntsAre vs ns → ns.length ≤ n → s₁.gens = #[] →
      codeAny (model l.prog w) callerA (.call (.ref fa) ⟨[.ref a], []⟩) (fun r s' => r = .ok (.ret (.bool true)) ∧ OldK s₁.heap s'.heap ∧ s'.os = s₁.os ∧ AllBare s'.gens) s₁) :
    WalkO q loose XP YP l.row.toRowW d [] (fun f vs => PySem.call f vs) := by
  intro w s₀ s₁ mg mb G Y fa o pm cd doc dV kV ho hd hcd hD hmg hg args vals as hpre hlay hrd hwl hlo
  obtain rfl : dV = .none := Dflts.none hD hdf
  obtain rfl : kV = .none := Dflts.noKw hD
  obtain ⟨a, vs, ns, rfl, rfl, hobj, hints, hlen⟩ := script_of hn hpre hwl
  refine enter_call (codeAny_mono (call w s₀ s₁ mg mb fa o pm cd doc a vs ns G Y ho (fd_plain hd) hcd hmg hobj hints hlen hg) fun r s' hq => ?_)
  obtain ⟨rfl, h2, h3, h4⟩ := hq
  exact ⟨.inl ⟨.bool true, .bool true, [], rfl, fun _ => rfl, .bool true, post_true l _, fun _ => ⟨List.Pairwise.nil, fun _ hm => (nomatch hm)⟩⟩, h2, h3, h4⟩

section
variable {prog : Program} {w : World} {A : Around} {E : Value → Shared → Prop} {s : Shared} {K : Frag}

end
end Att

namespace L2
open PySem PySem.Spec PyProof.Rows

theorem vals_ints : ∀ {vs : List Value} {ns : List Int}, IntsAre vs ns → Vals (ns.map V.int) vs
  | _, _, .nil => .nil
  | _, _, .cons n t h => .cons ⟨t, rfl⟩ (vals_ints h)

def Only (H : Hp) : Prop := ∀ b, H b = none ∨ ∃ o xs, H b = some (.frz o (.lst xs))

theorem law_call {P : Program} {w : World} {K : PySem.W.Frag} {mg mb : Str → Option Value} {CX : CXT} {k : Nat} {fa a : Addr} {fd : FuncData} {x : Str} {sp : Sp} {s₁ : Shared} {vs : List Value} {ns : List Int}
    (KX : K.In s₁.heap) (hns : s₁.heap.Ns mainGlobals mg) (hb : s₁.heap.Ns builtinsNs mb) (hbb : ∀ x : Str, x ≠ "__name__" → mb x = bootBuiltins x) (hlim : s₁.heap.NoLimit) (hg : s₁.gens = #[])
    (ha : s₁.heap.get? a = some { cls := .type "list", data := .seq vs.toArray }) (hi : IntsAre vs ns) (hl : ns.length ≤ sizeLine) (hr : Room k callerA)
    (F : ∀ base : Heap, K.In base → base.Ns mainGlobals mg → FnOk P w K mg base CX k fa fd [x] sp) (hbind : ∀ (s : Shared) (u : Value), BindsTo s fd ⟨[u], []⟩ [(x, u)])
    (hsp : ∀ H : Hp, Only H → SqL K H a (ns.map V.int) → sp [.ref a] H (fun v _ => v = .bl true) fun _ _ _ => False)
    (hCX : ∀ H e s', CX [] H s₁ (fun _ _ _ => False) e s' → False) :
    codeAny (model P w) callerA (.call (.ref fa) ⟨[.ref a], []⟩) (fun r s' => r = .ok (.ret (.bool true)) ∧ OldK s₁.heap s'.heap ∧ s'.os = s₁.os ∧ AllBare s'.gens) s₁ := by
  have rv := vals_ints hi
  have lenV := hi.length
  -- from an abstract heap in which nothing but the script may be tracked
  have core : ∀ H : Hp, Only H → SqL K H a (ns.map V.int) → HOk P w H s₁.heap → (∀ b, H b ≠ none → b = a) → (H a ≠ none → K.lookup a = none) →
      codeAny (model P w) callerA (.call (.ref fa) ⟨[.ref a], []⟩) (fun r s' => r = .ok (.ret (.bool true)) ∧ OldK s₁.heap s'.heap ∧ s'.os = s₁.os ∧ AllBare s'.gens) s₁ := by
    intro H hO hS hok hA hK
    have base_of : ∀ {b : Addr} {o : Obj}, s₁.heap.get? b = some o → H b = none → (hidT s₁.heap H).get? b = some o := fun e n => hidT_get e n
    have noA : ∀ {b : Addr} {o : Obj} {es : Array DictEntry} {ep : Nat}, s₁.heap.get? b = some o → o.data = .dict es ep → H b = none := fun {b o es ep} e d => by
      cases q : H b with
      | none => rfl
      | some u =>
        have e' : b = a := hA b (by rw [q]; simp)
        subst e'
        rw [ha] at e; cases e
        have d' : Data.seq vs.toArray _ = Data.dict es ep := d
        cases d'
    have nsK : ∀ {b : Addr} {m : Str → Option Value}, s₁.heap.Ns b m → (hidT s₁.heap H).Ns b m := fun {b m} ⟨o, es, ep, e, d, r⟩ => ⟨o, es, ep, base_of e (noA e d), d, r⟩
    have hKb : K.In (hidT s₁.heap H) := fun b o e => base_of (KX b o e) (by
      cases q : H b with
      | none => rfl
      | some u =>
        have e' : b = a := hA b (by rw [q]; simp)
        subst e'
        rw [hK (by rw [q]; simp)] at e; cases e)
    have hM : Mod K mg (hidT s₁.heap H) := ⟨hKb, nsK hns, ⟨mb, nsK hb, hbb⟩, let ⟨mc, h1, h2⟩ := hlim; ⟨mc, nsK h1, h2⟩⟩
    have e0 : Env0 P w K mg (hidT s₁.heap H) callerA [] s₁ H := ⟨rfl, hM, fun b o e => of_hidT e, Nat.le_of_eq (hidT_size _ _), trivial, fun b hb => absurd (show b ∈ ([] : List Addr) from hb) (by simp), hok, .of_eq hg⟩
    refine codeAny_mono ((F _ hKb (nsK hns)).run callerA [] s₁ H ⟨[.ref a], []⟩ [.ref a] [.ref a] _ _ hr e0 (hbind s₁ (.ref a)) (.cons rfl .nil) (hsp H hO hS)) fun r s' h => ?_
    cases r with
    | error e => exact (hCX H e s' h).elim
    | ok fl =>
      cases fl with
      | next => exact False.elim h
      | brk => exact False.elim h
      | cont => exact False.elim h
      | ret u =>
        obtain ⟨v, H', os, bare, un, hok', r', q⟩ := h
        have q' : v = .bl true := q
        subst q'
        obtain rfl : u = Value.bool true := r'
        refine ⟨rfl, OldK.of_keep fun b o e => ?_, os, bare⟩
        cases q : H b with
        | none => exact un.keep b o e q (by intro z; exact absurd (show b ∈ ([] : List Addr) from z) (by simp)) (by simp)
        | some u =>
          rcases hO b with z | ⟨ob, xs, z⟩
          · rw [q] at z; cases z
          · have z2 := un.frzs b ob _ z
            obtain ⟨e1, _⟩ := hok b _ z
            obtain ⟨e2, _⟩ := hok' b _ z2
            rw [e] at e1; cases e1
            exact e2
  cases hk : K.lookup a with
  | some o =>
    -- the script is one of the module's own objects
    have e := KX a o hk
    rw [ha] at e
    cases e
    refine core (fun _ => none) (fun _ => .inl rfl) (.inr ⟨_, vs.toArray, _, hk, rfl, rfl, rfl, by rw [List.size_toArray, lenV]; exact hl, by simpa using rv⟩) (fun b u z => by have z' : (none : Option HO) = some u := z; cases z') (fun b z => absurd rfl z) fun z => absurd rfl z
  | none =>
    refine core (fun b => if b = a then some (.frz { cls := .type "list", data := .seq vs.toArray } (.lst (ns.map V.int))) else none) (fun b => ?_) (.inl (.inr ⟨{ cls := .type "list", data := .seq vs.toArray }, if_pos rfl⟩)) (fun b u z => ?_) (fun b z => ?_) fun _ => hk
    · by_cases hb : b = a
      · exact .inr ⟨_, _, if_pos hb⟩
      · exact .inl (if_neg hb)
    · by_cases hb : b = a
      · have z' := (if_pos hb).symm.trans z
        cases z'
        subst hb
        exact ⟨ha, by rw [List.length_map]; exact hl, vs, _, rv, ha⟩
      · have z' := (if_neg hb).symm.trans z
        cases z'
    · by_cases hb : b = a
      · exact hb
      · exact absurd (if_neg hb) z
end L2

namespace L2
open PySem PySem.Spec PyProof.Rows

abbrev KOf {K : PySem.W.Frag} {h : Heap} (_ : K.In h) : PySem.W.Frag := K

theorem walk_of {l : PySem.W.OpenLaw} {n k : Nat} {q : Program} {loose : List Str} {XP : (Str → Option Value) → Heap → Prop} {YP : World → Heap → Prop} {d : DefRec} {K : Params → PySem.W.Frag} {CX : World → CXT} {sp : World → Sp} {x : Str}
    (hn : l.most = some n) (hn2 : n ≤ sizeLine) (hdf : d.params.defaults = []) (hr : Room k callerA)
    (hY : ∀ (w : World) (h : Heap), YP w h → (K w.params).In h)
    (F : ∀ (w : World) (mg : Str → Option Value) (fa : Addr) (h : Heap), (K w.params).In h → h.Ns mainGlobals mg → mg d.name = some (.ref fa) →
      ∃ fd : FuncData, (∀ (s : Shared) (u : Value), BindsTo s fd ⟨[u], []⟩ [(x, u)]) ∧
        ∀ base : Heap, (K w.params).In base → base.Ns mainGlobals mg → FnOk l.prog w (K w.params) mg base (CX w) k fa fd [x] (sp w))
    (hsp : ∀ (w : World) (H : Hp) (a : Addr) (ns : List Int), ns.length ≤ n → Only H → SqL (K w.params) H a (ns.map V.int) → sp w [.ref a] H (fun v _ => v = .bl true) fun _ _ _ => False)
    (hCX : ∀ (w : World) (H : Hp) (s : Shared) (e : Value) (s' : Shared), CX w [] H s (fun _ _ _ => False) e s' → False) :
    PySem.W.WalkO q loose XP YP l.row.toRowW d [] (fun f vs => PySem.call f vs) := by
  refine Att.attach_call hn hdf fun w s₀ s₁ mg mb fa o pm cd doc a vs ns G Y ho hd hcd hmg hobj hints hlen hg => ?_
  have KX := hY w _ Y
  obtain ⟨fd, hb, hF⟩ := F w mg fa _ KX G.T.g hmg
  exact law_call KX G.T.g G.T.b G.T.builtins G.T.nolimit hg hobj hints (Nat.le_trans hlen hn2) hr hF hb (fun H hO hS => hsp w H a ns hlen hO hS) fun H e s' => hCX w H s₁ e s'
end L2



namespace L2
open PySem PySem.Spec PyProof.Rows

def inClass (s : Stmt) (j : Nat) : Stmt := match s with
  | .ClassDef _ _ _ body _ _ _ _ _ _ _ => body.getD j (.Pass ⟨0, 0, 0, 0⟩)
  | _ => .Pass ⟨0, 0, 0, 0⟩
def defArgs (s : Stmt) : Arguments := match s with
  | .FunctionDef _ a _ _ _ _ _ _ _ _ => a
  | _ => { posonlyargs := [], args := [], vararg := none, kwonlyargs := [], kw_defaults := [], kwarg := none, defaults := [] }
def defBody (s : Stmt) : List Stmt := match s with
  | .FunctionDef _ _ b _ _ _ _ _ _ _ => b
  | _ => []
def defScope (s : Stmt) : Scope := match s with
  | .FunctionDef _ _ _ _ _ _ sc _ _ _ => sc
  | _ => { kind := .function, names := [], isGenerator := false, isCoroutine := false }

abbrev CX0 : CXT := fun _ _ _ _ _ _ => False
abbrev E0 : XK := fun _ _ _ => False
theorem pass0 {X : Cx} : Passes CX0 X E0 := fun _ _ _ _ _ _ _ h => h.elim

structure Fun (K : PySem.W.Frag) (x qual : Str) (st : Stmt) (f : Addr) (fd : FuncData) : Prop where
  ex : ∃ (oc : Value) (od : Option Addr) (kV doc pm : Value) (an : Option Addr) (cdv ct : Value) (osl : Array (Option Value)),
    fd = PySem.W.fnOf x qual (defArgs st) (defBody st) (defScope st) .none kV doc pm an cdv ct ∧ K.lookup f = some ⟨oc, od, .func fd, osl⟩ ∧ PySem.W.codeIn K cdv qual = true
  kp : PySem.W.keepIn K (.ref f) = true
section
variable {P : Program} {w : World} {K : PySem.W.Frag} {mg : Str → Option Value} {base : Heap}
theorem Fun.ok {x qual : Str} {st : Stmt} {f : Addr} {fd : FuncData} {N ps : List Str} {k : Nat} {sp : Sp} (F : Fun K x qual st f fd) (S : FnScope N ps (defScope st)) (len : ∀ vs H Q E, sp vs H Q E → vs.length = ps.length)
    (hbody : ∀ (cdv : Value) (A : Around) (outer : List Env) (s : Shared) (H : Hp) (vs : List V) (Q : VK) (E : XK), Room k (A.deeper (envOfC qual (defScope st) s.heap.objs.size f cdv)) → sp vs H Q E →
      ∃ t, PSs (cxOf CX0 P w K mg base N qual (defScope st) f cdv A outer s H E).nox (defBody st) t ∧ t { nx := fun _ H' => Q .non H', rt := Q } (start N vs) H) : FnOk P w K mg base CX0 (k + 1) f fd ps sp := by
  obtain ⟨oc, od, kV, doc, pm, an, cdv, ct, osl, rfl, lk, hcd⟩ := F.ex
  refine fn_of lk hcd S len fun A outer s H vs Q E hr hsp => ?_
  obtain ⟨t, h, q⟩ := hbody cdv A outer s H vs Q E hr hsp
  exact ⟨t, h.nox, q⟩
theorem fun_mk {x qual : Str} {st : Stmt} {f : Addr} {oc : Value} {od an : Option Addr} {osl : Array (Option Value)} {kV doc pm cdv ct : Value} (l : K.lookup f = some ⟨oc, od, .func (PySem.W.fnOf x qual (defArgs st) (defBody st) (defScope st) .none kV doc pm an cdv ct), osl⟩)
    (c : PySem.W.codeIn K cdv qual = true) (k : PySem.W.keepIn K (.ref f) = true) : Fun K x qual st f (PySem.W.fnOf x qual (defArgs st) (defBody st) (defScope st) .none kV doc pm an cdv ct) := ⟨⟨oc, od, kV, doc, pm, an, cdv, ct, osl, rfl, l, c⟩, k⟩
end
section
variable {X : Cx}
theorem pv (i : Nat) {x : Str} {pos : Pos} (hN : X.N[i]? = some x := by rfl) (hv : Vis X.env.scope x := by first | exact Or.inl rfl | exact Or.inr (Or.inl rfl) | exact Or.inr (Or.inr rfl)) (hd : (x == ("__debug__" : Str)) = false := by decide)
    (hcd : (x == ("__classdict__" : Str)) = false := by decide) : PE X (.Name x pos) (tVar i) := pe_var hN hv hd hcd
end

theorem iteF {A B : Prop} (h : B) : if false = true then A else B := by
  rw [if_neg Bool.false_ne_true]
  exact h
theorem iteT {A B : Prop} (h : A) : if true = true then A else B := by
  rw [if_pos rfl]
  exact h
theorem ite2 {c A B : Prop} [Decidable c] (h1 : c → A) (h2 : ¬ c → B) : if c then A else B := by
  by_cases h : c
  · rw [if_pos h]
    exact h1 h
  · rw [if_neg h]
    exact h2 h
def Same (H H' : Hp) : Prop := ∀ b o, H b = some o → H' b = some o
theorem Same.refl (H : Hp) : Same H H := fun _ _ h => h
theorem Same.trans {H H1 H2 : Hp} (a : Same H H1) (b : Same H1 H2) : Same H H2 := fun c o h => b c o (a c o h)
theorem Same.free {H H' : Hp} (e : Same H H') {l : Addr} (h : H' l = Option.none) : H l = Option.none := by
  cases q : H l with
  | none => rfl
  | some o =>
    rw [e l o q] at h
    cases h
theorem Same.seq {K : PySem.W.Frag} {H H' : Hp} {a : Addr} {xs : List V} (e : Same H H') (h : SqL K H a xs) : SqL K H' a xs := by
  rcases h with (h | ⟨o, h⟩) | h
  · exact .inl (.inl (e _ _ h))
  · exact .inl (.inr ⟨o, e _ _ h⟩)
  · exact .inr h

section
variable {prog : Program} {w : World} {A : Around} {R : Result → Shared → Prop} {s : Shared}
theorem comp_loop {elt target iter : Expr} {ifs : List Expr} {scope : Scope} {pos : Pos} {it acc : Value} {env : Env} (I : Nat → Shared → Prop)
    (turn : ∀ n s, I n s → wpAny (model prog w) A (pyNext it) (fun r s1 => match r with
      | none => R (.ok .next) s1
      | some v => wpAny (model prog w) A (letOwnedTupleGo target it v) (fun _ s2 => wpAny (model prog w) A (assign target env v) (fun _ s3 =>
          wpAny (model prog w) A (forIn ifs true fun c r => if r = true then do let ok ← isTrue c env (eval c env); pure (ForInStep.yield ok) else pure (ForInStep.yield r)) (fun ok s4 =>
            if ok = true then wpAny (model prog w) A (eval elt env) (fun x s5 =>
              wpAny (model prog w) A (call (.builtin "list.append") [acc, x]) (fun _ s6 => ∃ m, m < n ∧ I m s6) (notedBy (model prog w) A env fun e s' => R (.error e) s') s5) (notedBy (model prog w) A env fun e s' => R (.error e) s') s4
            else ∃ m, m < n ∧ I m s4) (notedBy (model prog w) A env fun e s' => R (.error e) s') s3) (notedBy (model prog w) A env fun e s' => R (.error e) s') s2) (notedBy (model prog w) A env fun e s' => R (.error e) s') s1)
        (notedBy (model prog w) A env fun e s' => R (.error e) s') s)
    (n : Nat) (h : I n s) :
    codeAny (model prog w) A (.compLoop (.ListComp elt [⟨target, iter, ifs, 0⟩] scope pos) 0 it acc env) R s := by
  refine codeAny_loop rfl I (fun n s hI => ?_) n h
  show wpAny _ A ((compTurn (.ListComp elt [⟨target, iter, ifs, 0⟩] scope pos) 0 it acc env).onRaise (fun x => do noteFrame x env; theTreesLotGoes x)) _ _ s
  refine wpAny_noted ?_
  rw [compTurn_list]
  refine wpAny_bind (wpAny_standAt (wpAny_bind (wpAny_mono (turn n s hI) (fun r s1 h1 => ?_) fun _ _ h' => h')))
  cases r with
  | none => exact wpAny_pure h1
  | some v =>
    refine wpAny_bind (wpAny_mono h1 (fun _ s2 h2 => ?_) fun _ _ h' => h')
    refine wpAny_bind (wpAny_mono h2 (fun _ s3 h3 => wpAny_bind (wpAny_mono h3 (fun ok s4 h4 => ?_) fun _ _ h' => h')) fun _ _ h' => h')
    cases ok with
    | false => exact wpAny_pure ⟨rfl, h4⟩
    | true =>
      exact wpAny_bind (wpAny_bind (wpAny_mono h4 (fun x s5 h5 => wpAny_bind (wpAny_mono h5 (fun _ s6 h6 => wpAny_pure (wpAny_pure ⟨rfl, h6⟩)) fun _ _ h' => h')) fun _ _ h' => h'))
end

def clOf (cells : List (Str × Addr)) : List (Str × NameKind) → List (Str × Addr) → List (Str × Addr)
  | [], acc => acc
  | (n, k) :: r, acc => if k == .free then (match cells.lookup n with
      | some a => clOf cells r ((n, a) :: acc)
      | none => clOf cells r acc) else clOf cells r acc
theorem clos_go {env : Env} : ∀ (names : List (Str × NameKind)) (acc : List (Str × Addr)), (∀ y ∈ names, y.2 = .free → ∃ a, env.cells.lookup y.1 = some a) →
    (forIn names acc fun (x : Str × NameKind) r => (if x.2 == .free then do let a ← cellOf env x.1; pure (ForInStep.yield ((x.1, a) :: r)) else pure (ForInStep.yield r) : Sem (ForInStep (List (Str × Addr))))) = pure (clOf env.cells names acc)
  | [], acc, _ => rfl
  | (n, k) :: r, acc, h => by
    rw [List.forIn_cons]
    have ih := fun acc => clos_go r acc fun y hy => h y (List.mem_cons_of_mem _ hy)
    by_cases hk : k = .free
    · subst hk
      obtain ⟨a, e⟩ := h (n, .free) List.mem_cons_self rfl
      have e : env.cells.lookup n = some a := e
      simp only [beq_self_eq_true, if_true, cellOf, e, clOf, pure_bind]
      exact ih _
    · have hb : (k == NameKind.free) = false := by simpa using hk
      simp only [hb, Bool.false_eq_true, if_false, clOf, pure_bind]
      exact ih _
theorem clos_ok {env : Env} {scope : Scope} (h : ∀ y ∈ scope.names, y.2 = .free → ∃ a, env.cells.lookup y.1 = some a) : closureFor scope env = pure (clOf env.cells scope.names []) := by
  unfold closureFor
  have e := clos_go (env := env) scope.names [] h
  simp only [bind_pure]
  exact e
theorem clOf_sub {cells : List (Str × Addr)} {x : Str} {c : Addr} : ∀ (names : List (Str × NameKind)) (acc : List (Str × Addr)), (∀ y b, (y, b) ∈ acc → cells.lookup y = some b) → (x, c) ∈ clOf cells names acc → cells.lookup x = some c
  | [], acc, ha, hm => ha x c hm
  | (n, k) :: r, acc, ha, hm => by
    unfold clOf at hm
    split at hm
    · split at hm
      · rename_i a e
        refine clOf_sub r _ (fun y b hb => ?_) hm
        rcases List.mem_cons.mp hb with q | q
        · cases q; exact e
        · exact ha y b q
      · exact clOf_sub r _ ha hm
    · exact clOf_sub r _ ha hm
theorem lookup_mem {x : Str} {c : Addr} {l : List (Str × Addr)} (h : l.lookup x = some c) : (x, c) ∈ l := PySem.mem_of_lookup h
theorem clOf_in {cells : List (Str × Addr)} {x : Str} {c : Addr} (hx : cells.lookup x = some c) : ∀ (names : List (Str × NameKind)) (acc : List (Str × Addr)), ((x, NameKind.free) ∈ names ∨ (x, c) ∈ acc) → (x, c) ∈ clOf cells names acc
  | [], acc, hm => by
    rcases hm with q | q
    · exact absurd q (by simp)
    · exact q
  | (n, k) :: r, acc, hm => by
    unfold clOf
    by_cases hk : k = .free
    · subst hk
      simp only [beq_self_eq_true, if_true]
      split
      · rename_i a e
        refine clOf_in hx r _ ?_
        rcases hm with q | q
        · rcases List.mem_cons.mp q with q | q
          · cases q
            rw [hx] at e; cases e
            exact .inr List.mem_cons_self
          · exact .inl q
        · exact .inr (List.mem_cons_of_mem _ q)
      · rename_i e
        refine clOf_in hx r _ ?_
        rcases hm with q | q
        · rcases List.mem_cons.mp q with q | q
          · cases q
            rw [hx] at e; cases e
          · exact .inl q
        · exact .inr q
    · have hb : (k == NameKind.free) = false := by simpa using hk
      simp only [hb, Bool.false_eq_true, if_false]
      refine clOf_in hx r _ ?_
      rcases hm with q | q
      · rcases List.mem_cons.mp q with q | q
        · cases q; exact absurd rfl hk
        · exact .inl q
      · exact .inr q
theorem lookup_of_mem {x : Str} {c : Addr} : ∀ {l : List (Str × Addr)}, (x, c) ∈ l → ∃ d, l.lookup x = some d ∧ (x, d) ∈ l
  | [], h => absurd h (by simp)
  | (y, b) :: r, h => by
    by_cases e : x = y
    · subst e
      exact ⟨b, by simp, List.mem_cons_self⟩
    · rcases List.mem_cons.mp h with q | q
      · cases q; exact absurd rfl e
      · obtain ⟨d, e1, e2⟩ := lookup_of_mem q
        refine ⟨d, ?_, List.mem_cons_of_mem _ e2⟩
        rw [List.lookup_cons]
        have : (x == y) = false := by simpa using e
        rw [this]
        exact e1
theorem clOf_lookup {cells : List (Str × Addr)} {names : List (Str × NameKind)} {x : Str} {c : Addr} (hf : (x, NameKind.free) ∈ names) (hx : cells.lookup x = some c) : (clOf cells names []).lookup x = some c := by
  obtain ⟨d, e1, e2⟩ := lookup_of_mem (clOf_in hx names [] (.inl hf))
  have e3 := clOf_sub names [] (fun _ _ h => absurd h (by simp)) e2
  rw [hx] at e3; cases e3
  exact e1
theorem clOf_back {cells : List (Str × Addr)} {names : List (Str × NameKind)} {x : Str} {c : Addr} (h : (clOf cells names []).lookup x = some c) : cells.lookup x = some c :=
  clOf_sub names [] (fun _ _ h => absurd h (by simp)) (lookup_mem h)
theorem relab_free {env : Env} : ∀ {names : List (Str × NameKind)} {x : Str}, names.lookup x = some .free →
    (names.map fun (n, k) => if (k == NameKind.free && env.scope.kind == .function && env.kindOf n == some .cell) then (n, NameKind.cell) else (n, k)).lookup x = some .cell ∨
    (names.map fun (n, k) => if (k == NameKind.free && env.scope.kind == .function && env.kindOf n == some .cell) then (n, NameKind.cell) else (n, k)).lookup x = some .free
  | [], _, h => by simp at h
  | (n, k) :: r, x, h => by
    have ih := @relab_free env r x
    rw [List.map_cons]
    cases hx : x == n with
    | true =>
      simp only [List.lookup_cons, hx] at h
      cases h
      dsimp only
      by_cases hc : (NameKind.free == NameKind.free && env.scope.kind == .function && env.kindOf n == some .cell) = true
      · rw [if_pos hc]; simp [List.lookup_cons, hx]
      · rw [if_neg hc]; simp [List.lookup_cons, hx]
    | false =>
      simp only [List.lookup_cons, hx] at h
      dsimp only
      by_cases hc : (k == NameKind.free && env.scope.kind == .function && env.kindOf n == some .cell) = true
      · rw [if_pos hc]; simp only [List.lookup_cons, hx]; exact ih h
      · rw [if_neg hc]; simp only [List.lookup_cons, hx]; exact ih h
theorem relab_back {env : Env} : ∀ {names : List (Str × NameKind)} {x : Str}, (∀ y ∈ names, y.2 ≠ .cell) →
    ((names.map fun (n, k) => if (k == NameKind.free && env.scope.kind == .function && env.kindOf n == some .cell) then (n, NameKind.cell) else (n, k)).lookup x = some .cell ∨
    (names.map fun (n, k) => if (k == NameKind.free && env.scope.kind == .function && env.kindOf n == some .cell) then (n, NameKind.cell) else (n, k)).lookup x = some .free) → names.lookup x = some .free
  | [], _, _, h => by simp at h
  | (n, k) :: r, x, hn, h => by
    have ih := @relab_back env r x fun y hy => hn y (List.mem_cons_of_mem _ hy)
    rw [List.map_cons] at h
    dsimp only at h
    have hk : k ≠ .cell := hn (n, k) List.mem_cons_self
    cases hx : x == n with
    | true =>
      by_cases hc : (k == NameKind.free && env.scope.kind == .function && env.kindOf n == some .cell) = true
      · simp only [Bool.and_eq_true, beq_iff_eq] at hc
        obtain ⟨⟨hc, _⟩, _⟩ := hc
        subst hc
        simp only [List.lookup_cons, hx]
      · rw [if_neg hc] at h
        simp only [List.lookup_cons, hx] at h ⊢
        rcases h with h | h
        · cases h; exact absurd rfl hk
        · exact h
    | false =>
      by_cases hc : (k == NameKind.free && env.scope.kind == .function && env.kindOf n == some .cell) = true
      · rw [if_pos hc] at h
        simp only [List.lookup_cons, hx] at h ⊢
        exact ih h
      · rw [if_neg hc] at h
        simp only [List.lookup_cons, hx] at h ⊢
        exact ih h

structure CompSc (scope sc : Scope) (N0 xs ys : List Str) (js : List Nat) : Prop where
  kind : scope.kind = .function
  nocell : ∀ y ∈ scope.names, y.2 ≠ .cell
  loc : ∀ y ∈ scope.names, y.2 = .local → scope.names.lookup y.1 = some .local
  fr : ∀ y ∈ scope.names, y.2 = .free → sc.names.lookup y.1 = some .cell ∨ sc.names.lookup y.1 = some .free
  cap : ys.length = js.length ∧ ∀ p ∈ ys.zip js, N0[p.2]? = some p.1 ∧ scope.names.lookup p.1 = some .free ∧ (p.1, NameKind.free) ∈ scope.names ∧ (sc.names.lookup p.1 = some .cell ∨ sc.names.lookup p.1 = some .free)
def sigC (k : Nat) (js : List Nat) (σ : St) : St := List.replicate k none ++ js.map fun j => (σ[j]?).join
def cxC (X : Cx) (N : List Str) (scope : Scope) (C : Addr) (s2 : Shared) (H2 : Hp) (fp : List Addr) : Cx where
  prog := X.prog
  w := X.w
  K := X.K
  mg := X.mg
  base := X.base
  A := X.A
  N := N
  s₀ := s2
  H₀ := H2
  env := compEnvC scope (clOf X.env.cells scope.names []) C X.env
  outer := X.stack
  stack := X.stack
  ex := fp
  fn := fun _ => false
  calm := X.calm
  pn := []
  xe := fun _ _ => False
section
variable {X : Cx} {pins : List (Addr × Obj)} {σ : St} {H : Hp} {s2 : Shared} {scope sc : Scope} {N0 xs ys : List Str} {js : List Nat} {C D : Addr} {fp : List Addr} {h1 : Heap} {tk : Nat}
theorem fp_stk {b : Addr} (I : Inv X pins σ H s2) (f : FpOk X pins H b) : b ∉ frs X.stack := fun hb => by
  rcases List.mem_cons.mp (I.stkSub b hb) with e | e
  · exact f.2.1 e
  · exact f.2.2.1 e
theorem cxC_ok (I : Inv X pins σ H s2) (CS : CompSc scope sc N0 xs ys js) (hsc : X.env.scope = sc) (hC : s2.heap.objs.size ≤ C) (f : ∀ b ∈ fp, FpOk X pins H b) (fl : ∀ b ∈ fp, b < s2.heap.objs.size) :
    (cxC X (xs ++ ys) scope C s2 H fp).Ok where
  mod := I.ok.mod
  kind := CS.kind
  glob := I.ok.glob
  blt := I.ok.blt
  above := hC
  inj := fun x y c e1 e2 => I.ok.inj x y c (clOf_back e1) (clOf_back e2)
  has := fun x hx => by
    have hx : (relabel scope X.env).names.lookup x = some .cell ∨ (relabel scope X.env).names.lookup x = some .free := hx
    have q := relab_back (env := X.env) CS.nocell hx
    have m := PySem.mem_of_lookup q
    have hk := CS.fr _ m rfl
    rw [← hsc] at hk
    obtain ⟨c, e⟩ := I.ok.has x hk
    exact ⟨c, clOf_lookup m e⟩
  cab := fun x c e _ => by cases e
  hd := I.ok.hd
  frames := I.ok.frames
  stk := .inl rfl
  exf := fun b hb => ⟨Nat.ne_of_lt (Nat.lt_of_lt_of_le (fl b hb) hC), fun x c e => (f b hb).2.2.2.2.1 x c (clOf_back e)⟩
  bs := I.bs
  bsz := Nat.le_trans I.ok.bsz I.sz
  noex := fun b o e hb => by
    rcases (f b hb).2.2.2.1 with q | q
    · exact I.ok.noex b o e q
    · exact absurd (Nat.lt_of_lt_of_le (Heap.lt_size e) (Nat.le_trans I.ok.bsz q)) (Nat.lt_irrefl _)
  exfs := fun b hb => fp_stk I (f b hb)
  funs := I.stack
  frf := I.stkFree
theorem inv_comp {oD : Obj} (I : Inv X pins σ H s2) (CS : CompSc scope sc N0 xs ys js) (hsc : X.env.scope = sc) (hN : X.N = N0) (f : ∀ b ∈ fp, FpOk X pins H b) (fl : ∀ b ∈ fp, b < s2.heap.objs.size)
    (hC : s2.heap.objs.size ≤ C) (hD : s2.heap.objs.size ≤ D) (hDC : D ≠ C) {m : Str → Option Value} (hns : h1.Ns C m) (old : ∀ b o, s2.heap.get? b = some o → h1.get? b = some o) (hacc : h1.get? D = some oD) (hod : ∀ v, oD.data ≠ .cell v) :
    Inv (cxC X (xs ++ ys) scope C s2 H fp) [(D, oD)] (sigC xs.length js σ) H { s2 with heap := h1, toks := tk } where
  ok := cxC_ok I CS hsc hC f fl
  os := rfl
  bare := I.bare
  base := Un.kept old
  loc := by
    refine ⟨m, hns, fun i x v e1 e2 e3 => ?_⟩
    have e1 : (xs ++ ys)[i]? = some x := e1
    have hi : xs.length ≤ i := by
      refine Nat.le_of_not_lt fun q => ?_
      unfold sigC at e2
      rw [List.getElem?_append_left (by simpa using q), List.getElem?_replicate, if_pos q] at e2
      cases e2
    rw [List.getElem?_append_right hi] at e1
    unfold sigC at e2
    rw [List.getElem?_append_right (by simpa using hi), List.length_replicate, List.getElem?_map] at e2
    obtain ⟨j, ej⟩ : ∃ j, js[i - xs.length]? = some j := by
      cases e : js[i - xs.length]? with
      | none => rw [e] at e2; cases e2
      | some j => exact ⟨j, rfl⟩
    rw [ej] at e2
    have e2 : (σ[j]?).join = some v := Option.some.inj e2
    have e2' : σ[j]? = some (some v) := by
      cases e : σ[j]? with
      | none => rw [e] at e2; cases e2
      | some o => rw [e] at e2; exact congrArg some e2
    have hz : (x, j) ∈ ys.zip js := by
      have : (ys.zip js)[i - xs.length]? = some (x, j) := by rw [List.getElem?_zip_eq_some]; exact ⟨e1, ej⟩
      exact List.mem_of_getElem? this
    obtain ⟨c1, c2, c3, c4⟩ := CS.cap.2 _ hz
    have c1 : N0[j]? = some x := c1
    have c4' : X.env.kindOf x = some .cell ∨ X.env.kindOf x = some .free := by
      show X.env.scope.names.lookup x = some .cell ∨ X.env.scope.names.lookup x = some .free
      rw [hsc]; exact c4
    obtain ⟨m0, hn0, hl0⟩ := I.loc
    obtain ⟨u, ru, lu⟩ := hl0 j x v (by rw [hN]; exact c1) e2' (.inr c4')
    refine ⟨u, ru, .inr ⟨?_, ?_⟩⟩
    · exact relab_free c2
    · rcases lu with ⟨k, _⟩ | ⟨_, c, ec, hc⟩
      · rcases c4' with z | z <;> (rw [k] at z; cases z)
      · refine ⟨c, clOf_lookup c3 ec, ?_⟩
        obtain ⟨o, ho, hd⟩ := hc
        exact ⟨o, old _ _ ho, hd⟩
  cell := fun x c e => by
    obtain ⟨v, o, ho, hd⟩ := I.cell x c (clOf_back e)
    exact ⟨v, o, old _ _ ho, hd⟩
  free := I.hok.fresh hC
  freeC := fun x c e => I.freeC x c (clOf_back e)
  pin := fun p hp => by
    have hp : p ∈ ([] : List (Addr × Obj)) ++ [(D, oD)] := hp
    have e : p = (D, oD) := by simpa using hp
    subst e
    refine ⟨hacc, I.hok.fresh hD, hDC, fun hb => ?_, hod⟩
    obtain ⟨_, o, ho, _⟩ := I.stack.mem (show D ∈ frs X.stack from hb)
    exact absurd (Nat.lt_of_lt_of_le (Heap.lt_size ho) hD) (Nat.lt_irrefl _)
  hok := I.hok.kept old
  len := by
    unfold sigC
    show _ = (xs ++ ys).length
    rw [List.length_append, List.length_append, List.length_replicate, List.length_map, CS.cap.1]
end

theorem inv_reset {X : Cx} {pins pp : List (Addr × Obj)} {σ σ' : St} {H H' : Hp} {s2 s' : Shared} {scope sc : Scope} {N0 xs ys : List Str} {js : List Nat} {C : Addr} {fp : List Addr} (I : Inv X pins σ H s2) (CS : CompSc scope sc N0 xs ys js) (hsc : X.env.scope = sc) (hN : X.N = N0)
    (f : ∀ b ∈ fp, FpOk X pins H b) (J : Inv (cxC X (xs ++ ys) scope C s2 H fp) pp σ' H' s') : Inv (cxC X (xs ++ ys) scope C s2 H fp) pp (sigC xs.length js σ) H' s' where
  ok := J.ok
  os := J.os
  bare := J.bare
  base := J.base
  loc := by
    obtain ⟨m, hns, _⟩ := J.loc
    refine ⟨m, hns, fun i x v e1 e2 e3 => ?_⟩
    have e1 : (xs ++ ys)[i]? = some x := e1
    have hi : xs.length ≤ i := by
      refine Nat.le_of_not_lt fun q => ?_
      unfold sigC at e2
      rw [List.getElem?_append_left (by simpa using q), List.getElem?_replicate, if_pos q] at e2
      cases e2
    rw [List.getElem?_append_right hi] at e1
    unfold sigC at e2
    rw [List.getElem?_append_right (by simpa using hi), List.length_replicate, List.getElem?_map] at e2
    obtain ⟨j, ej⟩ : ∃ j, js[i - xs.length]? = some j := by
      cases e : js[i - xs.length]? with
      | none => rw [e] at e2; cases e2
      | some j => exact ⟨j, rfl⟩
    rw [ej] at e2
    have e2 : (σ[j]?).join = some v := Option.some.inj e2
    have e2' : σ[j]? = some (some v) := by
      cases e : σ[j]? with
      | none => rw [e] at e2; cases e2
      | some o => rw [e] at e2; exact congrArg some e2
    have hz : (x, j) ∈ ys.zip js := by
      have : (ys.zip js)[i - xs.length]? = some (x, j) := by rw [List.getElem?_zip_eq_some]; exact ⟨e1, ej⟩
      exact List.mem_of_getElem? this
    obtain ⟨c1, c2, c3, c4⟩ := CS.cap.2 _ hz
    have c1 : N0[j]? = some x := c1
    have c4' : X.env.kindOf x = some .cell ∨ X.env.kindOf x = some .free := by
      show X.env.scope.names.lookup x = some .cell ∨ X.env.scope.names.lookup x = some .free
      rw [hsc]; exact c4
    obtain ⟨m0, hn0, hl0⟩ := I.loc
    obtain ⟨u, ru, lu⟩ := hl0 j x v (by rw [hN]; exact c1) e2' (.inr c4')
    refine ⟨u, ru, .inr ⟨relab_free c2, ?_⟩⟩
    rcases lu with ⟨k, _⟩ | ⟨_, c, ec, hc⟩
    · rcases c4' with z | z <;> (rw [k] at z; cases z)
    · refine ⟨c, clOf_lookup c3 ec, ?_⟩
      obtain ⟨o, ho, hd⟩ := hc
      obtain ⟨sl, e⟩ := J.base.any ho (I.freeC x c ec) fun hb => (f c hb).2.2.2.2.1 x c ec rfl
      exact ⟨_, e, hd⟩
  cell := J.cell
  free := J.free
  freeC := J.freeC
  pin := J.pin
  hok := J.hok
  len := by
    unfold sigC
    show _ = (xs ++ ys).length
    rw [List.length_append, List.length_append, List.length_replicate, List.length_map, CS.cap.1]

def PQ (X : Cx) (ifs : List Expr) (t : TT) : Prop :=
  ∀ (pins : List (Addr × Obj)) (s : Shared) (σ : St) (H : Hp) (Q : Bool → Hp → Prop), Inv X pins σ H s → t σ H Q →
    wpAny (model X.prog X.w) X.A (forIn ifs true fun c r => if r = true then do let ok ← isTrue c X.env (eval c X.env); pure (ForInStep.yield ok) else pure (ForInStep.yield r)) (TP X pins σ Q) X.xe s
def tAlways : TT := fun _ H Q => Q true H
theorem pq_nil {X : Cx} : PQ X [] tAlways := fun _ _ _ H _ I h => wpAny_tests_nil ⟨H, I, h⟩
theorem pq_one {X : Cx} {c : Expr} {t : TT} (h : PT X c t) : PQ X [c] t := fun pins s σ H Q I hw => wpAny_tests_one (h pins s σ H Q I hw)

def compW (k : Nat) (js : List Nat) (g : TG) (tc : TT) (te : TE) (σ : St) (J : It) (H1 : Hp) (fin : List V → Hp → Prop) : Prop :=
  ∃ W : Nat → Nat → List V → Hp → Prop, (∃ m, W 0 m [] H1) ∧ ∀ i m ys H, W i m ys H →
    (J.stop i H ∧ ys.length ≤ sizeLine ∧ fin ys H) ∨
    (J.go i H ∧ ys.length < sizeLine ∧ ∃ N : List V → Hp → Prop, (∀ ys' H', N ys' H' → ∃ m', m' < m ∧ W (i + 1) m' ys' H') ∧ ∀ x H2, J.yld i H x H2 → g x (sigC k js σ) H2 fun σ2 H3 => tc σ2 H3 fun b H4 =>
      if b = true then te σ2 H4 fun y H5 => N (ys ++ [y]) H5 else N ys H4)
def tComp (k : Nat) (js : List Nat) (wi : TI) (g : TG) (tc : TT) (te : TE) : TE := fun σ H Q => wi σ H fun J H1 => compW k js g tc te σ J H1 fun ys H' => ∀ p, H' p = none → Q (.ref p) (upd H' p (.lst ys))

section
variable {X : Cx} {scope sc : Scope} {N0 xs ys : List Str} {js : List Nat} {elt tg iter : Expr} {ifs : List Expr} {pos : Pos} {wi : TI} {g : TG} {tc : TT} {te : TE}
theorem lst_push (its : List Value) (y : Value) : its.toArray.push y = (its ++ [y]).toArray := by simp
theorem comp_block {pins : List (Addr × Obj)} {σ : St} {H : Hp} {s2 : Shared} {it : Addr} {fp : List Addr} {tn : Nat → Heap → Prop} {J : It} {RR : Value → Addr → Result → Shared → Prop} {fin : List V → Hp → Prop} {E : Value → Shared → Prop}
    (CS : CompSc scope sc N0 xs ys js) (hsc : X.env.scope = sc) (hN : X.N = N0) (hc : X.calm = true)
    (I : Inv X pins σ H s2) (T : Turn X.prog X.w X.K tg J fp it tn) (t0 : tn 0 s2.heap) (f : ∀ b ∈ fp, FpOk X pins H b)
    (hg : ∀ C s2 H fp, PG (cxC X (xs ++ ys) scope C s2 H fp) tg g) (hq : ∀ C s2 H fp, PQ (cxC X (xs ++ ys) scope C s2 H fp) ifs tc) (he : ∀ C s2 H fp, PE (cxC X (xs ++ ys) scope C s2 H fp) elt te)
    (hw : compW xs.length js g tc te σ J H fin)
    (hR : ∀ (D C : Addr) (H' : Hp) (vs : List V) (s' : Shared), (∃ m, s'.heap.Ns C m) → Inv X pins σ (upd H' D (.lst vs)) s' → H' D = none → C ≠ D → H' C = none → C ≠ X.env.locals → X.s₀.heap.objs.size ≤ C → (∀ x c, X.env.cells.lookup x = some c → c ≠ C) → (∀ p ∈ X.pn ++ pins, p.1 ≠ C) → fin vs H' →
      RR (.ref D) C (.ok .next) s') :
    wpAny (model X.prog X.w) X.A (newList []) (fun acc s3 => wpAny (model X.prog X.w) X.A (newFunctionEnv scope X.env.globals (clOf X.env.cells scope.names []) [] X.env.qual none .none (some X.env)) (fun cenv s4 =>
      codeAny (model X.prog X.w) X.A (.compStart (.ListComp elt [⟨tg, iter, ifs, 0⟩] scope pos) 0 (.ref it) acc { cenv with scope := relabel scope X.env }) (RR acc cenv.locals) s4) E s3) E s2 := by
  obtain ⟨W, ⟨m0, w0⟩, turn⟩ := hw
  have fl : ∀ b ∈ fp, b < s2.heap.objs.size := fun b hb => by
    obtain ⟨o, e, _⟩ := T.obj 0 _ t0 b hb
    exact Heap.lt_size e
  refine wpAny_newObj_type (wpAny_newFunctionEnv CS.nocell (by intro y hy; simp at hy) (fun h1 hns1 hsb1 => ?_) CS.kind)
  dsimp only at hns1 hsb1 ⊢
  generalize hH2 : s2.heap.push { cls := .type "list", dict := none, data := .seq ([] : List Value).toArray } = H2 at hns1 hsb1 ⊢
  have hC : H2.objs.size = s2.heap.objs.size + 1 := by rw [← hH2, Heap.size_push]
  have hDC : s2.heap.objs.size ≠ H2.objs.size := by rw [hC]; exact Nat.ne_of_lt (Nat.lt_succ_self _)
  have hCle : s2.heap.objs.size ≤ H2.objs.size := by rw [hC]; exact Nat.le_succ _
  have below : ∀ b, b < s2.heap.objs.size → b ≠ H2.objs.size ∧ b ≠ s2.heap.objs.size := fun b hb => ⟨by rw [hC]; exact Nat.ne_of_lt (Nat.lt_succ_of_lt hb), Nat.ne_of_lt hb⟩
  have old : ∀ b o, s2.heap.get? b = some o → h1.get? b = some o := fun b o e => hsb1.extBut b o (below b (Heap.lt_size e)).1 (Heap.get?_push_of_some _ (hH2 ▸ Heap.get?_push_of_some _ e))
  have hacc : h1.get? s2.heap.objs.size = some { cls := .type "list", data := .seq ([] : List Value).toArray 0 } := hsb1.extBut _ _ hDC (Heap.get?_push_of_some _ (hH2 ▸ Heap.get?_push_size _ rfl))
  have t1 : tn 0 h1 := T.keep _ _ _ t0 fun b _ o e => old b o e
  have fC : ∀ {H' : Hp} {oD : Obj}, (∀ b ∈ fp, H' b = none) → ∀ b ∈ fp, FpOk (cxC X (xs ++ ys) scope H2.objs.size s2 H fp) [(s2.heap.objs.size, oD)] H' b := fun {H' oD} hn b hb =>
    ⟨hn b hb, (below b (fl b hb)).1, fp_stk I (f b hb), .inl hb, fun x c e => (f b hb).2.2.2.2.1 x c (clOf_back e), fun p hp => by
      have hp : p ∈ ([] : List (Addr × Obj)) ++ [(s2.heap.objs.size, oD)] := hp
      have e : p = (s2.heap.objs.size, oD) := by simpa using hp
      subst e
      exact Ne.symm (below b (fl b hb)).2⟩
  have loop : ∀ s3 : Shared, s3 = { s2 with heap := h1, toks := s2.toks + ([] : List (Str × Value)).length } →
      codeAny (model X.prog X.w) X.A (.compLoop (.ListComp elt [⟨tg, iter, ifs, 0⟩] scope pos) 0 (.ref it) (.ref s2.heap.objs.size) (compEnvC scope (clOf X.env.cells scope.names []) H2.objs.size X.env))
        (RR (.ref s2.heap.objs.size) H2.objs.size) s3 := by
    rintro s3 rfl
    refine comp_loop (fun k s' => ∃ (i : Nat) (vs : List V) (its : List Value) (n : Nat) (H' : Hp), Inv (cxC X (xs ++ ys) scope H2.objs.size s2 H fp) [(s2.heap.objs.size, { cls := .type "list", data := .seq its.toArray n })] (sigC xs.length js σ) H' s' ∧
      Vals vs its ∧ tn i s'.heap ∧ (∀ b ∈ fp, H' b = none) ∧ W i k vs H') ?_ m0 ⟨0, [], [], 0, H, ?_, .nil, t1, fun b hb => (f b hb).1, w0⟩
    · rintro k s3 ⟨i, vs, its, n, H3, I3, rv, t3, fr3, w3⟩
      have hno : ∀ (e : Value) (s' : Shared), False → notedBy (model X.prog X.w) X.A (compEnvC scope (clOf X.env.cells scope.names []) H2.objs.size X.env) (fun e s' => RR (.ref s2.heap.objs.size) H2.objs.size (.error e) s') e s' := fun _ _ z => z.elim
      rcases turn i k vs H3 w3 with ⟨stop, hz, fn⟩ | ⟨go, hz, N, hN', step⟩
      · refine wpAny_mono (T.done (cxC X (xs ++ ys) scope H2.objs.size s2 H fp) rfl rfl rfl hc i _ s3 _ H3 (fun _ _ => False) I3 (fC fr3) t3 stop) (fun r s4 ⟨hr, I4⟩ => ?_) hno
        subst hr
        have pD := I4.pin (s2.heap.objs.size, _) (List.mem_append_right _ List.mem_cons_self)
        obtain ⟨mC, hnC, _⟩ := I4.loc
        have u4 : Un (frs X.stack) fp H (upd H3 s2.heap.objs.size (.lst vs)) s2.heap s4.heap :=
          ⟨I4.base.keep, I4.base.slot, fun b o e n hb => by rw [upd_ne (below b (Heap.lt_size e)).2]; exact I4.base.free b o e n hb, I4.base.there,
            fun b x e => by rw [upd_ne (below b (I.hok.lt e)).2]; exact I4.base.tups b x e, fun b o x e => by rw [upd_ne (below b (I.hok.lt e)).2]; exact I4.base.frzs b o x e,
            fun b p e => by rw [upd_ne (below b (I.hok.lt e)).2]; exact I4.base.tbls b p e⟩
        have hk4 : HOk X.prog X.w (upd H3 s2.heap.objs.size (.lst vs)) s4.heap := fun b o e => by
          by_cases hb : b = s2.heap.objs.size
          · subst hb
            rw [upd_same] at e
            cases e
            exact ⟨hz, its, n, rv, pD.1⟩
          · rw [upd_ne hb] at e
            exact (I4.hok b o e).stay (fun _ _ _ q => q) (fun c q => by rw [upd_ne (ne_of_none q pD.2.1)]; exact q) fun c x q => by rw [upd_ne (ne_of_none q pD.2.1)]; exact q
        refine hR _ _ H3 vs s4 ⟨mC, hnC⟩ (I.call' I4.os u4 hk4 I4.bare fun b hb => ⟨(f b hb).2.2.2.1, (f b hb).2.1, (f b hb).2.2.2.2.1, (f b hb).2.2.2.2.2⟩) pD.2.1 (Ne.symm hDC) I4.free ?_ ?_ ?_ ?_ fn
        · exact Ne.symm (below _ I.lt).1
        · exact Nat.le_trans I.sz hCle
        · intro x c e
          obtain ⟨v, o, ho, _⟩ := I.cell x c e
          exact (below c (Heap.lt_size ho)).1
        · intro p hp
          exact (below p.1 (Heap.lt_size (I.pin p hp).1)).1
      · refine wpAny_mono (T.item (cxC X (xs ++ ys) scope H2.objs.size s2 H fp) rfl rfl rfl hc i _ s3 _ H3 (fun _ _ => False) I3 (fC fr3) t3 go) (fun r s4 ⟨u, hr, h4⟩ => ?_) hno
        subst hr
        refine wpAny_mono h4 (fun _ s5 ⟨x, H5, I5, r5, y5, t5, fr5⟩ => ?_) hno
        have I5' := I5.pinned (fC fr5) (T.obj _ _ t5)
        refine wpAny_mono (hg H2.objs.size s2 H fp _ s5 _ H5 x u _ I5' r5 (step x H5 y5)) (fun _ s6 ⟨σ6, H6, I6, q6⟩ => ?_) hno
        refine wpAny_mono (hq H2.objs.size s2 H fp _ s6 σ6 H6 _ I6 q6) (fun b s7 ⟨H7, I7, q7⟩ => ?_) hno
        have keepI : ∀ {σ' : St} {H' : Hp} {s' : Shared}, Inv (cxC X (xs ++ ys) scope H2.objs.size s2 H fp) ([(s2.heap.objs.size, { cls := .type "list", data := .seq its.toArray n })] ++ pinsAt fp s5.heap) σ' H' s' → tn (i + 1) s'.heap ∧ ∀ b ∈ fp, H' b = none := fun {σ' H' s'} J' =>
          ⟨T.keep _ _ _ t5 fun b hb o e => (J'.pin (b, o) (List.mem_append_right _ (List.mem_append_right _ (mem_pinsAt hb e)))).1, fun b hb => by
            obtain ⟨o, e, d⟩ := T.obj _ _ t5 b hb
            exact (J'.pin (b, o) (List.mem_append_right _ (List.mem_append_right _ (mem_pinsAt hb e)))).2.1⟩
        cases b with
        | false =>
          obtain ⟨m', hm, w7⟩ := hN' _ _ q7
          exact ⟨m', hm, i + 1, vs, its, n, H7, inv_reset I CS hsc hN f I7.unpinned, rv, (keepI I7).1, (keepI I7).2, w7⟩
        | true =>
          refine wpAny_mono (he H2.objs.size s2 H fp _ s7 σ6 H7 _ I7 q7) (fun y s8 ⟨yv, H8, I8, r8, n8⟩ => ?_) hno
          obtain ⟨m', hm, w8⟩ := hN' _ _ n8
          have pD := I8.pin (s2.heap.objs.size, _) (List.mem_append_right _ (List.mem_append_left _ List.mem_cons_self))
          refine append_at (hsz := by show its.toArray.size ≤ sizeLine; rw [List.size_toArray, ← rv.length]; exact Nat.le_of_lt hz) pD.1 fun h9 hs9 hD9 => ?_
          have hD9' : h9.get? s2.heap.objs.size = some { cls := .type "list", data := .seq (its ++ [y]).toArray (n + 1) } := by rw [hD9, lst_push]
          have J8 := inv_reset I CS hsc hN f I8.unpinned
          have hDf : s2.heap.objs.size ∉ fp := fun hb => Nat.lt_irrefl _ (fl _ hb)
          refine ⟨m', hm, i + 1, vs ++ [yv], its ++ [y], n + 1, H8, ?_, rv.append (.cons r8 .nil), T.keep _ _ _ (keepI I8).1 fun b hb o e => hs9.extBut b o (fun q => hDf (q ▸ hb)) e, (keepI I8).2, w8⟩
          -- the accumulator is another object now
          have J9 : Inv (cxC X (xs ++ ys) scope H2.objs.size s2 H fp) [] (sigC xs.length js σ) H8 s8 := J8.pins_of fun p hp => absurd hp (by simp)
          have J9' : Inv (cxC X (xs ++ ys) scope H2.objs.size s2 H fp) [] (sigC xs.length js σ) H8 { s8 with heap := h9, toks := s8.toks } := J9.turned (it := s2.heap.objs.size) (fun b o hb e => hs9.extBut b o hb e) pD.2.1 hDC (.inr (Nat.le_refl _))
            (fun x c e z => by
              obtain ⟨v, o, ho, _⟩ := I.cell x c (clOf_back e)
              exact (below c (Heap.lt_size ho)).2 z) (fun p hp => absurd (show p ∈ ([] : List (Addr × Obj)) ++ [] from hp) (by simp))
          refine J9'.pins_of fun p hp => ?_
          have e : p = (s2.heap.objs.size, { cls := .type "list", data := .seq (its ++ [y]).toArray (n + 1) }) := by simpa using hp
          subst e
          exact ⟨hD9', pD.2.1, hDC, pD.2.2.2.1, fun v z => by cases z⟩
    · exact inv_comp (fp := fp) I CS hsc hN f fl hCle (Nat.le_refl _) hDC hns1 old hacc (fun v z => by cases z)
  exact codeAny_compStart_list (loop _ rfl) (T.self X.A 0 _ _ _ t1 (loop _ rfl))

theorem comp_clos (ok : X.Ok) (CS : CompSc scope sc N0 xs ys js) (hsc : X.env.scope = sc) : closureFor scope X.env = pure (clOf X.env.cells scope.names []) := clos_ok fun y hy e => by
  have h := CS.fr y hy e
  rw [← hsc] at h
  exact ok.has y.1 h
theorem inv_gone {pins : List (Addr × Obj)} {σ : St} {H : Hp} {s : Shared} {C : Addr} {h' : Heap} (I : Inv X pins σ H s) (hn : H C = none) (hL : C ≠ X.env.locals) (h0 : X.s₀.heap.objs.size ≤ C) (hcl : ∀ x c, X.env.cells.lookup x = some c → c ≠ C) (hp : ∀ p ∈ X.pn ++ pins, p.1 ≠ C)
    (hs : Heap.SameBut C s.heap h') : Inv X pins σ H { s with heap := h' } := I.turned (t' := s.toks) (it := C) (fun b o hb e => hs.extBut b o hb e) hn hL (.inr h0) hcl hp
theorem pe_comp (CS : CompSc scope sc N0 xs ys js) (hc : X.calm = true) (hi : PI X tg iter wi) (hg : ∀ C s2 H fp, PG (cxC X (xs ++ ys) scope C s2 H fp) tg g) (hq : ∀ C s2 H fp, PQ (cxC X (xs ++ ys) scope C s2 H fp) ifs tc)
    (he : ∀ C s2 H fp, PE (cxC X (xs ++ ys) scope C s2 H fp) elt te) (hsc : X.env.scope = sc := by rfl) (hN : X.N = N0 := by rfl) (hs : ∀ x, foldedSetIterable iter X.env x = pure x := by intro _; rfl) :
    PE X (.ListComp elt [⟨tg, iter, ifs, 0⟩] scope pos) (tComp xs.length js wi g tc te) := by
  intro pins s σ H Q I h
  rw [eval_ListComp]
  refine wpAny_comprehension_free (use := none) rfl hs (comp_clos I.ok CS hsc) CS.kind CS.loc (thn (hi pins s σ H _ I h) fun v s1 h1 => thn h1 fun itv s2 h2 => ?_)
  obtain ⟨it, fp, tn, J, H2, e, I2, T, t2, f2, hw⟩ := h2
  subst e
  refine comp_block (RR := fun acc C => compPost (model X.prog X.w) X.A X.xe none (EP X pins σ Q) acc C) CS hsc hN hc I2 T t2 f2 hg hq he hw ?_
  intro D C H' vs s' hm I' hD hCD hC hL h0 hcl hp fn
  obtain ⟨m, hm⟩ := hm
  refine ⟨m, hm, fun h' hs' => ⟨.ref D, _, inv_gone I' (by rw [upd_ne hCD]; exact hC) hL h0 hcl hp hs', rfl, fn D hD⟩⟩
theorem ps_setComp {i : Nat} {y : Str} {py spos : Pos} (CS : CompSc scope sc N0 xs ys js) (hc : X.calm = true) (hNd : X.N.Nodup) (hiy : X.N[i]? = some y) (hy : X.env.scope.names.lookup y = some .local)
    (hi : PI X tg iter wi) (hg : ∀ C s2 H fp, PG (cxC X (xs ++ ys) scope C s2 H fp) tg g) (hq : ∀ C s2 H fp, PQ (cxC X (xs ++ ys) scope C s2 H fp) ifs tc)
    (he : ∀ C s2 H fp, PE (cxC X (xs ++ ys) scope C s2 H fp) elt te) (hsc : X.env.scope = sc := by rfl) (hN : X.N = N0 := by rfl) (hs : ∀ x, foldedSetIterable iter X.env x = pure x := by intro _; rfl)
    (hsw : swapsWith (.ListComp elt [⟨tg, iter, ifs, 0⟩] scope pos) (some (.Name y py)) spos.line X.env = pure true := by rfl) :
    PS X (.Assign [.Name y py] (.ListComp elt [⟨tg, iter, ifs, 0⟩] scope pos) spos) (tAsg (tComp xs.length js wi g tc te) (gName i)) := by
  intro pins s σ H Dn I h
  rw [exec_Assign_Name_used _ _ _ _ hsw]
  refine wpAny_bind (wpAny_standAt (wpAny_bind ?_))
  show wpAny _ X.A (do let _ ← comprehension (.ListComp elt [⟨tg, iter, ifs, 0⟩] scope pos) scope X.env _ (newList []) false (eval iter X.env) (some (assign (.Name y py) X.env))) _ _ s
  refine wpAny_bind (wpAny_mono (wpAny_comprehension_free (use := some (assign (.Name y py) X.env)) (Q := fun _ s' => SP X pins Dn .next s') rfl hs (comp_clos I.ok CS hsc) CS.kind CS.loc
    (thn (hi pins s σ H _ I h) fun v s1 h1 => thn h1 fun itv s2 h2 => ?_)) (fun _ s' hq => wpAny_pure (wpAny_pure hq)) fun _ _ e => e)
  obtain ⟨it, fp, tn, J, H2, e, I2, T, t2, f2, hw⟩ := h2
  subst e
  refine comp_block (RR := fun acc C => compPost (model X.prog X.w) X.A X.xe (some (assign (.Name y py) X.env)) (fun _ s' => SP X pins Dn .next s') acc C) CS hsc hN hc I2 T t2 f2 hg hq he hw ?_
  intro D C H' vs s' hm I' hD hCD hC hL h0 hcl hp fn
  obtain ⟨m, hm⟩ := hm
  show wpAny _ X.A (assign (.Name y py) X.env (.ref D)) _ _ _
  refine wpAny_assign_Name (store_ok2 (v := .ref D) I' hNd hiy (.inl hy) rfl (fun s2 I2 hch => ?_) (.inr hy))
  obtain ⟨a, sb, ha⟩ := hch
  have hCa : C ≠ a := by
    rcases ha with ha | ha
    · rw [ha]; exact hL
    · exact fun z => hcl y a ha z.symm
  refine ⟨m, hm.sameBut sb hCa, fun h' hs' => ?_⟩
  exact ⟨_, _, inv_gone I2 (by rw [upd_ne hCD]; exact hC) hL h0 hcl hp hs', fn D hD⟩
end
section
variable {k : Nat} {js : List Nat} {g : TG} {tc : TT} {te : TE} {σ : St} {fin : List V → Hp → Prop} {H : Hp}
theorem comp_range {lo : Int} {n : Nat} (Pv : Nat → List V → Hp → Prop) (h0 : Pv 0 [] H) (hn : n ≤ sizeLine) (hl : ∀ i ys H, Pv i ys H → ys.length ≤ i)
    (hs : ∀ i ys H, i < n → Pv i ys H → g (.int (lo + i)) (sigC k js σ) H fun σ2 H3 => tc σ2 H3 fun b H4 => if b = true then te σ2 H4 fun y H5 => Pv (i + 1) (ys ++ [y]) H5 else Pv (i + 1) ys H4)
    (hd : ∀ ys H, Pv n ys H → fin ys H) : compW k js g tc te σ (Itr lo n) H fin := by
  refine ⟨fun i m ys H => m = n - i ∧ i ≤ n ∧ Pv i ys H, ⟨n, by simp, Nat.zero_le _, h0⟩, ?_⟩
  rintro i m ys H ⟨rfl, hi, p⟩
  have hy := hl i ys H p
  by_cases hlt : i < n
  · refine .inr ⟨hlt, by omega, Pv (i + 1), fun ys' H' p' => ⟨n - (i + 1), by omega, rfl, hlt, p'⟩, fun x H' y => ?_⟩
    obtain ⟨e, y⟩ := y
    subst e y
    exact hs i ys _ hlt p
  · have e : i = n := by omega
    subst e
    exact .inl ⟨Nat.le_refl _, by omega, hd ys H p⟩
theorem comp_list {K : PySem.W.Frag} {a : Addr} {xs : List V} (Pv : Nat → List V → Hp → Prop) (h0 : Pv 0 [] H) (hn : xs.length ≤ sizeLine) (hl : ∀ i ys H, Pv i ys H → ys.length ≤ i) (hq : ∀ i ys H, i ≤ xs.length → Pv i ys H → SqL K H a xs)
    (hs : ∀ i x ys H, xs[i]? = some x → Pv i ys H → g x (sigC k js σ) H fun σ2 H3 => tc σ2 H3 fun b H4 => if b = true then te σ2 H4 fun y H5 => Pv (i + 1) (ys ++ [y]) H5 else Pv (i + 1) ys H4)
    (hd : ∀ ys H, Pv xs.length ys H → fin ys H) : compW k js g tc te σ (Itl K a) H fin := by
  refine ⟨fun i m ys H => m = xs.length - i ∧ i ≤ xs.length ∧ Pv i ys H, ⟨xs.length, by simp, Nat.zero_le _, h0⟩, ?_⟩
  rintro i m ys H ⟨rfl, hi, p⟩
  have hy := hl i ys H p
  have q := hq i ys H hi p
  by_cases hlt : i < xs.length
  · refine .inr ⟨⟨xs, xs[i], q, by simp [hlt]⟩, by omega, Pv (i + 1), fun ys' H' p' => ⟨xs.length - (i + 1), by omega, rfl, hlt, p'⟩, fun x H' y => ?_⟩
    obtain ⟨e, y⟩ := y
    subst e
    exact hs i x ys _ (y xs q) p
  · have e : i = xs.length := by omega
    subst e
    exact .inl ⟨⟨xs, q, Nat.le_refl _⟩, by omega, hd ys H p⟩
theorem comp_tup {K : PySem.W.Frag} {a : Addr} {xs : List V} (Pv : Nat → List V → Hp → Prop) (h0 : Pv 0 [] H) (hn : xs.length ≤ sizeLine) (hl : ∀ i ys H, Pv i ys H → ys.length ≤ i) (hq : ∀ i ys H, i ≤ xs.length → Pv i ys H → SqT K H a xs)
    (hs : ∀ i x ys H, xs[i]? = some x → Pv i ys H → g x (sigC k js σ) H fun σ2 H3 => tc σ2 H3 fun b H4 => if b = true then te σ2 H4 fun y H5 => Pv (i + 1) (ys ++ [y]) H5 else Pv (i + 1) ys H4)
    (hd : ∀ ys H, Pv xs.length ys H → fin ys H) : compW k js g tc te σ (Itt K a) H fin := by
  refine ⟨fun i m ys H => m = xs.length - i ∧ i ≤ xs.length ∧ Pv i ys H, ⟨xs.length, by simp, Nat.zero_le _, h0⟩, ?_⟩
  rintro i m ys H ⟨rfl, hi, p⟩
  have hy := hl i ys H p
  have q := hq i ys H hi p
  by_cases hlt : i < xs.length
  · refine .inr ⟨⟨xs, xs[i], q, by simp [hlt]⟩, by omega, Pv (i + 1), fun ys' H' p' => ⟨xs.length - (i + 1), by omega, rfl, hlt, p'⟩, fun x H' y => ?_⟩
    obtain ⟨e, y⟩ := y
    subst e
    exact hs i x ys _ (y xs q) p
  · have e : i = xs.length := by omega
    subst e
    exact .inl ⟨⟨xs, q, Nat.le_refl _⟩, by omega, hd ys H p⟩
end
def CDivB (i j : Int) : Prop := 0 < j ∧ j < 10000000000000000000000000000000000000000
theorem cdivB_no {i j : Int} (h : CDivB i j) : Builtin.divisionGoesByPylong i j = false := by
  obtain ⟨h1, h2⟩ := h
  refine PyProof.noPylong_of_log2 ?_
  have h0 : j.natAbs ≠ 0 := by omega
  have h3 : j.natAbs < 2 ^ 200 := by
    have e : (2 : Nat) ^ 200 = 1606938044258990275541962092341162602522202993782792835301376 := by decide
    rw [e]
    omega
  have := (Nat.log2_lt h0).mpr h3
  omega
section
variable {X : Cx}
theorem op_fdivB : OpR X (binaryOp .FloorDiv) (rI CDivB fun i j => .int (i / j)) := opI fun i j _ _ _ _ _ hc q => by
  have h1 : (0 : Int) < j := hc.1
  exact floordiv_int (by omega) (by rw [Int.fdiv_eq_ediv_of_nonneg i (by omega)]; exact q) (.inl (cdivB_no hc))
theorem op_le_str : OpR X (compareOp .LtE) (fun x y H Q => ∃ i j, x = .str i ∧ y = .str j ∧ Q (.bl (!decide (j.cps.toList < i.cps.toList))) H) := by
  intro pins s σ H x y v u Q I rx ry h
  obtain ⟨i, j, rfl, rfl, q⟩ := h
  obtain ⟨t, rfl⟩ := rx
  obtain ⟨t', rfl⟩ := ry
  exact PySem.P.le_str (fin_bl I q rfl)
def clsV : V → Option Value
  | .ty n => some (.type n)
  | .ref C => some (.ref C)
  | _ => none
theorem clsV_rel {c : V} {cv u : Value} (h : clsV c = some cv) (r : RelV c u) : u = cv := by
  cases c with
  | ty n => cases h; exact r
  | ref C => cases h; exact r
  | _ => cases h
theorem call_isinst : CallR X (.builtin "isinstance") (fun xs H Q => ∃ x c t cv b, xs = [x, c] ∧ clsV c = some cv ∧ TyOf X.K H x t ∧ PySem.W.kitOne X.K t cv = some b ∧ Q (.bl b) H) := by
  intro pins s σ H xs us Q I r h
  obtain ⟨x, c, t, cv, b, rfl, hc, ht, hk, q⟩ := h
  obtain ⟨u, w', rfl, rx, rc⟩ := vals2 r
  have e := clsV_rel hc rc
  subst e
  exact isinst_ok I rx ht hk fun tk => ⟨.bl b, H, I.tok _, rfl, q⟩
theorem kit_same {K : PySem.W.Frag} {n : String} : PySem.W.kitOne K (.type n) (.type n) = some true := by
  unfold PySem.W.kitOne
  rw [if_pos (beq_self_eq_true _)]
theorem kit_ty {K : PySem.W.Frag} {a c : String} {b : Bool} (h1 : (Value.type a == Value.type c) = false) (h2 : PySem.W.kitMeta c = true) (h3 : (fastBuiltinMro a).map (·.contains (Value.type c)) = some b) :
    PySem.W.kitOne K (.type a) (.type c) = some b := by
  unfold PySem.W.kitOne
  rw [if_neg (by rw [h1]; exact Bool.false_ne_true)]
  show (if PySem.W.kitMeta c = true then PySem.W.subIn K (.type a) (.type c) else none) = some b
  rw [if_pos h2]
  exact h3
section
variable {K : PySem.W.Frag}
theorem kit_bool_int : PySem.W.kitOne K (.type "bool") (.type "int") = some true := kit_ty (by decide +kernel) (by decide +kernel) (by decide +kernel)
theorem kit_none_int : PySem.W.kitOne K (.type "NoneType") (.type "int") = some false := kit_ty (by decide +kernel) (by decide +kernel) (by decide +kernel)
theorem kit_str_int : PySem.W.kitOne K (.type "str") (.type "int") = some false := kit_ty (by decide +kernel) (by decide +kernel) (by decide +kernel)
theorem kit_list_int : PySem.W.kitOne K (.type "list") (.type "int") = some false := kit_ty (by decide +kernel) (by decide +kernel) (by decide +kernel)
theorem kit_tuple_int : PySem.W.kitOne K (.type "tuple") (.type "int") = some false := kit_ty (by decide +kernel) (by decide +kernel) (by decide +kernel)
theorem kit_dict_int : PySem.W.kitOne K (.type "dict") (.type "int") = some false := kit_ty (by decide +kernel) (by decide +kernel) (by decide +kernel)
theorem kit_int_bool : PySem.W.kitOne K (.type "int") (.type "bool") = some false := kit_ty (by decide +kernel) (by decide +kernel) (by decide +kernel)
theorem kit_none_bool : PySem.W.kitOne K (.type "NoneType") (.type "bool") = some false := kit_ty (by decide +kernel) (by decide +kernel) (by decide +kernel)
theorem kit_str_bool : PySem.W.kitOne K (.type "str") (.type "bool") = some false := kit_ty (by decide +kernel) (by decide +kernel) (by decide +kernel)
theorem kit_list_bool : PySem.W.kitOne K (.type "list") (.type "bool") = some false := kit_ty (by decide +kernel) (by decide +kernel) (by decide +kernel)
theorem kit_tuple_bool : PySem.W.kitOne K (.type "tuple") (.type "bool") = some false := kit_ty (by decide +kernel) (by decide +kernel) (by decide +kernel)
theorem kit_dict_bool : PySem.W.kitOne K (.type "dict") (.type "bool") = some false := kit_ty (by decide +kernel) (by decide +kernel) (by decide +kernel)
theorem kit_int_str : PySem.W.kitOne K (.type "int") (.type "str") = some false := kit_ty (by decide +kernel) (by decide +kernel) (by decide +kernel)
theorem kit_bool_str : PySem.W.kitOne K (.type "bool") (.type "str") = some false := kit_ty (by decide +kernel) (by decide +kernel) (by decide +kernel)
theorem kit_none_str : PySem.W.kitOne K (.type "NoneType") (.type "str") = some false := kit_ty (by decide +kernel) (by decide +kernel) (by decide +kernel)
theorem kit_list_str : PySem.W.kitOne K (.type "list") (.type "str") = some false := kit_ty (by decide +kernel) (by decide +kernel) (by decide +kernel)
theorem kit_tuple_str : PySem.W.kitOne K (.type "tuple") (.type "str") = some false := kit_ty (by decide +kernel) (by decide +kernel) (by decide +kernel)
theorem kit_dict_str : PySem.W.kitOne K (.type "dict") (.type "str") = some false := kit_ty (by decide +kernel) (by decide +kernel) (by decide +kernel)
theorem kit_int_tuple : PySem.W.kitOne K (.type "int") (.type "tuple") = some false := kit_ty (by decide +kernel) (by decide +kernel) (by decide +kernel)
theorem kit_bool_tuple : PySem.W.kitOne K (.type "bool") (.type "tuple") = some false := kit_ty (by decide +kernel) (by decide +kernel) (by decide +kernel)
theorem kit_none_tuple : PySem.W.kitOne K (.type "NoneType") (.type "tuple") = some false := kit_ty (by decide +kernel) (by decide +kernel) (by decide +kernel)
theorem kit_list_tuple : PySem.W.kitOne K (.type "list") (.type "tuple") = some false := kit_ty (by decide +kernel) (by decide +kernel) (by decide +kernel)
theorem kit_str_tuple : PySem.W.kitOne K (.type "str") (.type "tuple") = some false := kit_ty (by decide +kernel) (by decide +kernel) (by decide +kernel)
theorem kit_dict_tuple : PySem.W.kitOne K (.type "dict") (.type "tuple") = some false := kit_ty (by decide +kernel) (by decide +kernel) (by decide +kernel)
end
inductive Kd where
  | non | bl | int | str | lst | tup | dct
  deriving DecidableEq
def Kd.nm : Kd → String
  | .non => "NoneType" | .bl => "bool" | .int => "int" | .str => "str" | .lst => "list" | .tup => "tuple" | .dct => "dict"
def KdOf (K : PySem.W.Frag) (H : Hp) (x : V) (k : Kd) : Prop := TyOf K H x (.type k.nm)
def Kd.isA : Kd → Kd → Bool
  | .bl, .int => true
  | a, b => decide (a = b)
theorem kit_kd {K : PySem.W.Frag} {a c : Kd} (hc : c = .int ∨ c = .bl ∨ c = .str ∨ c = .tup) : PySem.W.kitOne K (.type a.nm) (.type c.nm) = some (a.isA c) := by
  rcases hc with rfl | rfl | rfl | rfl
  · cases a <;> first | exact kit_same | exact kit_bool_int | exact kit_none_int | exact kit_str_int | exact kit_list_int | exact kit_tuple_int | exact kit_dict_int
  · cases a <;> first | exact kit_same | exact kit_int_bool | exact kit_none_bool | exact kit_str_bool | exact kit_list_bool | exact kit_tuple_bool | exact kit_dict_bool
  · cases a <;> first | exact kit_same | exact kit_int_str | exact kit_none_str | exact kit_bool_str | exact kit_list_str | exact kit_tuple_str | exact kit_dict_str
  · cases a <;> first | exact kit_same | exact kit_int_tuple | exact kit_none_tuple | exact kit_bool_tuple | exact kit_list_tuple | exact kit_str_tuple | exact kit_dict_tuple
theorem call_isKd (c : Kd) (hc : c = .int ∨ c = .bl ∨ c = .str ∨ c = .tup) : CallR X (.builtin "isinstance") (fun xs H Q => ∃ x k, xs = [x, .ty c.nm] ∧ KdOf X.K H x k ∧ Q (.bl (k.isA c)) H) := by
  intro pins s σ H xs us Q I r h
  obtain ⟨x, k, rfl, hk, q⟩ := h
  exact call_isinst pins s σ H _ us Q I r ⟨x, _, _, _, _, rfl, rfl, hk, kit_kd hc, q⟩
end

def Its (x : Str) : It := ⟨fun i _ => i < x.cps.size, fun i H v H' => H' = H ∧ ∃ c, x.cps[i]? = some c ∧ v = .str ⟨#[c]⟩, fun i _ => i = x.cps.size⟩
theorem turn_str {P : Program} {w : World} {K : PySem.W.Frag} {tg : Expr} (it : Addr) (ty : String) (x : Str) (t : Tok) (hty : ["enumerate", "zip", "dict_itemiterator", "dict_reverseitemiterator", "odict_iterator", "itertools.zip_longest", "itertools.pairwise"].contains ty = false)
    (W : ∀ A' : Around, A'.handled = none → Walks P w A' it [it] [it] x.cps.size (SignAt x) (fun i h => h.IsStrIter it ty x t i))
    (slf : ∀ (A : Around) (i : Nat) (s : Shared) (Q : Value → Shared → Prop) (E : Value → Shared → Prop), s.heap.IsStrIter it ty x t i → Q (.ref it) s → wpAny (model P w) A (pyIter (.ref it)) Q E s) :
    Turn P w K tg (Its x) [it] it (fun i h => h.IsStrIter it ty x t i) where
  mem := by simp
  obj := fun i h st b hb => by
    have e : b = it := by simpa using hb
    subst e
    obtain ⟨o, e, c, d⟩ := st
    exact ⟨o, e, fun v z => by rw [d] at z; cases z⟩
  keep := fun i h h' st k => by
    obtain ⟨o, e, r⟩ := st
    exact ⟨o, k it (by simp) o e, r⟩
  item := by
    intro X hP hw hK hc i pins s σ H E I hf st hg
    subst hP hw hK
    obtain ⟨f0, f1, f2, f3, f4, f5⟩ := hf it (by simp)
    refine (W X.A (I.ok.hd hc)).item i s _ _ hg st fun v h' tk hv st' kk => ?_
    obtain ⟨c, u, ec, rfl⟩ := hv
    have I1 : Inv X pins σ H { s with heap := h', toks := tk } := I.turned (fun b o hb e => kk b o (by simpa using hb) e) f0 f1 f3 f4 f5
    obtain ⟨o, e, cc, d⟩ := id st'
    exact ⟨_, rfl, go_of (s := { s with heap := h', toks := tk }) e cc d hty ⟨.str ⟨#[c]⟩, H, I1, ⟨u, rfl⟩, ⟨rfl, c, ec, rfl⟩, st', fun b hb => (hf b hb).1⟩⟩
  done := by
    intro X hP hw hK hc i pins s σ H E I hf st hg
    subst hP hw hK
    obtain ⟨f0, f1, f2, f3, f4, f5⟩ := hf it (by simp)
    have e : i = x.cps.size := hg
    subst e
    exact (W X.A (I.ok.hd hc)).done s _ _ st fun h' tk kk => ⟨rfl, I.turned (fun b o hb e => kk b o (by simpa using hb) e) f0 f1 f3 f4 f5⟩
  self := slf
def iStr (tl : TE) : TI := fun σ H R => tl σ H fun x H1 => ∃ z, x = .str z ∧ R (Its z) H1
section
variable {X : Cx} {tg : Expr}
theorem pi_str {l : Expr} {tl : TE} (hl : PE X l tl) : PI X tg l (iStr tl) := by
  intro pins s σ H R I h
  refine thn (hl pins s σ H _ I h) fun v s1 ⟨x, H1, I1, r1, q1⟩ => ?_
  obtain ⟨z, e, q⟩ := q1
  subst e
  obtain ⟨t, rfl⟩ := r1
  have fp : ∀ b ∈ [s1.heap.objs.size], FpOk X pins H1 b := fun b hb => by
    have e : b = s1.heap.objs.size := by simpa using hb
    subst e
    exact I1.fpOk (Nat.le_refl _) (I1.hok.fresh (Nat.le_refl _))
  cases ha : z.cps.all (· < 128)
  · refine wpAny_pyIter_wide ha ?_
    exact ⟨s1.heap.objs.size, [s1.heap.objs.size], _, _, H1, rfl, I1.kept (t' := s1.toks) fun b o e => Heap.get?_push_of_some _ e, turn_str _ _ z t (by decide) (fun A' hA => Walks.strWide hA _ z t) (fun _ _ _ _ _ st h => wpAny_pyIter_striter_wide st h),
      ⟨_, Heap.get?_push_size _ rfl, rfl, rfl⟩, fp, q⟩
  · refine wpAny_pyIter_ascii ha ?_
    exact ⟨s1.heap.objs.size, [s1.heap.objs.size], _, _, H1, rfl, I1.kept (t' := s1.toks) fun b o e => Heap.get?_push_of_some _ e, turn_str _ _ z t (by decide) (fun A' hA => Walks.strAscii hA _ z t) (fun _ _ _ _ _ st h => wpAny_pyIter_striter_ascii st h),
      ⟨_, Heap.get?_push_size _ rfl, rfl, rfl⟩, fp, q⟩
def sgn (x : Str) (i : Nat) : Str := ⟨#[x.cps.getD i 0]⟩
theorem comp_str {k : Nat} {js : List Nat} {g : TG} {tc : TT} {te : TE} {σ : St} {fin : List V → Hp → Prop} {H : Hp} {z : Str} (Pv : Nat → List V → Hp → Prop) (h0 : Pv 0 [] H) (hn : z.cps.size ≤ sizeLine) (hl : ∀ i ys H, Pv i ys H → ys.length ≤ i)
    (hs : ∀ i ys H, i < z.cps.size → Pv i ys H → g (.str (sgn z i)) (sigC k js σ) H fun σ2 H3 => tc σ2 H3 fun b H4 => if b = true then te σ2 H4 fun y H5 => Pv (i + 1) (ys ++ [y]) H5 else Pv (i + 1) ys H4)
    (hd : ∀ ys H, Pv z.cps.size ys H → fin ys H) : compW k js g tc te σ (Its z) H fin := by
  refine ⟨fun i m ys H => m = z.cps.size - i ∧ i ≤ z.cps.size ∧ Pv i ys H, ⟨z.cps.size, by simp, Nat.zero_le _, h0⟩, ?_⟩
  rintro i m ys H ⟨rfl, hi, p⟩
  have hy := hl i ys H p
  by_cases hlt : i < z.cps.size
  · refine .inr ⟨hlt, by omega, Pv (i + 1), fun ys' H' p' => ⟨z.cps.size - (i + 1), by omega, rfl, hlt, p'⟩, fun x H' y => ?_⟩
    obtain ⟨e, c, ec, ex⟩ := y
    subst e ex
    have hh := hs i ys _ hlt p
    have e2 : sgn z i = ⟨#[c]⟩ := by unfold sgn; rw [Array.getD_eq_getD_getElem?, ec]; rfl
    rw [e2] at hh
    exact hh
  · have e : i = z.cps.size := by omega
    subst e
    exact .inl ⟨rfl, by omega, hd ys H p⟩
theorem vals_bl : ∀ {bs : List Bool} {its : List Value}, Vals (bs.map V.bl) its → its = bs.map Value.bool
  | [], _, .nil => rfl
  | b :: bs, _, .cons r t => by
    cases r
    rw [vals_bl t]
    rfl
theorem call_allB (hc : X.calm = true) : CallR X (.builtin "all") (fun xs H Q => ∃ (p : Addr) (bs : List Bool), xs = [.ref p] ∧ SqL X.K H p (bs.map V.bl) ∧ Q (.bl (bs.all id)) H) := by
  intro pins s σ H xs us Q I r h
  obtain ⟨p, bs, rfl, hq, q⟩ := h
  obtain ⟨u, rfl, ru⟩ := vals1 r
  cases ru
  obtain ⟨its, rv, pl, hz⟩ := I.list hq
  have e := vals_bl rv
  subst e
  have hlt : p < s.heap.objs.size := by obtain ⟨o, n, e, _⟩ := pl; exact Heap.lt_size e
  refine call_all_walk (wpAny_pyIter_list pl.isList ?_)
  refine ⟨s.heap.objs.size, _, [s.heap.objs.size], _, _, _, fun i => bs.getD i true, rfl, Walks.list (A := X.A.in1) (show X.A.in1.handled = none from I.ok.hd hc) s.heap.objs.size p (Nat.ne_of_lt hlt) (bs.map Value.bool).toArray, ⟨⟨_, Heap.get?_push_size _ rfl, rfl, rfl⟩, pl.isList.push _⟩, ?_, fun h' tk hk => ?_⟩
  · intro i v s' Q' E' hP hQ'
    have hP : ((bs.map Value.bool).toArray)[i]? = some v := hP
    rw [List.getElem?_toArray, List.getElem?_map] at hP
    cases e : bs[i]? with
    | none => rw [e] at hP; cases hP
    | some b =>
      rw [e] at hP
      cases hP
      refine wpAny_truthy_bool ?_
      have e' : bs.getD i true = b := by rw [List.getD_eq_getElem?_getD, e]; rfl
      have hQ' : Q' (bs.getD i true) s' := hQ'
      rw [e'] at hQ'
      exact hQ'
  · have e : (List.range (bs.map Value.bool).toArray.size).all (fun i => bs.getD i true) = bs.all id := by
      rw [Bool.eq_iff_iff]
      simp only [List.size_toArray, List.length_map, List.all_eq_true, List.mem_range, id]
      constructor
      · intro h b hb
        obtain ⟨i, hi, e⟩ := List.mem_iff_getElem.mp hb
        have := h i hi
        rw [List.getD_eq_getElem?_getD, List.getElem?_eq_getElem hi, e] at this
        exact this
      · intro h i hi
        rw [List.getD_eq_getElem?_getD, List.getElem?_eq_getElem hi]
        exact h _ (List.getElem_mem hi)
    rw [e]
    exact ⟨.bl (bs.all id), H, I.kept fun b o e => hk b o (by simp; exact Nat.ne_of_lt (Heap.lt_size e)) (Heap.get?_push_of_some _ e), rfl, q⟩
end

section
variable {κ : Type} [DecidableEq κ]
def valV (kvs : List (κ × V)) (k : κ) : Option V := (kvs.find? fun kv => decide (kv.1 = k)).map (·.2)
def putK (kvs : List (κ × V)) (k : κ) (v : V) : List (κ × V) :=
  if (kvs.any fun kv => decide (kv.1 = k)) = true then kvs.map (fun kv => if kv.1 = k then (kv.1, v) else kv) else kvs ++ [(k, v)]
theorem valV_pos {p : κ × V} {r : List (κ × V)} {k : κ} (e : p.1 = k) : valV (p :: r) k = some p.2 := by simp [valV, List.find?_cons, e]
theorem valV_neg {p : κ × V} {r : List (κ × V)} {k : κ} (e : ¬ p.1 = k) : valV (p :: r) k = valV r k := by simp [valV, List.find?_cons, e]
theorem valV_any (k : κ) : ∀ kvs : List (κ × V), (kvs.any fun kv => decide (kv.1 = k)) = (valV kvs k).isSome
  | [] => rfl
  | p :: r => by
    rw [List.any_cons]
    by_cases e : p.1 = k
    · simp only [valV_pos e, decide_eq_true e, Bool.true_or, Option.isSome_some]
    · rw [valV_neg e, decide_eq_false e, Bool.false_or]; exact valV_any k r
theorem length_putK (kvs : List (κ × V)) (k : κ) (v : V) : (putK kvs k v).length ≤ kvs.length + 1 := by
  unfold putK
  split
  · rw [List.length_map]; omega
  · rw [List.length_append, List.length_cons, List.length_nil]; omega
theorem putK_new {kvs : List (κ × V)} {k : κ} (v : V) (h : valV kvs k = none) : putK kvs k v = kvs ++ [(k, v)] := by
  unfold putK
  rw [valV_any, h]
  exact if_neg (by decide)

theorem RelO.isSome_eq {o : Option V} {u : Option Value} (r : RelO o u) : o.isSome = u.isSome := by
  cases o with
  | none => cases u with
    | none => rfl
    | some _ => exact (show False from r).elim
  | some _ => cases u with
    | none => exact (show False from r).elim
    | some _ => rfl
theorem KV.val {kvs : List (κ × V)} {vs : List (κ × Value)} (r : KV kvs vs) (k : κ) : RelO (valV kvs k) (valueAt vs k) := by
  unfold KV at r
  induction r with
  | nil => exact True.intro
  | @cons p q ps qs h t ih =>
    obtain ⟨h1, h2⟩ := h
    by_cases e : p.1 = k
    · have e' : q.1 = k := h1.symm.trans e
      have b : valueAt (q :: qs) k = some q.2 := by simp [valueAt, List.find?_cons, e']
      rw [valV_pos e, b]; exact h2
    · have e' : ¬ q.1 = k := fun z => e (h1.trans z)
      have b : valueAt (q :: qs) k = valueAt qs k := by simp [valueAt, List.find?_cons, e']
      rw [valV_neg e, b]; exact ih
theorem KV.any {kvs : List (κ × V)} {vs : List (κ × Value)} (r : KV kvs vs) (k : κ) : (kvs.any fun kv => decide (kv.1 = k)) = vs.any fun kv => decide (kv.1 = k) := by
  unfold KV at r
  induction r with
  | nil => rfl
  | cons h t ih => rw [List.any_cons, List.any_cons, ih, h.1]
theorem KV.repl {kvs : List (κ × V)} {vs : List (κ × Value)} (r : KV kvs vs) (k : κ) {y : V} {u : Value} (ry : RelV y u) :
    KV (kvs.map fun kv => if kv.1 = k then (kv.1, y) else kv) (vs.map fun kv => if kv.1 = k then (kv.1, u) else kv) := by
  unfold KV at r ⊢
  induction r with
  | nil => exact .nil
  | @cons p q ps qs h t ih =>
    rw [List.map_cons, List.map_cons]
    refine .cons ?_ ih
    obtain ⟨h1, h2⟩ := h
    by_cases e : p.1 = k
    · rw [if_pos e, if_pos (h1.symm.trans e)]; exact ⟨h1, ry⟩
    · rw [if_neg e, if_neg (fun z => e (h1.trans z))]; exact ⟨h1, h2⟩
theorem KV.put {kvs : List (κ × V)} {vs : List (κ × Value)} (r : KV kvs vs) (k : κ) {y : V} {u : Value} (ry : RelV y u) : KV (putK kvs k y) (stored vs k u) := by
  unfold putK stored
  rw [r.any k]
  by_cases e : (vs.any fun kv => decide (kv.1 = k)) = true
  · rw [if_pos e, if_pos e]; exact r.repl k ry
  · rw [if_neg e, if_neg e]; exact Paired.snoc r ⟨rfl, ry⟩
theorem KV.keys {kvs : List (κ × V)} {vs : List (κ × Value)} (r : KV kvs vs) : kvs.map (·.1) = vs.map (·.1) := by
  unfold KV at r
  induction r with
  | nil => rfl
  | cons h t ih => rw [List.map_cons, List.map_cons, ih, h.1]
theorem KV.length {kvs : List (κ × V)} {vs : List (κ × Value)} (r : KV kvs vs) : kvs.length = vs.length := Paired.length r
end


theorem kV_is {P : Program} {w : World} {k : Key} {u : Value} (r : RelV (kV k) u) : (mixKind P w).is k u = true := by
  cases k with
  | inl i => obtain ⟨t, e⟩ := (show ∃ t, u = Value.int i t from r); subst e; exact mixKind_int P w i t
  | inr x => obtain ⟨t, e⟩ := (show ∃ t, u = Value.str x t from r); subst e; exact mixKind_str P w x t
theorem items_are {P : Program} {w : World} : ∀ {ks : List Key} {us : List Value}, Vals (ks.map kV) us → ItemsAre (mixKind P w) ks us
  | [], _, r => by rw [List.map_nil] at r; cases r; exact .nil
  | k :: ks, _, r => by
    rw [List.map_cons] at r
    cases r with
    | cons h t => exact .cons (kV_is h) (items_are t)

abbrev KT (H : Hp) : List (List Key × V) → List (List Key × Addr × Value) → Prop := Paired fun p q => p.1 = q.1 ∧ H q.2.1 = some (.tup (p.1.map kV)) ∧ RelV p.2 q.2.2
theorem KT.val {H : Hp} {kvs : List (List Key × V)} {xs : List (List Key × Addr × Value)} (r : KT H kvs xs) (k : List Key) : RelO (valV kvs k) ((atKey xs k).map (·.2)) := by
  induction r with
  | nil => exact True.intro
  | @cons p q ps qs h t ih =>
    obtain ⟨h1, _, h2⟩ := h
    by_cases e : p.1 = k
    · have e' : q.1 = k := h1.symm.trans e
      have b : atKey (q :: qs) k = some q.2 := by simp [atKey, List.find?_cons, e']
      rw [valV_pos e, b]; exact h2
    · have e' : ¬ q.1 = k := fun z => e (h1.trans z)
      have b : atKey (q :: qs) k = atKey qs k := by simp [atKey, List.find?_cons, e']
      rw [valV_neg e, b]; exact ih
theorem KT.repl {H : Hp} {kvs : List (List Key × V)} {xs : List (List Key × Addr × Value)} (r : KT H kvs xs) (k : List Key) {y : V} {u : Value} (ry : RelV y u) :
    KT H (kvs.map fun kv => if kv.1 = k then (kv.1, y) else kv) (xs.map (putAt k u)) := by
  induction r with
  | nil => exact .nil
  | @cons p q ps qs h t ih =>
    rw [List.map_cons, List.map_cons]
    refine .cons ?_ ih
    obtain ⟨h1, h2, h3⟩ := h
    unfold putAt
    by_cases e : p.1 = k
    · rw [if_pos e, if_pos (h1.symm.trans e)]; exact ⟨h1, h2, ry⟩
    · rw [if_neg e, if_neg (fun z => e (h1.trans z))]; exact ⟨h1, h2, h3⟩
theorem KT.put {H : Hp} {kvs : List (List Key × V)} {xs : List (List Key × Addr × Value)} (r : KT H kvs xs) (k : List Key) {b : Addr} {y : V} {u : Value} (hb : H b = some (.tup (k.map kV))) (ry : RelV y u) :
    KT H (putK kvs k y) (storedH xs k b u) := by
  have e : (kvs.any fun kv => decide (kv.1 = k)) = (atKey xs k).isSome := by
    rw [valV_any, (r.val k).isSome_eq, Option.isSome_map]
  unfold putK storedH
  rw [e]
  by_cases q : (atKey xs k).isSome = true
  · rw [if_pos q, if_pos q]; exact r.repl k ry
  · rw [if_neg q, if_neg q]; exact Paired.snoc r ⟨rfl, hb, ry⟩
theorem KT.keeps {H H' : Hp} {kvs : List (List Key × V)} {xs : List (List Key × Addr × Value)} (r : KT H kvs xs) (ht : ∀ b ys, H b = some (.tup ys) → H' b = some (.tup ys)) : KT H' kvs xs :=
  Paired.mapP r fun _ _ z => ⟨z.1, ht _ _ z.2.1, z.2.2⟩

section
variable {P : Program} {w : World} {H : Hp} {h : Heap} {a : Addr}
theorem rd_of {u : HO} (ok : HOk P w H h) (e : Rd H a u) : ObjOk P w H h a u := e.ok ok
theorem dk_rd {kvs : List (Key × V)} (ok : HOk P w H h) (e : Rd H a (.dK kvs)) : kvs.length ≤ sizeLine ∧ (a == sysModules) = false ∧ ∃ vs, KV kvs vs ∧ h.DictOf (mixKind P w) a vs :=
  show ObjOk P w H h a (.dK kvs) from rd_of ok e
theorem dk_of {kvs : List (Key × V)} (ok : HOk P w H h) (e : H a = some (.dK kvs)) : kvs.length ≤ sizeLine ∧ (a == sysModules) = false ∧ ∃ vs, KV kvs vs ∧ h.DictOf (mixKind P w) a vs := dk_rd ok (.inl e)
theorem key_of {ks : List Key} (ok : HOk P w H h) (e : H a = some (.tup (ks.map kV))) : (tupleKind (mixKind P w)).is h ks a := by
  obtain ⟨_, its, r, o, h1, h2, n, h3⟩ := (show ObjOk P w H h a (.tup (ks.map kV)) from ok a _ e)
  exact ⟨o, its.toArray, n, h1, h2, h3, by simpa using items_are r⟩
theorem dt_rd {kvs : List (List Key × V)} (ok : HOk P w H h) (e : Rd H a (.dT kvs)) : kvs.length ≤ sizeLine ∧ (a == sysModules) = false ∧
    ∃ xs, KT H kvs xs ∧ h.DictOfH (tupleKind (mixKind P w)) a xs := by
  obtain ⟨z, y, xs, r, o, es, ep, h1, h2, h3, h4, h5⟩ := (show ObjOk P w H h a (.dT kvs) from rd_of ok e)
  refine ⟨z, y, xs, r, o, es, ep, h1, h2, h3, h4, fun x hx => ?_, h5⟩
  have all : ∀ {l : List (List Key × V)} {m : List (List Key × Addr × Value)}, KT H l m → ∀ x ∈ m, (tupleKind (mixKind P w)).is h x.1 x.2.1 := by
    intro l m q
    induction q with
    | nil => intro x hx; exact nomatch hx
    | @cons p q ps qs hq t ih =>
      intro x hx
      rcases List.mem_cons.mp hx with e | hx
      · subst e
        exact key_of ok (by rw [← hq.1]; exact hq.2.1)
      · exact ih x hx
  exact all r x hx
theorem dt_of {kvs : List (List Key × V)} (ok : HOk P w H h) (e : H a = some (.dT kvs)) : kvs.length ≤ sizeLine ∧ (a == sysModules) = false ∧
    ∃ xs, KT H kvs xs ∧ h.DictOfH (tupleKind (mixKind P w)) a xs := dt_rd ok (.inl e)
end

def DGet (H : Hp) (a : Addr) (y : V) (r : Option V) : Prop :=
  (∃ kvs k, Rd H a (.dK kvs) ∧ y = kV k ∧ r = valV kvs k) ∨ ∃ kvs k b, Rd H a (.dT kvs) ∧ y = .ref b ∧ H b = some (.tup (k.map kV)) ∧ r = valV kvs k
def DPut (H : Hp) (a : Addr) (y v : V) (H' : Hp) : Prop :=
  (∃ kvs k, H a = some (.dK kvs) ∧ y = kV k ∧ kvs.length < sizeLine ∧ H' = upd H a (.dK (putK kvs k v))) ∨
  ∃ kvs k b, H a = some (.dT kvs) ∧ y = .ref b ∧ H b = some (.tup (k.map kV)) ∧ kvs.length < sizeLine ∧ H' = upd H a (.dT (putK kvs k v))
theorem DGet.k {H : Hp} {a : Addr} {kvs : List (Key × V)} {k : Key} (e : H a = some (.dK kvs)) : DGet H a (kV k) (valV kvs k) := .inl ⟨kvs, k, .inl e, rfl, rfl⟩
theorem DPut.k {H : Hp} {a : Addr} {kvs : List (Key × V)} {k : Key} {v : V} (e : H a = some (.dK kvs)) (hl : kvs.length < sizeLine) : DPut H a (kV k) v (upd H a (.dK (putK kvs k v))) := .inl ⟨kvs, k, e, rfl, hl, rfl⟩
section
variable {X : Cx} {pins : List (Addr × Obj)} {σ : St} {H : Hp} {s : Shared} {a : Addr} {y v : V} {u r : Value} {o : Option V} {A : Around} {E : Value → Shared → Prop}

theorem Inv.big (I : Inv X pins σ H s) : sysModules < s.heap.objs.size := by
  have h : mainGlobals < s.heap.objs.size := (I.mod.glob.keeps I.bk).lt
  exact Nat.lt_trans (by decide) h

theorem d_getItem {Q : Value → Shared → Prop} (hu : A.units + 1 < cLine) (I : Inv X pins σ H s) (g : DGet H a y (some v)) (ry : RelV y u) (h : ∀ w' s', Inv X pins σ H s' → RelV v w' → Q w' s') :
    wpAny (model X.prog X.w) A (getItem (.ref a) u) Q E s := by
  rcases g with ⟨kvs, k, e, ey, l⟩ | ⟨kvs, k, b, e, ey, eb, l⟩
  · subst ey
    obtain ⟨z, hd, vs, rel, dd⟩ := dk_rd I.hok e
    obtain ⟨w', hw, rw'⟩ := RelO.some_of (v := v) (o := valueAt vs k) (by rw [l]; exact rel.val k)
    exact wpAny_getItem_of (kV_is ry) dd.mapOf hw (h w' _ (I.tok _) rw')
  · subst ey
    cases (show u = Value.ref b from ry)
    obtain ⟨z, hd, xs, rel, dd⟩ := dt_rd I.hok e
    obtain ⟨w', hw, rw'⟩ := RelO.some_of (v := v) (o := (atKey xs k).map (·.2)) (by rw [l]; exact rel.val k)
    obtain ⟨p, hp, hp2⟩ := Option.map_eq_some_iff.mp hw
    refine wpAny_getItem_heap (tupleKind_room_in1 hu) (key_of I.hok eb) dd hp ?_
    rw [hp2]
    exact h w' _ (I.tok _) rw'
theorem d_write {h' : Heap} {t' : Nat} {ob : HO} (I : Inv X pins σ H s) (mu : Mut (H a)) (hs : Heap.SameBut a s.heap h') (he : ∃ q, h'.get? a = some q) (new : ObjOk X.prog X.w (upd H a ob) h' a ob) :
    Inv X pins σ (upd H a ob) { s with heap := h', toks := t' } :=
  I.write (x := a) (e := a) mu (.inl rfl) (fun b q hb z => (hs.2 b hb).trans z) he new
theorem dk_new {P : Program} {w : World} {H' : Hp} {h' : Heap} {kvs : List (Key × V)} {vs : List (Key × Value)} (z : kvs.length ≤ sizeLine) (hd : (a == sysModules) = false) (rel : KV kvs vs) (dd : h'.DictOf (mixKind P w) a vs) :
    ObjOk P w H' h' a (.dK kvs) := ⟨z, hd, vs, rel, dd⟩
theorem d_setItem {H' : Hp} {Q : Unit → Shared → Prop} (hu : A.units + 1 < cLine) (I : Inv X pins σ H s) (g : DPut H a y v H') (ry : RelV y u) (rv : RelV v r) (h : ∀ s', Inv X pins σ H' s' → Q () s') :
    wpAny (model X.prog X.w) A (setItem (.ref a) u r) Q E s := by
  rcases g with ⟨kvs, k, e, ey, l, eH⟩ | ⟨kvs, k, b, e, ey, eb, l, eH⟩
  · subst ey eH
    obtain ⟨z, hd, vs, rel, dd⟩ := dk_of I.hok e
    have hz : vs.length ≤ sizeLine := by rw [← rel.length]; exact z
    have hl : (putK kvs k v).length ≤ sizeLine := by have := length_putK kvs k v; omega
    refine wpAny_setItem_pairs (hsz := hz) (kV_is ry) dd fun h' dd' hs => h _ ?_
    have he : ∃ q, h'.get? a = some q := let ⟨q, _, _, hq, _⟩ := dd'; ⟨q, hq⟩
    exact d_write I (by rw [e]; exact True.intro) hs he (dk_new hl hd (rel.put k rv) dd')
  · subst ey eH
    cases (show u = Value.ref b from ry)
    obtain ⟨z, hd, xs, rel, dd⟩ := dt_of I.hok e
    have hz : xs.length ≤ sizeLine := by rw [← Paired.length rel]; exact z
    have hl : (putK kvs k v).length ≤ sizeLine := by have := length_putK kvs k v; omega
    refine wpAny_setItem_heap (hsz := hz) (tupleKind_room_in1 hu) (key_of I.hok eb) dd fun h' dd' hs => h _ ?_
    obtain ⟨q, es, ep, hq, h2, h3, h4, _, h5⟩ := dd'
    refine d_write I (by rw [e]; exact True.intro) hs ⟨q, hq⟩ ⟨hl, hd, _, (rel.put k eb rv).keeps fun c ys ec => ?_, q, es, ep, hq, h2, h3, h4, h5⟩
    rw [upd_ne (ne_of ec e (fun z => nomatch z))]
    exact ec
end

section
variable {X : Cx} {pins : List (Addr × Obj)} {σ : St} {H : Hp} {s : Shared} {a : Addr} {kvs : List (Key × V)} {k : Key} {u : Value} {A : Around} {E : Value → Shared → Prop}
end


def NoSl (i : Expr) : Prop := ∀ ov iv, subscripted i false ov iv = operate [ov, iv] (getItem ov iv)
theorem subD_of {prog : Program} {w : World} {A : Around} {E : Value → Shared → Prop} {s : Shared} {env : Env} {value slice : Expr} {pos : Pos} {T id : String} {Q : Value → Shared → Prop}
    (hl : typeLookup (.type T) "__getitem__" = pure (some (.builtin id))) (hs : NoSl slice)
    (h : wpAny (model prog w) A (eval value env) (fun o s₁ => wpAny (model prog w) A (eval slice env) (fun i s₂ => s₂.TypeIs o T ∧ wpAny (model prog w) A (getItem o i) Q E s₂) E s₁) E s) :
    wpAny (model prog w) A (eval (.Subscript value slice pos) env) Q E s := by
  refine Subscript_ (wpAny_mono h (fun o s₁ h₁ => wpAny_mono h₁ (fun i s₂ h₂ => ?_) fun _ _ x => x) fun _ _ x => x)
  obtain ⟨hT, h₂⟩ := h₂
  unfold subscriptTail
  refine wpAny_bind ?_
  rw [getitemInPython_of_ne hT.not_modules]
  refine wpAny_bind (wpAny_specialOf hT hl ?_)
  have fin : wpAny (model prog w) A (subscripted slice false o i) (fun r s₃ => wpAny (model prog w) A (letTemporaryGo value o r >>= fun _ => pure r) Q E s₃) E s₂ := by
    rw [hs o i]
    exact wpAny_operating (wpAny_mono h₂ (fun r s₃ h₃ => wpAny_bind (wpAny_letTemporaryGo (wpAny_pure h₃))) fun _ _ x => x)
  first
    | exact wpAny_pure (wpAny_bind fin)
    | exact wpAny_bind (wpAny_pure (wpAny_bind fin))
    | exact wpAny_bind fin

theorem dict_typeIs {X : Cx} {pins : List (Addr × Obj)} {σ : St} {H : Hp} {s : Shared} {a : Addr} {y : V} {o : Option V} (I : Inv X pins σ H s) (g : DGet H a y o) : s.TypeIs (.ref a) "dict" := by
  rcases g with ⟨kvs, k, e, _, _⟩ | ⟨kvs, k, b, e, _, _, _⟩
  · obtain ⟨_, _, vs, _, dd⟩ := dk_rd I.hok e
    exact dd.typeIs
  · obtain ⟨_, _, xs, _, dd⟩ := dt_rd I.hok e
    exact dd.typeIs
def tDGet (td ty : TE) : TE := fun σ H Q => td σ H fun x H1 => ty σ H1 fun y H2 => ∃ a v, x = .ref a ∧ DGet H2 a y (some v) ∧ Q v H2
def sDPut (td ty tv : TE) : TS := fun D σ H => tv σ H fun v H1 => td σ H1 fun x H2 => ty σ H2 fun y H3 => ∃ a H4, x = .ref a ∧ DPut H3 a y v H4 ∧ D.nx σ H4
section
variable {X : Cx} {o i e value : Expr} {pos pos' tpos : Pos} {td ty tv : TE}
theorem pe_dget (hu : X.A.units + 1 < cLine) (ho : PE X o td) (hi : PE X i ty) (hs : NoSl i) : PE X (.Subscript o i pos) (tDGet td ty) := by
  intro pins s σ H Q I h
  refine subD_of PySem.F.slot_dict_getitem.lookup hs (thn (ho pins s σ H _ I h) fun u s1 ⟨x, H1, I1, rx, q1⟩ => thn (hi pins s1 σ H1 _ I1 q1) fun iv s2 ⟨y, H2, I2, ry, a, v, ex, g, q2⟩ => ?_)
  subst ex
  obtain rfl : u = Value.ref a := rx
  exact ⟨dict_typeIs I2 g, d_getItem hu I2 g ry fun w' s3 I3 rw' => ⟨v, H2, I3, rw', q2⟩⟩
theorem ps_dput (hu : X.A.units + 1 < cLine) (ho : PE X o td) (hi : PE X i ty) (hv : PE X value tv) (hs : swapsWith value (some (.Subscript o i pos')) pos.line X.env = pure false) :
    PS X (.Assign [.Subscript o i pos'] value pos) (sDPut td ty tv) := by
  intro pins s σ H D I h
  refine wpAny_Assign_Subscript (thn (hv pins s σ H _ I h) fun r s1 ⟨v, H1, I1, rv, q1⟩ => thn (ho pins s1 σ H1 _ I1 q1) fun u s2 ⟨x, H2, I2, rx, q2⟩ => thn (hi pins s2 σ H2 _ I2 q2) fun iv s3 ⟨y, H3, I3, ry, a, H4, ex, g, q3⟩ => ?_) hs
  subst ex
  obtain rfl : u = Value.ref a := rx
  exact d_setItem hu I3 g ry rv fun s4 I4 => ⟨σ, H4, I4, q3⟩
end


theorem dk_empty {P : Program} {w : World} {H : Hp} (h : Heap) (hb : sysModules < h.objs.size) : ObjOk P w H (h.push { cls := .type "dict", data := .dict #[] }) h.objs.size (.dK []) :=
  ⟨Nat.zero_le _, beq_eq_false_iff_ne.mpr (Ne.symm (Nat.ne_of_lt hb)), [], .nil, Heap.DictOf.new h⟩
def tDNewK : TE := fun _ H Q => ∀ p, H p = none → Q (.ref p) (upd H p (.dK []))
section
variable {X : Cx} {pos : Pos}
theorem pe_dnewK : PE X (.Dict [] [] pos) tDNewK := fun pins s σ H Q I h =>
  wpAny_Dict_empty ⟨.ref s.heap.objs.size, _, I.laid (a := s.heap.objs.size) (o := .dK []) (t' := s.toks) (fun _ _ q => Heap.get?_push_of_some _ q) (Nat.le_refl _) (dk_empty s.heap I.big), rfl, h _ (I.hok.fresh (Nat.le_refl _))⟩
end

section
variable {X : Cx} {pins : List (Addr × Obj)} {σ : St} {H : Hp} {s : Shared} {a : Addr} {y d : V} {u r : Value} {o : Option V} {A : Around} {E : Value → Shared → Prop}
end

section
variable {X : Cx} {o e f : Expr} {apos cpos : Pos} {td ty tx : TE}
end

section
variable {X : Cx} {pins : List (Addr × Obj)} {σ : St} {H : Hp} {s : Shared} {a : Addr} {kvs : List (Key × V)} {A : Around} {E : Value → Shared → Prop}
end


section
variable {X : Cx} {pins : List (Addr × Obj)} {σ : St} {H : Hp} {s : Shared} {a : Addr} {y : V} {u : Value} {A : Around} {E : Value → Shared → Prop}
end
section
variable {X : Cx}
end
section
variable {κ : Type} [DecidableEq κ]
theorem valV_in {kvs : List (κ × V)} {k : κ} {v : V} (h : valV kvs k = some v) : k ∈ kvs.map (·.1) := by
  have q : (kvs.any fun kv => decide (kv.1 = k)) = true := by
    rw [valV_any, h]
    all_goals rfl
  obtain ⟨p, hp, e⟩ := List.any_eq_true.mp q
  exact List.mem_map.mpr ⟨p, hp, of_decide_eq_true e⟩
end
open PySem PySem.Spec PyProof.Rows PySem.SeqAt
mutual
inductive RdD (K : PySem.W.Frag) (H : Hp) : V → PyData → Prop
  | non : RdD K H .non .none
  | bl (b : Bool) : RdD K H (.bl b) (.bool b)
  | int (i : Int) : RdD K H (.int i) (.int i)
  | str (x : Str) : RdD K H (.str x) (.str x)
  | lst {a : Addr} {xs : List V} {ds : List PyData} : SqL K H a xs → RdDs K H xs ds → RdD K H (.ref a) (.list ds)
  | tup {a : Addr} {xs : List V} {ds : List PyData} : SqT K H a xs → RdDs K H xs ds → RdD K H (.ref a) (.tuple ds)
inductive RdDs (K : PySem.W.Frag) (H : Hp) : List V → List PyData → Prop
  | nil : RdDs K H [] []
  | cons {x : V} {d : PyData} {xs : List V} {ds : List PyData} : RdD K H x d → RdDs K H xs ds → RdDs K H (x :: xs) (d :: ds)
end
section
variable {X : Cx} {pins : List (Addr × Obj)} {σ : St} {H : Hp} {s : Shared}
mutual
theorem RdD.reads (I : Inv X pins σ H s) : ∀ {x : V} {d : PyData} {u : Value}, RdD X.K H x d → RelV x u → ∃ as, Reads s.heap u d as
  | _, _, _, .non, r => by cases r; exact ⟨_, .none⟩
  | _, _, _, .bl b, r => by cases r; exact ⟨_, .bool b⟩
  | _, _, _, .int i, r => by obtain ⟨t, rfl⟩ := r; exact ⟨_, .int i t⟩
  | _, _, _, .str x, r => by obtain ⟨t, rfl⟩ := r; exact ⟨_, .str x t⟩
  | _, _, _, .lst hq hs, r => by
    cases r
    obtain ⟨its, rv, pl, hz⟩ := I.list hq
    obtain ⟨as, ra⟩ := RdDs.reads I hs rv
    obtain ⟨o, n, e, hc, hd, dd⟩ := pl
    exact ⟨_, .list e hc dd (by simpa using ra)⟩
  | _, _, _, .tup hq hs, r => by
    cases r
    obtain ⟨its, rv, pl, hz⟩ := I.tuple hq
    obtain ⟨as, ra⟩ := RdDs.reads I hs rv
    obtain ⟨o, e, hc, n, dd⟩ := pl
    exact ⟨_, .tuple e hc dd (by simpa using ra)⟩
theorem RdDs.reads (I : Inv X pins σ H s) : ∀ {xs : List V} {ds : List PyData} {us : List Value}, RdDs X.K H xs ds → Vals xs us → ∃ as, ReadsAll s.heap us ds as
  | _, _, _, .nil, .nil => ⟨_, .nil⟩
  | _, _, _, .cons h hs, .cons r rs => by
    obtain ⟨as, ra⟩ := RdD.reads I h r
    obtain ⟨bs, rb⟩ := RdDs.reads I hs rs
    exact ⟨_, .cons ra rb⟩
end
end
section
variable {X : Cx}
def rEqD (K : PySem.W.Frag) (neg : Bool) : R2 := fun x y H Q => ∃ dx dy, RdD K H x dx ∧ RdD K H y dy ∧ shaped dx = true ∧ shaped dy = true ∧ Q (.bl (if neg then !PyData.eqv dx dy else PyData.eqv dx dy)) H
theorem op_neD (hu : X.A.units + 64 < cLine) : OpR X (compareOp .NotEq) (rEqD X.K true) := by
  intro pins s σ H x y v u Q I rx ry h
  obtain ⟨dx, dy, hx, hy, sx, sy, q⟩ := h
  obtain ⟨as, ra⟩ := hx.reads I rx
  obtain ⟨bs, rb⟩ := hy.reads I ry
  exact ne_dataH ra rb sx sy hu (fin_bl I q rfl)
end
section
variable {X : Cx}
end
structure FnAt (P : Program) (w : World) (K : PySem.W.Frag) (mg : Str → Option Value) (base : Heap) (x : Str) (k : Nat) (ps : List Str) (sp : Sp) : Prop where
  ex : ∃ (f : Addr) (fd : FuncData), FnOk P w K mg base CX0 k f fd ps sp ∧ mg x = some (.ref f) ∧ PySem.W.keepIn K (.ref f) = true ∧ Binds K fd ps []
theorem pe_fn {X : Cx} {x : Str} {ps : List Str} {sp : Sp} {k j : Nat} {p pos : Pos} {e : Expr} {es : List Expr} {t : TA} (F : FnAt X.prog X.w X.K X.mg X.base x k ps sp) (hr : Room j X.A) (hj : k ≤ j) (hg : Gl X x) (ha : PA X (e :: es) t)
    (hdb : (x == ("__debug__" : Str)) = false := by decide) (he : starEach (e :: es) X.env = (false, eval e X.env) :: starEach es X.env := by rfl) (hpl : (backTo pos (starEach es X.env)).any (·.1) = false := by rfl) :
    PE X (.Call (.Name x p) (e :: es) [] pos) (tCall sp [] E0 t) := by
  obtain ⟨f, fd, G, hm, hk, hb⟩ := F.ex
  exact pe_call G (hr.mono hj) hg hm hk hb .nil pass0 ha hdb he hpl
structure TopFn (K : PySem.W.Frag) (mg : Str → Option Value) (x : Str) (st : Stmt) (ps : List Str) : Prop where
  ex : ∃ (f : Addr) (fd : FuncData), Fun K x x st f fd ∧ mg x = some (.ref f) ∧ ∀ us : List Value, us.length = ps.length → bindArgs fd ⟨us, []⟩ = pure (ps.zip us)
theorem topFn_mk {K : PySem.W.Frag} {mg : Str → Option Value} {h : Heap} {x : Str} {st : Stmt} {ps : List Str} {f : Addr} {oc : Value} {od an : Option Addr} {osl : Array (Option Value)} {kV doc pm cdv ct : Value} (X : K.In h) (G : h.Ns mainGlobals mg)
    (hb : ∀ (kV doc pm : Value) (an : Option Addr) (cdv ct : Value) (us : List Value), us.length = ps.length → bindArgs (PySem.W.fnOf x x (defArgs st) (defBody st) (defScope st) .none kV doc pm an cdv ct) ⟨us, []⟩ = pure (ps.zip us))
    (a : PySem.W.nsIn K mainGlobals x = some (some (.ref f))) (l : K.lookup f = some ⟨oc, od, .func (PySem.W.fnOf x x (defArgs st) (defBody st) (defScope st) .none kV doc pm an cdv ct), osl⟩)
    (c : PySem.W.codeIn K cdv x = true) (k : PySem.W.keepIn K (.ref f) = true) : TopFn K mg x st ps :=
  ⟨f, _, fun_mk l c k, PySem.W.mg_of X G a, fun us => hb kV doc pm an cdv ct us⟩
theorem topFn_of {K : PySem.W.Frag} {mg : Str → Option Value} {h : Heap} {x : Str} {st : Stmt} {ps : List Str} {f : Addr} {oc : Value} {od an : Option Addr} {osl : Array (Option Value)} {kV doc pm cdv ct : Value} (X : K.In h) (G : h.Ns mainGlobals mg)
    (hb : ∀ (kV doc pm : Value) (an : Option Addr) (cdv ct : Value) (us : List Value), us.length = ps.length → bindArgs (PySem.W.fnOf x x (defArgs st) (defBody st) (defScope st) .none kV doc pm an cdv ct) ⟨us, []⟩ = pure (ps.zip us))
    (a : PySem.W.nsIn K mainGlobals x = some (some (.ref f))) (l : K.lookup f = some ⟨oc, od, .func (PySem.W.fnOf x x (defArgs st) (defBody st) (defScope st) .none kV doc pm an cdv ct), osl⟩)
    (c : PySem.W.codeIn K cdv x = true) (k : PySem.W.keepIn K (.ref f) = true) : TopFn (KOf X) mg x st ps := topFn_mk X G hb a l c k
section
variable {P : Program} {w : World} {K : PySem.W.Frag} {mg : Str → Option Value} {base : Heap}
theorem TopFn.at {x : Str} {st : Stmt} {N ps : List Str} {k : Nat} {sp : Sp} (T : TopFn K mg x st ps) (S : FnScope N ps (defScope st)) (len : ∀ vs H Q E, sp vs H Q E → vs.length = ps.length)
    (hbody : ∀ (f : Addr) (cdv : Value) (A : Around) (outer : List Env) (s : Shared) (H : Hp) (vs : List V) (Q : VK) (E : XK), Room k (A.deeper (envOfC x (defScope st) s.heap.objs.size f cdv)) → sp vs H Q E →
      ∃ t, PSs (cxOf CX0 P w K mg base N x (defScope st) f cdv A outer s H E).nox (defBody st) t ∧ t { nx := fun _ H' => Q .non H', rt := Q } (start N vs) H) : FnAt P w K mg base x (k + 1) ps sp := by
  obtain ⟨f, fd, F, hm, hb⟩ := T.ex
  exact ⟨f, fd, F.ok S len fun cdv A outer s H vs Q E hr h => hbody f cdv A outer s H vs Q E hr h, hm, F.kp, .all hb⟩
end
theorem hu64 {A : Around} {k : Nat} (hr : Room k A) : A.units + 64 < cLine := hr.units
def Box (H : Hp) (b : Addr) : Prop := ∃ x y z : Int, H b = some (.lst [.int x, .int y, .int z])
structure Oth (b : Addr) (H H' : Hp) : Prop where
  box : Box H' b
  oth : ∀ c o, H c = some o → c ≠ b → H' c = some o
theorem Oth.refl {b : Addr} {H : Hp} (h : Box H b) : Oth b H H := ⟨h, fun _ _ h _ => h⟩
theorem Oth.trans {b : Addr} {H H1 H2 : Hp} (a : Oth b H H1) (c : Oth b H1 H2) : Oth b H H2 := ⟨c.box, fun d o h n => c.oth d o (a.oth d o h n) n⟩
theorem Oth.free {b c : Addr} {H H' : Hp} (a : Oth b H H') (h : H' c = none) : H c = none := by
  cases e : H c with
  | none => rfl
  | some o =>
    by_cases hb : c = b
    · subst hb
      obtain ⟨x, y, z, q⟩ := a.box
      rw [q] at h; cases h
    · rw [a.oth c o e hb] at h; cases h
theorem Box.ne {H : Hp} {b c : Addr} (h : Box H b) (n : H c = none) : c ≠ b := fun e => by
  subst e
  obtain ⟨x, y, z, q⟩ := h
  rw [q] at n; cases n
theorem Oth.new {b p : Addr} {H H1 : Hp} {o : HO} (a : Oth b H H1) (h : H1 p = none) : Oth b H (upd H1 p o) := by
  have hb := a.box.ne h
  refine ⟨?_, fun c u e n => ?_⟩
  · obtain ⟨x, y, z, q⟩ := a.box
    exact ⟨x, y, z, by rw [upd_ne (Ne.symm hb)]; exact q⟩
  · rw [upd_ne (ne_of_none (a.oth c u e n) h)]
    exact a.oth c u e n
theorem Oth.same {b : Addr} {H H1 H2 : Hp} (a : Oth b H H1) (s : Same H1 H2) : Oth b H H2 := by
  refine ⟨?_, fun c o e n => s c o (a.oth c o e n)⟩
  obtain ⟨x, y, z, q⟩ := a.box
  exact ⟨x, y, z, s _ _ q⟩
theorem Same.new {H : Hp} {p : Addr} {o : HO} (h : H p = none) : Same H (upd H p o) := fun b u e => by
  rw [upd_ne (ne_of_none e h)]
  exact e
def bigLine : Int := 10000000000000000000000000000000000000000
def spCell (K : PySem.W.Frag) : Sp := fun vs H Q _ => ∃ (a : Addr) (ns : List Int) (k : Nat), vs = [.ref a, .int k] ∧ SqL K H a (ns.map V.int) ∧ ∀ c : Int, Q (.int c) H
def spMixed : Sp := fun vs H Q _ => ∃ a k : Int, vs = [.int a, .int k] ∧ ∀ r : Int, Q (.int r) H
def spBox : Sp := fun vs H Q _ => ∃ c : Int, vs = [.int c] ∧ ∀ (b : Addr) (x y z : Int), H b = none → Q (.ref b) (upd H b (.lst [.int x, .int y, .int z]))
def spTake : Sp := fun vs H Q _ => ∃ (b : Addr) (n : Int), vs = [.ref b, .int n] ∧ Box H b ∧ 0 < n ∧ n < bigLine ∧ ∀ (r : Int) (H' : Hp), 0 ≤ r → r < n → Oth b H H' → Q (.int r) H'
section
variable {X : Cx} {x : Str} {pos : Pos}
theorem pe_globS {z : Str} (hg : Gl X x) (h : ∃ t, X.mg x = some (.str z t)) (hd : (x == ("__debug__" : Str)) = false := by decide) : PE X (.Name x pos) (tC (.str z)) := by
  obtain ⟨t, e⟩ := h
  exact pe_glob hg e ⟨t, rfl⟩ hd
theorem pe_globI {i : Int} (hg : Gl X x) (h : ∃ t, X.mg x = some (.int i t)) (hd : (x == ("__debug__" : Str)) = false := by decide) : PE X (.Name x pos) (tC (.int i)) := by
  obtain ⟨t, e⟩ := h
  exact pe_glob hg e ⟨t, rfl⟩ hd
end
def spLaw (K : PySem.W.Frag) : Sp := fun vs H Q _ => ∃ (a : Addr) (ns : List Int), vs = [.ref a] ∧ SqL K H a (ns.map V.int) ∧ ns.length ≤ 63 ∧ ∀ H', Q (.bl true) H'
theorem law_len {K : PySem.W.Frag} {x : Str} : ∀ vs H Q E, spLaw K vs H Q E → vs.length = [x].length := fun vs H Q E h => by
  obtain ⟨a, ns, rfl, _⟩ := h
  rfl
theorem law_mk {P : Program} {w : World} {K : PySem.W.Frag} {mg : Str → Option Value} {fa : Addr} {st : Stmt} {x : Str} {N : List Str} {k : Nat} (T : TopFn K mg "law" st [x]) (hfa : mg "law" = some (.ref fa)) (S : FnScope N [x] (defScope st))
    (body : ∀ (base : Heap), K.In base → base.Ns mainGlobals mg → ∀ (f : Addr) (cdv : Value) (A : Around) (outer : List Env) (s : Shared) (H : Hp) (vs : List V) (Q : VK) (E : XK), Room k (A.deeper (envOfC "law" (defScope st) s.heap.objs.size f cdv)) → spLaw K vs H Q E →
      ∃ t, PSs (cxOf CX0 P w K mg base N "law" (defScope st) f cdv A outer s H E).nox (defBody st) t ∧ t { nx := fun _ H' => Q .non H', rt := Q } (start N vs) H) :
    ∃ fd : FuncData, (∀ (s : Shared) (v : Value), BindsTo s fd ⟨[v], []⟩ [(x, v)]) ∧ ∀ base : Heap, K.In base → base.Ns mainGlobals mg → FnOk P w K mg base CX0 (k + 1) fa fd [x] (spLaw K) := by
  obtain ⟨f, fd, F, hm, hb⟩ := T.ex
  rw [hfa] at hm
  cases hm
  exact ⟨fd, fun s v => .of_eq (hb [v] rfl), fun base h1 h2 => F.ok S law_len fun cdv A outer s H vs Q E hr h => body base h1 h2 fa cdv A outer s H vs Q E hr h⟩
theorem law_walk {l : PySem.W.OpenLaw} {q : Program} {loose : List Str} {XP : (Str → Option Value) → Heap → Prop} {YP : World → Heap → Prop} {d : DefRec} {K : Params → PySem.W.Frag} {x : Str} {k : Nat} (hn : l.most = some 63) (hdf : d.params.defaults = []) (hk : Room k callerA)
    (hY : ∀ (w : World) (h : Heap), YP w h → (K w.params).In h)
    (F : ∀ (w : World) (mg : Str → Option Value) (fa : Addr) (h : Heap), (K w.params).In h → h.Ns mainGlobals mg → mg d.name = some (.ref fa) →
      ∃ fd : FuncData, (∀ (s : Shared) (u : Value), BindsTo s fd ⟨[u], []⟩ [(x, u)]) ∧ ∀ base : Heap, (K w.params).In base → base.Ns mainGlobals mg → FnOk l.prog w (K w.params) mg base CX0 k fa fd [x] (spLaw (K w.params))) :
    PySem.W.WalkO q loose XP YP l.row.toRowW d [] (fun f vs => PySem.call f vs) :=
  L2.walk_of (n := 63) (k := k) (x := x) (CX := fun _ => CX0) (sp := fun w => spLaw (K w.params)) hn (by decide) hdf hk hY F (fun _ _ a ns hl _ hS => ⟨a, ns, rfl, hS, hl, fun _ => rfl⟩) fun _ _ _ _ _ z => z
theorem glob_I {K : PySem.W.Frag} {h : Heap} {mg : Str → Option Value} {n : Str} {v : Value} {i : Int} (X : K.In h) (G : h.Ns mainGlobals mg) (e : PySem.W.nsIn K mainGlobals n = some (some v)) (hv : ∃ t, v = .int i t) : ∃ t, mg n = some (.int i t) := by
  obtain ⟨t, rfl⟩ := hv
  exact ⟨t, PySem.W.mg_of X G e⟩
theorem glob_S {K : PySem.W.Frag} {h : Heap} {mg : Str → Option Value} {n : Str} {x z : Str} {t : Tok} (X : K.In h) (G : h.Ns mainGlobals mg) (e : PySem.W.nsIn K mainGlobals n = some (some (.str x t))) (hv : x = z) : ∃ t, mg n = some (.str z t) := by
  subst hv
  exact ⟨t, PySem.W.mg_of X G e⟩
open PySem PySem.Spec PyProof.Rows PySem.W
open Builtin Builtin.ObjectAttr

abbrev bmVE : List Value := [.type "ValueError", .type "Exception", .type "BaseException", .type "object"]
def excMk (K : Frag) (C : Addr) : Bool := match K.lookup C with
  | some ⟨.type "type", _, .cls cd, sl⟩ => (match cd.mro, sl.toList with
    | .ref C' :: bm, [_, _, _, _, some (.builtin n), _] => C' == C && n == "ValueError.__new__" && !cd.hasDel && cd.hasDict && tailIn K bmVE bm
    | _, _ => false) && specialIn K (.ref C) "__call__" == some (some (.builtin "type.__call__")) && instIn K (.ref C) (.type "type") == some true
  | _ => false
structure ExcCls (h : Heap) (C : Addr) (bm : List Value) : Prop where
  at_ : ∃ (N : Addr) (nm qn : Str) (bs : List Value) (sn : List Str) (sub : List Value) (ab : Bool) (col : Option Bool) (dd : Option Addr) (k0 k1 k2 k3 k5 : Option Value),
    h.get? C = some (excClassObj nm qn C N bs bm true sn sub ab col dd k0 k1 k2 k3 k5 "ValueError.__new__")
  tl : OwnTail h bmVE bm
theorem excMk_of {K : Frag} {h : Heap} {C : Addr} (X : K.In h) (q : excMk K C = true) :
    ∃ bm, ExcCls h C bm ∧ specialIn K (.ref C) "__call__" = some (some (.builtin "type.__call__")) ∧ instIn K (.ref C) (.type "type") = some true := by
  unfold excMk at q
  split at q
  · rename_i dd cd sl ho
    simp only [Bool.and_eq_true, beq_iff_eq] at q
    obtain ⟨⟨q, hcall⟩, hinst⟩ := q
    split at q
    · rename_i C' bm k0 k1 k2 k3 n k5 hm hs
      simp only [Bool.and_eq_true, beq_iff_eq, Bool.not_eq_true'] at q
      obtain ⟨⟨⟨⟨rfl, rfl⟩, hdel⟩, hhd⟩, ht⟩ := q
      obtain ⟨nm, bs, mro, ns, qn, hd, sn, sub, ab, col, del⟩ := cd
      dsimp only at hm hdel hhd
      subst hm hdel hhd
      have hsl : sl = #[k0, k1, k2, k3, some (.builtin "ValueError.__new__"), k5] := by
        obtain ⟨l⟩ := sl
        simp only at hs
        rw [hs]
      subst hsl
      exact ⟨bm, ⟨⟨ns, nm, qn, bs, sn, sub, ab, col, dd, k0, k1, k2, k3, k5, X _ _ ho⟩, tail_of_in X ht⟩, hcall, hinst⟩
    · cases q
  · cases q
abbrev excObj (C t : Addr) : Obj := { cls := .ref C, data := .fields #[.ref t, .none, .none, .none, .bool false, .none] }
abbrev argsObj (vs : List Value) : Obj := { cls := .type "tuple", data := .seq vs.toArray }
section
variable {prog : Program} {w : World} {A : Around} {E : Value → Shared → Prop} {K : Frag} {C f : Addr} {R : Result → Shared → Prop} {h : Heap} {g : Array GenState} {d : Drawn} {t : Nat} {os : OsState}
theorem exc_make {vs : List Value} (X : K.In h) (hm : excMk K C = true) (hi : findIn K (.ref C) "__init__" = some (some (.ref f))) (hf : typeIn K (.ref f) = some (.type "function")) (hl : vs.length ≤ sizeLine)
    (hq : codeAny (model prog w) (A.under (.builtin "type.__call__" ⟨.ref C :: vs, []⟩)) (.call (.ref f) ⟨.ref (h.objs.size + 1) :: vs, []⟩) (InitBack (h.objs.size + 1) R)
      ⟨(h.push (argsObj vs)).push (excObj C h.objs.size), g, d, t, os⟩) :
    codeAny (model prog w) A (.call (.ref C) ⟨vs, []⟩) R ⟨h, g, d, t, os⟩ := by
  have F := PySem.F.excBase_ValueError
  obtain ⟨bm, ⟨⟨N, nm, qn, bs, sn, sub, ab, col, dd, k0, k1, k2, k3, k5, hC⟩, T⟩, hcall, hinst⟩ := excMk_of X hm
  have call := looks_specialIn (M := model prog w) X hcall
  have typ := looks_instIn (M := model prog w) X hinst
  refine codeAny_of_tree ?_
  show wpAny _ _ (callAny (.ref C) _) _ _ _
  refine nd_load hC ?_
  show wpAny _ _ (callAny.viaDunder (.ref C) _) _ _ _
  unfold callAny.viaDunder
  refine wpAny_bind (call.at ?_)
  dsimp only
  rw [tc_bind]
  refine wpAny_bind (wpAny_pure (wpAny_bind (wpAny_pure ?_)))
  refine wpAny_pure (a := Fin.again (.call (.builtin "type.__call__") ⟨.ref C :: vs, []⟩)) (And.intro rfl ?_)
  refine codeAny_call_builtin_at (Code.quiet_builtin _ (by decide +kernel)) entry_typeCall (check_slot tc_kind tc_split typ (tc_args _ _ _) ?_)
  repeat (first | with_reducible refine wpAny_loadPart_at hC ?_ | with_reducible refine wpAny_madeBy_exc hC ?_ | wp_step)
  refine codeAny_call_builtin_code (Code.quiet_builtin _ F.quiet) (wpAny_check_new_subT F T hC ?_)
  refine codeAny_exc_new_subT F T hC ?_ hl
  show wpAny _ _ _ _ _ _
  have k : ∀ b o, h.get? b = some o → ((h.push (argsObj vs)).push (excObj C h.objs.size)).get? b = some o := fun b o e => Heap.get?_push_of_some _ (Heap.get?_push_of_some _ e)
  have hC₁ := k _ _ hC
  have hget : ((h.push (argsObj vs)).push (excObj C h.objs.size)).get? (h.objs.size + 1) = some (excObj C h.objs.size) := by heap_get
  have hcC : (Value.ref C :: bm).contains (.ref C) = true := by simp
  have X1 : K.In ((h.push (argsObj vs)).push (excObj C h.objs.size)) := X.keeps k
  unfold isInstance
  repeat (first | with_reducible refine wpAny_loadPart_at hget ?_ | (with_reducible refine wpAny_isSubtype_exc hC₁ ?_; rw [hcC]) | wp_step)
  show wpAny _ _ (typeLookup (.ref C) _) _ _ _
  refine (looks_findIn X1 hi).at ?_
  refine wpAny_holding (wpAny_bind ((bind_fn X1 _ hf).at ?_))
  refine wpAny_bind (wpAny_call (codeAny_mono hq fun r s' z => ?_))
  rcases r with e | (v | _ | _ | _) <;> first | exact z | exact z.elim | skip
  obtain ⟨rfl, z⟩ := z
  wp_walk
  exact z
end
section
variable {prog : Program} {w : World} {A : Around} {E : Value → Shared → Prop} {K : Frag} {C e : Addr} {R : Result → Shared → Prop} {h : Heap} {g : Array GenState} {d : Drawn} {t : Nat} {os : OsState}
theorem base_init {bm : List Value} {oe : Obj} {t0 : Addr} {rest : List Value} {u : Value} {Q : Value → Shared → Prop} (c : ExcCls h C bm) (he : h.get? e = some oe) (hcl : oe.cls = .ref C) (hd : oe.data = .fields (.ref t0 :: rest).toArray)
    (hq : ∀ h', (∀ b o, b ≠ e → h.get? b = some o → h'.get? b = some o) → (∃ t1 : Addr, h'.get? e = some { cls := .ref C, dict := oe.dict, data := .fields (.ref t1 :: rest).toArray, slots := oe.slots }) → h.objs.size ≤ h'.objs.size → Q .none ⟨h', g, d, t, os⟩) :
    wpAny (model prog w) A (call (.builtin "ValueError.__init__") [.ref e, u]) Q E ⟨h, g, d, t, os⟩ := by
  have F := PySem.F.excBase_ValueError
  obtain ⟨⟨N, nm, qn, bs, sn, sub, ab, col, dd, k0, k1, k2, k3, k5, hC⟩, T⟩ := c
  obtain ⟨oc, od, odt, osl⟩ := oe
  dsimp only at hcl hd
  subst hcl hd
  refine wpAny_call (codeAny_call_builtin F.init.plain F.initEntry (wpAny_check_init_subT F T hC he rfl ?_))
  wp_walk
  refine hq _ (fun b o hb e1 => ?_) ⟨h.objs.size, ?_⟩ ?_
  · rw [Heap.get?_update_other _ _ (Ne.symm hb)]
    exact Heap.get?_push_of_some _ e1
  · rw [Heap.get?_update_self _ (Heap.get?_push_of_some _ he) rfl]
    rfl
  · rw [Heap.size_update, Heap.size_push]; omega
def overVE : List Value → Bool
  | .ref _ :: r => overVE r
  | l => l == bmVE
theorem refuse_VE (self : Value) : ∀ {l : List Value}, overVE l = true → refuseLoop self "__setattr__" l = pure ()
  | .ref c :: r, e => by rw [refuseLoop_ref]; exact refuse_VE self (by simpa [overVE] using e)
  | [], e => by simp [overVE] at e
  | .type n :: r, e => by
    have e' : (Value.type n :: r) = bmVE := by simpa [overVE] using e
    rw [e']; exact PySem.F.store_ValueError.passes self
  | .none :: r, e => by simp [overVE] at e
  | .bool b :: r, e => by simp [overVE] at e
  | .int i k :: r, e => by simp [overVE] at e
  | .str i k :: r, e => by simp [overVE] at e
  | .bytes i k :: r, e => by simp [overVE] at e
  | .float i k :: r, e => by simp [overVE] at e
  | .builtin i :: r, e => by simp [overVE] at e
theorem over_tail {h : Heap} {bm : List Value} (T : OwnTail h bmVE bm) : overVE bm = true := by
  induction T with
  | base => rfl
  | own _ _ _ _ ih => simpa [overVE] using ih
end
section
variable {prog : Program} {w : World} {A : Around} {E : Value → Shared → Prop} {K : Frag} {C x : Addr} {R : Result → Shared → Prop} {s : Shared}
theorem exc_sa_open {ox : Obj} {od : Option Obj} {name : Str} {tk : Tok} {v : Value} (X : K.In s.heap) (I : InstAt s.heap x ox C od) (hm : excMk K C = true) (ho : mroIn K C (.type "object") = some true) (ht : findIn K (.ref C) name = some none)
    (h : wpAny (model prog w) A.in1 (storeInOwnDict (.ref x) (.ref C) (.str name tk) name v false)
      (fun fin s' => match fin with | .done f => R (.ok f) s' | .again c' => c'.quiet = true ∧ codeAny (model prog w) A c' R s') (fun e s' => R (.error e) s') s) :
    codeAny (model prog w) A (.call (.builtin "object.__setattr__") ⟨[.ref x, .str name tk, v], []⟩) R s := by
  have SF := PySem.F.store_object
  obtain ⟨bm, ⟨⟨N, nm, qn, bs, sn, sub', ab, col, dd, k0, k1, k2, k3, k5, hC⟩, T⟩, hcall, hinst⟩ := excMk_of X hm
  have sub : Looks (model prog w) s.heap (isInstance (.ref x) (.type "object")) true := I.type.andThen (looks_mroIn X ho)
  refine codeAny_call_builtin SF.slot.plain SF.entry (@check_slot (model prog w) _ _ s "object.__setattr__" "object" "__setattr__" (.ref x) [.str name tk, v] [] _ SF.kind SF.split sub (SF.args (.ref x) (.str name tk) v) ?_)
  have hmro : Looks (model prog w) s.heap (mroOf (.ref C)) (.ref C :: bm) := ((Looks.ld (part := none) hC).andThen .now).andThen .now
  have L3 : Looks (model prog w) s.heap (storeTaker? none) none := .now
  rw [osa_eq, refuse_eq]
  refine wpAny_bind (wpAny_bind (I.type.here (wpAny_bind (hmro.here ?_))))
  rw [refuse_VE _ (show overVE (.ref C :: bm) = true by unfold overVE; exact over_tail T)]
  refine wpAny_pure (wpAny_bind (I.type.here (wpAny_bind ((looks_findIn X ht).here (wpAny_bind (L3.here ?_))))))
  exact h
theorem exc_set {oe : Obj} {vs : Array Value} {name : Str} {v : Value} {Q : Unit → Shared → Prop} (X : K.In s.heap) (he : s.heap.get? x = some oe) (hcl : oe.cls = .ref C) (hdc : oe.dict = none) (hdt : oe.data = .fields vs)
    (hm : excMk K C = true) (ho : mroIn K C (.type "object") = some true) (hs : findIn K (.ref C) "__setattr__" = some (some (.builtin "object.__setattr__"))) (ht : findIn K (.ref C) name = some none)
    (h : ∀ h', h'.get? x = some { oe with dict := some s.heap.objs.size } → h'.Ns1 s.heap.objs.size (fun y => if y = name then some v else none) → (∀ b o, b ≠ x → s.heap.get? b = some o → h'.get? b = some o) → Q () { s with heap := h', toks := s.toks + 2 }) :
    wpAny (model prog w) A (setAttr (.ref x) name v) Q E s := by
  have J : InstAt s.heap x oe C none := ⟨he, hcl, by unfold notCls; rw [hdt], by rw [hdc]; trivial⟩
  refine set_plain X J hs (exc_sa_open (s := { s with toks := s.toks + 1 }) X J hm ho ht ?_)
  obtain ⟨bm, ⟨⟨N, nm, qn, bs, sn, sub', ab, col, dd, k0, k1, k2, k3, k5, hC⟩, T⟩, hcall, hinst⟩ := excMk_of X hm
  obtain ⟨hp, g, d, t, os⟩ := s
  obtain ⟨oc, odd, odt, osl⟩ := oe
  dsimp only at he hcl hdc hdt X h
  subst hcl hdc hdt
  unfold storeInOwnDict
  have hx₁ : (hp.push { cls := .type "dict", data := .dict #[] }).get? x = some ⟨.ref C, none, .fields vs, osl⟩ := Heap.get?_push_of_some _ he
  have hxs : x ≠ hp.objs.size := Nat.ne_of_lt (Heap.lt_size he)
  have hcd : Looks (model prog w) hp (classData C) _ := (Looks.ld (part := none) hC).andThen .now
  refine wpAny_bind (wpAny_pure (wpAny_bind ?_))
  show wpAny _ _ (instanceDict x true) _ _ _
  unfold instanceDict
  refine wpAny_bind (wpAny_loadPart he ?_)
  dsimp only
  refine wpAny_bind (hcd.at ?_)
  dsimp only
  simp only [Bool.not_true, Bool.false_eq_true, if_false, Bool.false_or, typeHasDict]
  refine wpAny_bind (wpAny_alloc' ?_)
  refine wpAny_bind (wpAny_update' hx₁ ?_)
  refine wpAny_pure ?_
  have hgd : ((hp.push { cls := .type "dict", data := .dict #[] }).update x fun o => { cls := o.cls, dict := some hp.objs.size, data := o.data, slots := o.slots }).get? hp.objs.size
      = some { cls := .type "dict", data := .dict #[] } :=
    (Heap.get?_update_ne _ _ _ _ hxs.symm).trans (Heap.get?_push_at rfl rfl)
  have hnd : ((hp.push { cls := .type "dict", data := .dict #[] }).update x fun o => { cls := o.cls, dict := some hp.objs.size, data := o.data, slots := o.slots }).Ns hp.objs.size (fun _ => none) :=
    ⟨_, #[], _, hgd, rfl, fun e he => absurd he (by simp), fun _ => rfl⟩
  show wpAny _ _ (storeInDict hp.objs.size (.str name _) name v) _ _ _
  unfold storeInDict newKeyGuard
  refine wpAny_bind (wpAny_pure (wpAny_bind (wpAny_nsSet1 (Heap.Ns1.of_empty hnd) fun h' hn' hs => ?_)))
  obtain ⟨oD, esD, epD, hoD, hdD, hcD⟩ := hn'.count (Within.cons name v Within.nil)
  refine wpAny_bind (wpAny_lookBehind hoD (by rw [hdD]; exact pastItsLine_dict (Nat.le_trans hcD (by rw [List.length_cons, List.length_nil, sizeLine_eq]; omega))) ?_)
  wp_walk
  refine h h' ?_ hn' fun b o hb e1 => ?_
  · refine (hs.2 x hxs).trans (Heap.get?_update_self _ hx₁ rfl)
  · exact (hs.2 b (Nat.ne_of_lt (Heap.lt_size e1))).trans ((Heap.get?_update_ne _ _ _ _ hb).trans (Heap.get?_push_of_some _ e1))
end
def excGet (K : Frag) (C : Addr) : Bool := findIn K (.ref C) "__getattribute__" == some (some (.builtin "BaseException.__getattribute__")) && findIn K (.ref C) "__getattr__" == some none && mroIn K C (.type "BaseException") == some true
section
variable {prog : Program} {w : World} {A : Around} {E : Value → Shared → Prop} {K : Frag} {C x : Addr} {R : Result → Shared → Prop} {s : Shared} {name : Str}
theorem exc_ga {ox : Obj} {od : Option Obj} {tk : Tok} {r : Found} (X : K.In s.heap) (I : InstAt s.heap x ox C od) (hg : excGet K C = true) (hf : findObj K C od name = some r)
    (h : match r with | .value v => R (.ok (.ret v)) s | .bind g a => wpAny (model prog w) A.in1 (call g [a, .ref x, .ref C]) (fun v s' => R (.ok (.ret v)) s') (fun e s' => R (.error e) s') s | .missing => False) :
    codeAny (model prog w) A (.call (.builtin "BaseException.__getattribute__") ⟨[.ref x, .str name tk], []⟩) R s := by
  unfold excGet at hg
  simp only [Bool.and_eq_true, beq_iff_eq] at hg
  obtain ⟨⟨hga, hgk⟩, hb⟩ := hg
  have sub : Looks (model prog w) s.heap (isInstance (.ref x) (.type "BaseException")) true := I.type.andThen (looks_mroIn X hb)
  refine codeAny_call_builtin PySem.F.attrBase_ValueError.ga.plain PySem.F.entry_bexc_ga ?_
  refine @check_slot (model prog w) _ _ s "BaseException.__getattribute__" "BaseException" "__getattribute__" (.ref x) [.str name tk] [] _ (by decide +kernel) (by decide +kernel) sub (PySem.F.args_bexc_ga (.ref x) (.str name tk)) ?_
  unfold Builtin.«object.__getattribute__»
  have L0 := I.type (M := model prog w)
  have L1 := looks_find (M := model prog w) X I hf
  refine wpAny_bind (wpAny_pure (wpAny_bind (wpAny_pure (wpAny_bind (L0.here (wpAny_bind (L1.here ?_)))))))
  cases r with
  | value v => exact wpAny_pure h
  | bind g a =>
    show wpAny _ _ (holding [a] (call g [a, .ref x, .ref C]) >>= ret) _ _ _
    exact wpAny_bind (wpAny_holding (wpAny_mono h (fun v s' z => wpAny_pure z) fun _ _ z => z))
  | missing => exact h.elim
theorem exc_getAttr {ox : Obj} {od : Option Obj} {v : Value} {expr : Bool} {Q : Value → Shared → Prop} (X : K.In s.heap) (I : InstAt s.heap x ox C od) (hg : excGet K C = true) (hf : findObj K C od name = some (.value v)) (hv : handedIn v = true)
    (h : Q v { s with toks := s.toks + 1 }) : wpAny (model prog w) A (getAttr (.ref x) name expr) Q E s := by
  have hg' := hg
  unfold excGet at hg'
  simp only [Bool.and_eq_true, beq_iff_eq] at hg'
  obtain ⟨⟨hga, hgk⟩, hb⟩ := hg'
  refine wpAny_bind (wpAny_mkText (wpAny_holding (wpAny_bind (I.type _ _ _ _ (fun _ _ e => e) (wpAny_bind (looks_findIn X hga _ _ _ _ (fun _ _ e => e) ?_))))))
  dsimp only
  have hx2 : (Value.builtin "BaseException.__getattribute__" == Value.builtin "object.__getattribute__") = false := by decide +kernel
  rw [show (onTheHeap (Value.ref C) && Value.builtin "BaseException.__getattribute__" == Value.builtin "object.__getattribute__") = false from by rw [hx2, Bool.and_false], if_neg (by decide)]
  refine wpAny_bind (looks_hook X (mc := .ref C) (r := none) hgk _ _ _ _ (fun _ _ e => e) (wpAny_bind (wpAny_attempt (wpAny_holding ?_))))
  unfold callGetattribute
  rw [show (expr && onTheHeap (Value.builtin "BaseException.__getattribute__")) = false from Bool.and_false _, if_neg (by decide)]
  unfold boundAndCalled
  rw [PySem.F.attrBase_ValueError.ga.bind]
  refine wpAny_bind (wpAny_pure ?_)
  show wpAny _ _ (call (.builtin "BaseException.__getattribute__") [.ref x, .str name s.toks]) _ _ _
  refine wpAny_call (exc_ga (s := { s with toks := s.toks + 1 }) X I hg hf ?_)
  show wpAny _ _ (handedOut v) _ _ _
  rw [handedOut_of hv]; exact wpAny_pure h
end
def ExcIs (e C : Addr) (d : Option Addr) (h : Heap) : Prop := ∃ (t : Addr) (rest : List Value) (sl : Array (Option Value)), h.get? e = some { cls := .ref C, dict := d, data := .fields (.ref t :: .none :: rest).toArray, slots := sl }
def ExcRs (e C : Addr) (d : Option Addr) (h : Heap) : Prop := ∃ (t : Addr) (rest : List Value) (sl : Array (Option Value)), h.get? e = some { cls := .ref C, dict := d, data := .fields (.ref t :: rest).toArray, slots := sl }
def excR (e C : Addr) (d : Option Addr) : HO := .ext (ExcRs e C d)
theorem excR_ok {P : Program} {w : World} {H : Hp} {h : Heap} {e C : Addr} {d : Option Addr} (x : ExcRs e C d h) : ObjOk P w H h e (excR e C d) := by
  refine ⟨x, ?_, fun h1 h2 p k => ?_⟩
  · obtain ⟨t, r, sl, q⟩ := x; exact ⟨_, q⟩
  · obtain ⟨t, r, sl, q⟩ := p; exact ⟨t, r, sl, k _ q⟩
theorem excR_is {P : Program} {w : World} {H : Hp} {h : Heap} {e C : Addr} {d : Option Addr} (x : ObjOk P w H h e (excR e C d)) : ExcRs e C d h := x.1
def excO (e C : Addr) (d : Option Addr) : HO := .ext (ExcIs e C d)
theorem excO_ok {P : Program} {w : World} {H : Hp} {h : Heap} {e C : Addr} {d : Option Addr} (x : ExcIs e C d h) : ObjOk P w H h e (excO e C d) := by
  refine ⟨x, ?_, fun h1 h2 p k => ?_⟩
  · obtain ⟨t, r, sl, q⟩ := x; exact ⟨_, q⟩
  · obtain ⟨t, r, sl, q⟩ := p; exact ⟨t, r, sl, k _ q⟩
theorem excO_is {P : Program} {w : World} {H : Hp} {h : Heap} {e C : Addr} {d : Option Addr} (x : ObjOk P w H h e (excO e C d)) : ExcIs e C d h := x.1
structure Exc (H : Hp) (e C dx : Addr) (fs : List (Str × V)) : Prop where
  at_ : H e = some (excO e C (some dx)) ∨ H e = some (excR e C (some dx))
  dct : H dx = some (.xd fs)
theorem Exc.is {P : Program} {w : World} {H : Hp} {h : Heap} {e C dx : Addr} {fs : List (Str × V)} (x : Exc H e C dx fs) (k : HOk P w H h) : ExcRs e C (some dx) h := by
  rcases x.at_ with z | z
  · obtain ⟨t, r, sl, q⟩ := excO_is (k e _ z)
    exact ⟨t, _, sl, q⟩
  · exact excR_is (k e _ z)
def xOk (K : PySem.W.Frag) (C : Addr) (n : Str) : Bool := excMk K C && excGet K C && (PySem.W.clsIn K C).isSome && PySem.W.findIn K (.ref C) "__setattr__" == some (some (.builtin "object.__setattr__")) &&
  PySem.W.findIn K (.ref C) "__class__" == some (some (.builtin "object.__class__")) && PySem.W.specialIn K (.builtin "object.__class__") "__get__" == some (some (.builtin "getset_descriptor.__get__")) &&
  PySem.W.takesIn K (.builtin "object.__class__") == some true && PySem.W.mroIn K C (.type "object") == some true && PySem.W.findIn K (.ref C) n == some none && (PySem.W.clsIn K C).any (·.hasDict)
structure XOk (K : PySem.W.Frag) (C : Addr) (n : Str) : Prop where
  mkk : excMk K C = true
  get : excGet K C = true
  cls : (PySem.W.clsIn K C).isSome = true
  sa : PySem.W.findIn K (.ref C) "__setattr__" = some (some (.builtin "object.__setattr__"))
  ca : PySem.W.findIn K (.ref C) "__class__" = some (some (.builtin "object.__class__"))
  cg : PySem.W.specialIn K (.builtin "object.__class__") "__get__" = some (some (.builtin "getset_descriptor.__get__"))
  ct : PySem.W.takesIn K (.builtin "object.__class__") = some true
  mo : PySem.W.mroIn K C (.type "object") = some true
  nm : PySem.W.findIn K (.ref C) n = some none
  hd : (PySem.W.clsIn K C).any (·.hasDict) = true
theorem xOk_of {K : PySem.W.Frag} {C : Addr} {n : Str} (h : xOk K C n = true) : XOk K C n := by
  unfold xOk at h
  simp only [Bool.and_eq_true, beq_iff_eq] at h
  obtain ⟨⟨⟨⟨⟨⟨⟨⟨⟨a, b⟩, c⟩, d⟩, e⟩, f⟩, g⟩, i⟩, j⟩, k⟩ := h
  exact ⟨a, b, c, d, e, f, g, i, j, k⟩
structure GBase (K : PySem.W.Frag) (mg : Str → Option Value) (x : Str) (G : Addr) : Prop where
  mg : mg x = some (.ref G)
  rd : PySem.W.readsIn K G (.type "type") = true
  fc : PySem.W.findCls K (.ref G) (.type "type") "__init__" = some (.val (.builtin "ValueError.__init__"))
  ga : PySem.W.specialIn K (.ref G) "__getattribute__" = some (some (.builtin "type.__getattribute__"))
section
variable {X : Cx} {pins : List (Addr × Obj)} {σ : St} {H : Hp} {s : Shared} {A : Around} {E : Value → Shared → Prop}
def tBInit (K : PySem.W.Frag) (t : TA) : TE := fun σ H Q => t σ H fun vs H1 => ∃ e C d v, vs = [.ref e, v] ∧ H1 e = some (excO e C d) ∧ excMk K C = true ∧ Q .non H1
theorem binit_ok {e C : Addr} {d : Option Addr} {u : Value} {Q : Value → Shared → Prop} (I : Inv X pins σ H s) (ea : H e = some (excO e C d)) (hm : excMk X.K C = true) (h : ∀ s', Inv X pins σ H s' → Q .none s') :
    wpAny (model X.prog X.w) A (call (.builtin "ValueError.__init__") [.ref e, u]) Q E s := by
  obtain ⟨t0, rest, sl, q⟩ := excO_is (I.hok e _ ea)
  obtain ⟨bm, c, _, _⟩ := excMk_of I.kIn hm
  obtain ⟨hp, g, dr, t, os⟩ := s
  refine base_init c q rfl rfl fun h' k ⟨t1, q1⟩ _ => h _ ?_
  have I2 := I.write (x := e) (e := e) (o := excO e C d) (h' := h') (t' := t) (by rw [ea]; exact True.intro) (.inl rfl) (fun b o hb z => k b o hb z) ⟨_, q1⟩ (excO_ok ⟨t1, rest, sl, q1⟩)
  have eH : upd H e (excO e C d) = H := by
    funext b
    unfold upd
    split
    · rename_i z; rw [z, ea]
    · rfl
  rw [eH] at I2
  exact I2
theorem pe_binit {x : Str} {G : Addr} {p apos pos : Pos} {a : Expr} {es : List Expr} {t : TA} {pl : Sem Bool} (B : GBase X.K X.mg x G) (hg : Gl X x) (ha : PA X (a :: es) t) (hdb : (x == ("__debug__" : Str)) = false := by decide)
    (hst : starEach (a :: es) X.env = (false, eval a X.env) :: starEach es X.env := by rfl) (hpl : (backTo pos (starEach es X.env)).any (·.1) = false := by rfl)
    (ht : eval (.Call (.Attribute (.Name x p) "__init__" apos) (a :: es) [] pos) X.env = (do
      let ov ← eval (.Name x p) X.env
      standAt apos.atName
      let (f, first) ← holding [ov] (getMethod ov "__init__" pl)
      callWith pos f first (backTo pos (starEach (a :: es) X.env)) (backToKw pos (keywordEach [] X.env))) := by rfl) :
    PE X (.Call (.Attribute (.Name x p) "__init__" apos) (a :: es) [] pos) (tBInit X.K t) := by
  intro pins s σ H Q I h
  refine PySem.W.methodCall_KW (pl := pl) (thn (pe_glob hg B.mg (show RelV (.ref G) (.ref G) from rfl) hdb pins s σ H (fun v H1 => v = .ref G ∧ H1 = H) I ⟨rfl, rfl⟩) fun u s1 ⟨v, H1, I1, rv, ev, eH⟩ => ?_) ht
  subst ev eH
  obtain rfl : u = Value.ref G := rv
  refine PySem.W.method_cls I1.kIn B.ga (PySem.W.cls_value I1.kIn B.rd B.fc rfl ?_)
  have hA := ha pos pins _ σ H1 _ (I1.tok (s1.toks + 1)) h
  rw [hst] at hA ⊢
  refine Calls.callWith_builtin (by show (false || (backTo pos (starEach es X.env)).any (·.1)) = false; rw [hpl] <;> rfl) (Calls.evalArgs_plain ?_)
  refine thn hA fun us s2 ⟨vs, H2, I2, r2, e, C, d, v, ev, ea, hm, q⟩ => ?_
  subst ev
  obtain ⟨u1, u2, rfl, r1, r2'⟩ := vals2 r2
  obtain rfl : u1 = Value.ref e := r1
  exact binit_ok I2 ea hm fun s' I' => ⟨.non, H2, I', rfl, q⟩
theorem xset_ok {e C : Addr} {n : Str} {y : V} {u : Value} {Q : Unit → Shared → Prop} (I : Inv X pins σ H s) (ea : H e = some (excO e C none)) (xo : XOk X.K C n) (ry : RelV y u)
    (h : ∀ s' dx, H dx = none → dx ≠ e → Inv X pins σ (upd (upd H e (excO e C (some dx))) dx (.xd [(n, y)])) s' → Q () s') : wpAny (model X.prog X.w) A (setAttr (.ref e) n u) Q E s := by
  obtain ⟨t0, rest, sl, q⟩ := excO_is (I.hok e _ ea)
  refine exc_set I.kIn q rfl rfl rfl xo.mkk xo.mo xo.sa xo.nm fun h' q1 hn k => ?_
  have hf : H s.heap.objs.size = none := I.hok.fresh (Nat.le_refl _)
  have hne : s.heap.objs.size ≠ e := (ne_of_none ea hf).symm
  refine h _ _ hf hne (I.un (t' := s.toks + 2) ⟨fun b o e1 n1 _ _ => ?_, fun b o e1 n1 _ _ => ?_, fun b o e1 n1 _ => ?_, fun b o e1 _ => ?_, fun b xs e1 => ?_, fun b o' u' e1 => ?_, fun b ps e1 => ?_⟩ fun b o e1 => ?_)
  · exact k b o (fun z => by rw [z, ea] at n1; cases n1) e1
  · exact ⟨o.slots, k b o (fun z => by rw [z, ea] at n1; cases n1) e1⟩
  · rw [upd_ne (Nat.ne_of_lt (Heap.lt_size e1)), upd_ne (fun z => by rw [z, ea] at n1; cases n1)]
    exact n1
  · by_cases hb : b = e
    · rw [hb]; exact ⟨_, q1⟩
    · exact ⟨o, k b o hb e1⟩
  · rw [upd_ne (ne_of_none e1 hf), upd_ne (fun z => by rw [z, ea] at e1; cases e1)]; exact e1
  · rw [upd_ne (ne_of_none e1 hf), upd_ne (fun z => by rw [z, ea] at e1; cases e1)]; exact e1
  · exact ⟨#[], by rw [upd_ne (ne_of_none e1 hf), upd_ne (fun z => by rw [z, ea] at e1; cases e1), e1]; simp⟩
  · by_cases h1 : b = s.heap.objs.size
    · subst h1
      rw [upd_same] at e1
      cases e1
      refine ⟨_, hn, fun f => ?_⟩
      show RelO (List.lookup f [(n, y)]) (if f = n then some u else none)
      by_cases z : f = n
      · subst z
        rw [if_pos rfl]
        simp only [List.lookup, beq_self_eq_true]
        exact ry
      · rw [if_neg z]
        have z' : (f == n) = false := beq_eq_false_iff_ne.mpr z
        simp [List.lookup, z', RelO]
    · rw [upd_ne h1] at e1
      by_cases h2 : b = e
      · subst h2
        rw [upd_same] at e1
        cases e1
        exact excO_ok ⟨t0, rest, sl, q1⟩
      · rw [upd_ne h2] at e1
        refine (I.hok b o e1).stay (fun c v hc q => k c v ?_ q) (fun c z => ?_) fun c xs z => ?_
        · rcases hc with z | z
          · rw [z]; exact h2
          · intro z2; rw [z2, ea] at z; cases z
        · rw [upd_ne (ne_of_none z hf), upd_ne (fun z2 => by rw [z2, ea] at z; cases z)]; exact z
        · rw [upd_ne (ne_of_none z hf), upd_ne (fun z2 => by rw [z2, ea] at z; cases z)]; exact z
theorem xget_ok {e C dx : Addr} {fs : List (Str × V)} {n : Str} {y : V} {b : Bool} {Q : Value → Shared → Prop} (I : Inv X pins σ H s) (x : Exc H e C dx fs) (xo : XOk X.K C n) (l : fs.lookup n = some y)
    (h : ∀ u s', Inv X pins σ H s' → RelV y u → Q u s') : wpAny (model X.prog X.w) A (getAttr (.ref e) n b) Q E s := by
  obtain ⟨t0, rest, sl, q⟩ := x.is I.hok
  obtain ⟨mA, hn, hr⟩ := (show ∃ mA, s.heap.Ns1 dx mA ∧ ∀ f, RelO (fs.lookup f) (mA f) from I.hok dx _ x.dct)
  obtain ⟨od, ho, hl⟩ := lookIn_ns hn
  have r1 := hr n
  rw [l] at r1
  obtain ⟨u, eu, ru⟩ := RelO.some_of r1
  have J : PySem.W.InstAt s.heap e _ C (some od) := ⟨q, rfl, rfl, ho⟩
  exact exc_getAttr I.kIn J xo.get (PySem.W.findObj_own xo.hd xo.nm rfl (by rw [hl, eu])) (handed_of ru) (h _ _ (I.tok _) ru)
end
def tXFld (K : PySem.W.Frag) (ta : TE) (f : Str) : TE := fun σ H Q => ta σ H fun x H1 => ∃ e C dx fs v, x = .ref e ∧ Exc H1 e C dx fs ∧ XOk K C f ∧ fs.lookup f = some v ∧ Q v H1
def sXFld (K : PySem.W.Frag) (ta tv : TE) (f : Str) : TS := fun D σ H => tv σ H fun y H1 => ta σ H1 fun x H2 => ∃ e C, x = .ref e ∧ H2 e = some (excO e C none) ∧ XOk K C f ∧
  ∀ dx, H2 dx = none → dx ≠ e → D.nx σ (upd (upd H2 e (excO e C (some dx))) dx (.xd [(f, y)]))
section
variable {X : Cx} {o e value : Expr} {f : Str} {pos pos' tpos : Pos} {ta tv : TE}
theorem pe_xfld (he : PE X e ta) (hb : attributeBase e f X.env (eval e X.env) = eval e X.env := by rfl) : PE X (.Attribute e f pos) (tXFld X.K ta f) := by
  intro pins s σ H Q I h
  refine attr_of hb (thn (he pins s σ H _ I h) fun u s1 ⟨x, H1, I1, rx, a, C, dx, fs, v, ex, ea, c, l, q⟩ => ?_)
  subst ex
  obtain rfl : u = Value.ref a := rx
  exact xget_ok I1 ea c l fun u' s2 I2 ru => ⟨v, H1, I2, ru, q⟩
theorem ps_xfld (ha : PE X o ta) (hv : PE X value tv) (hs : swapsWith value (some (.Attribute o f pos')) pos.line X.env = pure false := by rfl) : PS X (.Assign [.Attribute o f pos'] value pos) (sXFld X.K ta tv f) := by
  intro pins s σ H D I h
  refine plainObj_wpAny_Assign_Attribute (thn (hv pins s σ H _ I h) fun u s1 ⟨y, H1, I1, ry, q⟩ => thn (ha pins s1 σ H1 _ I1 q) fun ov s2 ⟨x, H2, I2, rx, a, C, ex, ea, c, q2⟩ => ?_) hs
  subst ex
  obtain rfl : ov = Value.ref a := rx
  exact xset_ok I2 ea c ry fun s3 dx n1 n2 I3 => ⟨σ, _, I3, q2 dx n1 n2⟩
end
def spInit (K : PySem.W.Frag) (C : Addr) (n : Str) : Sp := fun vs H Q _ => ∃ e v, vs = [.ref e, v] ∧ H e = some (excO e C none) ∧ ∀ dx, H dx = none → dx ≠ e → Q .non (upd (upd H e (excO e C (some dx))) dx (.xd [(n, v)]))
def tXMake (C : Addr) (n : Str) (t : TA) : TE := fun σ H Q => t σ H fun vs H1 => ∃ v, vs = [v] ∧ ∀ e dx, H1 e = none → H1 dx = none → dx ≠ e → Q (.ref e) (upd (upd H1 e (excO e C (some dx))) dx (.xd [(n, v)]))
structure XDef (K : PySem.W.Frag) (mg : Str → Option Value) (x n : Str) (C : Addr) : Prop where
  mg : mg x = some (.ref C)
  ok : XOk K C n
  kp : PySem.W.keepIn K (.ref C) = true
section
variable {X : Cx} {k : Nat} {f C : Addr} {fd : FuncData} {ps : List Str} {x n : Str} {p pos : Pos} {a : Expr} {t : TA}
theorem run_xmake {pins : List (Addr × Obj)} {σ : St} {H : Hp} {s : Shared} {Q : VK} {us : List Value} {v : V} (M : XOk X.K C n) (hi : PySem.W.findIn X.K (.ref C) "__init__" = some (some (.ref f))) (hfn : PySem.W.isFn X.K (.ref f) = true)
    (F : FnOk X.prog X.w X.K X.mg X.base CX0 k f fd ps (spInit X.K C n)) (hr : Room (k + 1) X.A) (hb : Binds X.K fd ps []) (I : Inv X pins σ H s) (r : Vals [v] us)
    (h : ∀ e dx, H e = none → H dx = none → dx ≠ e → Q (.ref e) (upd (upd H e (excO e C (some dx))) dx (.xd [(n, v)]))) :
    wpAny (model X.prog X.w) X.A (call (.ref C) us) (EP X pins σ Q) X.xe s := by
  have hfe : H (s.heap.objs.size + 1) = none := I.hok.fresh (Nat.le_succ _)
  have I1 : Inv X pins σ H { s with heap := s.heap.push (argsObj us) } := I.kept (t' := s.toks) fun b u q => Heap.get?_push_of_some _ q
  have e2 : ((s.heap.push (argsObj us)).push (excObj C s.heap.objs.size)).get? (s.heap.objs.size + 1) = some (excObj C s.heap.objs.size) := by
    have := Heap.get?_push_size (s.heap.push (argsObj us)) (o := excObj C s.heap.objs.size) rfl
    rwa [Heap.size_push] at this
  have I2 : Inv X pins σ (upd H (s.heap.objs.size + 1) (excO (s.heap.objs.size + 1) C none)) { s with heap := (s.heap.push (argsObj us)).push (excObj C s.heap.objs.size) } :=
    I1.laid (a := s.heap.objs.size + 1) (o := excO (s.heap.objs.size + 1) C none) (t' := s.toks) (fun b u q => Heap.get?_push_of_some _ q) (Nat.le_of_eq (Heap.size_push _ _)) (excO_ok ⟨s.heap.objs.size, _, _, e2⟩)
  have r2 : Vals [V.ref (s.heap.objs.size + 1), v] (Value.ref (s.heap.objs.size + 1) :: us) := .cons rfl r
  have hq : spInit X.K C n [V.ref (s.heap.objs.size + 1), v] (upd H (s.heap.objs.size + 1) (excO (s.heap.objs.size + 1) C none)) (fun v H2 => v = .non ∧ Q (.ref (s.heap.objs.size + 1)) H2) E0 := by
    refine ⟨_, _, rfl, upd_same, fun dx n1 n2 => ⟨rfl, ?_⟩⟩
    rw [upd_upd]
    rw [upd_ne n2] at n1
    exact h _ _ hfe n1 n2
  have hl : (Value.ref (s.heap.objs.size + 1) :: us ++ []).length = ps.length := by
    have e := r2.length
    rw [F.len _ _ _ _ hq] at e
    rw [List.append_nil]
    exact e.symm
  have hlen : us.length ≤ sizeLine := by
    have e := r.length
    rw [← e, sizeLine_eq]; simp
  obtain ⟨hp, g, d, tt, os⟩ := s
  have hb2 := hb _ (Value.ref (hp.objs.size + 1) :: us) I2.kIn hl
  rw [List.append_nil] at hb2
  refine wpAny_call (exc_make I.kIn M.mkk hi (beq_iff_eq.mp hfn) hlen (codeAny_mono (F.run _ X.stack _ _ ⟨Value.ref (hp.objs.size + 1) :: us, []⟩ (Value.ref (hp.objs.size + 1) :: us) _ _ E0 (hr.make C us [])
    (I2.env0.make C us []) hb2 r2 hq) fun r s' hq' => ?_))
  cases r with
  | error e => exact hq'.elim
  | ok fl =>
    cases fl with
    | ret u =>
      obtain ⟨v', H', I3, rv, ev, q3⟩ := I2.after hq'
      subst ev
      have e5 : upd H (hp.objs.size + 1) (excO (hp.objs.size + 1) C none) = upd H (hp.objs.size + 1) (excO (hp.objs.size + 1) C none) := rfl
      exact ⟨rv, ⟨V.ref (hp.objs.size + 1), H', I3, rfl, q3⟩⟩
    | next => exact False.elim hq'
    | brk => exact False.elim hq'
    | cont => exact False.elim hq'
theorem pe_xmake (D : XDef X.K X.mg x n C) (hi : PySem.W.findIn X.K (.ref C) "__init__" = some (some (.ref f))) (hfn : PySem.W.isFn X.K (.ref f) = true)
    (F : FnOk X.prog X.w X.K X.mg X.base CX0 k f fd ps (spInit X.K C n)) (hb : Binds X.K fd ps []) (hr : Room (k + 1) X.A) (hg : Gl X x)
    (ha : PA X [a] t) (hdb : (x == ("__debug__" : Str)) = false := by decide) (he : starEach [a] X.env = (false, eval a X.env) :: starEach [] X.env := by rfl) (hpl : (backTo pos (starEach [] X.env)).any (·.1) = false := by rfl) :
    PE X (.Call (.Name x p) [a] [] pos) (tXMake C n t) := by
  intro pins s σ H Q I h
  refine wpAny_Call_Name_kw (ld_glob I hg D.mg ?_ hdb)
  refine PySem.W.callWith_K (h₀ := X.base) I.ok.mod.kin D.kp (thn (ha pos pins s σ H _ I h) fun us s1 ⟨vs, H1, I1, r, v, ev, q⟩ => ⟨I1.kIn, ?_⟩) he hpl
  subst ev
  exact run_xmake D.ok hi hfn F hr hb I1 r q
end
structure XAt (P : Program) (w : World) (K : PySem.W.Frag) (mg : Str → Option Value) (base : Heap) (x : Str) (k : Nat) (n : Str) (C : Addr) : Prop where
  df : XDef K mg x n C
  ex : ∃ (f : Addr) (fd : FuncData), PySem.W.findIn K (.ref C) "__init__" = some (some (.ref f)) ∧ PySem.W.isFn K (.ref f) = true ∧ FnOk P w K mg base CX0 k f fd ["self", n] (spInit K C n) ∧ Binds K fd ["self", n] []
theorem pe_x {X : Cx} {k j : Nat} {C : Addr} {x n : Str} {p pos : Pos} {a : Expr} {t : TA} (D : XAt X.prog X.w X.K X.mg X.base x k n C) (hr : Room (j + 1) X.A) (hj : k ≤ j) (hg : Gl X x)
    (ha : PA X [a] t) (hdb : (x == ("__debug__" : Str)) = false := by decide) (he : starEach [a] X.env = (false, eval a X.env) :: starEach [] X.env := by rfl) (hpl : (backTo pos (starEach [] X.env)).any (·.1) = false := by rfl) :
    PE X (.Call (.Name x p) [a] [] pos) (tXMake C n t) := by
  obtain ⟨f, fd, hi, hfn, F, hb⟩ := D.ex
  exact pe_xmake D.df hi hfn F hb (hr.mono (Nat.succ_le_succ hj)) hg ha hdb he hpl
section
variable {X : Cx}
theorem strsAre_of : ∀ {ys : List Str} {us : List Value}, Vals (ys.map V.str) us → StrsAre us ys
  | [], _, .nil => .nil
  | y :: r, _, .cons h t => by
    obtain ⟨k, rfl⟩ := h
    exact .cons y k (strsAre_of t)
theorem mt_join : MtR X "str.join" (fun x xs H Q => ∃ z a ys, x = .str z ∧ xs = [.ref a] ∧ SqL X.K H a (ys.map V.str) ∧ (ys.map (·.length)).sum + ys.length * z.length ≤ 16777216 ∧ Q (.str (Txt.join z ys)) H) := by
  intro pins s σ H x xs v us Q I rx rs h
  obtain ⟨z, a, ys, rfl, rfl, hq, hz, q⟩ := h
  obtain ⟨t, rfl⟩ := rx
  obtain ⟨u, rfl, ru⟩ := vals1 rs
  cases ru
  obtain ⟨its, rv, pl, _⟩ := I.list hq
  exact join_list pl.isList (by simpa using strsAre_of rv) hz fun t' k => ⟨.str _, H, I.tok _, ⟨_, rfl⟩, q⟩
end
section
variable {X : Cx}
end
def mroX (K : PySem.W.Frag) (C G : Addr) : Bool := (PySem.W.clsIn K C).any (fun cd => cd.mro == (.ref C :: .ref G :: bmVE)) && PySem.W.typeIn K (.ref C) == some (.type "type")
structure MroX (K : PySem.W.Frag) (C G : Addr) : Prop where
  cd : ∃ cd, PySem.W.clsIn K C = some cd ∧ cd.mro = .ref C :: .ref G :: bmVE
  ty : PySem.W.typeIn K (.ref C) = some (.type "type")
theorem mroX_of {K : PySem.W.Frag} {C G : Addr} (h : mroX K C G = true) : MroX K C G := by
  unfold mroX at h
  rw [Bool.and_eq_true] at h
  obtain ⟨cd, e1, e2⟩ := PySem.W.any_some h.1
  exact ⟨⟨cd, e1, beq_iff_eq.mp e2⟩, beq_iff_eq.mp h.2⟩
structure XTop (K : PySem.W.Frag) (mg : Str → Option Value) (x n : Str) (st : Stmt) (C G : Addr) : Prop where
  df : XDef K mg x n C
  mro : MroX K C G
  ex : ∃ (f : Addr) (fd : FuncData), PySem.W.findIn K (.ref C) "__init__" = some (some (.ref f)) ∧ PySem.W.isFn K (.ref f) = true ∧ Fun K "__init__" (x ++ ".__init__") st f fd ∧ Binds K fd ["self", n] []
theorem xtop_of {K : PySem.W.Frag} {mg : Str → Option Value} {h : Heap} {x n : Str} {st : Stmt} {C G f : Addr} {oc : Value} {od an : Option Addr} {osl : Array (Option Value)} {kV doc pm cdv ct : Value} (X : K.In h) (N : h.Ns mainGlobals mg)
    (hb : ∀ (kV doc pm : Value) (an : Option Addr) (cdv ct : Value) (us : List Value), us.length = 2 → bindArgs (PySem.W.fnOf "__init__" (x ++ ".__init__") (defArgs st) (defBody st) (defScope st) .none kV doc pm an cdv ct) ⟨us, []⟩ = pure ((["self", n] : List Str).zip us))
    (a : PySem.W.nsIn K mainGlobals x = some (some (.ref C))) (kp : PySem.W.keepIn K (.ref C) = true) (i : PySem.W.findIn K (.ref C) "__init__" = some (some (.ref f)))
    (l : K.lookup f = some ⟨oc, od, .func (PySem.W.fnOf "__init__" (x ++ ".__init__") (defArgs st) (defBody st) (defScope st) .none kV doc pm an cdv ct), osl⟩) (c : PySem.W.codeIn K cdv (x ++ ".__init__") = true) (k : PySem.W.keepIn K (.ref f) = true)
    (fn : PySem.W.isFn K (.ref f) = true) (o : xOk K C n = true) (m : mroX K C G = true) : XTop (KOf X) mg x n st C G :=
  ⟨⟨PySem.W.mg_of X N a, xOk_of o, kp⟩, mroX_of m, f, _, i, fn, fun_mk l c k, .all fun us hl => hb kV doc pm an cdv ct us hl⟩
theorem gbase_of {K : PySem.W.Frag} {mg : Str → Option Value} {h : Heap} {x : Str} {G : Addr} (X : K.In h) (N : h.Ns mainGlobals mg) (a : PySem.W.nsIn K mainGlobals x = some (some (.ref G))) (b : PySem.W.readsIn K G (.type "type") = true)
    (c : PySem.W.findCls K (.ref G) (.type "type") "__init__" = some (.val (.builtin "ValueError.__init__"))) (d : PySem.W.specialIn K (.ref G) "__getattribute__" = some (some (.builtin "type.__getattribute__"))) : GBase (KOf X) mg x G :=
  ⟨PySem.W.mg_of X N a, b, c, d⟩
structure Gone (l : List Env) (e : Addr) (oe : Obj) (vs : Array Value) (h h' : Heap) : Prop where
  keep : ∀ b o, b ≠ e → b ∉ frs l → h.get? b = some o → h'.get? b = some o
  slot : ∀ b o, b ∈ frs l → h.get? b = some o → ∃ sl, h'.get? b = some { o with slots := sl }
  head : ∃ (T : Addr) (oT : Obj) (ts : Array Value), h'.get? e = some { oe with data := .fields (vs.setIfInBounds 1 (.ref T)) } ∧ h.objs.size ≤ T ∧ T ≠ e ∧ h'.get? T = some oT ∧ oT.data = .fields ts ∧ ts[3]? = some .none
section
variable {M : Model} {A : Around} {E : Value → Shared → Prop} {s : Shared} {base : Heap} {env : Env} {outer : List Env} {L e : Addr} {oe : Obj} {vs : Array Value} {Q : Unit → Shared → Prop}
theorem enter {hd : Value} {b : Bool} (hfr : A.frames = some (env :: outer)) (hl : s.heap.FunFrames base (env :: outer)) (hf : env.frame = some L) (he : s.heap.get? e = some oe) (hdt : oe.data = .fields vs) (h1 : 1 < vs.size)
    (hq : ∀ h', Gone (env :: outer) e oe vs s.heap h' → Q () { s with heap := h' }) :
    wpAny M A (do
      let fr ← frameOf env
      let pl ← entryPlaceOf L b
      let r ← EntryCells.newEntry hd fr .none (rawInt L) .none pl
      setField (.ref e) 1 r) (fun _ s' => wpAny M A (setFlight (.ref e) none) Q E s') E s := by
  have ne : e ∉ frs (env :: outer) := fun z => by
    obtain ⟨_, o, ho, nf⟩ := hl.mem z
    rw [he] at ho
    cases ho
    exact nf vs hdt
  refine wpAny_bind (wpAny_frameOf_fun hfr hl hf fun h1' sl1 => wpAny_bind (wpAny_entryPlaceOf fun pl hpl => ?_))
  have e1 : h1'.get? e = some oe := (sl1.2.1 e ne).trans he
  unfold EntryCells.newEntry newFields
  refine wpAny_bind (wpAny_newObj_type ?_ (hpl.sizeOk5 _ _ _ _ _))
  generalize hob : ({ cls := .type "traceback", dict := none, data := .fields ([hd, .ref L, .none, rawInt L, .none] ++ (if pl.isEmpty then List.replicate 6 Value.none else pl)).toArray } : Obj) = ob
  have hobd : ob.data = .fields ([hd, .ref L, .none, rawInt L, .none] ++ (if pl.isEmpty then List.replicate 6 Value.none else pl)).toArray := by rw [← hob]
  have e2 : (h1'.push ob).get? e = some oe := Heap.get?_push_of_some _ e1
  have eT : h1'.objs.size ≠ e := Nat.ne_of_gt (Heap.lt_size e1)
  have t2 : (h1'.push ob).get? h1'.objs.size = some ob := Heap.get?_push_size h1' (by rw [← hob]; rfl)
  refine wpAny_setField e2 hdt h1 ?_
  dsimp only
  have d3 := Obj.data_mapFields hdt (·.setIfInBounds 1 (Value.ref h1'.objs.size))
  have e3 := Heap.get?_update_self (Obj.mapFields (·.setIfInBounds 1 (Value.ref h1'.objs.size))) e2 (Obj.isFreed_of_fields d3)
  have t3 := (Heap.get?_update_other (h1'.push ob) (Obj.mapFields (·.setIfInBounds 1 (Value.ref h1'.objs.size))) (Ne.symm eT)).trans t2
  have o3 : ∀ c, c ≠ e → c ≠ h1'.objs.size → ∀ o, h1'.get? c = some o → ((h1'.push ob).update e (Obj.mapFields (·.setIfInBounds 1 (Value.ref h1'.objs.size)))).get? c = some o := fun c n1 n2 o q =>
    (Heap.get?_update_other _ _ (Ne.symm n1)).trans (Heap.get?_push_of_some _ q)
  generalize (h1'.push ob).update e (Obj.mapFields (·.setIfInBounds 1 (Value.ref h1'.objs.size))) = h3 at e3 t3 o3
  unfold setFlight
  refine wpAny_bind (wpAny_field e3 d3 (x := .ref h1'.objs.size) (by rw [Array.getElem?_setIfInBounds_self_of_lt h1]) ?_)
  rw [if_pos (by simp)]
  have sz : 3 < ([hd, .ref L, .none, rawInt L, .none] ++ (if pl.isEmpty then List.replicate 6 Value.none else pl)).toArray.size := by
    rw [List.size_toArray, List.length_append]; simp; omega
  refine wpAny_setField t3 hobd sz (hq _ ?_)
  have d4 := Obj.data_mapFields hobd (·.setIfInBounds 3 ((none : Option Addr).elim Value.none fun f => rawInt f))
  have t4 := Heap.get?_update_self (Obj.mapFields (·.setIfInBounds 3 ((none : Option Addr).elim Value.none fun f => rawInt f))) t3 (Obj.isFreed_of_fields d4)
  have o4 : ∀ c, c ≠ h1'.objs.size → (h3.update h1'.objs.size (Obj.mapFields (·.setIfInBounds 3 ((none : Option Addr).elim Value.none fun f => rawInt f)))).get? c = h3.get? c := fun c n => Heap.get?_update_other _ _ (Ne.symm n)
  have lt1 : ∀ c o, s.heap.get? c = some o → c ≠ h1'.objs.size := fun c o q => by
    rw [sl1.1]; exact Nat.ne_of_lt (Heap.lt_size q)
  refine ⟨fun c o n1 n2 q => ?_, fun c o n1 q => ?_, h1'.objs.size, _, _, ?_, ?_, eT, t4, d4, ?_⟩
  · rw [o4 c (lt1 c o q)]
    exact o3 c n1 (lt1 c o q) o ((sl1.2.1 c n2).trans q)
  · obtain ⟨sl, z⟩ := sl1.2.2 c o q
    refine ⟨sl, ?_⟩
    rw [o4 c (lt1 c o q)]
    exact o3 c (fun z2 => ne (z2 ▸ n1)) (lt1 c o q) _ z
  · rw [o4 e (Ne.symm eT), e3]
    obtain ⟨a1, a2, a3, a4⟩ := oe
    dsimp only at hdt
    subst hdt
    rfl
  · rw [sl1.1]
    exact Nat.le_refl _
  · rw [Array.getElem?_setIfInBounds_self_of_lt sz]
    rfl
theorem leave_new (hfr : A.frames = some (env :: outer)) (hl : s.heap.FunFrames base (env :: outer)) (hf : env.frame = some L) (he : s.heap.get? e = some oe) (hdt : oe.data = .fields vs) (h1 : vs[1]? = some .none)
    (hq : ∀ h', Gone (env :: outer) e oe vs s.heap h' → Q () { s with heap := h' }) : wpAny M A (leaving env (.ref e)) Q E s := by
  unfold leaving noteFrame
  rw [hf]
  refine wpAny_bind (wpAny_bind (wpAny_field he hdt h1 ?_))
  rw [if_neg (by decide)]
  exact enter hfr hl hf he hdt (Array.getElem?_eq_some_iff.mp h1).1 hq
theorem note_on {T : Addr} {oT : Obj} {ts : Array Value} (hfr : A.frames = some (env :: outer)) (hl : s.heap.FunFrames base (env :: outer)) (hf : env.frame = some L) (he : s.heap.get? e = some oe) (hdt : oe.data = .fields vs) (h1 : vs[1]? = some (.ref T))
    (hT : s.heap.get? T = some oT) (hTe : T ≠ e) (hdT : oT.data = .fields ts) (h3 : ts[3]? = some .none)
    (hq : ∀ h1 h', (∀ b o, b ≠ T → s.heap.get? b = some o → h1.get? b = some o) → h1.objs.size = s.heap.objs.size → (∃ o, h1.get? T = some o) → Gone (env :: outer) e oe vs h1 h' → Q () { s with heap := h' }) : wpAny M A (noteFrame (.ref e) env) (fun _ s' => wpAny M A (setFlight (.ref e) none) Q E s') E s := by
  unfold noteFrame
  rw [hf]
  refine wpAny_bind (wpAny_field he hdt h1 ?_)
  rw [if_pos (by simp)]
  refine wpAny_bind (wpAny_field hT hdT h3 ?_)
  rw [if_neg (by simp [rawInt])]
  refine wpAny_bind (wpAny_setField hT hdT (Array.getElem?_eq_some_iff.mp h3).1 ?_)
  have ot : ∀ c, c ≠ T → (s.heap.update T (Obj.mapFields (·.setIfInBounds 3 Value.none))).get? c = s.heap.get? c := fun c n => Heap.get?_update_other _ _ (Ne.symm n)
  have nf : ∀ c o, s.heap.get? c = some o → (∀ xs, o.data ≠ .fields xs) → c ≠ T := fun c o q z n => by
    rw [n, hT] at q; cases q; exact z ts hdT
  have tT := Heap.get?_update_self (Obj.mapFields (·.setIfInBounds 3 Value.none)) hT (Obj.isFreed_of_fields (Obj.data_mapFields hdT _))
  exact enter (s := { s with heap := s.heap.update T (Obj.mapFields (·.setIfInBounds 3 Value.none)) }) hfr (hl.of_keeps fun c o q z => ⟨o, (ot c (nf c o q z)).trans q, rfl⟩) hf ((ot e (Ne.symm hTe)).trans he) hdt (Array.getElem?_eq_some_iff.mp h1).1
    fun h' g => hq _ h' (fun c o n q => (ot c n).trans q) (Heap.size_after_update ..) ⟨_, tT⟩ g
theorem leave_on {T : Addr} {oT : Obj} {ts : Array Value} (hfr : A.frames = some (env :: outer)) (hl : s.heap.FunFrames base (env :: outer)) (hf : env.frame = some L) (he : s.heap.get? e = some oe) (hdt : oe.data = .fields vs) (h1 : vs[1]? = some (.ref T))
    (hT : s.heap.get? T = some oT) (hTe : T ≠ e) (hdT : oT.data = .fields ts) (h3 : ts[3]? = some .none)
    (hq : ∀ h1 h', (∀ b o, b ≠ T → s.heap.get? b = some o → h1.get? b = some o) → h1.objs.size = s.heap.objs.size → (∃ o, h1.get? T = some o) → Gone (env :: outer) e oe vs h1 h' → Q () { s with heap := h' }) : wpAny M A (leaving env (.ref e)) Q E s := by
  unfold leaving
  exact wpAny_bind (note_on hfr hl hf he hdt h1 hT hTe hdT h3 hq)
end
def Head (g : Heap) (H : Hp) (h : Heap) (a : Addr) : Prop := ∃ (C : Addr) (d : Option Addr) (t T : Addr) (rest : List Value) (sl : Array (Option Value)) (oT : Obj) (ts : Array Value),
  H a = some (excR a C d) ∧ h.get? a = some { cls := .ref C, dict := d, data := .fields (.ref t :: .ref T :: rest).toArray, slots := sl } ∧ T ≠ a ∧ h.get? T = some oT ∧ oT.data = .fields ts ∧ ts[3]? = some .none ∧ H T = none ∧ g.objs.size ≤ T
def CXR (P : Program) (w : World) : CXT := fun outer H s E e s' => ∃ (a : Addr) (H' : Hp), e = .ref a ∧ s'.os = s.os ∧ AllBare s'.gens ∧ Un (frs outer) [] H H' s.heap s'.heap ∧ HOk P w H' s'.heap ∧ Head s.heap H' s'.heap a ∧ E (.ref a) none H'
section
variable {X : Cx} {pins : List (Addr × Obj)} {σ : St} {H : Hp} {s : Shared}
theorem gone_un {H₀ H' H'' : Hp} {g h1 h' : Heap} {a : Addr} {oe : Obj} {vs : Array Value} {env : Env} {outer : List Env} (u : Un (frs outer) [] H₀ H' g h1) (gn : Gone (env :: outer) a oe vs h1 h')
    (ha : ∀ b o, g.get? b = some o → H₀ b = none → b ≠ a) (hL : ∀ b o, g.get? b = some o → b ∈ frs (env :: outer) → b ∈ frs outer)
    (hs : ∀ b o, H' b = some o → b ≠ a → H'' b = some o) (hn : ∀ b, H' b = none → H'' b = none) (hx : H' a = H'' a ∨ (∃ φ, H' a = some (.ext φ))) : Un (frs outer) [] H₀ H'' g h' := by
  have nx : ∀ b o, H' b = some o → (∀ φ, o ≠ .ext φ) → H'' b = some o := fun b o q z => by
    by_cases hb : b = a
    · subst hb
      rcases hx with e | ⟨φ, e⟩
      · rw [← e]; exact q
      · rw [e] at q; cases q; exact absurd rfl (z φ)
    · exact hs b o q hb
  have thr : ∀ b o, h1.get? b = some o → ∃ o', h'.get? b = some o' := fun b o q => by
    by_cases hb : b = a
    · subst hb
      obtain ⟨T, oT, ts, e1, _⟩ := gn.head
      exact ⟨_, e1⟩
    · by_cases hf : b ∈ frs (env :: outer)
      · obtain ⟨sl, z⟩ := gn.slot b o hf q
        exact ⟨_, z⟩
      · exact ⟨o, gn.keep b o hb hf q⟩
  refine ⟨fun b o q n hf he => ?_, fun b o q n hf he => ?_, fun b o q n he => hn b (u.free b o q n he), fun b o q he => ?_, fun b xs q => nx b _ (u.tups b xs q) (fun φ z => by cases z), fun b o x q => nx b _ (u.frzs b o x q) (fun φ z => by cases z), fun b ps q => ?_⟩
  · exact gn.keep b o (ha b o q n) (fun z => hf (hL b o q z)) (u.keep b o q n hf he)
  · obtain ⟨sl, z⟩ := u.slot b o q n hf he
    have hf' : b ∈ frs (env :: outer) := by
      unfold frs at hf ⊢
      rw [List.filterMap_cons]
      split
      · exact hf
      · exact List.mem_cons_of_mem _ hf
    obtain ⟨sl', z'⟩ := gn.slot b _ hf' z
    exact ⟨sl', z'⟩
  · obtain ⟨o', z⟩ := u.there b o q he
    exact thr b o' z
  · obtain ⟨m, z⟩ := u.tbls b ps q
    exact ⟨m, nx b _ z (fun φ z => by cases z)⟩
end
section
variable {P : Program} {w : World} {K : PySem.W.Frag} {mg : Str → Option Value} {base : Heap} {N : List Str} {qual : Str} {scope : Scope} {f : Addr} {cdv : Value} {A : Around} {outer : List Env} {s₀ : Shared} {H₀ : Hp} {E : XK} {pins : List (Addr × Obj)} {σ : St} {H : Hp} {s : Shared}
theorem raise_xe {a C : Addr} {d : Option Addr} (I : Inv (cxOf (CXR P w) P w K mg base N qual scope f cdv A outer s₀ H₀ E) pins σ H s) (ea : H a = some (excO a C d)) (hE : E (.ref a) none (upd H a (excR a C d))) :
    (cxOf (CXR P w) P w K mg base N qual scope f cdv A outer s₀ H₀ E).xe (.ref a) s := by
  obtain ⟨t0, rest, sl, q⟩ := excO_is (I.hok a _ ea)
  have hst : s.heap.FunFrames base (envOfC qual scope s₀.heap.objs.size f cdv :: outer) := I.stack
  have hfr : (A.deeper (envOfC qual scope s₀.heap.objs.size f cdv)).frames = some (envOfC qual scope s₀.heap.objs.size f cdv :: outer) := I.ok.frames
  have sf : ∀ b ∈ frs (envOfC qual scope s₀.heap.objs.size f cdv :: outer), H b = none := I.stkFree
  have hu : Un (frs outer) [] H₀ H s₀.heap s.heap := I.base
  refine leave_new (s := s) (L := s₀.heap.objs.size) hfr hst rfl q rfl rfl fun h' gn => ?_
  obtain ⟨T, oT, ts, g1, g2, g3, g4, g5, g6⟩ := id gn.head
  have hT : H T = none := I.hok.fresh g2
  refine ⟨a, upd H a (excR a C d), rfl, I.os, I.bare, gone_un hu gn (fun b o z n => ?_) (fun b o z m => ?_) (fun b o z n => by rw [upd_ne n]; exact z) (fun b z => by rw [upd_ne (fun n => by rw [n, ea] at z; cases z)]; exact z) (.inr ⟨_, ea⟩), fun b o z => ?_, ?_, hE⟩
  · intro n
    have := hu.free b o z ‹_› (by simp)
    rw [n, ea] at this; cases this
  · rcases List.mem_cons.mp (show b ∈ s₀.heap.objs.size :: frs outer from m) with n | n
    · rw [n] at z; exact absurd (Heap.lt_size z) (Nat.lt_irrefl _)
    · exact n
  · by_cases hb : b = a
    · subst hb
      rw [upd_same] at z
      cases z
      exact excR_ok ⟨t0, _, sl, g1⟩
    · rw [upd_ne hb] at z
      refine (I.hok b o z).stay (fun c v hc r => gn.keep c v (fun n => ?_) (fun n => ?_) r) (fun c r => by rw [upd_ne (fun n => by rw [n, ea] at r; cases r)]; exact r) fun c xs r => by rw [upd_ne (fun n => by rw [n, ea] at r; cases r)]; exact r
      · rcases hc with m | m
        · exact hb (m ▸ n)
        · rw [n, ea] at m; cases m
      · have := sf c n
        rcases hc with m | m
        · rw [m, z] at this; cases this
        · rw [m] at this; cases this
  · refine ⟨C, d, t0, T, rest, sl, oT, ts, upd_same, g1, g3, g4, g5, g6, by rw [upd_ne g3]; exact hT, Nat.le_trans I.sz g2⟩
theorem pass_xe {e : Value} {s' : Shared} {E1 : XK} (I : Inv (cxOf (CXR P w) P w K mg base N qual scope f cdv A outer s₀ H₀ E) pins σ H s)
    (hc : CXR P w (envOfC qual scope s₀.heap.objs.size f cdv :: outer) H s E1 e s') (hE : ∀ a H', E1 (.ref a) none H' → E (.ref a) none H') :
    (cxOf (CXR P w) P w K mg base N qual scope f cdv A outer s₀ H₀ E).xe e s' := by
  obtain ⟨a, H', rfl, ho, hg, u, hok, ⟨C, d, t, T, rest, sl, oT, ts, ha, q, hTa, hT, hdT, h3, hnT, hgT⟩, e1⟩ := hc
  have I' : Inv (cxOf (CXR P w) P w K mg base N qual scope f cdv A outer s₀ H₀ E) pins σ H' s' := I.call' (ch := []) ho u hok hg (fun _ z => nomatch z)
  have hst : s'.heap.FunFrames base (envOfC qual scope s₀.heap.objs.size f cdv :: outer) := I'.stack
  have hfr : (A.deeper (envOfC qual scope s₀.heap.objs.size f cdv)).frames = some (envOfC qual scope s₀.heap.objs.size f cdv :: outer) := I'.ok.frames
  have sf : ∀ b ∈ frs (envOfC qual scope s₀.heap.objs.size f cdv :: outer), H' b = none := I'.stkFree
  have hu : Un (frs outer) [] H₀ H' s₀.heap s'.heap := I'.base
  have hu0 : Un (frs outer) [] H₀ H s₀.heap s.heap := I.base
  have s0T : s₀.heap.get? T = none := Heap.get?_none_of_le (Nat.le_trans I.sz hgT)
  refine leave_on (s := s') (L := s₀.heap.objs.size) hfr hst rfl q rfl rfl hT hTa hdT h3 fun h1 h' k1 sz1 hT1 gn => ?_
  obtain ⟨T2, oT2, ts2, g1, g2, g3, g4, g5, g6⟩ := id gn.head
  have k1' : ∀ b o, s₀.heap.get? b = some o → b ≠ T := fun b o z n => by rw [n, s0T] at z; cases z
  have u1 : Un (frs outer) [] H₀ H' s₀.heap h1 := by
    refine ⟨fun b o z n m1 m2 => k1 b o (k1' b o z) (hu.keep b o z n m1 m2), fun b o z n m1 m2 => ?_, fun b o z n m => hu.free b o z n m, fun b o z m => ?_, hu.tups, hu.frzs, hu.tbls⟩
    · obtain ⟨sl, y⟩ := hu.slot b o z n m1 m2
      exact ⟨sl, k1 b _ (k1' b o z) y⟩
    · obtain ⟨o', y⟩ := hu.there b o z m
      exact ⟨o', k1 b _ (k1' b o z) y⟩
  have hok1 : HOk P w H' h1 := fun b o z => (hok b o z).stay (fun c v hc r => k1 c v (fun n => by
    rcases hc with m | m
    · rw [← m, n, hnT] at z; cases z
    · rw [n, hnT] at m; cases m) r) (fun _ z => z) fun _ _ z => z
  refine ⟨a, H', rfl, I'.os, I'.bare, gone_un u1 gn (fun b o z n m => ?_) (fun b o z m => ?_) (fun b o z _ => z) (fun b z => z) (.inl rfl), fun b o z => ?_, ?_, hE a H' e1⟩
  · have := hu.free b o z n (by simp)
    rw [m, ha] at this; cases this
  · rcases List.mem_cons.mp (show b ∈ s₀.heap.objs.size :: frs outer from m) with n | n
    · rw [n] at z; exact absurd (Heap.lt_size z) (Nat.lt_irrefl _)
    · exact n
  · by_cases hb : b = a
    · subst hb
      rw [ha] at z
      cases z
      exact excR_ok ⟨t, _, sl, g1⟩
    · refine (hok1 b o z).stay (fun c v hc r => gn.keep c v (fun n => ?_) (fun n => ?_) r) (fun _ r => r) fun _ _ r => r
      · rcases hc with m | m
        · exact hb (m ▸ n)
        · rw [n, ha] at m; cases m
      · have := sf c n
        rcases hc with m | m
        · rw [m, z] at this; cases this
        · rw [m] at this; cases this
  · refine ⟨C, d, t, T2, rest, sl, oT2, ts2, ha, g1, g3, g4, g5, g6, hok1.fresh g2, Nat.le_trans (by rw [sz1]; exact I'.sz) g2⟩
end
section
variable {M : Model} {A : Around} {E : Value → Shared → Prop} {s : Shared} {env : Env}
theorem raise_made {x : Sem Value} {Q : Flow → Shared → Prop} (hh : A.handled = none)
    (h : wpAny M A x (fun v s₁ => ∃ (e C : Addr) (bm : List Value) (d : Option Addr) (t : Addr) (rest : List Value) (sl : Array (Option Value)), v = .ref e ∧ ExcCls s₁.heap C bm ∧ s₁.heap.get? e = some { cls := .ref C, dict := d, data := .fields (.ref t :: .none :: rest).toArray, slots := sl } ∧ E (.ref e) s₁) E s) :
    wpAny M A (raiseStmt env (some x) none) Q E s := by
  unfold raiseStmt
  refine wpAny_bind (wpAny_mono h (fun v s₁ h₁ => ?_) fun _ _ x => x)
  obtain ⟨e, C, bm, d, t, rest, sl, rfl, ⟨⟨N, nm, qn, bs, sn, sub, ab, col, dd, k0, k1, k2, k3, k5, hC⟩, T⟩, he, hE⟩ := h₁
  have hcB : (Value.ref C :: bm).contains (.type "BaseException") = true := by rw [List.contains_cons, T.hasType PySem.F.excBase_ValueError.hasBase, Bool.or_true]
  obtain ⟨hp, g, dr, tk, os⟩ := s₁
  repeat (first | with_reducible refine wpAny_loadPart_at he ?_ | with_reducible refine wpAny_loadPart_at hC ?_ | (with_reducible refine wpAny_isSubtype_exc hC ?_; rw [hcB]) | wp_step)
  exact wpAny_raiseNew_none hh hE
end
def Raises (X : Cx) (E : XK) : Prop := ∀ (pins : List (Addr × Obj)) (σ : St) (H : Hp) (s : Shared) (a C : Addr) (d : Option Addr), Inv X pins σ H s → H a = some (excO a C d) → E (.ref a) none (upd H a (excR a C d)) → X.xe (.ref a) s
def tRaise (K : PySem.W.Frag) (E : XK) (te : TE) : TS := fun _ σ H => te σ H fun x H1 => ∃ a C d, x = .ref a ∧ H1 a = some (excO a C d) ∧ excMk K C = true ∧ E (.ref a) none (upd H1 a (excR a C d))
section
variable {X : Cx} {E : XK} {e : Expr} {te : TE} {pos : Pos}
theorem ps_raise (hr : Raises X E) (hh : X.A.handled = none) (he : PE X e te) : PS X (.Raise (some e) none pos) (tRaise X.K E te) := by
  intro pins s σ H D I h
  rw [arm_exec_Raise]
  refine wpAny_bind (wpAny_standAt (raise_made hh (wpAny_bind (wpAny_mono (he pins s σ H _ I h) (fun v s1 ⟨x, H1, I1, rx, a, C, d, ex, ea, hm, q⟩ => wpAny_bind (wpAny_standAt (wpAny_pure ?_))) fun _ _ z => z))))
  subst ex
  obtain rfl : v = Value.ref a := rx
  obtain ⟨t0, rest, sl, q1⟩ := excO_is (I1.hok a _ ea)
  obtain ⟨bm, c, _, _⟩ := excMk_of I1.kIn hm
  exact ⟨a, C, bm, d, t0, rest, sl, rfl, c, q1, hr pins σ H1 s1 a C d I1 ea q⟩
end
structure FnAtX (P : Program) (w : World) (K : PySem.W.Frag) (mg : Str → Option Value) (base : Heap) (x : Str) (k : Nat) (ps : List Str) (sp : Sp) : Prop where
  ex : ∃ (f : Addr) (fd : FuncData), FnOk P w K mg base (CXR P w) k f fd ps sp ∧ mg x = some (.ref f) ∧ PySem.W.keepIn K (.ref f) = true ∧ Binds K fd ps []
theorem pe_fnX {X : Cx} {E : XK} {x : Str} {ps : List Str} {sp : Sp} {k j : Nat} {p pos : Pos} {e : Expr} {es : List Expr} {t : TA} (F : FnAtX X.prog X.w X.K X.mg X.base x k ps sp) (hx : Passes (CXR X.prog X.w) X E) (hr : Room j X.A) (hj : k ≤ j) (hg : Gl X x) (ha : PA X (e :: es) t)
    (hdb : (x == ("__debug__" : Str)) = false := by decide) (he : starEach (e :: es) X.env = (false, eval e X.env) :: starEach es X.env := by rfl) (hpl : (backTo pos (starEach es X.env)).any (·.1) = false := by rfl) :
    PE X (.Call (.Name x p) (e :: es) [] pos) (tCall sp [] E t) := by
  obtain ⟨f, fd, G, hm, hk, hb⟩ := F.ex
  exact pe_call G (hr.mono hj) hg hm hk hb .nil hx ha hdb he hpl
section
variable {P : Program} {w : World} {K : PySem.W.Frag} {mg : Str → Option Value} {base : Heap}
theorem Fun.okX {x qual : Str} {st : Stmt} {f : Addr} {fd : FuncData} {N ps : List Str} {k : Nat} {sp : Sp} (F : Fun K x qual st f fd) (S : FnScope N ps (defScope st)) (len : ∀ vs H Q E, sp vs H Q E → vs.length = ps.length)
    (hbody : ∀ (cdv : Value) (A : Around) (outer : List Env) (s : Shared) (H : Hp) (vs : List V) (Q : VK) (E : XK), Room k (A.deeper (envOfC qual (defScope st) s.heap.objs.size f cdv)) → sp vs H Q E →
      ∃ t, PSs (cxOf (CXR P w) P w K mg base N qual (defScope st) f cdv A outer s H E) (defBody st) t ∧ t { nx := fun _ H' => Q .non H', rt := Q } (start N vs) H) : FnOk P w K mg base (CXR P w) (k + 1) f fd ps sp := by
  obtain ⟨oc, od, kV, doc, pm, an, cdv, ct, osl, rfl, lk, hcd⟩ := F.ex
  exact fn_of lk hcd S len fun A outer s H vs Q E hr hsp => hbody cdv A outer s H vs Q E hr hsp
theorem TopFn.atX {x : Str} {st : Stmt} {N ps : List Str} {k : Nat} {sp : Sp} (T : TopFn K mg x st ps) (S : FnScope N ps (defScope st)) (len : ∀ vs H Q E, sp vs H Q E → vs.length = ps.length)
    (hbody : ∀ (f : Addr) (cdv : Value) (A : Around) (outer : List Env) (s : Shared) (H : Hp) (vs : List V) (Q : VK) (E : XK), Room k (A.deeper (envOfC x (defScope st) s.heap.objs.size f cdv)) → sp vs H Q E →
      ∃ t, PSs (cxOf (CXR P w) P w K mg base N x (defScope st) f cdv A outer s H E) (defBody st) t ∧ t { nx := fun _ H' => Q .non H', rt := Q } (start N vs) H) : FnAtX P w K mg base x (k + 1) ps sp := by
  obtain ⟨f, fd, F, hm, hb⟩ := T.ex
  exact ⟨f, fd, F.okX S len fun cdv A outer s H vs Q E hr h => hbody f cdv A outer s H vs Q E hr h, hm, F.kp, .all hb⟩
variable {N : List Str} {qual : Str} {scope : Scope} {f : Addr} {cdv : Value} {A : Around} {outer : List Env} {s₀ : Shared} {H₀ : Hp} {E E1 : XK}
theorem raises_def : Raises (cxOf (CXR P w) P w K mg base N qual scope f cdv A outer s₀ H₀ E) E := fun pins σ H s a C d I ea q => raise_xe I ea q
theorem passes_def (h : ∀ a H', E1 (.ref a) none H' → E (.ref a) none H') : Passes (CXR P w) (cxOf (CXR P w) P w K mg base N qual scope f cdv A outer s₀ H₀ E) E1 := fun pins σ H s e s' I hc => pass_xe I hc h
end
def Raw (X : Cx) (pins : List (Addr × Obj)) (H : Hp) (h : Heap) (a C : Addr) (d : Option Addr) : Prop := ∃ (t T : Addr) (rest : List Value) (sl : Array (Option Value)) (oT : Obj) (ts : Array Value),
  H a = some (excR a C d) ∧ h.get? a = some { cls := .ref C, dict := d, data := .fields (.ref t :: .ref T :: rest).toArray, slots := sl } ∧ T ≠ a ∧ h.get? T = some oT ∧ oT.data = .fields ts ∧ 3 < ts.size ∧ H T = none ∧
  X.s₀.heap.objs.size ≤ T ∧ T ≠ X.env.locals ∧ (∀ x c, X.env.cells.lookup x = some c → c ≠ T) ∧ ∀ p ∈ X.pn ++ pins, p.1 ≠ T
section
variable {X : Cx} {pins : List (Addr × Obj)} {σ : St} {H : Hp} {s s' : Shared} {M : Model} {A : Around} {E : Value → Shared → Prop}
theorem caught {a : Addr} {E1 : XK} {R : Unit → Shared → Prop} (I : Inv X pins σ H s) (hsk : X.stack = X.env :: X.outer) (hfe : X.env.frame = some X.env.locals) (hA : X.A.frames = some X.stack) (hc : CXR X.prog X.w X.stack H s E1 (.ref a) s')
    (hR : ∀ (s3 : Shared) (H' : Hp) (C : Addr) (d : Option Addr), Inv X pins σ H' s3 → Raw X pins H' s3.heap a C d → E1 (.ref a) none H' → R () s3) :
    wpAny M X.A (noteFrame (.ref a) X.env) (fun _ s2 => wpAny M X.A (setFlight (.ref a) none) R E s2) E s' := by
  obtain ⟨a', H', ea', ho, hg, u, hok, ⟨C, d, t, T, rest, sl, oT, ts, ha, q, hTa, hT, hdT, h3, hnT, hgT⟩, e1⟩ := hc
  cases ea'
  have I' : Inv X pins σ H' s' := I.call' (ch := []) ho u hok hg (fun _ z => nomatch z)
  have hst : s'.heap.FunFrames X.base (X.env :: X.outer) := by rw [← hsk]; exact I'.stack
  have sf : ∀ b ∈ frs (X.env :: X.outer), H' b = none := by rw [← hsk]; exact I'.stkFree
  have hfr : ∀ b, b ∈ frs (X.env :: X.outer) ↔ b = X.env.locals ∨ b ∈ X.fs := fun b => by
    show b ∈ List.filterMap (·.frame) (X.env :: X.outer) ↔ _
    rw [List.filterMap_cons, hfe]
    exact List.mem_cons
  have ltT : ∀ b o, s.heap.get? b = some o → b ≠ T := fun b o z n => by
    rw [n] at z; exact absurd (Nat.lt_of_lt_of_le (Heap.lt_size z) hgT) (Nat.lt_irrefl _)
  refine note_on (s := s') (L := X.env.locals) (hA.trans (by rw [hsk])) hst hfe q rfl rfl hT hTa hdT h3 fun h1 h' k1 sz1 hT1 gn => ?_
  obtain ⟨T2, oT2, ts2, g1, g2, g3, g4, g5, g6⟩ := id gn.head
  rw [sz1] at g2
  have hok1 : HOk X.prog X.w H' h1 := fun b o z => (hok b o z).stay (fun c v hc r => k1 c v (fun n => by
    rcases hc with m | m
    · rw [← m, n, hnT] at z; cases z
    · rw [n, hnT] at m; cases m) r) (fun _ z => z) fun _ _ z => z
  have na : ∀ b, H' b = none → b ≠ a := fun b z n => by rw [n, ha] at z; cases z
  have inv2 : Inv X pins σ H' { s' with heap := h', gens := s'.gens, drawn := s'.drawn, toks := s'.toks } := by
    refine I'.step (h' := h') (t' := s'.toks) (g' := s'.gens) (d' := s'.drawn) (ch := [T]) (fun b hb => ?_) (fun b o n1 n2 n3 z n => ?_) (fun b o n1 n2 n3 z n => ?_) (fun b o _ _ n => n) (fun b o n3 z => ?_) (fun _ _ z => z) (fun _ _ _ z => z) (fun b ps z => ⟨#[], by rw [z]; simp⟩) (fun m hm => ?_) (fun b o z => ?_) I'.bare
    · have e : b = T := by simpa using hb
      subst e
      refine ⟨.inr (Nat.le_trans I.sz hgT), fun n => ?_, fun x c z n => ?_, fun p hp n => ?_⟩
      · have := I.lt
        rw [← n] at this
        exact absurd (Nat.lt_of_lt_of_le this hgT) (Nat.lt_irrefl _)
      · obtain ⟨v, o, z2, _⟩ := I.cell x c z
        exact ltT c o z2 n
      · exact ltT p.1 p.2 (I.pin p hp).1 n
    · exact gn.keep b o (na b n) (fun m => ((hfr b).mp m).elim n1 n2) (k1 b o (fun e => n3 (by simp [e])) z)
    · obtain ⟨sl, y⟩ := gn.slot b o ((hfr b).mpr (.inr n2)) (k1 b o (fun e => n3 (by simp [e])) z)
      exact ⟨sl, y⟩
    · have z1 := k1 b o (fun e => n3 (by simp [e])) z
      by_cases hb : b = a
      · subst hb; exact ⟨_, g1⟩
      · by_cases hf : b ∈ frs (X.env :: X.outer)
        · obtain ⟨sl, y⟩ := gn.slot b o hf z1
          exact ⟨_, y⟩
        · exact ⟨o, gn.keep b o hb hf z1⟩
    · obtain ⟨o, es, ep, z, r⟩ := hm
      have nT : X.env.locals ≠ T := by
        intro n
        have := I.lt
        rw [n] at this
        exact absurd (Nat.lt_of_lt_of_le this hgT) (Nat.lt_irrefl _)
      obtain ⟨sl, y⟩ := gn.slot _ o ((hfr _).mpr (.inl rfl)) (k1 _ o nT z)
      exact ⟨_, es, ep, y, r⟩
    · by_cases hb : b = a
      · subst hb
        rw [ha] at z
        cases z
        exact excR_ok ⟨t, _, sl, g1⟩
      · refine (hok1 b o z).stay (fun c v hc r => gn.keep c v (fun n => ?_) (fun n => ?_) r) (fun _ r => r) fun _ _ r => r
        · rcases hc with m | m
          · exact hb (m ▸ n)
          · rw [n, ha] at m; cases m
        · have := sf c n
          rcases hc with m | m
          · rw [m, z] at this; cases this
          · rw [m] at this; cases this
  refine hR _ H' C d inv2 ⟨t, T2, rest, sl, oT2, ts2, ha, g1, g3, g4, g5, (Array.getElem?_eq_some_iff.mp g6).1, hok.fresh g2, Nat.le_trans I'.sz g2, fun n => ?_, fun x c z n => ?_, fun p hp n => ?_⟩ e1
  · have := I'.lt
    rw [← n] at this
    exact absurd (Nat.lt_of_lt_of_le this g2) (Nat.lt_irrefl _)
  · obtain ⟨v, o, z2, _⟩ := I'.cell x c z
    rw [n] at z2
    exact absurd (Nat.lt_of_lt_of_le (Heap.lt_size z2) g2) (Nat.lt_irrefl _)
  · have z2 := (I'.pin p hp).1
    rw [n] at z2
    exact absurd (Nat.lt_of_lt_of_le (Heap.lt_size z2) g2) (Nat.lt_irrefl _)
theorem flight_ends {a C : Addr} {d : Option Addr} {R : Unit → Shared → Prop} (I : Inv X pins σ H s) (r : Raw X pins H s.heap a C d) (hR : ∀ s3, Inv X pins σ H s3 → R () s3) : wpAny M A (setFlight (.ref a) none) R E s := by
  obtain ⟨t, T, rest, sl, oT, ts, ha, q, hTa, hT, hdT, h3, hnT, f1, f2, f3, f4⟩ := r
  unfold setFlight
  refine wpAny_bind (wpAny_field q rfl (x := .ref T) rfl ?_)
  rw [if_pos (by simp)]
  refine wpAny_setField hT hdT h3 (hR _ ?_)
  exact I.turned (t' := s.toks) (fun b o hb e => (Heap.get?_update_other _ _ (Ne.symm hb)).trans e) hnT f2 (.inr f1) f3 f4
end
abbrev Cx.hdl (X : Cx) (a : Addr) : Cx := { X with A := X.A.mark (some (.ref a)), calm := false, xe := fun _ _ => False }
abbrev Cx.tr (X : Cx) (pn : List (Addr × Obj)) (E' : Value → Shared → Prop) : Cx := { X with pn := pn, xe := E' }
section
variable {X : Cx} {pins : List (Addr × Obj)} {σ : St} {H : Hp} {s : Shared} {a : Addr} {E' : Value → Shared → Prop}
theorem Inv.hdl (I : Inv X pins σ H s) : Inv (X.hdl a) pins σ H s :=
  ⟨⟨I.ok.mod, I.ok.kind, I.ok.glob, I.ok.blt, I.ok.above, I.ok.inj, I.ok.has, I.ok.cab, (fun z => nomatch z), I.ok.frames, I.ok.stk, I.ok.exf, I.ok.bs, I.ok.bsz, I.ok.noex, I.ok.exfs, I.ok.funs, I.ok.frf⟩, I.os, I.bare, I.base, I.loc, I.cell, I.free, I.freeC, I.pin, I.hok, I.len⟩
theorem Inv.back (ok : X.Ok) (I : Inv (X.hdl a) pins σ H s) : Inv X pins σ H s := ⟨ok, I.os, I.bare, I.base, I.loc, I.cell, I.free, I.freeC, I.pin, I.hok, I.len⟩
theorem Inv.tr (I : Inv X pins σ H s) : Inv (X.tr (X.pn ++ pins) E') [] σ H s :=
  ⟨⟨I.ok.mod, I.ok.kind, I.ok.glob, I.ok.blt, I.ok.above, I.ok.inj, I.ok.has, I.ok.cab, I.ok.hd, I.ok.frames, I.ok.stk, I.ok.exf, I.ok.bs, I.ok.bsz, I.ok.noex, I.ok.exfs, I.ok.funs, I.ok.frf⟩, I.os, I.bare, I.base, I.loc, I.cell, I.free, I.freeC, (fun p hp => I.pin p (by simpa using hp)), I.hok, I.len⟩
theorem Inv.untr {pins' : List (Addr × Obj)} (ok : X.Ok) (I : Inv (X.tr (X.pn ++ pins) E') pins' σ H s) : Inv X pins σ H s :=
  ⟨ok, I.os, I.bare, I.base, I.loc, I.cell, I.free, I.freeC, (fun p hp => I.pin p (List.mem_append_left _ hp)), I.hok, I.len⟩
theorem x_match {M : Model} {A : Around} {E : Value → Shared → Prop} {Q : Bool → Shared → Prop} {K : PySem.W.Frag} {C D : Addr} {oe : Obj} {b : Bool} (KX : K.In s.heap) (he : s.heap.get? a = some oe) (hcl : oe.cls = .ref C) (hD : PySem.W.typeIn K (.ref D) = some (.type "type")) (hc : (PySem.W.clsIn K D).isSome = true)
    (hB : PySem.W.mroIn K D (.type "BaseException") = some true) (hm : PySem.W.mroIn K C (.ref D) = some b) (hq : Q b s) : wpAny M A (excMatches (.ref a) (.ref D)) Q E s := by
  obtain ⟨hp, g, d, t, os⟩ := s
  have l1 : PySem.W.Looks M hp (typeOf (.ref D)) (.type "type") := PySem.W.looks_typeIn KX hD
  have l2 : PySem.W.Looks M hp (isSubtype (.type "type") (.type "tuple")) false := PySem.W.Looks.of_pure tc_notTuple
  have l3 : PySem.W.Looks M hp (isSubtype (.ref D) (.type "BaseException")) true := PySem.W.looks_mroIn KX hB
  have l4 : PySem.W.Looks M hp (typeOf (.ref a)) (.ref C) := by rw [← hcl]; exact (PySem.W.Looks.ld he).andThen .now
  have l5 : PySem.W.Looks M hp (isSubtype (.ref C) (.ref D)) b := PySem.W.looks_mroIn KX hm
  have l6 : PySem.W.Looks M hp (isType (.ref D)) true := by
    obtain ⟨cd, z⟩ := Option.isSome_iff_exists.mp hc
    unfold PySem.W.clsIn at z
    split at z
    · rename_i c' d' cd' sl' ho
      intro A' Q' E' s' k q
      unfold isType loadHead
      exact wpAny_bind (wpAny_loadPart (k _ _ (KX _ _ ho)) (wpAny_pure q))
    · cases z
  have l7 : PySem.W.Looks M hp (isInstance (.ref D) (.type "tuple")) false := l1.andThen l2
  have l8 : PySem.W.Looks M hp (isExcClass (.ref D)) true := l6.andThen (by rw [if_pos rfl]; exact l3)
  unfold excMatches
  refine wpAny_bind (l7.at ?_)
  rw [if_neg (by decide)]
  refine wpAny_bind (wpAny_pure (wpAny_bind ?_))
  rw [List.forIn_cons]
  refine wpAny_bind (wpAny_bind (l8.at ?_))
  simp only [Bool.not_true, Bool.false_eq_true, if_false]
  refine wpAny_pure ?_
  dsimp only
  rw [List.forIn_nil]
  refine wpAny_pure (wpAny_bind (l4.at (wpAny_bind ?_)))
  rw [List.forIn_cons]
  refine wpAny_bind (wpAny_bind (l5.at ?_))
  cases b with
  | true =>
    rw [if_pos rfl]
    exact wpAny_pure (wpAny_pure (wpAny_pure hq))
  | false =>
    rw [if_neg (by decide)]
    refine wpAny_pure ?_
    dsimp only
    rw [List.forIn_nil]
    exact wpAny_pure (wpAny_pure hq)
theorem name_goes {M : Model} {A : Around} {E : Value → Shared → Prop} {i : Nat} {x : Str} {pos : Pos} {Q : Unit → Shared → Prop} (I : Inv X pins σ H s) (hN : X.N.Nodup) (hi : X.N[i]? = some x) (hx : X.env.scope.names.lookup x = some .local)
    (h : ∀ s', Inv X pins (σ.set i none) H s' → Q () s') : wpAny M A (do bindName X.env x .none; unbindBehindTheSuite X.env x pos) Q E s := by
  have hiσ : i < σ.length := by rw [I.len]; exact (List.getElem?_eq_some_iff.mp hi).1
  refine wpAny_bind (wpAny_bindName (store_ok (v := .non) I hN hi (.inl hx) rfl (fun s1 I1 => ?_) (.inr hx)))
  obtain ⟨m, hn, hl⟩ := id I1.loc
  have hk : X.env.kindOf x = some .local := hx
  have hcls : (X.env.scope.kind == .class || (X.env.scope.kind == .module && X.env.locals != X.env.globals)) = false := by rw [I.ok.kind]; rfl
  obtain ⟨u, ru, lu⟩ := hl i x .non hi (by rw [List.getElem?_set_self hiσ]) (.inl hx)
  have mx : m x = some u := by
    rcases lu with ⟨_, z⟩ | ⟨z, _⟩
    · exact z
    · rw [hk] at z; rcases z with z | z <;> cases z
  unfold unbindBehindTheSuite
  refine wpAny_onRaise ?_
  unfold unbindName
  refine wpAny_bind (wpAny_point (wpAny_bind ?_))
  unfold deleteName
  simp only [hk, hcls]
  rw [if_neg (by decide)]
  refine wpAny_bind (wpAny_nsDel_keeps hn fun h2 v hn2 hs2 => ?_)
  simp only [mx, Option.isSome_some, Bool.not_true, Bool.false_eq_true, if_false]
  refine wpAny_pure (wpAny_point (h _ ?_))
  have oL : ∃ o, s1.heap.get? X.env.locals = some o := by obtain ⟨o, _, _, z, _⟩ := hn; exact ⟨o, z⟩
  have cne := I1.cne
  refine ⟨I1.ok, I1.os, I1.bare, ⟨fun b o e n hb hx => ?_, fun b o e n hb hx => ?_, I1.base.free, fun b o e hx => ?_, I1.base.tups, I1.base.frzs, I1.base.tbls⟩, ⟨_, hn2, fun j y v' e1 e2 e3 => ?_⟩, fun y c e => ?_, I1.free, I1.freeC, fun p hp => ?_, fun b ob e => ?_, by rw [List.length_set]; exact I.len⟩
  · exact (hs2.2 b (Nat.ne_of_lt (Nat.lt_of_lt_of_le (Heap.lt_size e) I1.ok.above))).trans (I1.base.keep b o e n hb hx)
  · obtain ⟨sl, e1⟩ := I1.base.slot b o e n hb hx
    exact ⟨sl, (hs2.2 b (Nat.ne_of_lt (Nat.lt_of_lt_of_le (Heap.lt_size e) I1.ok.above))).trans e1⟩
  · obtain ⟨o', e1⟩ := I1.base.there b o e hx
    exact ⟨o', (hs2.2 b (Nat.ne_of_lt (Nat.lt_of_lt_of_le (Heap.lt_size e) I1.ok.above))).trans e1⟩
  · have hj : j ≠ i := fun z => by
      subst z
      rw [List.getElem?_set_self hiσ] at e2
      cases e2
    rw [List.getElem?_set_ne (Ne.symm hj)] at e2
    obtain ⟨u', r', q⟩ := hl j y v' e1 (by rw [List.getElem?_set_ne (Ne.symm hj)]; exact e2) e3
    refine ⟨u', r', ?_⟩
    rcases q with ⟨k, e⟩ | ⟨k, c, e, z⟩
    · refine .inl ⟨k, ?_⟩
      have : y ≠ x := fun e => hj (nodup_ix hN e1 (e ▸ hi))
      simp [this, e]
    · exact .inr ⟨k, c, e, z.sameBut hs2 (cne y c e)⟩
  · obtain ⟨w', z⟩ := I1.cell y c e
    exact ⟨w', z.sameBut hs2 (cne y c e)⟩
  · obtain ⟨e, n, ne, nf, d⟩ := I1.pin p hp
    exact ⟨(hs2.2 p.1 ne).trans e, n, ne, nf, d⟩
  · refine (I1.hok b ob e).stay (fun c w' hc q => (hs2.2 c ?_).trans q) (fun _ q => q) fun _ _ q => q
    rintro rfl
    rcases hc with rfl | hc
    · rw [I1.free] at e; cases e
    · rw [I1.free] at hc; cases hc
end
def Catches (X : Cx) (RX : St → Addr → Hp → Prop) : Prop := ∀ (pins : List (Addr × Obj)) (σ : St) (H : Hp) (s : Shared) (e : Value) (s' : Shared), Inv X pins σ H s → CXR X.prog X.w X.stack H s (fun e _ H' => ∃ a, e = .ref a ∧ RX σ a H') e s' → X.xe e s'
def tCallT (RX : St → Addr → Hp → Prop) (sp : Sp) (t : TA) : TE := fun σ H Q => t σ H fun vs H1 => sp vs H1 Q (fun e _ H' => ∃ a, e = .ref a ∧ RX σ a H')
section
variable {X : Cx}
theorem pe_fnT {RX : St → Addr → Hp → Prop} {x : Str} {ps : List Str} {sp : Sp} {k j : Nat} {p pos : Pos} {e : Expr} {es : List Expr} {t : TA} (F : FnAtX X.prog X.w X.K X.mg X.base x k ps sp) (hc : Catches X RX) (hr : Room j X.A) (hj : k ≤ j) (hg : Gl X x) (ha : PA X (e :: es) t)
    (hdb : (x == ("__debug__" : Str)) = false := by decide) (he : starEach (e :: es) X.env = (false, eval e X.env) :: starEach es X.env := by rfl) (hpl : (backTo pos (starEach es X.env)).any (·.1) = false := by rfl) :
    PE X (.Call (.Name x p) (e :: es) [] pos) (tCallT RX sp t) := by
  obtain ⟨f, fd, G, hm, hk, hb⟩ := F.ex
  intro pins s σ H Q I h
  refine wpAny_Call_Name_kw (ld_glob I hg hm ?_ hdb)
  refine PySem.W.callWith_K (h₀ := X.base) I.ok.mod.kin hk (thn (ha pos pins s σ H _ I h) fun us s1 ⟨vs, H1, I1, r, q⟩ => ⟨I1.kIn, ?_⟩) he hpl
  have hl : (us ++ []).length = ps.length := by rw [List.append_nil, ← r.length]; exact G.len _ _ _ _ q
  have hb2 := hb s1 us I1.kIn hl
  rw [List.append_nil] at hb2
  refine wpAny_call (codeAny_mono (G.run X.A X.stack s1 H1 ⟨us, []⟩ us vs Q _ (hr.mono hj) I1.env0 hb2 r q) fun r s' hq => ?_)
  cases r with
  | error e => exact hc pins σ H1 s1 e s' I1 hq
  | ok fl =>
    cases fl with
    | ret u => exact I1.after hq
    | next => exact False.elim hq
    | brk => exact False.elim hq
    | cont => exact False.elim hq
end
section
variable {X : Cx}
end
theorem pe_xfldK {X : Cx} (K : PySem.W.Frag) {e : Expr} {f : Str} {pos : Pos} {ta : TE} (he : PE X e ta) (hK : X.K = K := by rfl) (hb : attributeBase e f X.env (eval e X.env) = eval e X.env := by rfl) : PE X (.Attribute e f pos) (tXFld K ta f) := by
  subst hK
  exact pe_xfld he hb
section
variable {X : Cx}
theorem vals_strs : ∀ (l : List (Str × Tok)), Vals ((l.map (·.1)).map V.str) (strValues l)
  | [] => .nil
  | p :: r => .cons ⟨p.2, rfl⟩ (vals_strs r)
theorem mt_split : MtR X "str.split" (fun x xs H Q => ∃ z y, x = .str z ∧ xs = [.str y] ∧ (y.length == 0) = false ∧ z.length + 2 ≤ sizeLine ∧ ∀ p, H p = none → Q (.ref p) (upd H p (.lst ((Txt.split z y).map V.str)))) := by
  intro pins s σ H x xs v us Q I rx rs h
  obtain ⟨z, y, rfl, rfl, hy, hz, q⟩ := h
  obtain ⟨t, rfl⟩ := rx
  obtain ⟨u, rfl, ru⟩ := vals1 rs
  obtain ⟨t', rfl⟩ := ru
  have hn : H s.heap.objs.size = none := I.hok.fresh (Nat.le_refl _)
  have len : (Txt.split z y).length ≤ sizeLine := by
    unfold Txt.split
    have e1 := StrLaws.occ_length_le z y 0 z.length (z.length + 1)
    split
    · show 1 ≤ sizeLine; omega
    · split
      · show 1 ≤ sizeLine; omega
      · rw [length_partsBetween]; omega
  have lay : ∀ (l : List (Str × Tok)) (h' : Heap) (k : Nat), l.map (·.1) = Txt.split z y → (∀ b o, s.heap.get? b = some o → h'.get? b = some o) → h'.get? s.heap.objs.size = some { cls := .type "list", data := .seq (strValues l).toArray } →
      EP X pins σ Q (.ref s.heap.objs.size) { s with heap := h', toks := k } := fun l h' k e kk g => by
    refine ⟨.ref s.heap.objs.size, _, I.laid (t' := k) kk (Nat.le_refl _) ?_, rfl, q _ hn⟩
    refine ⟨by rw [List.length_map]; exact len, strValues l, 0, ?_, g⟩
    rw [← e]
    exact vals_strs l
  have new : ∀ (l : List (Str × Tok)) (k : Nat), l.map (·.1) = Txt.split z y → EP X pins σ Q (.ref s.heap.objs.size) { s with heap := s.heap.push { cls := .type "list", data := .seq (strValues l).toArray }, toks := k } := fun l k e =>
    lay l _ k e (fun b o eb => Heap.get?_push_of_some _ eb) (Heap.get?_push_size s.heap rfl)
  have sp : Txt.split z y = if (decide (z.length < y.length) || decide (Builtin.Str.strKind z < Builtin.Str.strKind y)) = true then [z] else if (Builtin.Str.occurrences z y 0 z.length (z.length + 1)).isEmpty = true then [z] else Builtin.Str.partsBetween z (Builtin.Str.occurrences z y 0 z.length (z.length + 1)) y.length := rfl
  by_cases c1 : (decide (z.length < y.length) || decide (Builtin.Str.strKind z < Builtin.Str.strKind y)) = true
  · refine call_meets PySem.F.slot_str_split (typeIs_str _ _ _) PySem.F.entry_str_split (PySem.F.args_str_split_2 _ _) (meets_str_split_cannot_occur z y t t' c1) ?_
    exact new [(z, t)] s.toks (by rw [sp, if_pos c1]; rfl)
  · have c1' := Bool.eq_false_iff.mpr c1
    by_cases c2 : (Builtin.Str.occurrences z y 0 z.length (z.length + 1)).isEmpty = true
    · refine call_meets PySem.F.slot_str_split (typeIs_str _ _ _) PySem.F.entry_str_split (PySem.F.args_str_split_2 _ _) (meets_str_split_not_found z y t t' c1' hy c2) ?_
      exact new [(z, t)] s.toks (by rw [sp, if_neg c1, if_pos c2]; rfl)
    · have c2' := Bool.eq_false_iff.mpr c2
      have e3 : Txt.split z y = Builtin.Str.partsBetween z (Builtin.Str.occurrences z y 0 z.length (z.length + 1)) y.length := by rw [sp, if_neg c1, if_neg c2]
      rw [e3] at len
      refine call_meets PySem.F.slot_str_split (typeIs_str _ _ _) PySem.F.entry_str_split (PySem.F.args_str_split_2 _ _) (meets_str_split_sep z y t t' c1' hy c2' (by omega) len) ?_
      have z4 := new (numbered s.toks (Builtin.Str.partsBetween z (Builtin.Str.occurrences z y 0 z.length (z.length + 1)) y.length)) (s.toks + (Builtin.Str.partsBetween z (Builtin.Str.occurrences z y 0 z.length (z.length + 1)) y.length).length) ((numbered_texts _ _).trans e3.symm)
      rw [← strsFrom_eq] at z4
      exact z4
def findZ (z y : Str) : Int := match Builtin.Str.occurrences z y 0 z.length 1 with | i :: _ => (i : Int) | [] => -1
theorem mt_find : MtR X "str.find" (fun x xs H Q => ∃ z y, x = .str z ∧ xs = [.str y] ∧ Q (.int (findZ z y)) H) := by
  intro pins s σ H x xs v us Q I rx rs h
  obtain ⟨z, y, rfl, rfl, q⟩ := h
  obtain ⟨t, rfl⟩ := rx
  obtain ⟨u, rfl, ru⟩ := vals1 rs
  obtain ⟨t', rfl⟩ := ru
  exact call_gives PySem.F.slot_str_find (typeIs_str _ _ _) PySem.F.entry_str_find (PySem.F.args_str_find_2 _ _) (gives_str_find z y t t') ⟨.int _, H, I.tok _, ⟨_, rfl⟩, q⟩
theorem op_neNil (hu : X.A.units < cLine) : OpR X (compareOp .NotEq) (fun x y H Q => ∃ a b xs, x = .ref a ∧ y = .ref b ∧ SqL X.K H a xs ∧ SqL X.K H b [] ∧ Q (.bl (!xs.isEmpty)) H) := by
  intro pins s σ H x y v u Q I rx ry h
  obtain ⟨a, b, xs, rfl, rfl, ha, hb, q⟩ := h
  cases rx
  cases ry
  obtain ⟨its, rv, pl, _⟩ := I.list ha
  obtain ⟨its', rv', pl', _⟩ := I.list hb
  have l1 := rv.length
  cases rv'
  cases xs with
  | nil =>
    cases rv
    exact SeqAt.RcNeAt.lists (e := fun _ => true) pl.isList pl'.isList rfl hu (fun j h1 h2 => absurd h2 (by simp)) _ _ _ _ (fin_bl I q (by simp))
  | cons x r =>
    exact SeqAt.RcNeAt.lists_lengths pl.isList pl'.isList (by simp at l1; simp [← l1]) hu _ _ _ _ (fin_bl I q (by simp))
end
section
variable {X : Cx}
def rSlS : V → Option Int → Option Int → Hp → VK → Prop := fun x lo hi H Q => ∃ z, x = .str z ∧ z.length ≤ sizeLine ∧ Q (.str (Txt.slice z lo hi)) H
theorem sl_str : SlR X rSlS := by
  intro pins s σ H x v vl vu lo hi sl Q I rx hs pl pu h
  obtain ⟨z, rfl, hz, q⟩ := h
  obtain ⟨t, rfl⟩ := rx
  refine ⟨"str", _, PySem.F.slot_str_getitem.lookup, typeIs_str _ _ _, ?_⟩
  have fin : ∀ t' k, EP X pins σ Q (.str (Txt.slice z lo hi) t') { s with toks := k } := fun t' k => ⟨.str _, H, I.tok _, ⟨_, rfl⟩, q⟩
  cases pl with
  | none => cases pu with
    | none => exact wpAny_getItem_str_slice (l := none) (u := none) (st := none) hs rfl (post_val_or_str ⟨Nat.le_trans (Txt.slice_le z _ _) hz, fin⟩)
    | int j uj => exact wpAny_getItem_str_slice (l := none) (u := some (j, uj)) (st := none) hs rfl (post_val_or_str ⟨Nat.le_trans (Txt.slice_le z _ _) hz, fin⟩)
  | int i ui => cases pu with
    | none => exact wpAny_getItem_str_slice (l := some (i, ui)) (u := none) (st := none) hs rfl (post_val_or_str ⟨Nat.le_trans (Txt.slice_le z _ _) hz, fin⟩)
    | int j uj => exact wpAny_getItem_str_slice (l := some (i, ui)) (u := some (j, uj)) (st := none) hs rfl (post_val_or_str ⟨Nat.le_trans (Txt.slice_le z _ _) hz, fin⟩)
def tF3 (ta tb : TE) (y : Str) : TE := fun σ H Q => ta σ H fun x H1 => ∃ z, x = .str z ∧ z.length + y.length ≤ sizeLine ∧ tb σ H1 fun v H2 => ∃ n, v = .int n ∧ n.natAbs.log2 < 1920 ∧ (z ++ y ++ Str.ofString (toString n)).length ≤ sizeLine ∧ Q (.str (z ++ y ++ Str.ofString (toString n))) H2
theorem pe_f3 {a b : Expr} {ta tb : TE} {y : Str} {k : Nat} {p1 p2 p3 pos : Pos} (ha : PE X a ta) (hb : PE X b tb) : PE X (.JoinedStr [.FormattedValue a (-1) none p1, .Constant (.str y) k p2, .FormattedValue b (-1) none p3] pos) (tF3 ta tb y) := by
  intro pins s σ H Q I h
  refine wpAny_JoinedStr ?_
  show wpAny _ _ (eval (.FormattedValue a (-1) none p1) X.env) _ _ _
  refine wpAny_FormattedValue_plain (thn (ha pins s σ H _ I h) fun u s1 ⟨x, H1, I1, rx, z, ex, hz, q⟩ => ?_)
  subst ex
  obtain ⟨t, rfl⟩ := rx
  have e0 : Str.empty ++ z = z := by
    show (⟨#[] ++ z.cps⟩ : Str) = z
    rw [Array.empty_append]
  have lz : ∀ a b : Str, (a ++ b).length = a.length + b.length := fun a b => by
    show (a.cps ++ b.cps).size = _
    rw [Array.size_append]
    rfl
  refine formatField_str (fun t' tk => ⟨z, t', rfl, by rw [e0]; omega, ?_⟩) (by omega)
  rw [e0]
  show wpAny _ _ (eval (.Constant (.str y) k p2) X.env) _ _ _
  refine Calls.Constant_str ⟨y, _, rfl, by rw [lz]; omega, ?_⟩
  show wpAny _ _ (eval (.FormattedValue b (-1) none p3) X.env) _ _ _
  refine wpAny_FormattedValue_plain (thn (hb pins _ σ H1 _ ((I1.tok tk).tok _) q) fun u s2 ⟨x, H2, I2, rx, n, ex, hn, hl, q2⟩ => ?_)
  subst ex
  obtain ⟨t2, rfl⟩ := rx
  refine wpAny_formatField_int hn ⟨_, _, rfl, hl, hl, ?_⟩
  exact ⟨.str _, H2, (I2.tok _).tok _, ⟨_, rfl⟩, q2⟩
end
section
variable {X : Cx} {pins : List (Addr × Obj)} {σ : St} {H : Hp} {s : Shared}
theorem paired_get {α β : Type} {F : α → β → Prop} : ∀ {l : List α} {m : List β} {i : Nat} {x : α}, Paired F l m → l[i]? = some x → ∃ y, m[i]? = some y ∧ F x y
  | _, _, i, _, .nil, e => by simp at e
  | _, _, 0, _, .cons r _, e => by simp at e; subst e; exact ⟨_, rfl, r⟩
  | _, _, i + 1, x, .cons _ t, e => by
    obtain ⟨y, h1, h2⟩ := paired_get (i := i) (x := x) t (by simpa using e)
    exact ⟨y, by simpa using h1, h2⟩
end
structure New0 (K : PySem.W.Frag) (mg : Str → Option Value) (x : Str) (C : Addr) : Prop where
  mg : mg x = some (.ref C)
  makes : PySem.W.makesIn K C = true
  init : PySem.W.findIn K (.ref C) "__init__" = some (some (.builtin "object.__init__"))
  kp : PySem.W.keepIn K (.ref C) = true
def tNew0 (C : Addr) : TE := fun _ H Q => ∀ x dx, H x = none → H dx = none → dx ≠ x → Q (.ref x) (upd (upd H dx (.own x)) x (.ins C dx []))
section
variable {X : Cx} {C : Addr} {x m : Str} {p pos apos : Pos} {o : Expr} {ta : TE}
theorem pe_new0 (D : New0 X.K X.mg x C) (hg : Gl X x) (hdb : (x == ("__debug__" : Str)) = false := by decide) : PE X (.Call (.Name x p) [] [] pos) (tNew0 C) := by
  intro pins s σ H Q I h
  refine wpAny_Call_Name_kw (ld_glob I hg D.mg ?_ hdb)
  refine PySem.W.callWith_K0 I.kIn D.kp ?_
  have hq := h (s.heap.objs.size + 1) s.heap.objs.size (I.hok.fresh (Nat.le_succ _)) (I.hok.fresh (Nat.le_refl _)) (Nat.ne_of_lt (Nat.lt_succ_self _))
  have I2 := Inv.made (C := C) I
  refine wpAny_call (make_map0 I.kIn D.makes D.init (fun self => PySem.W.Looks.of_pure (PySem.W.oi_bind self)) ?_)
  have Y := PySem.W.makes_of (M := model X.prog X.w) I.kIn D.makes
  have hx : ((s.heap.push PySem.W.emptyDict).push (PySem.W.instObj C s.heap.objs.size)).get? (s.heap.objs.size + 1) = some (PySem.W.instObj C s.heap.objs.size) := by
    have := Heap.get?_push_size (s.heap.push PySem.W.emptyDict) (o := PySem.W.instObj C s.heap.objs.size) rfl
    rwa [Heap.size_push] at this
  have t1 : PySem.W.Looks (model X.prog X.w) ((s.heap.push PySem.W.emptyDict).push (PySem.W.instObj C s.heap.objs.size)) (typeOf (.ref (s.heap.objs.size + 1))) (.ref C) := (PySem.W.Looks.ld hx).andThen .now
  have t2 : PySem.W.Looks (model X.prog X.w) ((s.heap.push PySem.W.emptyDict).push (PySem.W.instObj C s.heap.objs.size)) (isInstance (.ref (s.heap.objs.size + 1)) (.type "object")) true :=
    t1.andThen (Y.top.keeps fun b o e => Heap.get?_push_of_some _ (Heap.get?_push_of_some _ e))
  refine codeAny_call_builtin PySem.W.oi_plain PySem.W.entry_oi (@PySem.W.check_slot (model X.prog X.w) _ _ _ "object.__init__" "object" "__init__" (.ref (s.heap.objs.size + 1)) [] [] _ PySem.W.oi_kind PySem.W.oi_split t2 (PySem.W.oi_args (.ref (s.heap.objs.size + 1))) ?_)
  rw [PySem.W.oi_run]
  exact wpAny_pure (And.intro rfl ⟨V.ref (s.heap.objs.size + 1), _, I2, rfl, hq⟩)
structure MethD (P : Program) (w : World) (K : PySem.W.Frag) (mg : Str → Option Value) (base : Heap) (CX : CXT) (k : Nat) (C : Addr) (m : Str) (ps : List Str) (sp : Sp) : Prop where
  out : ∃ (f : Addr) (fd : FuncData), Cls K C ∧ Meth K C m f ∧ FnOk P w K mg base CX k f fd ps sp ∧ Binds K fd ps []
def tMethD (D : Addr → Sp → Prop) (m : Str) (E : XK) (ta : TE) : TE := fun σ H Q => ta σ H fun x H1 => ∃ a C dx fs sp, x = .ref a ∧ H1 a = some (.ins C dx fs) ∧ fs.lookup m = none ∧ D C sp ∧ sp [x] H1 Q E
theorem pe_methD {CX : CXT} {k : Nat} {D : Addr → Sp → Prop} {E : XK} {pl : Sem Bool} (he : PE X o ta) (hD : ∀ C sp, D C sp → MethD X.prog X.w X.K X.mg X.base CX k C m ["self"] sp) (hr : Room k X.A) (hx : Passes CX X E)
    (ht : eval (.Call (.Attribute o m apos) [] [] pos) X.env = (do
      let ov ← eval o X.env
      standAt apos.atName
      let (f, first) ← holding [ov] (getMethod ov m pl)
      callWith pos f first (backTo pos (starEach [] X.env)) (backToKw pos (keywordEach [] X.env))) := by rfl) :
    PE X (.Call (.Attribute o m apos) [] [] pos) (tMethD D m E ta) := by
  intro pins s σ H Q I h
  refine PySem.W.methodCall_KW (pl := pl) (thn (he pins s σ H _ I h) fun u s1 ⟨x, H1, I1, rx, a, C, dx, fs, sp, ex, ea, l, d, q⟩ => ?_) ht
  subst ex
  obtain rfl : u = Value.ref a := rx
  obtain ⟨f, fd, c, hm, F, hb⟩ := (hD C sp d).out
  refine getmeth_ok I1 ea c hm l ?_
  exact PySem.W.callWith_K0 (first := [.ref a]) I1.kIn hm.kp (run_fn (us := [.ref a]) (vs := [.ref a]) F hr hb .nil hx I1 (.cons rfl .nil) q)
def upZ (x : Str) : Str := ⟨PySem.placed x fun _ c => Unicode.upperOf c⟩
theorem mt_upper : MtR X "str.upper" (fun x xs H Q => ∃ z, x = .str z ∧ xs = [] ∧ Builtin.Str.tooLong (upZ z).cps.size = false ∧ Q (.str (upZ z)) H) := by
  intro pins s σ H x xs v us Q I rx rs h
  obtain ⟨z, rfl, rfl, hz, q⟩ := h
  obtain ⟨t, rfl⟩ := rx
  cases rs
  exact call_gives PySem.F.slot_str_upper (typeIs_str _ _ _) PySem.F.entry_str_upper (PySem.F.args_str_upper_1 _) (gives_str_upper z t hz) ⟨(show _ ≤ sizeLine from by
    have := hz
    unfold Builtin.Str.tooLong at this
    have z2 : (upZ z).cps.size ≤ sizeLine := by simpa using this
    exact z2), ⟨.str _, H, I.tok _, ⟨_, rfl⟩, q⟩⟩
end
end L2
namespace PySem
namespace SeqAt
open AutoSeq1 (wpAny_loadPart')
open PySem.Spec PyProof.Rows
end SeqAt
end PySem
namespace L2
open PySem PySem.Spec PyProof.Rows
section
variable {X : Cx}
end
section
variable {P : Program} {w : World} {K : PySem.W.Frag} {mg : Str → Option Value} {base : Heap}
end
section
variable {X : Cx}
end
end L2
namespace L2
open PySem PySem.Spec PyProof.Rows
section
variable {X : Cx}
end
open Builtin.SmallTypes (nextOf)
structure Nx (P : Program) (w : World) (it l : Addr) (us : Array Value) (S : Nat → Heap → Prop) : Prop where
  keep : ∀ k g g', S k g → (∀ o, g.get? it = some o → g'.get? it = some o) → (∀ o, g.get? l = some o → g'.get? l = some o) → S k g'
  item : ∀ (A : Around) (E : Value → Shared → Prop) (Q : Value → Shared → Prop) (s : Shared) (k : Nat) (u : Value), S k s.heap → us[k]? = some u → (∀ g, S (k + 1) g → Heap.SameBut it s.heap g → Q u { s with heap := g }) → wpAny (model P w) A (nextOf (.ref it)) Q E s
  fin : ∀ (A : Around) (E : Value → Shared → Prop) (Q : Value → Shared → Prop) (s : Shared) (k : Nat), A.handled = none → S k s.heap → us[k]? = none →
    (∀ g e, Heap.ExtBut it s.heap g → (∃ o, g.get? e = some o ∧ o.cls = .type "StopIteration") → E (.ref e) { s with heap := g }) → wpAny (model P w) A (nextOf (.ref it)) Q E s
  there : ∀ k g, S k g → ∃ o, g.get? it = some o ∧ ∀ v, o.data ≠ .cell v
section
variable {P : Program} {w : World}
theorem nx_list {it l : Addr} {us : Array Value} (hne : l ≠ it) : Nx P w it l us (fun k g => g.IsListIter it l k ∧ g.IsList l us) where
  keep := fun k g g' h h1 h2 => ⟨h.1.at h1, h.2.at h2⟩
  item := fun A E Q s k u h e q => wpAny_nextOf_list_item h.1 h.2 e fun g h1 sb => q g ⟨h1, h.2.extBut sb.extBut hne⟩ sb
  fin := fun A E Q s k hh h e q => wpAny_nextOf_list_end hh h.1 h.2 e q
  there := fun k g h => by
    obtain ⟨o, e, _, d⟩ := h.1
    exact ⟨o, e, fun v z => by rw [d] at z; cases z⟩
end
open Builtin.SmallTypes (nextOf ownedTupleIsFree ownedTupleHandOut)
structure ZA (z TI TO i1 i2 l1 l2 : Addr) : Prop where
  a : TI ≠ z ∧ TO ≠ z ∧ i1 ≠ z ∧ i2 ≠ z ∧ l1 ≠ z ∧ l2 ≠ z
  b : TI ≠ TO ∧ i1 ≠ TO ∧ i2 ≠ TO ∧ l1 ≠ TO ∧ l2 ≠ TO
  c : TI ≠ i1 ∧ i2 ≠ i1 ∧ l1 ≠ i1 ∧ l2 ≠ i1
  d : TI ≠ i2 ∧ l1 ≠ i2 ∧ l2 ≠ i2
section
variable {P : Program} {w : World} {A : Around} {E : Value → Shared → Prop} {s : Shared} {z TI TO i1 i2 l1 l2 : Addr} {us vs : Array Value} {S1 S2 : Nat → Heap → Prop}
theorem zipG_item {k : Nat} {u v a b : Value} {Q : Value → Shared → Prop} (D : ZA z TI TO i1 i2 l1 l2) (N1 : Nx P w i1 l1 us S1) (N2 : Nx P w i2 l2 vs S2)
    (hz : IsZip s.heap z TI TO .none) (hTI : IsPair s.heap TI (.ref i1) (.ref i2)) (hTO : IsPair s.heap TO a b) (h1 : S1 k s.heap) (h2 : S2 k s.heap) (hu : us[k]? = some u) (hv : vs[k]? = some v)
    (q : ∀ g, IsZip g z TI TO (rawInt s.heap.objs.size) → IsPair g TO u v → S1 (k + 1) g → S2 (k + 1) g → IsPair g s.heap.objs.size u v → g.objs.size = s.heap.objs.size + 1 →
      (∀ c o, c ≠ z → c ≠ TO → c ≠ i1 → c ≠ i2 → s.heap.get? c = some o → g.get? c = some o) → Q (.ref s.heap.objs.size) { s with heap := g }) :
    wpAny (model P w) A (Builtin.«zip.__next__» ⟨[.ref z], []⟩) (fun fin s' => ∃ v, fin = .done (.ret v) ∧ Q v s') E s := by
  obtain ⟨⟨d1, d2, d3, d4, d5, d6⟩, ⟨d7, d8, d9, d10, d11⟩, ⟨d12, d13, d14, d15⟩, d16, d17, d18⟩ := D
  show wpAny _ _ (field (.ref z) 2 >>= _) _ _ _; refine wpAny_bind (wpAny_field hz rfl (x := .bool false) rfl ?_)
  show wpAny _ _ (field (.ref z) 3 >>= _) _ _ _; refine wpAny_bind (wpAny_field hz rfl (x := .ref TI) rfl (wpAny_bind (wpAny_seqItems hTI rfl ?_)))
  show wpAny _ _ (ownedTupleIsFree (.ref z) >>= _) _ _ _
  refine wpAny_bind ?_
  unfold ownedTupleIsFree
  refine wpAny_bind (wpAny_field hz rfl (x := .none) rfl (wpAny_pure ?_)); simp only [if_true]
  refine wpAny_bind (wpAny_rule (wpAny_bind (wpAny_field hz rfl (x := .ref TO) rfl (wpAny_bind (wpAny_setField_rec hz (by simp) fun g1 z1 b1 => ?_)))))
  replace z1 : IsZip g1 z TI TO .ellipsis := z1
  refine wpAny_bind ?_
  simp only [List.zipIdx_cons, List.zipIdx_nil, List.forIn_cons, List.forIn_nil]; refine wpAny_bind (wpAny_bind (wpAny_onRaise ?_))
  show wpAny _ _ (nextOf (.ref i1) >>= _) _ _ _
  refine wpAny_bind (N1.item _ _ _ _ k u (N1.keep k _ _ h1 (fun o e => b1.extBut _ _ d3 e) fun o e => b1.extBut _ _ d5 e) hu fun g2 n2 b2 => wpAny_pure ?_)
  have t2 : IsPair g2 TO a b := b2.extBut _ _ (Ne.symm d8) (b1.extBut _ _ d2 hTO)
  refine wpAny_bind (wpAny_seqItems t2 rfl (wpAny_bind (wpAny_updateSeq_pair t2 fun g3 t3 b3 => ?_)))
  replace t3 : IsPair g3 TO u b := t3
  refine wpAny_bind (wpAny_letGo (wpAny_pure (wpAny_bind (wpAny_bind (wpAny_onRaise ?_)))))
  show wpAny _ _ (nextOf (.ref i2) >>= _) _ _ _
  have y2 : S2 k g3 := N2.keep k _ _ h2 (fun o e => b3.extBut _ _ d9 (b2.extBut _ _ d13 (b1.extBut _ _ d4 e))) fun o e => b3.extBut _ _ d11 (b2.extBut _ _ d15 (b1.extBut _ _ d6 e))
  refine wpAny_bind (N2.item _ _ _ _ k v y2 hv fun g4 n4 b4 => wpAny_pure ?_)
  have t4 : IsPair g4 TO u b := b4.extBut _ _ (Ne.symm d9) t3
  refine wpAny_bind (wpAny_seqItems t4 rfl (wpAny_bind (wpAny_updateSeq_pair t4 fun g5 t5 b5 => ?_)))
  replace t5 : IsPair g5 TO u v := t5
  refine wpAny_bind (wpAny_letGo (wpAny_pure (wpAny_pure (wpAny_bind (wpAny_seqItems t5 rfl (wpAny_bind (wpAny_newTuple ?_)))))))
  have sz : g5.objs.size = s.heap.objs.size := by rw [b5.1, b4.1, b3.1, b2.1, b1.1]
  have z5 : IsZip g5 z TI TO .ellipsis := b5.extBut _ _ (Ne.symm d2) (b4.extBut _ _ (Ne.symm d4) (b3.extBut _ _ (Ne.symm d2) (b2.extBut _ _ (Ne.symm d3) z1)))
  have k5 : ∀ c o, c ≠ z → c ≠ TO → c ≠ i1 → c ≠ i2 → s.heap.get? c = some o → g5.get? c = some o := fun c o c1 c2 c3 c4 e => b5.extBut _ _ c2 (b4.extBut _ _ c4 (b3.extBut _ _ c2 (b2.extBut _ _ c3 (b1.extBut _ _ c1 e))))
  have m1 : S1 (k + 1) g5 := N1.keep _ _ _ n2 (fun o e => b5.extBut _ _ d8 (b4.extBut _ _ (Ne.symm d13) (b3.extBut _ _ d8 e))) fun o e => b5.extBut _ _ d10 (b4.extBut _ _ d17 (b3.extBut _ _ d10 e))
  have m2 : S2 (k + 1) g5 := N2.keep _ _ _ n4 (fun o e => b5.extBut _ _ d9 e) fun o e => b5.extBut _ _ d11 e
  have lz : z < g5.objs.size := Heap.lt_size z5
  show wpAny _ _ (ownedTupleHandOut (.ref z) (.ref g5.objs.size) >>= _) _ _ _
  refine wpAny_bind ?_
  unfold ownedTupleHandOut
  have z6 : IsZip (g5.push { cls := .type "tuple", data := .seq #[u, v] }) z TI TO .ellipsis := Heap.get?_push_of_some _ z5
  refine wpAny_bind (wpAny_setField_rec z6 (by simp) fun g7 z7 b7 => ?_)
  replace z7 : IsZip g7 z TI TO (rawInt g5.objs.size) := z7
  refine wpAny_setField_rec z7 (by simp) fun g8 z8 b8 => ?_
  replace z8 : IsZip g8 z TI TO (rawInt g5.objs.size) := z8
  have up : ∀ c o, c ≠ z → g5.get? c = some o → g8.get? c = some o := fun c o c1 e => b8.extBut _ _ c1 (b7.extBut _ _ c1 (Heap.get?_push_of_some _ e))
  have t8 : IsPair g8 g5.objs.size u v := b8.extBut _ _ (Nat.ne_of_gt lz) (b7.extBut _ _ (Nat.ne_of_gt lz) (Heap.get?_push_size _ rfl))
  have sz8 : g8.objs.size = g5.objs.size + 1 := by rw [b8.1, b7.1, Heap.size_push]
  rw [sz] at z8 t8 sz8
  refine wpAny_pure ⟨_, rfl, ?_⟩
  show Q (.ref g5.objs.size) _
  rw [sz]
  exact q g8 z8 (up _ _ d2 t5) (N1.keep _ _ _ m1 (fun o e => up _ o d3 e) fun o e => up _ o d5 e) (N2.keep _ _ _ m2 (fun o e => up _ o d4 e) fun o e => up _ o d6 e) t8 sz8 fun c o c1 c2 c3 c4 e => up c o c1 (k5 c o c1 c2 c3 c4 e)
theorem zipG_end {k : Nat} {a b : Value} {Q : Fin → Shared → Prop} (hh : A.handled = none) (D : ZA z TI TO i1 i2 l1 l2) (N1 : Nx P w i1 l1 us S1) (N2 : Nx P w i2 l2 vs S2)
    (hz : IsZip s.heap z TI TO .none) (hTI : IsPair s.heap TI (.ref i1) (.ref i2)) (hTO : IsPair s.heap TO a b) (h1 : S1 k s.heap) (h2 : S2 k s.heap) (hend : us[k]? = none ∨ vs[k]? = none)
    (q : ∀ g e, (∀ c o, c ≠ z → c ≠ TO → c ≠ i1 → c ≠ i2 → s.heap.get? c = some o → g.get? c = some o) → (∃ o, g.get? e = some o ∧ o.cls = .type "StopIteration") → E (.ref e) { s with heap := g }) :
    wpAny (model P w) A (Builtin.«zip.__next__» ⟨[.ref z], []⟩) Q E s := by
  obtain ⟨⟨d1, d2, d3, d4, d5, d6⟩, ⟨d7, d8, d9, d10, d11⟩, ⟨d12, d13, d14, d15⟩, d16, d17, d18⟩ := D
  show wpAny _ _ (field (.ref z) 2 >>= _) _ _ _; refine wpAny_bind (wpAny_field hz rfl (x := .bool false) rfl ?_)
  show wpAny _ _ (field (.ref z) 3 >>= _) _ _ _; refine wpAny_bind (wpAny_field hz rfl (x := .ref TI) rfl (wpAny_bind (wpAny_seqItems hTI rfl ?_)))
  show wpAny _ _ (ownedTupleIsFree (.ref z) >>= _) _ _ _
  refine wpAny_bind ?_
  unfold ownedTupleIsFree
  refine wpAny_bind (wpAny_field hz rfl (x := .none) rfl (wpAny_pure ?_)); simp only [if_true]
  refine wpAny_bind (wpAny_rule (wpAny_bind (wpAny_field hz rfl (x := .ref TO) rfl (wpAny_bind (wpAny_setField_rec hz (by simp) fun g1 z1 b1 => ?_)))))
  replace z1 : IsZip g1 z TI TO .ellipsis := z1
  refine wpAny_bind ?_
  simp only [List.zipIdx_cons, List.zipIdx_nil, List.forIn_cons, List.forIn_nil]; refine wpAny_bind (wpAny_bind (wpAny_onRaise ?_))
  show wpAny _ _ (nextOf (.ref i1) >>= _) _ _ _
  have y1 : S1 k g1 := N1.keep k _ _ h1 (fun o e => b1.extBut _ _ d3 e) fun o e => b1.extBut _ _ d5 e
  cases hu : us[k]? with
  | none =>
    refine wpAny_bind (N1.fin _ _ _ _ k hh y1 hu fun g2 e b2 he => ?_)
    obtain ⟨oe, eo, ec⟩ := he
    have z2 : IsZip g2 z TI TO .ellipsis := b2 _ _ (Ne.symm d3) z1
    have nez : e ≠ z := fun y => by subst y; rw [z2] at eo; cases eo; simp at ec
    exact wpAny_setField_rec z2 (by simp) fun g3 _ b3 => q g3 e (fun c o c1 _ c3 _ y => b3.extBut _ _ c1 (b2 _ _ c3 (b1.extBut _ _ c1 y))) ⟨oe, b3.extBut _ _ nez eo, ec⟩
  | some u =>
    have hv : vs[k]? = none := hend.resolve_left fun y => by rw [hu] at y; cases y
    refine wpAny_bind (N1.item _ _ _ _ k u y1 hu fun g2 n2 b2 => wpAny_pure ?_)
    have t2 : IsPair g2 TO a b := b2.extBut _ _ (Ne.symm d8) (b1.extBut _ _ d2 hTO)
    refine wpAny_bind (wpAny_seqItems t2 rfl (wpAny_bind (wpAny_updateSeq_pair t2 fun g3 t3 b3 => ?_)))
    refine wpAny_bind (wpAny_letGo (wpAny_pure (wpAny_bind (wpAny_bind (wpAny_onRaise ?_)))))
    show wpAny _ _ (nextOf (.ref i2) >>= _) _ _ _
    have y2 : S2 k g3 := N2.keep k _ _ h2 (fun o e => b3.extBut _ _ d9 (b2.extBut _ _ d13 (b1.extBut _ _ d4 e))) fun o e => b3.extBut _ _ d11 (b2.extBut _ _ d15 (b1.extBut _ _ d6 e))
    refine wpAny_bind (N2.fin _ _ _ _ k hh y2 hv fun g4 e b4 he => ?_)
    obtain ⟨oe, eo, ec⟩ := he
    have z4 : IsZip g4 z TI TO .ellipsis := b4 _ _ (Ne.symm d4) (b3.extBut _ _ (Ne.symm d2) (b2.extBut _ _ (Ne.symm d3) z1))
    have nez : e ≠ z := fun y => by subst y; rw [z4] at eo; cases eo; simp at ec
    exact wpAny_setField_rec z4 (by simp) fun g5 _ b5 => q g5 e (fun c o c1 c2 c3 c4 y => b5.extBut _ _ c1 (b4 _ _ c4 (b3.extBut _ _ c2 (b2.extBut _ _ c3 (b1.extBut _ _ c1 y))))) ⟨oe, b5.extBut _ _ nez eo, ec⟩
theorem nextG_item {k : Nat} {u v a b : Value} {Q : Option Value → Shared → Prop} (D : ZA z TI TO i1 i2 l1 l2) (N1 : Nx P w i1 l1 us S1) (N2 : Nx P w i2 l2 vs S2)
    (hz : IsZip s.heap z TI TO .none) (hTI : IsPair s.heap TI (.ref i1) (.ref i2)) (hTO : IsPair s.heap TO a b) (h1 : S1 k s.heap) (h2 : S2 k s.heap) (hu : us[k]? = some u) (hv : vs[k]? = some v)
    (q : ∀ g, IsZip g z TI TO (rawInt s.heap.objs.size) → IsPair g TO u v → S1 (k + 1) g → S2 (k + 1) g → IsPair g s.heap.objs.size u v → g.objs.size = s.heap.objs.size + 1 →
      (∀ c o, c ≠ z → c ≠ TO → c ≠ i1 → c ≠ i2 → s.heap.get? c = some o → g.get? c = some o) → Q (some (.ref s.heap.objs.size)) { s with heap := g }) : wpAny (model P w) A (pyNext (.ref z)) Q E s := by
  have hT : s.TypeIs (.ref z) "zip" := ⟨_, hz, rfl⟩
  unfold pyNext
  exact wpAny_bind (wpAny_attempt (wpAny_callSpecial?_slot (name := Str.ofString "__next__") hT F.slot_zip_next (wpAny_call_entry F.slot_zip_next hT F.entry_zip_next
    (zipG_item D N1 N2 hz hTI hTO h1 h2 hu hv fun g a1 a2 a3 a4 a5 a6 a7 => wpAny_pure (q g a1 a2 a3 a4 a5 a6 a7)) (F.args_zip_next_1 _))))
theorem nextG_end {k : Nat} {a b : Value} {Q : Option Value → Shared → Prop} (hh : A.handled = none) (D : ZA z TI TO i1 i2 l1 l2) (N1 : Nx P w i1 l1 us S1) (N2 : Nx P w i2 l2 vs S2)
    (hz : IsZip s.heap z TI TO .none) (hTI : IsPair s.heap TI (.ref i1) (.ref i2)) (hTO : IsPair s.heap TO a b) (h1 : S1 k s.heap) (h2 : S2 k s.heap) (hend : us[k]? = none ∨ vs[k]? = none)
    (q : ∀ g, (∀ c o, c ≠ z → c ≠ TO → c ≠ i1 → c ≠ i2 → s.heap.get? c = some o → g.get? c = some o) → Q none { s with heap := g }) : wpAny (model P w) A (pyNext (.ref z)) Q E s := by
  have hT : s.TypeIs (.ref z) "zip" := ⟨_, hz, rfl⟩
  unfold pyNext
  refine wpAny_bind (wpAny_attempt (wpAny_callSpecial?_slot (name := Str.ofString "__next__") hT F.slot_zip_next (wpAny_call_entry F.slot_zip_next hT F.entry_zip_next
    (zipG_end hh D N1 N2 hz hTI hTO h1 h2 hend fun g e kk he => ?_) (F.args_zip_next_1 _))))
  obtain ⟨o, eo, ec⟩ := he
  exact wpAny_bind (wpAny_isInstance (T := "StopIteration") (b := true) ⟨o, eo, ec⟩ isSubtype_stop (wpAny_pure (q _ kk)))
end
def itTy : Bool → String
  | false => "list_iterator"
  | true => "tuple_iterator"
def IsSq : Bool → Heap → Addr → Array Value → Prop
  | false => Heap.IsList
  | true => Heap.IsTuple
def IsIt : Bool → Heap → Addr → Addr → Nat → Prop
  | false => Heap.IsListIter
  | true => Heap.IsTupleIter
theorem IsSq.push {b : Bool} {g : Heap} {l : Addr} {us : Array Value} (h : IsSq b g l us) (o : Obj) : IsSq b (g.push o) l us := by
  cases b
  · exact Heap.IsList.push h o
  · exact Heap.IsTuple.push h o
theorem IsSq.lt {b : Bool} {g : Heap} {l : Addr} {us : Array Value} (h : IsSq b g l us) : l < g.objs.size := by
  cases b <;> (obtain ⟨o, e, _⟩ := h; exact Heap.lt_size e)
theorem isIt_of {b : Bool} {g : Heap} {it l : Addr} {dd : Option Addr} {sl : Array (Option Value)} (h : g.get? it = some ⟨.type (itTy b), dd, .fields #[.ref l, .int 0 0], sl⟩) : IsIt b g it l 0 := by
  cases b <;> exact ⟨_, h, rfl, rfl⟩
abbrev itO (b : Bool) (l : Addr) : Obj := { cls := .type (itTy b), data := .fields #[.ref l, .int 0 0] }
abbrev zg1 (g : Heap) (b1 : Bool) (l1 : Addr) : Heap := g.push (itO b1 l1)
abbrev zg2 (g : Heap) (b1 b2 : Bool) (l1 l2 : Addr) : Heap := (zg1 g b1 l1).push (itO b2 l2)
abbrev zg3 (g : Heap) (b1 b2 : Bool) (l1 l2 : Addr) : Heap := (zg2 g b1 b2 l1 l2).push { cls := .type "tuple", data := .seq #[.ref g.objs.size, .ref (zg1 g b1 l1).objs.size] }
abbrev zg4 (g : Heap) (b1 b2 : Bool) (l1 l2 : Addr) : Heap := (zg3 g b1 b2 l1 l2).push { cls := .type "tuple", data := .seq #[.none, .none] }
abbrev zg5 (g : Heap) (b1 b2 : Bool) (l1 l2 : Addr) : Heap := (zg4 g b1 b2 l1 l2).push { cls := .type "zip", data := .fields #[.none, .bool false, .bool false, .ref (zg2 g b1 b2 l1 l2).objs.size, .ref (zg3 g b1 b2 l1 l2).objs.size] }
theorem iter_sq {P : Program} {w : World} {A : Around} {E : Value → Shared → Prop} {s : Shared} {b : Bool} {l : Addr} {us : Array Value} {Q : Value → Shared → Prop} (h : IsSq b s.heap l us) (q : Q (.ref s.heap.objs.size) { s with heap := s.heap.push (itO b l) }) : wpAny (model P w) A (pyIter (.ref l)) Q E s := by
  cases b
  · exact wpAny_pyIter_list h q
  · exact wpAny_pyIter_tuple h q
theorem zip_made (b1 b2 : Bool) (l1 l2 : Addr) (us vs : Array Value) : Meets (Builtin.«zip.__new__» ⟨[.type "zip", .ref l1, .ref l2], []⟩) (fun _ R s => IsSq b1 s.heap l1 us ∧ IsSq b2 s.heap l2 vs ∧ R (.ok (.ret (.ref (zg4 s.heap b1 b2 l1 l2).objs.size))) { s with heap := zg5 s.heap b1 b2 l1 l2 }) :=
  .of_wp fun P w A R s h => by
    obtain ⟨hp, g, d, tk, os⟩ := s
    obtain ⟨y1, y2, h⟩ := h
    have ez := sub_zip
    have e1 : IsSq b1 (Shared.heap ⟨hp, g, d, tk, os⟩) l1 us := y1
    have e2 : IsSq b2 (Shared.heap ⟨hp.push (itO b1 l1), g, d, tk, os⟩) l2 vs := IsSq.push y2 _
    wp_walk using iter_sq e1, iter_sq e2
    exact ⟨_, rfl, h⟩
theorem call_zipG {P : Program} {w : World} {A : Around} {E : Value → Shared → Prop} {s : Shared} {b1 b2 : Bool} {l1 l2 : Addr} {us vs : Array Value} {Q : Value → Shared → Prop} (y1 : IsSq b1 s.heap l1 us) (y2 : IsSq b2 s.heap l2 vs)
    (q : ∀ g, IsZip g (s.heap.objs.size + 4) (s.heap.objs.size + 2) (s.heap.objs.size + 3) .none → IsPair g (s.heap.objs.size + 2) (.ref s.heap.objs.size) (.ref (s.heap.objs.size + 1)) → IsPair g (s.heap.objs.size + 3) .none .none →
      IsIt b1 g s.heap.objs.size l1 0 → IsIt b2 g (s.heap.objs.size + 1) l2 0 → (∀ c o, s.heap.get? c = some o → g.get? c = some o) → Q (.ref (s.heap.objs.size + 4)) { s with heap := g }) : wpAny (model P w) A (call (.type "zip") [.ref l1, .ref l2]) Q E s := by
  refine callType_new F.called_zip (by decide) (F.typeCall_zip_2 _ _) (F.newCall_zip_2 _ _) (fun obj => F.args_object_init_3 obj _ _) F.entry_zip_new (zip_made b1 b2 l1 l2 us vs) ⟨y1, y2, ?_⟩
  have n1 : (zg1 s.heap b1 l1).objs.size = s.heap.objs.size + 1 := Heap.size_push ..
  have n2 : (zg2 s.heap b1 b2 l1 l2).objs.size = s.heap.objs.size + 2 := by rw [Heap.size_push, n1]
  have n3 : (zg3 s.heap b1 b2 l1 l2).objs.size = s.heap.objs.size + 3 := by rw [Heap.size_push, n2]
  have n4 : (zg4 s.heap b1 b2 l1 l2).objs.size = s.heap.objs.size + 4 := by rw [Heap.size_push, n3]
  have up := fun (g : Heap) (o : Obj) (c : Addr) (x : Obj) (e : g.get? c = some x) => Heap.get?_push_of_some (h := g) o e
  have p5 : (zg5 s.heap b1 b2 l1 l2).get? (zg4 s.heap b1 b2 l1 l2).objs.size = some _ := Heap.get?_push_size _ rfl
  have p4 : (zg5 s.heap b1 b2 l1 l2).get? (zg3 s.heap b1 b2 l1 l2).objs.size = some _ := up _ _ _ _ (Heap.get?_push_size _ rfl)
  have p3 : (zg5 s.heap b1 b2 l1 l2).get? (zg2 s.heap b1 b2 l1 l2).objs.size = some _ := up _ _ _ _ (up _ _ _ _ (Heap.get?_push_size _ rfl))
  have p2 : (zg5 s.heap b1 b2 l1 l2).get? (zg1 s.heap b1 l1).objs.size = some _ := up _ _ _ _ (up _ _ _ _ (up _ _ _ _ (Heap.get?_push_size _ rfl)))
  have p1 : (zg5 s.heap b1 b2 l1 l2).get? s.heap.objs.size = some _ := up _ _ _ _ (up _ _ _ _ (up _ _ _ _ (up _ _ _ _ (Heap.get?_push_size _ rfl))))
  show _ ∧ _
  rw [n2, n3, n4] at p5
  rw [n1, n2] at p3
  rw [n3] at p4
  rw [n1] at p2
  rw [n4]
  exact ⟨⟨_, p5, rfl⟩, q _ p5 p3 p4 (isIt_of p1) (isIt_of p2) fun c o x => up _ _ _ _ (up _ _ _ _ (up _ _ _ _ (up _ _ _ _ (up _ _ _ _ x))))⟩
theorem bootZipG : bootBuiltins "zip" = some (.type "zip") := by decide +kernel
theorem za_new {n a b : Nat} (ha : a < n) (hb : b < n) : ZA (n + 4) (n + 2) (n + 3) n (n + 1) a b :=
  have e : ∀ {x y : Nat}, x < y → x ≠ y := fun h => Nat.ne_of_lt h
  have e' : ∀ {x y : Nat}, y < x → x ≠ y := fun h => Nat.ne_of_gt h
  ⟨⟨e (by omega), e (by omega), e (by omega), e (by omega), e (by omega), e (by omega)⟩, ⟨e (by omega), e (by omega), e (by omega), e (by omega), e (by omega)⟩, ⟨e' (by omega), e' (by omega), e (by omega), e (by omega)⟩, e' (by omega), e (by omega), e (by omega)⟩
section
variable {X : Cx}
end
section
variable {X : Cx} {k : Nat} {f C : Addr} {fd : FuncData} {ps : List Str} {sp : Sp} {dvs : List V} {ds : List Value} {E : XK} {x m : Str} {p pos apos : Pos} {e : Expr} {es : List Expr} {t : TA} {RX : St → Addr → Hp → Prop}
end
section
variable {P : Program} {w : World} {K : PySem.W.Frag} {mg : Str → Option Value} {base : Heap}
end
end L2
namespace PySem
open Sem (wp)
open Builtin
end PySem
namespace L2
open PySem PySem.Spec PyProof.Rows
section
variable {P : Program} {w : World} {K : PySem.W.Frag} {mg : Str → Option Value} {base : Heap}
end
theorem op_eqNil {X : Cx} (hu : X.A.units < cLine) : OpR X (compareOp .Eq) (fun x y H Q => ∃ a b xs, x = .ref a ∧ y = .ref b ∧ SqL X.K H a xs ∧ SqL X.K H b [] ∧ Q (.bl xs.isEmpty) H) := by
  intro pins s σ H x y v u Q I rx ry h
  obtain ⟨a, b, xs, rfl, rfl, ha, hb, q⟩ := h
  cases rx
  cases ry
  obtain ⟨its, rv, pl, _⟩ := I.list ha
  obtain ⟨its', rv', pl', _⟩ := I.list hb
  have l1 := rv.length
  cases rv'
  cases xs with
  | nil =>
    cases rv
    exact SeqAt.RcAt.lists (e := fun _ => true) pl.isList pl'.isList rfl hu (fun j h1 h2 => absurd h2 (by simp)) _ _ _ _ (fin_bl I q (by simp))
  | cons x r => exact SeqAt.RcAt.lists_lengths pl.isList pl'.isList (by simp at l1; simp [← l1]) hu _ _ _ _ (fin_bl I q (by simp))
section
variable {X : Cx} {pins : List (Addr × Obj)} {σ : St} {H : Hp} {s : Shared}
end
section
variable {X : Cx}
end
section
variable {P : Program} {w : World} {A : Around} {E : Value → Shared → Prop} {s : Shared} {it d : Addr} {ob : Obj} {es : Array DictEntry} {ep i : Nat}
end
section
variable {X : Cx} {pins : List (Addr × Obj)} {σ : St} {H : Hp} {s : Shared} {a : Addr} {kvs : List (List Key × V)}
end
section
variable {X : Cx}
end
section
variable {X : Cx}
end
end L2
namespace PySem
namespace SeqAt
open AutoSeq1 (wpAny_loadPart')
open PySem.Spec PyProof.Rows
end SeqAt
end PySem
namespace L2
open PySem PySem.Spec PyProof.Rows
def eqI (y v : V) : Bool := if flatV v then eqV y v else false
def eT (w : Str) (n : Int) (vs : List V) (j : Nat) : Bool := match vs[j]? with
  | some v => if j = 0 then eqI (.str w) v else eqI (.int n) v
  | none => false
section
variable {X : Cx} {pins : List (Addr × Obj)} {σ : St} {H : Hp} {s : Shared}
end
section
variable {X : Cx}
theorem len_app (a b : Str) : (a ++ b).length = a.length + b.length := by
  show (a.cps ++ b.cps).size = _
  rw [Array.size_append]
  rfl
end
section
variable {X : Cx}
end
section
variable {prog : Program} {w : World} {A : Around} {R : Result → Shared → Prop} {I : Addr} {fp wr : List Addr} {G : Array GenState → Array GenState → Prop} {n : Nat} {P : Nat → Value → Prop} {St : Nat → Shared → Prop}
end
section
variable {prog : Program} {w : World} {A : Around} {E : Value → Shared → Prop} {s : Shared}
end
section
variable {X : Cx}
end
theorem atI_ex {α : Type} {xs : List α} {r : Int} (h0 : 0 ≤ r) (h1 : r < xs.length) : ∃ v, atI xs r = some v ∧ v ∈ xs := by
  obtain ⟨k, rfl⟩ : ∃ k : Nat, r = (k : Int) := ⟨r.toNat, by omega⟩
  have hk : k < xs.length := by omega
  exact ⟨xs[k], atI_nat (List.getElem?_eq_getElem hk), List.getElem_mem hk⟩
def isLow (c : Nat) : Bool := decide (97 ≤ c ∧ c ≤ 122)
theorem low_in (c : Nat) : (!(Builtin.Str.occurrences (Str.ofString "abcdefghijklmnopqrstuvwxyz") ⟨#[c]⟩ 0 (Str.ofString "abcdefghijklmnopqrstuvwxyz").length 1).isEmpty) = isLow c := by
  rw [PySem.StrLaws.found_one]
  have e : (Str.ofString "abcdefghijklmnopqrstuvwxyz").cps.toList = [97, 98, 99, 100, 101, 102, 103, 104, 105, 106, 107, 108, 109, 110, 111, 112, 113, 114, 115, 116, 117, 118, 119, 120, 121, 122] := by decide +kernel
  rw [e, Bool.eq_iff_iff]
  have h1 : ∀ c ∈ ([97, 98, 99, 100, 101, 102, 103, 104, 105, 106, 107, 108, 109, 110, 111, 112, 113, 114, 115, 116, 117, 118, 119, 120, 121, 122] : List Nat), isLow c = true := by decide +kernel
  have h2 : ∀ i : Fin 26, 97 + i.val ∈ ([97, 98, 99, 100, 101, 102, 103, 104, 105, 106, 107, 108, 109, 110, 111, 112, 113, 114, 115, 116, 117, 118, 119, 120, 121, 122] : List Nat) := by decide +kernel
  refine ⟨fun h => h1 c (of_decide_eq_true h), fun h => decide_eq_true ?_⟩
  unfold isLow at h
  have h := of_decide_eq_true h
  obtain ⟨d, rfl⟩ := Nat.exists_eq_add_of_le h.1
  exact h2 ⟨d, by omega⟩
def isWordZ (z : Str) : Bool := decide (1 ≤ z.length ∧ z.length ≤ 8) && z.cps.toList.all isLow
def wordV : V → Bool
  | .str z => isWordZ z
  | _ => false
section
variable {prog : Program} {w : World} {A : Around} {E : Value → Shared → Prop} {s : Shared}
end
section
variable {prog : Program} {w : World} {A : Around} {R : Result → Shared → Prop} {I : Addr} {fp wr : List Addr} {G : Array GenState → Array GenState → Prop} {n : Nat} {P : Nat → Value → Prop} {St : Nat → Shared → Prop}
end
section
variable {prog : Program} {w : World} {A : Around} {E : Value → Shared → Prop} {s : Shared}
end
section
variable {prog : Program} {w : World} {A : Around} {E : Value → Shared → Prop} {s : Shared}
end
section
variable {X : Cx}
end
theorem pg_tupK {X : Cx} {pos : Pos} {es : List Expr} {k : Nat} {t : TGs} {n : Nat} (K : PySem.W.Frag) (hc : X.calm = true) (h : PGs X es t) (hK : X.K = K := by rfl) (hn : (assignEach es X.env).length = n := by rfl) (hst : (assignEach es X.env).findIdx? (·.1) = none := by rfl) : PG X (.Tuple es k pos) (gTup K n t) := by
  subst hK
  exact pg_tup hc h hn hst
open PySem PySem.Spec PyProof.Rows PySem.SeqAt
section
variable {X : Cx}
def rSameD (K : PySem.W.Frag) (b : Bool) : R2 := fun x y H Q => ∃ d, RdD K H x d ∧ RdD K H y d ∧ shaped d = true ∧ Q (.bl b) H
theorem op_neSD (hu : X.A.units + 64 < cLine) : OpR X (compareOp .NotEq) (rSameD X.K false) := by
  intro pins s σ H x y v u Q I rx ry ⟨d, hx, hy, sd, q⟩
  exact op_neD hu pins s σ H x y v u Q I rx ry ⟨d, d, hx, hy, sd, sd, by rw [PySem.SeqAt.eqv_refl d (canLay_of_shaped sd)]; exact q⟩
end
section
variable {X : Cx}
def repZ (n : Nat) (z : Str) : Str := ⟨((List.replicate n z.cps.toList).flatten).toArray⟩
theorem foldl_repZ : ∀ (n : Nat) (a acc : Array Nat), List.foldl (fun x1 x2 => x1 ++ x2) acc (List.replicate n a) = acc ++ ((List.replicate n a.toList).flatten).toArray
  | 0, a, acc => by simp
  | n + 1, a, acc => by
    rw [List.replicate_succ, List.foldl_cons, foldl_repZ n, List.replicate_succ, List.flatten_cons]
    apply Array.ext'
    simp
theorem rep_len (n : Nat) (z : Str) : (repZ n z).length = n * z.length := by
  show ((List.replicate n z.cps.toList).flatten).toArray.size = _
  rw [List.size_toArray]
  simp [Str.length]
theorem op_mulS : OpR X (binaryOp .Mult) (fun x y H Q => ∃ z n, x = .str z ∧ y = .int n ∧ 0 ≤ n ∧ n ≤ 100 ∧ z.length ≤ 100 ∧ Q (.str (repZ n.toNat z)) H) := by
  intro pins s σ H x y v u Q I rx ry h
  obtain ⟨z, n, rfl, rfl, h0, h1, hz, q⟩ := h
  obtain ⟨t, rfl⟩ := rx
  obtain ⟨t', rfl⟩ := ry
  have hs : sizeLine = 16777216 := sizeLine_eq
  have hm : z.length * n.toNat ≤ 100 * 100 := Nat.mul_le_mul hz (by omega)
  refine P.mul_str ?_ ?_ ?_ ?_
  · rw [Bool.or_eq_false_iff]
    exact ⟨decide_eq_false (by omega), decide_eq_false (by omega)⟩
  · intro g1 _ g3
    have e : ((z.length * n.toNat : Nat) : Int) = (z.length : Int) * n := by rw [Int.natCast_mul, Int.toNat_of_nonneg h0]
    have : (z.length : Int) ≤ (2 ^ 63 - 1) / n := Int.le_ediv_of_mul_le (by omega) (by rw [← e]; omega)
    omega
  · intro _ _
    exact decide_eq_false (by omega)
  · have fin : ∀ (y : Str) (tk : Nat), y = repZ n.toNat z → ∃ v H', Inv X pins σ H' { s with toks := tk } ∧ RelV v (Value.str y s.toks) ∧ Q v H' := fun y tk e => ⟨.str y, H, I.tok _, ⟨_, rfl⟩, by rw [e]; exact q⟩
    by_cases g : n < 1
    · rw [if_pos g]
      have : n = 0 := by omega
      subst this
      exact ⟨by show 0 ≤ sizeLine; omega, fin _ _ rfl⟩
    · rw [if_neg g]
      by_cases g2 : (n == 1 || z.length == 0) = true
      · rw [if_pos g2]
        have e : z = repZ n.toNat z := by
          rw [Bool.or_eq_true, beq_iff_eq, beq_iff_eq] at g2
          rcases g2 with rfl | g2
          · show z = ⟨((List.replicate 1 z.cps.toList).flatten).toArray⟩
            simp
          · have : z.cps = #[] := Array.eq_empty_of_size_eq_zero g2
            obtain ⟨c⟩ := z
            dsimp only at this
            subst this
            unfold repZ
            simp
        exact ⟨.str z, H, I, ⟨_, rfl⟩, by rw [← e] at q; exact q⟩
      · rw [if_neg g2]
        have e : (⟨List.foldl (fun x1 x2 => x1 ++ x2) #[] (List.replicate n.toNat z.cps)⟩ : Str) = repZ n.toNat z := by rw [foldl_repZ]; unfold repZ; simp
        refine ⟨?_, fin _ _ e⟩
        rw [e, rep_len, Nat.mul_comm]
        omega
end
open PySem PyProof.Rows
structure MTop (K : PySem.W.Frag) (C : Addr) (m qual : Str) (st : Stmt) (ps : List Str) : Prop where
  ex : ∃ (f : Addr) (fd : FuncData), Fun K m qual st f fd ∧ Meth K C m f ∧ Binds K fd ps []
theorem mtop_of {K : PySem.W.Frag} {h : Heap} {C f : Addr} {m qual : Str} {st : Stmt} {ps : List Str} {oc : Value} {od an : Option Addr} {osl : Array (Option Value)} {kV doc pm cdv ct : Value} (X : K.In h)
    (hb : ∀ (kV doc pm : Value) (an : Option Addr) (cdv ct : Value) (us : List Value), us.length = ps.length → bindArgs (PySem.W.fnOf m qual (defArgs st) (defBody st) (defScope st) .none kV doc pm an cdv ct) ⟨us, []⟩ = pure (ps.zip us))
    (a : PySem.W.findIn K (.ref C) m = some (some (.ref f))) (i : PySem.W.isFn K (.ref f) = true) (l : K.lookup f = some ⟨oc, od, .func (PySem.W.fnOf m qual (defArgs st) (defBody st) (defScope st) .none kV doc pm an cdv ct), osl⟩)
    (c : PySem.W.codeIn K cdv qual = true) (k : PySem.W.keepIn K (.ref f) = true) : MTop (KOf X) C m qual st ps :=
  ⟨f, _, fun_mk l c k, ⟨a, i, k⟩, .all fun us => hb kV doc pm an cdv ct us⟩
theorem methD_of {P : Program} {w : World} {K : PySem.W.Frag} {mg : Str → Option Value} {base : Heap} {C : Addr} {m qual : Str} {st : Stmt} {ps : List Str} {k : Nat} {sp : Sp} {CX : CXT} (c : Cls K C) (h : MTop K C m qual st ps) (ok : ∀ f fd, Fun K m qual st f fd → FnOk P w K mg base CX k f fd ps sp) : MethD P w K mg base CX k C m ps sp := by
  obtain ⟨f, fd, F, hm, hb⟩ := h.ex
  exact ⟨f, fd, c, hm, ok f fd F, hb⟩
end L2
namespace L2
open PySem PySem.Spec PyProof.Rows
theorem vals_strsG : ∀ {vs : List Value} {zs : List Str}, StrsAre vs zs → Vals (zs.map V.str) vs
  | _, _, .nil => .nil
  | _, _, .cons z t r => .cons ⟨t, rfl⟩ (vals_strsG r)
section
variable {X : Cx}
end
theorem rising_pw : ∀ {x : Str} {r : List Str}, risingS x r = true → (x :: r).Pairwise fun a b => a.cps.toList ≤ b.cps.toList
  | x, [], _ => List.pairwise_singleton _ _
  | x, y :: r, h => by
    rw [risingS.eq_def] at h
    simp only [Bool.and_eq_true, Bool.not_eq_true', ltCps_eq, decide_eq_false_iff_not] at h
    have ih := rising_pw h.2
    refine List.Pairwise.cons ?_ ih
    have hxy : x.cps.toList ≤ y.cps.toList := List.not_lt.mp h.1
    intro z hz
    rcases List.mem_cons.mp hz with rfl | hz
    · exact hxy
    · exact List.le_trans hxy ((List.pairwise_cons.mp ih).1 z hz)
theorem sorted_pw {zs : List Str} (h : sortedS zs = true) : zs.Pairwise fun a b => a.cps.toList ≤ b.cps.toList := by
  cases zs with
  | nil => exact List.Pairwise.nil
  | cons x r => exact rising_pw h
theorem sorted_one {z1 z2 : List Str} (h1 : sortedS z1 = true) (h2 : sortedS z2 = true) (p : z1.Perm z2) : z1 = z2 := by
  refine List.Perm.eq_of_pairwise (fun a b _ _ h h' => ?_) (sorted_pw h1) (sorted_pw h2) p
  have := List.le_antisymm h h'
  obtain ⟨a⟩ := a
  obtain ⟨b⟩ := b
  congr 1
  exact Array.toList_inj.mp this
section
variable {prog : Program} {w : World} {A : Around} {E : Value → Shared → Prop} {s : Shared}
end
section
variable {X : Cx}
end
def tHs (K : PySem.W.Frag) (Dn : Ends) (σ : St) (a C : Addr) (H : Hp) : List (Nat × Addr × TS) → Prop
  | [] => False
  | (i, D, th) :: r => (PySem.W.mroIn K C (.ref D) = some true ∧ th { nx := fun σ2 H2 => Dn.nx (σ2.set i none) H2, rt := Dn.rt, bk := fun σ2 H2 => Dn.bk (σ2.set i none) H2, ct := fun σ2 H2 => Dn.ct (σ2.set i none) H2 } (σ.set i (some (.ref a))) H) ∨
    (PySem.W.mroIn K C (.ref D) = some false ∧ tHs K Dn σ a C H r)
def tTryN (K : PySem.W.Frag) (ths : List (Nat × Addr × TS)) (tb : (St → Addr → Hp → Prop) → TS) : TS := fun Dn σ H =>
  tb (fun σ' a H' => ∃ C d, H' a = some (excR a C d) ∧ tHs K Dn σ' a C H' ths) Dn σ H
def PHs (X : Cx) (hs : List ExceptHandler) (ths : List (Nat × Addr × TS)) : Prop :=
  ∀ (pins : List (Addr × Obj)) (s : Shared) (σ : St) (H : Hp) (a C : Addr) (d : Option Addr) (Dn : Ends), Inv X pins σ H s → Raw X pins H s.heap a C d → tHs X.K Dn σ a C H ths → wpAny (model X.prog X.w) X.A (handleBy (.ref a) X.env hs) (SP X pins Dn) X.xe s
section
variable {X : Cx}
theorem phs_nil {hs : List ExceptHandler} : PHs X hs [] := fun _ _ _ _ _ _ _ _ _ _ h => h.elim
theorem phs_cons {hs : List ExceptHandler} {ths : List (Nat × Addr × TS)} {suite : List Stmt} {b₀ : Stmt} {n x : Str} {D : Addr} {hpos tpos : Pos} {i : Nat} {th : TS}
    (hN : X.N.Nodup) (hi : X.N[i]? = some n) (hl : X.env.scope.names.lookup n = some .local) (hg : Gl X x) (hm : X.mg x = some (.ref D))
    (hD : PySem.W.typeIn X.K (.ref D) = some (.type "type")) (hcl : (PySem.W.clsIn X.K D).isSome = true) (hB : PySem.W.mroIn X.K D (.type "BaseException") = some true)
    (hs1 : ∀ a, PSs (X.hdl a) (b₀ :: suite) th) (hr : PHs X hs ths) (hdb : (x == ("__debug__" : Str)) = false := by decide) :
    PHs X (.ExceptHandler (some (.Name x tpos)) (some n) (b₀ :: suite) hpos :: hs) ((i, D, th) :: ths) := by
  intro pins s σ H a C d Dn I3 raw h
  have raw' := raw
  obtain ⟨t, T, rest, sl, oT, ts, ha, q, _⟩ := raw'
  refine wpAny_handleBy_cons (codeAny_handlers_test (ld_glob (X := X.hdl a) I3.hdl hg hm ?_ hdb)) (by intro q; cases q)
  rcases h with ⟨hmr, hth⟩ | ⟨hmr, hrest⟩
  · refine x_match I3.kIn q rfl hD hcl hB hmr ?_
    refine codeAny_handlers_suite_as ?_
    refine flight_ends I3 raw fun s4 I4 => ?_
    refine store_ok (X := X.hdl a) (v := .ref a) I4.hdl hN hi (.inl hl) rfl (fun s5 I5 => ?_) (.inr hl)
    refine wpAny_mono (hs1 a pins s5 _ H _ I5 hth) (fun f s6 hf => ?_) fun _ _ z => z.elim
    cases f with
    | next =>
      obtain ⟨σ2, H2, I6, q6⟩ := hf
      exact name_goes (I6.back I3.ok) hN hi hl fun s7 I7 => ⟨_, H2, I7, q6⟩
    | brk =>
      obtain ⟨σ2, H2, I6, q6⟩ := hf
      exact name_goes (I6.back I3.ok) hN hi hl fun s7 I7 => ⟨_, H2, I7, q6⟩
    | cont =>
      obtain ⟨σ2, H2, I6, q6⟩ := hf
      exact name_goes (I6.back I3.ok) hN hi hl fun s7 I7 => ⟨_, H2, I7, q6⟩
    | ret u =>
      obtain ⟨v, σ2, H2, I6, rv, q6⟩ := hf
      exact name_goes (I6.back I3.ok) hN hi hl fun s7 I7 => ⟨v, _, H2, I7, rv, q6⟩
  · refine x_match I3.kIn q rfl hD hcl hB hmr ?_
    exact hr pins s σ H a C d Dn I3 raw hrest
theorem ps_tryN {body : List Stmt} {h₀ : ExceptHandler} {hs : List ExceptHandler} {ths : List (Nat × Addr × TS)} {pos : Pos} {tb : (St → Addr → Hp → Prop) → TS} (hsk : X.stack = X.env :: X.outer) (hfe : X.env.frame = some X.env.locals)
    (hb : ∀ RX pn E', Catches (X.tr pn E') RX → PSs (X.tr pn E') body (tb RX)) (hh : PHs X (h₀ :: hs) ths) : PS X (.Try body (h₀ :: hs) [] [] pos) (tTryN X.K ths tb) := by
  intro pins s σ H Dn I h
  refine wpAny_Try_except ?_
  refine wpAny_mono (hb _ (X.pn ++ pins) (fun e s₁ => wpAny (model X.prog X.w) X.A (noteFrame e X.env) (fun _ s₂ => wpAny (model X.prog X.w) X.A (setFlight e none) (fun _ s₃ => wpAny (model X.prog X.w) X.A (handleBy e X.env (h₀ :: hs)) (SP X pins Dn) X.xe s₃) X.xe s₂) X.xe s₁) ?_ [] s σ H Dn I.tr h) (fun f s1 hf => ?_) fun _ _ z => z
  · intro pins' σ1 H1 s1 e s' I1 hc
    have J1 : Inv X pins σ1 H1 s1 := I1.untr I.ok
    obtain ⟨a, _, rfl, _⟩ := id hc
    refine caught J1 hsk hfe I.ok.frames hc fun s3 H3 C d I3 raw hE => ?_
    obtain ⟨a', ea, C', d', hC', hth⟩ := hE
    cases ea
    have raw' := raw
    obtain ⟨t, T, rest, sl, oT, ts, ha, q, _⟩ := raw'
    have eC : C' = C := by
      have z1 := excR_is (P := X.prog) (w := X.w) (I3.hok a _ hC')
      obtain ⟨_, _, _, z⟩ := z1
      rw [q] at z
      cases z
      rfl
    subst eC
    exact hh pins s3 σ1 H3 a _ d Dn I3 raw hth
  · cases f with
    | next =>
      obtain ⟨σ2, H2, I6, q6⟩ := hf
      exact wpAny_execs_nil ⟨σ2, H2, I6.untr I.ok, q6⟩
    | brk =>
      obtain ⟨σ2, H2, I6, q6⟩ := hf
      exact ⟨σ2, H2, I6.untr I.ok, q6⟩
    | cont =>
      obtain ⟨σ2, H2, I6, q6⟩ := hf
      exact ⟨σ2, H2, I6.untr I.ok, q6⟩
    | ret u =>
      obtain ⟨v, σ2, H2, I6, rv, q6⟩ := hf
      exact ⟨v, σ2, H2, I6.untr I.ok, rv, q6⟩
end
section
variable {X : Cx} {pins : List (Addr × Obj)} {σ : St} {H : Hp} {s : Shared}
end
theorem Vals.places {xs : List V} {us : List Value} (h : Vals xs us) : ∀ js : List Nat, Vals (js.filterMap (xs[·]?)) (js.filterMap (us[·]?))
  | [] => .nil
  | j :: js => by
    have ih := Vals.places h js
    cases hn : xs[j]? with
    | some x =>
      obtain ⟨u, hv, r⟩ := h.get hn
      simp only [List.filterMap_cons, hn, hv]
      exact .cons r ih
    | none =>
      have hv : us[j]? = none := by
        rw [List.getElem?_eq_none_iff] at hn ⊢
        rw [← h.length]; exact hn
      simp only [List.filterMap_cons, hn, hv]
      exact ih
def pickV (xs : List V) (lo hi st : Option Int) : List V :=
  (sliceRange (sliceBounds lo hi st xs.length).1 (sliceBounds lo hi st xs.length).2.1 (sliceBounds lo hi st xs.length).2.2).filterMap (xs[·]?)
theorem vals_pick {xs : List V} {us : List Value} (h : Vals xs us) (lo hi st : Option Int) : Vals (pickV xs lo hi st) (slicePick us.toArray lo hi st).toList := by
  have e : (slicePick us.toArray lo hi st).toList = (sliceRange (sliceBounds lo hi st xs.length).1 (sliceBounds lo hi st xs.length).2.1 (sliceBounds lo hi st xs.length).2.2).filterMap (us[·]?) := by
    simp [slicePick, h.length]
  rw [e]
  exact h.places _
theorem pickV_length {xs : List V} {us : List Value} (h : Vals xs us) (lo hi st : Option Int) : (pickV xs lo hi st).length ≤ xs.length := by
  have e := (vals_pick h lo hi st).length
  have s := slicePick_size_le us.toArray lo hi st
  have l := h.length
  simp only [Array.length_toList, List.size_toArray] at e s
  omega
section
variable {X : Cx} {e : Expr} {lo hi : Option Expr} {st : Expr} {te : TE} {tl th ts : TO} {pos p2 : Pos}
def tSlS (K : PySem.W.Frag) (te : TE) (tl th ts : TO) : TE := fun σ H Q => te σ H fun x H1 => tl σ H1 fun l H2 => th σ H2 fun u H3 => ts σ H3 fun k H4 => ∃ a xs, x = .ref a ∧ SqL K H4 a xs ∧ k ≠ some 0 ∧ ∀ p, H4 p = none → Q (.ref p) (upd H4 p (.lst (pickV xs l u k)))
theorem pe_sliceS (he : PE X e te) (hl : PO X lo tl) (hu : PO X hi th) (hk : PO X (some st) ts) : PE X (.Subscript e (.Slice lo hi (some st) p2) pos) (tSlS X.K te tl th ts) := by
  intro pins s σ H Q I h
  refine Subscript_ (thn (he pins s σ H _ I h) fun v s1 ⟨x, H1, I1, r1, q1⟩ => ?_)
  refine wpAny_Slice (thn (hl pins s1 σ H1 _ I1 q1) fun vl s2 ⟨l, H2, I2, pl, q2⟩ => thn (hu pins s2 σ H2 _ I2 q2) fun vu s3 ⟨u, H3, I3, pu, q3⟩ => thn (hk pins s3 σ H3 _ I3 q3) fun vk s4 ⟨k, H4, I4, pk, a, xs, ex, hx, h0, q⟩ => ?_)
  subst ex
  cases r1
  have I5 : Inv X pins σ H4 { s4 with heap := s4.heap.push { cls := .type "slice", data := .fields #[vl, vu, vk] } } := I4.kept (t' := s4.toks) fun b ob q => Heap.get?_push_of_some _ q
  obtain ⟨its, r, ht, hz⟩ := I5.list hx
  have hlen := r.length
  show wpAny (model X.prog X.w) X.A (subscriptTail e (.Slice lo hi (some st) p2) (.ref a) (.ref s4.heap.objs.size)) (EP X pins σ Q) X.xe { s4 with heap := s4.heap.push { cls := .type "slice", data := .fields #[vl, vu, vk] } }
  refine tail_any (ops := _) ht.isList.typeIs slot_list_getitem.lookup ?_ (by with_unfolding_all rfl)
  refine wpAny_getItem_list_slice ht.isList (Heap.IsSliceOf.new ..) pl pu pk h0 ?_ (by rw [List.size_toArray]; omega)
  refine ⟨.ref _, _, I5.laid (t' := s4.toks) (o := .lst (pickV xs l u k)) (fun b ob q => Heap.get?_push_of_some _ q) (Nat.le_refl _) ?_, rfl, q _ (I5.hok.fresh (Nat.le_refl _))⟩
  refine ⟨Nat.le_trans (pickV_length r l u k) hz, (slicePick its.toArray l u k).toList, 0, vals_pick r l u k, ?_⟩
  rw [Array.toArray_toList]
  exact Heap.get?_push_size _ rfl
end
def flat2 : List (V × V) → List V
  | [] => []
  | p :: r => p.1 :: p.2 :: flat2 r
theorem flat2_len : ∀ ps : List (V × V), (flat2 ps).length = 2 * ps.length
  | [] => rfl
  | p :: r => by rw [flat2, List.length_cons, List.length_cons, flat2_len r, List.length_cons]; omega
theorem flat2_even : ∀ (ps : List (V × V)) (k : Nat), (flat2 ps)[2 * k]? = (ps[k]?).map (·.1)
  | [], k => by simp [flat2]
  | p :: r, 0 => rfl
  | p :: r, k + 1 => by
    rw [flat2, show 2 * (k + 1) = 2 * k + 1 + 1 by omega, List.getElem?_cons_succ, List.getElem?_cons_succ, flat2_even r k, List.getElem?_cons_succ]
theorem flat2_odd : ∀ (ps : List (V × V)) (k : Nat), (flat2 ps)[2 * k + 1]? = (ps[k]?).map (·.2)
  | [], k => by simp [flat2]
  | p :: r, 0 => rfl
  | p :: r, k + 1 => by
    rw [flat2, show 2 * (k + 1) + 1 = (2 * k + 1) + 1 + 1 by omega, List.getElem?_cons_succ, List.getElem?_cons_succ, flat2_odd r k, List.getElem?_cons_succ]
theorem pick_range {α β : Type} {xs : List β} {ps : List α} {f : Nat → Nat} {g : α → β} (h : ∀ k, xs[f k]? = (ps[k]?).map g) : ((List.range ps.length).map f).filterMap (xs[·]?) = ps.map g := by
  have : ∀ m, m ≤ ps.length → ((List.range m).map f).filterMap (xs[·]?) = (ps.take m).map g := by
    intro m
    induction m with
    | zero => intro _; rfl
    | succ m ih =>
      intro hm
      have hx : ps[m]? = some ps[m] := List.getElem?_eq_getElem (by omega)
      rw [List.range_succ, List.map_append, List.filterMap_append, ih (by omega), List.take_succ_eq_append_getElem (by omega), List.map_append]
      have := h m
      rw [hx] at this
      simp [this]
  rw [this _ (Nat.le_refl _), List.take_length]
theorem pick_even (ps : List (V × V)) : pickV (flat2 ps) none none (some 2) = ps.map (·.1) := by
  have e : sliceRange (sliceBounds none none (some 2) (flat2 ps).length).1 (sliceBounds none none (some 2) (flat2 ps).length).2.1 (sliceBounds none none (some 2) (flat2 ps).length).2.2 = (List.range ps.length).map fun k => 2 * k := by
    rw [flat2_len]
    show sliceRange 0 ((2 * ps.length : Nat) : Int) 2 = _
    unfold sliceRange
    have hc : (if (2 : Int) > 0 then (if (0 : Int) < ((2 * ps.length : Nat) : Int) then (((2 * ps.length : Nat) : Int) - 0 + 2 - 1) / 2 else 0) else (if (0 : Int) > ((2 * ps.length : Nat) : Int) then (0 - ((2 * ps.length : Nat) : Int) - 2 - 1) / (-2) else 0)).toNat = ps.length := by
      rw [if_pos (by decide)]
      split <;> omega
    dsimp only
    rw [hc]
    refine List.map_congr_left fun k _ => ?_
    omega
  unfold pickV
  rw [e]
  exact pick_range (flat2_even ps)
theorem pick_odd (ps : List (V × V)) : pickV (flat2 ps) (some 1) none (some 2) = ps.map (·.2) := by
  have e : sliceRange (sliceBounds (some 1) none (some 2) (flat2 ps).length).1 (sliceBounds (some 1) none (some 2) (flat2 ps).length).2.1 (sliceBounds (some 1) none (some 2) (flat2 ps).length).2.2 = (List.range ps.length).map fun k => 2 * k + 1 := by
    rw [flat2_len]
    show sliceRange (max 0 (min 1 ((2 * ps.length : Nat) : Int))) ((2 * ps.length : Nat) : Int) 2 = _
    cases ps with
    | nil => rfl
    | cons p r =>
      have hm : max 0 (min 1 ((2 * (p :: r).length : Nat) : Int)) = 1 := by rw [List.length_cons]; omega
      rw [hm]
      unfold sliceRange
      generalize (p :: r).length = n
      dsimp only
      have hc : (if (2 : Int) > 0 then (if (1 : Int) < ((2 * n : Nat) : Int) then (((2 * n : Nat) : Int) - 1 + 2 - 1) / 2 else 0) else (if (1 : Int) > ((2 * n : Nat) : Int) then (1 - ((2 * n : Nat) : Int) - 2 - 1) / (-2) else 0)).toNat = n := by
        rw [if_pos (by decide)]
        split <;> omega
      rw [hc]
      refine List.map_congr_left fun k _ => ?_
      omega
  unfold pickV
  rw [e]
  exact pick_range (flat2_odd ps)
section
variable {X : Cx}
theorem mt_dclear : MtM X "dict.clear" (fun x vs H Q => ∃ a kvs, x = .ref a ∧ vs = [] ∧ H a = some (.dK kvs) ∧ Q .non (upd H a (.dK []))) := by
  intro pins s σ H x vs v us Q I rx rv h
  obtain ⟨a, kvs, rfl, rfl, e, q⟩ := h
  cases rx
  have hus := rv.zero
  subst hus
  obtain ⟨z, hd, vs, rel, dd⟩ := dk_of I.hok e
  refine call_meetsIn PySem.F.slot_dict_clear dd.typeIs PySem.F.entry_dict_clear (PySem.F.args_dict_clear_1 _) (meets_dict_clear (mixKind X.prog X.w) a) ⟨vs, dd, by rw [← rel.length]; exact z, fun h' dd' hs => ⟨.non, _, ?_, rfl, q⟩⟩
  have he : ∃ q, h'.get? a = some q := let ⟨q, _, _, hq, _⟩ := dd'; ⟨q, hq⟩
  exact d_write I (by rw [e]; exact True.intro) hs he (dk_new (Nat.zero_le _) hd .nil dd')
end
def It2 (lo : Int) (n : Nat) : It := ⟨fun i _ => i < n, fun i H x H' => H' = H ∧ x = .int (lo + i * 2), fun i _ => n ≤ i⟩
theorem turn_range2 {P : Program} {w : World} {K : PySem.W.Frag} {tg : Expr} (it : Addr) (lo : Int) (n : Nat) : Turn P w K tg (It2 lo n) [it] it (fun i h => IsRangeIter h it (lo + (i : Nat) * 2) ((n : Int) - (i : Nat)) 2) where
  mem := by simp
  obj := fun i h st b hb => by
    have e : b = it := by simpa using hb
    subst e
    exact ⟨_, st, fun v z => by
      have z' : Data.fields _ = Data.cell v := z
      cases z'⟩
  keep := fun i h h' st k => k it (by simp) _ st
  item := by
    intro X hP hw hK hc i pins s σ H E I hf st hg
    subst hP hw hK
    obtain ⟨f0, f1, f2, f3, f4, f5⟩ := hf it (by simp)
    have W := Walks.range (prog := X.prog) (w := X.w) (I.ok.hd hc) it lo 2 n
    refine W.item i s _ _ hg st fun v h' tk hv st' kk => ?_
    obtain ⟨t, rfl⟩ := hv
    have I1 : Inv X pins σ H { s with heap := h', toks := tk } := I.turned (fun b o hb e => kk b o (by simpa using hb) e) f0 f1 f3 f4 f5
    exact ⟨_, rfl, go_of (s := { s with heap := h', toks := tk }) (n := "range_iterator") st' rfl rfl (by decide) ⟨.int (lo + i * 2), H, I1, ⟨t, rfl⟩, ⟨rfl, rfl⟩, st', fun b hb => (hf b hb).1⟩⟩
  done := by
    intro X hP hw hK hc i pins s σ H E I hf st hg
    subst hP hw hK
    obtain ⟨f0, f1, f2, f3, f4, f5⟩ := hf it (by simp)
    exact wpAny_pyNext_range_end (I.ok.hd hc) st (by have : n ≤ i := hg; omega) fun h' eb => ⟨rfl, I.turned (t' := s.toks) (fun b o hb e => eb b o hb e) f0 f1 f3 f4 f5⟩
  self := fun _ _ _ _ _ st h => wpAny_pyIter_rangeiter st h
section
variable {X : Cx} {tg : Expr}
theorem fits_of {i : Int} (h1 : -(2 ^ 62) ≤ i) (h2 : i < 2 ^ 62) : Builtin.Range.rangeFitsLong i = true := by
  unfold Builtin.Range.rangeFitsLong
  simp
  omega
theorem size_two {lo hi : Int} : Builtin.Range.rangeSize lo hi 2 = (((hi - lo + 1) / 2).toNat : Nat) := by
  unfold Builtin.Range.rangeSize
  rw [if_pos (by decide)]
  split <;> omega
theorem small_two {lo hi : Int} (h1 : 0 ≤ lo) (h2 : lo < 2 ^ 60) (h3 : 0 ≤ hi) (h4 : hi < 2 ^ 60) : Builtin.Range.small lo hi 2 = true := by
  unfold Builtin.Range.small
  rw [size_two, fits_of (i := lo) (by omega) (by omega), fits_of (i := hi) (by omega) (by omega), fits_of (i := 2) (by decide) (by decide), fits_of (i := (((hi - lo + 1) / 2).toNat : Nat)) (by omega) (by omega), if_pos (by decide), fits_of (i := hi + (2 - 1)) (by omega) (by omega)]
  simp
def iRng3 (ta : TA) : TI := fun σ H R => ta σ H fun vs H1 => ∃ i j : Int, vs = [.int i, .int j, .int 2] ∧ (0 ≤ i ∧ i < 2 ^ 60 ∧ 0 ≤ j ∧ j < 2 ^ 60) ∧ R (It2 i ((j - i + 1) / 2).toNat) H1
theorem pi_range3 {a b c : Expr} {ta : TA} {p pos : Pos} (hg : Gl X "range") (hm : X.mg "range" = none) (ha : PA X [a, b, c] ta) (hs : starEach [a, b, c] X.env = [(false, eval a X.env), (false, eval b X.env), (false, eval c X.env)] := by rfl) (hs2 : starEach [b, c] X.env = [(false, eval b X.env), (false, eval c X.env)] := by rfl) :
    PI X tg (.Call (.Name "range" p) [a, b, c] [] pos) (iRng3 ta) := by
  intro pins s σ H R I h
  refine Call_ (ld_blt I hg hm boot_range (PyProof.Rows.callWith_type1 (thn (ha pos pins s σ H _ I h) fun us s1 ⟨vs, H1, I1, r1, q1⟩ => ?_) (by rw [hs, hs2]) (by rw [hs2]; rfl)))
  obtain ⟨i, j, e, ⟨q1, q2, q3, q4⟩, q⟩ := q1
  subst e
  obtain ⟨u1, us, rfl, r, rr⟩ : ∃ u1 us', us = u1 :: us' ∧ RelV (.int i) u1 ∧ Vals [.int j, .int 2] us' := by
    cases r1 with
    | cons r rr => exact ⟨_, _, rfl, r, rr⟩
  obtain ⟨u2, u3, rfl, r', r''⟩ := vals2 rr
  obtain ⟨t, rfl⟩ := r
  obtain ⟨t', rfl⟩ := r'
  obtain ⟨t'', rfl⟩ := r''
  refine call_range_3 (by decide) ?_ (.inl (PyProof.noPylong_small (by omega)))
  have I2 : Inv X pins σ H1 { s1 with heap := s1.heap.push { cls := .type "range", data := .fields #[.int i t, .int j t', .int 2 t''] }, toks := s1.toks } := I1.kept fun b o e => Heap.get?_push_of_some _ e
  refine wpAny_pyIter_range (IsRange.new ..) (small_two q1 q2 q3 q4) ?_
  refine ⟨(s1.heap.push { cls := .type "range", data := .fields #[.int i t, .int j t', .int 2 t''] }).objs.size, [(s1.heap.push { cls := .type "range", data := .fields #[.int i t, .int j t', .int 2 t''] }).objs.size], _, _, H1, rfl,
    I2.kept (t' := s1.toks) fun b o e => Heap.get?_push_of_some _ e, turn_range2 _ i ((j - i + 1) / 2).toNat, ?_, fun b hb => ?_, q⟩
  · have e1 : i + ((0 : Nat) : Int) * 2 = i := by simp
    have e2 : ((((j - i + 1) / 2).toNat : Nat) : Int) - ((0 : Nat) : Int) = Builtin.Range.rangeSize i j 2 := by rw [size_two]; omega
    show IsRangeIter _ _ (i + ((0 : Nat) : Int) * 2) (((((j - i + 1) / 2).toNat : Nat) : Int) - ((0 : Nat) : Int)) 2
    rw [e1, e2]
    exact Heap.get?_push_size _ rfl
  · have e : b = (s1.heap.push { cls := .type "range", data := .fields #[.int i t, .int j t', .int 2 t''] }).objs.size := by simpa using hb
    subst e
    exact I2.fpOk (Nat.le_refl _) (I2.hok.fresh (Nat.le_refl _))
end
theorem for_range2 {lo : Int} {n : Nat} {g : TG} {tb : TS} {D : Ends} {σ : St} {H : Hp} (Pv : Nat → St → Hp → Prop) (h0 : Pv 0 σ H)
    (hs : ∀ i σ H, i < n → Pv i σ H → g (.int (lo + i * 2)) σ H fun σ2 H2 => tb { D with nx := Pv (i + 1), ct := Pv (i + 1), bk := D.nx } σ2 H2) (hd : ∀ σ H, Pv n σ H → D.nx σ H) :
    ∃ W : Nat → Nat → St → Hp → Prop, (∃ m, W 0 m σ H) ∧ ∀ i m σ H, W i m σ H →
      ((It2 lo n).stop i H ∧ D.nx σ H) ∨ ((It2 lo n).go i H ∧ ∃ N : St → Hp → Prop, (∀ σ' H', N σ' H' → ∃ m', m' < m ∧ W (i + 1) m' σ' H') ∧ ∀ x H', (It2 lo n).yld i H x H' → g x σ H' fun σ2 H2 => tb { D with nx := N, ct := N, bk := D.nx } σ2 H2) := by
  refine ⟨fun i m σ H => m = n - i ∧ i ≤ n ∧ Pv i σ H, ⟨n, by simp, Nat.zero_le _, h0⟩, ?_⟩
  rintro i m σ H ⟨rfl, hi, p⟩
  by_cases hlt : i < n
  · refine .inr ⟨hlt, Pv (i + 1), fun σ' H' p' => ⟨n - (i + 1), by omega, rfl, hlt, p'⟩, fun x H' y => ?_⟩
    obtain ⟨e, y⟩ := y
    subst e y
    exact hs i σ _ hlt p
  · have e : i = n := by omega
    subst e
    exact .inl ⟨Nat.le_refl _, hd σ H p⟩
open PySem PySem.Spec PyProof.Rows PySem.SeqAt
def EqW (P : Program) (w : World) (A : Around) (s : Shared) (u v : Value) : Prop := ∀ (E : Value → Shared → Prop) (Q : Bool → Shared → Prop), Q true s → wpAny (model P w) A (eqBool u v) Q E s
section
variable {P : Program} {w : World} {A : Around} {s : Shared} {E : Value → Shared → Prop}
theorem tup_eqW {l b : Addr} {xs ys : Array Value} {Q : Value → Shared → Prop} (hl : s.heap.IsTuple l xs) (hb : s.heap.IsTuple b ys) (hu : A.units < cLine) (hz : xs.size = ys.size)
    (he : ∀ (j : Nat) (h1 : j < xs.size) (h2 : j < ys.size), EqW P w A.in1 s xs[j] ys[j]) (q : Q (.bool true) s) : wpAny (model P w) A (richCompare .Eq (.ref l) (.ref b)) Q E s := by
  obtain ⟨⟨c1, dd, da, sl⟩, ho, hc, n, hd⟩ := id hl
  obtain ⟨⟨c2, dd2, da2, sl2⟩, ho2, hc2, n2, hd2⟩ := id hb
  simp only at hc hd hc2 hd2
  subst hc hd hc2 hd2
  refine wpAny_richCompare_same_room (op := .Eq) (T := "tuple") ⟨_, ho, rfl⟩ ⟨_, ho2, rfl⟩ F.slot_tuple_eq (wpAny_call_entry F.slot_tuple_eq ⟨_, ho, rfl⟩ F.entry_tuple_eq ?_ (F.args_tuple_eq_2 _ _)) hu
  obtain ⟨hp, g, d, tk, os⟩ := s
  have f2 := AutoSeq1.sub_tuple_tuple
  have hZ : (xs.toList.zip ys.toList).length = xs.size := by simp [hz]
  wp_walk using AutoSeq1.wpAny_loadPart' ho, AutoSeq1.wpAny_loadPart' ho2, wpAny_forIn_list _ (fun rest b s' => b.1 = none ∧ s' = ⟨hp, g, d, tk, os⟩ ∧ ∃ i, rest = (xs.toList.zip ys.toList).drop i) _
  case turn =>
    rintro ⟨y, x⟩ rest b s' ⟨hb', rfl, i, hr⟩
    have hlt : i < (xs.toList.zip ys.toList).length := by
      rcases Nat.lt_or_ge i (xs.toList.zip ys.toList).length with h' | h'
      · exact h'
      · rw [List.drop_of_length_le h'] at hr; cases hr
    have h1 : i < xs.size := hZ ▸ hlt
    have h2 : i < ys.size := hz ▸ h1
    rw [List.drop_eq_getElem_cons hlt] at hr
    injection hr with hyx hrest
    have hy : y = xs[i] := by have := congrArg Prod.fst hyx; simpa using this
    have hx : x = ys[i] := by have := congrArg Prod.snd hyx; simpa using this
    subst hy hx
    refine wpAny_bind (he i h1 h2 _ _ ?_)
    wp_walk
    exact ⟨rfl, rfl, i + 1, hrest⟩
  case fin =>
    rintro ⟨b1, b2⟩ s' ⟨hb', rfl, i, hr⟩
    simp only at hb'
    subst hb'
    wp_walk
    exact ⟨_, rfl, (fun x => nomatch x), by simpa [Builtin.Tuple.tupleCompareSizes, hz] using q⟩
  case h => exact ⟨rfl, rfl, 0, rfl⟩
theorem tup_neW {l b : Addr} {xs ys : Array Value} {Q : Value → Shared → Prop} (hl : s.heap.IsTuple l xs) (hb : s.heap.IsTuple b ys) (hu : A.units < cLine) (hz : xs.size = ys.size)
    (he : ∀ (j : Nat) (h1 : j < xs.size) (h2 : j < ys.size), EqW P w A.in1 s xs[j] ys[j]) (q : Q (.bool false) s) : wpAny (model P w) A (richCompare .NotEq (.ref l) (.ref b)) Q E s := by
  obtain ⟨⟨c1, dd, da, sl⟩, ho, hc, n, hd⟩ := id hl
  obtain ⟨⟨c2, dd2, da2, sl2⟩, ho2, hc2, n2, hd2⟩ := id hb
  simp only at hc hd hc2 hd2
  subst hc hd hc2 hd2
  refine wpAny_richCompare_same_room (op := .NotEq) (T := "tuple") ⟨_, ho, rfl⟩ ⟨_, ho2, rfl⟩ F.slot_tuple_ne (wpAny_call_entry F.slot_tuple_ne ⟨_, ho, rfl⟩ F.entry_tuple_ne ?_ (F.args_tuple_ne_2 _ _)) hu
  obtain ⟨hp, g, d, tk, os⟩ := s
  have f2 := AutoSeq1.sub_tuple_tuple
  have hZ : (xs.toList.zip ys.toList).length = xs.size := by simp [hz]
  wp_walk using AutoSeq1.wpAny_loadPart' ho, AutoSeq1.wpAny_loadPart' ho2, wpAny_forIn_list _ (fun rest b s' => b.1 = none ∧ s' = ⟨hp, g, d, tk, os⟩ ∧ ∃ i, rest = (xs.toList.zip ys.toList).drop i) _
  case turn =>
    rintro ⟨y, x⟩ rest b s' ⟨hb', rfl, i, hr⟩
    have hlt : i < (xs.toList.zip ys.toList).length := by
      rcases Nat.lt_or_ge i (xs.toList.zip ys.toList).length with h' | h'
      · exact h'
      · rw [List.drop_of_length_le h'] at hr; cases hr
    have h1 : i < xs.size := hZ ▸ hlt
    have h2 : i < ys.size := hz ▸ h1
    rw [List.drop_eq_getElem_cons hlt] at hr
    injection hr with hyx hrest
    have hy : y = xs[i] := by have := congrArg Prod.fst hyx; simpa using this
    have hx : x = ys[i] := by have := congrArg Prod.snd hyx; simpa using this
    subst hy hx
    refine wpAny_bind (he i h1 h2 _ _ ?_)
    wp_walk
    exact ⟨rfl, rfl, i + 1, hrest⟩
  case fin =>
    rintro ⟨b1, b2⟩ s' ⟨hb', rfl, i, hr⟩
    simp only at hb'
    subst hb'
    wp_walk
    exact ⟨_, rfl, (fun x => nomatch x), by simpa [Builtin.Tuple.tupleCompareSizes, hz] using q⟩
  case h => exact ⟨rfl, rfl, 0, rfl⟩
end
def SameV (K : PySem.W.Frag) (H : Hp) (x y : V) : Prop := ∃ d, RdD K H x d ∧ RdD K H y d ∧ shaped d = true
def DLike (K : PySem.W.Frag) (H : Hp) (kvs kvs2 : List (Key × V)) : Prop := kvs.length = kvs2.length ∧ ∀ k v, (k, v) ∈ kvs → ∃ v2, valV kvs2 k = some v2 ∧ SameV K H v v2
inductive LikeD (K : PySem.W.Frag) (H : Hp) : V → V → Prop
  | dat {x y : V} : SameV K H x y → LikeD K H x y
  | dct {a b : Addr} {kvs kvs2 : List (Key × V)} : H a = some (.dK kvs) → H b = some (.dK kvs2) → DLike K H kvs kvs2 → LikeD K H (.ref a) (.ref b)
section
variable {X : Cx} {pins : List (Addr × Obj)} {σ : St} {H : Hp} {s : Shared}
theorem SameV.eqAt {A : Around} (I : Inv X pins σ H s) (hu : A.in1.units + 64 < cLine) {x y : V} {u v : Value} (l : SameV X.K H x y) (rx : RelV x u) (ry : RelV y v) : EqAt A.in1 s u v true := by
  obtain ⟨d, h1, h2, sd⟩ := l
  obtain ⟨as, ra⟩ := h1.reads I rx
  obtain ⟨bs, rb⟩ := h2.reads I ry
  have := PySem.W.keq_at (A := A) ra rb sd sd hu
  rwa [PySem.SeqAt.eqv_refl d (canLay_of_shaped sd)] at this
theorem hits_of {A : Around} (I : Inv X pins σ H s) (hu : A.in1.units + 64 < cLine) {kvs2 : List (Key × V)} {vs2 : List (Key × Value)} (r2 : KV kvs2 vs2) : ∀ {kvs : List (Key × V)} {vs : List (Key × Value)}, KV kvs vs →
    (∀ k v, (k, v) ∈ kvs → ∃ v2, valV kvs2 k = some v2 ∧ SameV X.K H v v2) → PySem.W.KeqHits A.in1 s vs2 vs true := by
  intro kvs vs r
  induction r with
  | nil => intro _; exact .nil
  | @cons p q ps qs hq t ih =>
    intro h
    obtain ⟨k, v⟩ := p
    obtain ⟨k', u⟩ := q
    obtain ⟨e, ru⟩ := hq
    dsimp only at e ru
    subst e
    obtain ⟨v2, hv, sv⟩ := h k v (.head _)
    obtain ⟨w', hw, rw'⟩ := RelO.some_of (v := v2) (o := valueAt vs2 k) (by rw [← hv]; exact r2.val k)
    exact PySem.W.KeqHits.hit (e := true) (b := true) hw (sv.eqAt I hu ru rw') (ih fun k v hm => h k v (.tail _ hm))
theorem dict_room {A : Around} (hu : A.units + 66 < cLine) : A.units < cLine ∧ A.in1.units + 64 < cLine := ⟨by omega, Nat.lt_of_le_of_lt (Nat.add_le_add_right (show A.in1.units ≤ A.units + 1 by first | exact Nat.le_refl _ | exact Nat.le_succ _ | simp [Around.in1]) 64) (by omega)⟩
theorem LikeD.eqW {A : Around} (I : Inv X pins σ H s) (hu : A.in1.units + 66 < cLine) {x y : V} {u v : Value} (l : LikeD X.K H x y) (rx : RelV x u) (ry : RelV y v) : EqW X.prog X.w A.in1 s u v := by
  cases l with
  | dat h => exact fun E Q q => h.eqAt I (by omega) rx ry X.prog X.w E Q q
  | @dct a b kvs kvs2 ha hb dl =>
    cases rx
    cases ry
    by_cases hab : a = b
    · subst hab; exact fun E Q q => EqAt.same _ X.prog X.w E Q q
    · intro E Q q
      obtain ⟨z1, lo1, vs1, r1, d1⟩ := dk_of I.hok ha
      obtain ⟨z2, lo2, vs2, r2, d2⟩ := dk_of I.hok hb
      obtain ⟨hu1, hu2⟩ := dict_room hu
      unfold eqBool
      refine wpAny_holding ?_
      refine wpAny_ite_split (fun e => absurd (by have := eq_of_beq e; injection this) hab) (fun _ => ?_)
      refine wpAny_bind (PySem.W.keq_eq (r := true) lo1 lo2 d1 d2 hu1 (fun _ => hits_of I hu2 r2 r1 dl.2) ?_)
      rw [← r1.length, ← r2.length, dl.1, beq_self_eq_true]
      exact wpAny_truthy_bool q
def rTupD (K : PySem.W.Frag) (b : Bool) : R2 := fun x y H Q => ∃ p q xs ys, x = .ref p ∧ y = .ref q ∧ SqT K H p xs ∧ SqT K H q ys ∧ Paired (LikeD K H) xs ys ∧ Q (.bl b) H
theorem tupD_at {p q : Addr} {xs ys : List V} (I : Inv X pins σ H s) (hu : X.A.units + 68 < cLine) (hp : SqT X.K H p xs) (hq : SqT X.K H q ys) (pr : Paired (LikeD X.K H) xs ys) :
    ∃ us vs : Array Value, s.heap.IsTuple p us ∧ s.heap.IsTuple q vs ∧ us.size = vs.size ∧ ∀ (j : Nat) (h1 : j < us.size) (h2 : j < vs.size), EqW X.prog X.w X.A.in1 s us[j] vs[j] := by
  obtain ⟨its, rv, pl, _⟩ := I.tuple hp
  obtain ⟨its', rv', pl', _⟩ := I.tuple hq
  have l1 := rv.length
  have l2 := rv'.length
  have l3 := Paired.length pr
  refine ⟨its.toArray, its'.toArray, pl, pl', by simp; omega, fun j h1 h2 => ?_⟩
  have hj : j < xs.length := by simp at h1; omega
  have e1 : xs[j]? = some xs[j] := by simp [hj]
  obtain ⟨y, e2, lk⟩ := paired_get pr e1
  obtain ⟨u1, q1, r1⟩ := rv.get e1
  obtain ⟨u2, q2, r2⟩ := rv'.get e2
  have z1 : its.toArray[j] = u1 := by simpa [List.getElem?_eq_some_iff] using (List.getElem?_eq_some_iff.mp q1).2
  have z2 : its'.toArray[j] = u2 := by simpa [List.getElem?_eq_some_iff] using (List.getElem?_eq_some_iff.mp q2).2
  rw [z1, z2]
  exact lk.eqW I (Nat.lt_of_le_of_lt (Nat.add_le_add_right (show X.A.in1.units ≤ X.A.units + 1 by first | exact Nat.le_refl _ | exact Nat.le_succ _ | simp [Around.in1]) 66) (by omega)) r1 r2
theorem op_eqTupD (hu : X.A.units + 68 < cLine) : OpR X (compareOp .Eq) (rTupD X.K true) := by
  intro pins s σ H x y v u Q I rx ry h
  obtain ⟨p, q, xs, ys, rfl, rfl, hp, hq, pr, h⟩ := h
  cases rx
  cases ry
  obtain ⟨us, vs, h1, h2, hz, he⟩ := tupD_at I hu hp hq pr
  exact tup_eqW h1 h2 (by omega) hz he (fin_bl I h rfl)
theorem op_neTupD (hu : X.A.units + 68 < cLine) : OpR X (compareOp .NotEq) (rTupD X.K false) := by
  intro pins s σ H x y v u Q I rx ry h
  obtain ⟨p, q, xs, ys, rfl, rfl, hp, hq, pr, h⟩ := h
  cases rx
  cases ry
  obtain ⟨us, vs, h1, h2, hz, he⟩ := tupD_at I hu hp hq pr
  exact tup_neW h1 h2 (by omega) hz he (fin_bl I h rfl)
theorem op_neDct (hu : X.A.units + 66 < cLine) : OpR X (compareOp .NotEq) (fun x y H Q => ∃ a b kvs kvs2, x = .ref a ∧ y = .ref b ∧ H a = some (.dK kvs) ∧ H b = some (.dK kvs2) ∧ DLike X.K H kvs kvs2 ∧ Q (.bl false) H) := by
  intro pins s σ H x y v u Q I rx ry h
  obtain ⟨a, b, kvs, kvs2, rfl, rfl, ha, hb, dl, h⟩ := h
  cases rx
  cases ry
  obtain ⟨z1, lo1, vs1, r1, d1⟩ := dk_of I.hok ha
  obtain ⟨z2, lo2, vs2, r2, d2⟩ := dk_of I.hok hb
  obtain ⟨hu1, hu2⟩ := dict_room hu
  refine PySem.W.keq_ne (r := true) lo1 lo2 d1 d2 hu1 (fun _ => hits_of I hu2 r2 r1 dl.2) ?_
  rw [← r1.length, ← r2.length, dl.1, beq_self_eq_true]
  exact fin_bl I h rfl
theorem strsAre_at : ∀ {us : List Value} {zs : List Str}, us.length = zs.length → (∀ (i : Nat) (v : Value), us[i]? = some v → ∃ (y : Str) (t : Tok), zs[i]? = some y ∧ v = .str y t) → StrsAre us zs
  | [], [], _, _ => .nil
  | [], _ :: _, h, _ => by cases h
  | _ :: _, [], h, _ => by cases h
  | u :: us, z :: zs, h, f => by
    obtain ⟨y, t, e, rfl⟩ := f 0 u rfl
    cases e
    exact .cons _ _ (strsAre_at (Nat.succ.inj h) fun i v e => f (i + 1) v e)
theorem call_sortedD (hh : X.A.handled = none) : CallR X (.builtin "sorted") (fun xs H Q => ∃ (a : Addr) (kvs : List (Key × V)) (zs : List Str), xs = [.ref a] ∧ H a = some (.dK kvs) ∧ kvs.map (·.1) = zs.map Sum.inr ∧ zs.length < 64 ∧
    ∀ (zs' : List Str) (l : Addr), zs'.Perm zs → sortedS zs' = true → H l = none → Q (.ref l) (upd H l (.lst (zs'.map V.str)))) := by
  intro pins s σ H xs us Q I r h
  obtain ⟨a, kvs, zs, rfl, ea, hk, h64, q⟩ := h
  obtain ⟨u, rfl, ru⟩ := vals1 r
  cases ru
  obtain ⟨z, lo, vs, rel, dd⟩ := dk_of I.hok ea
  obtain ⟨ep, hat⟩ := dd.dictAt
  have lv := rel.length
  have lz : vs.length = zs.length := by rw [← lv, ← List.length_map (f := (·.1)) (as := kvs), hk, List.length_map]
  refine Calls.call_function_entry kind_sorted plain_sorted entry_sorted (args_sorted1 _) ?_
  unfold Builtin.«sorted»
  refine wpAny_bind (m := checkCount "sorted" 1 1 _) (wpAny_pure ?_)
  refine wpAny_bind (PySem.W.kdu_collect (A := X.A.in1) (PySem.W.kdl_dict (knd := mixKind X.prog X.w) (kvs := vs) (ep := ep) lo) hh hat (by rw [← lv]; exact z) fun h' tk acc hkp hacc => ?_)
  have sa : StrsAre acc.toList zs := by
    refine strsAre_at (by rw [Array.length_toList, hacc.1, lz]) fun i v hv => ?_
    obtain ⟨k, x, hx, ki⟩ := hacc.2 i v (by rw [← Array.getElem?_toList]; exact hv)
    have e1 : (vs.map (·.1))[i]? = some k := by rw [List.getElem?_map, hx]; rfl
    rw [← rel.keys, hk, List.getElem?_map] at e1
    obtain ⟨y, hy, e2⟩ := Option.map_eq_some_iff.mp e1
    subst e2
    have ki : keyIs (Sum.inr y) v = true := ki
    rcases keyIs_shape ki with ⟨i, t, e, rfl⟩ | ⟨x, t, e, rfl⟩
    · cases e
    · cases e
      exact ⟨y, t, hy, rfl⟩
  have hl : acc.toList.length = zs.length := by rw [Array.length_toList, hacc.1, lz]
  have hs : sizeLine = 16777216 := sizeLine_eq
  refine wpAny_bind (wpAny_newList ?_ (by rw [hl, hs]; omega))
  have hoL : (h'.push (seqObj "list" acc.toList.toArray 0)).get? h'.objs.size = some (seqObj "list" acc.toList.toArray 0) := Heap.get?_push_size _ rfl
  refine wpAny_bind (wpAny_holding (wpAny_call_entry slot_list_sort ⟨_, hoL, rfl⟩ entry_list_sort (list_sort_treeK strKind_oneLt hoL sa.keysOf (fun v₁ v₂ rest e => keyKind_strs (by rw [← e]; exact sa)) (by omega) fun st' a1 a2 => ⟨_, rfl, ?_⟩) (args_list_sort _)))
  obtain ⟨ss', b1, b2, b3⟩ := sorted_out_str sa a1 a2
  obtain ⟨e, he⟩ := sortedHeap_at (out := (arrOf st').map (·.2)) hoL
  have I2 : Inv X pins σ H { s with heap := h', toks := tk } := I.kept (t' := tk) hkp
  have ol : ss'.length = ((arrOf st').map (·.2)).toList.length := by have := (vals_strsG b1).length; rwa [List.length_map] at this
  have pl' := b2.length_eq
  refine wpAny_pure ⟨_, rfl, .ref h'.objs.size, upd H h'.objs.size (.lst (ss'.map V.str)), I2.laid (t' := tk) (fun b u e' => ?_) (Nat.le_refl _) ?_, rfl, q ss' _ b2 b3 (I2.hok.fresh (Nat.le_refl _))⟩
  · have e' : h'.get? b = some u := e'
    rw [sortedHeap_old (Nat.ne_of_lt (Heap.lt_size e')) (by rw [size_push']; exact Nat.lt_succ_of_lt (Heap.lt_size e'))]
    exact Heap.get?_push_of_some _ e'
  · exact ⟨by rw [List.length_map]; omega, ((arrOf st').map (·.2)).toList, e, vals_strsG b1, by rw [Array.toArray_toList]; exact he⟩
end
section
variable {P : Program} {w : World} {K : PySem.W.Frag} {s : Shared} {x C dx : Addr} {A : Around} {E : Value → Shared → Prop}
end
section
variable {X : Cx} {C : Addr}
end
section
variable {P : Program} {w : World} {A : Around} {E : Value → Shared → Prop} {s : Shared} {z TI TO i1 i2 i3 l1 l2 l3 : Addr} {us vs ws : Array Value} {S1 S2 S3 : Nat → Heap → Prop}
end
section
variable {X : Cx}
end
section
variable {X : Cx} {pins : List (Addr × Obj)} {σ : St} {H : Hp} {s2 : Shared} {scope sc : Scope} {N0 ys : List Str} {x0 : Str} {js : List Nat} {C D : Addr} {fp : List Addr} {h1 : Heap} {tk : Nat}
end
section
variable {X : Cx} {scope sc : Scope} {N0 ys : List Str} {x0 : Str} {js : List Nat} {elt tg iter : Expr} {ifs : List Expr} {pos : Pos} {wi : TI} {g : TG} {tc : TT} {te : TE}
end
theorem bootRev : bootBuiltins "reversed" = some (.type "reversed") := by decide +kernel
theorem slot_lri_ga : Slot "list_reverseiterator" "__getattribute__" "object.__getattribute__" :=
  .of (owner := "object") (n := "__getattribute__") (by rw [typeLookup_type, builtinLookup_eq_fast]; kernel_rfl) (by decide +kernel) (by decide +kernel) (by decide +kernel)
    (by first | exact .inl (by decide +kernel) | exact .inr (by decide +kernel)) (by rw [isSubtype_type]; kernel_rfl)
theorem lri_hook : typeLookup (.type "list_reverseiterator") "__getattr__" = pure none := by rw [typeLookup_type, builtinLookup_eq_fast]; kernel_rfl
theorem lri_keys : typeLookup (.type "list_reverseiterator") "keys" = pure none := by rw [typeLookup_type, builtinLookup_eq_fast]; kernel_rfl
theorem ga_lri (a l : Addr) (i : Int) (u : Tok) : Meets (Builtin.«object.__getattribute__» ⟨[.ref a, .str "keys" u], []⟩) (fun A R s => s.heap.get? a = some { cls := .type "list_reverseiterator", data := .fields #[.ref l, rawInt i] } ∧ raisesAttr (.ref a) "keys" A R s) :=
  Meets.of_wp fun prog w A R s hs => by
    obtain ⟨hp, g, d, tk, os⟩ := s
    obtain ⟨hx, hs⟩ := hs
    have hT : (⟨hp, g, d, tk, os⟩ : Shared).TypeIs (.ref a) "list_reverseiterator" := ⟨_, hx, rfl⟩
    have hm := lri_keys
    unfold Builtin.«object.__getattribute__»
    repeat (any_goals (first | assumption | wp_step))
    exact wpAny_raiseAttrError hs.1 hs.2 (attrMsg_fits (by decide +kernel) (by rw [sizeLine_eq]; decide +kernel))
section
variable {prog : Program} {w : World} {A : Around} {E : Value → Shared → Prop} {s : Shared}
theorem no_keys {it l : Addr} {i : Int} {Q : Option Value → Shared → Prop} (hx : s.heap.get? it = some { cls := .type "list_reverseiterator", data := .fields #[.ref l, rawInt i] }) (hA : A.handled = none) (h : ∀ h' tk, (∀ b o, s.heap.get? b = some o → h'.get? b = some o) → Q none { s with heap := h', toks := tk }) :
    wpAny (model prog w) A (getAttr? (.ref it) "keys") Q E s := by
  obtain ⟨hp, g, d, tk, os⟩ := s
  have hT : ∀ tk', (⟨hp, g, d, tk', os⟩ : Shared).TypeIs (.ref it) "list_reverseiterator" := fun _ => ⟨_, hx, rfl⟩
  have f1 := sub_AttributeError
  have f3 := slot_lri_ga.lookup
  have f4 := slot_lri_ga.bind (.ref it)
  have f5 := lri_hook
  unfold getAttr? getAttrBy? getAttrBy
  repeat (any_goals (first | assumption | exact hT _ | ((with_reducible show wpAny _ _ (call (Value.builtin "object.__getattribute__") _ _) _ _ _); refine call_meets slot_lri_ga (hT _) F.entry_object_getattribute (F.args_object_getattribute_2 _ _) (ga_lri it l i _) ⟨hx, hA, fun h' tk' e hx' => ?_⟩) | wp_step))
  obtain ⟨t', u', he⟩ := hx'.there
  show wpAny _ _ (getattributeRaised _ _ _ _ _ _ _) _ _ _
  unfold getattributeRaised
  repeat (any_goals (first | assumption | wp_step))
  exact h _ _ fun b o e => hx'.keeps b o e
theorem entry_upl : entryFor table "dict.update.loop" = some Builtin.«dict.update.loop» := entryFor_of_tree (by kernel_rfl)
theorem plain_upl : plainId "dict.update.loop" = true := by decide +kernel
end
section
variable {prog : Program} {w : World} {A : Around} {s : Shared} {R : Result → Shared → Prop}
theorem upl_loop {knd : PySem.KeyKind prog w Key} {it l d : Addr} {as : List Addr} {kvs : List (Key × Value)} {h₁ : Heap} (hh : A.handled = none) (hil : l ≠ it) (hid : d ≠ it) (hld : l ≠ d) (hz : kvs.length ≤ sizeLine) (hlen : as.length = kvs.length) (hl : h₁.IsList l (as.map Value.ref).toArray)
    (hp : ∀ (j : Nat) (a : Addr), as[j]? = some a → a ≠ it ∧ a ≠ d ∧ ∃ key k x, kvs[j]? = some (k, x) ∧ knd.is k key = true ∧ h₁.get? a = some { cls := .type "tuple", data := .seq #[key, x] })
    (hR : ∀ h' tk, (∀ b o, b ≠ d → b ≠ it → h₁.get? b = some o → h'.get? b = some o) → h'.DictOf knd d (merged [] kvs.reverse) → R (.ok (.ret .none)) { s with heap := h', toks := tk }) :
    ∀ (n i : Nat) (h : Heap) (tk : Nat), n ≤ kvs.length → h.IsRevIter it l ((n : Int) - 1) → (∀ b o, b ≠ d → b ≠ it → h₁.get? b = some o → h.get? b = some o) → h.DictOf knd d (merged [] (kvs.drop n).reverse) →
      codeAny (model prog w) A (.builtin "dict.update.loop" ⟨[.ref d, .ref it, rawInt i, .none], []⟩) R { s with heap := h, toks := tk } := by
  intro n
  induction n with
  | zero =>
    intro i h tk hn hit hk hd
    refine codeAny_builtin entry_upl ?_
    rw [Around.under_plainId plain_upl _]
    show wpAny _ A.in1 (pyNext (.ref it) >>= _) _ _ _
    refine wpAny_bind (wpAny_pyNext_rev_end (s := { s with heap := h, toks := tk }) (l := l) (A := A.in1) hh hit fun h' he => ?_)
    show wpAny _ _ (Builtin.Dict.addKeywords d [] >>= _) _ _ _
    rw [List.drop_zero] at hd
    exact wpAny_bind (wpAny_pure (wpAny_pure (hR h' tk (fun b o h1 h2 e => he b o h2 (hk b o h1 h2 e)) (hd.extBut he hid))))
  | succ n ih =>
    intro i h tk hn hit hk hd
    have hna : n < as.length := by omega
    obtain ⟨a, ha⟩ : ∃ a, as[n]? = some a := ⟨as[n], List.getElem?_eq_getElem hna⟩
    obtain ⟨ai, ad, key, k, x, hx, hky, hg⟩ := hp n a ha
    have hl' : h.IsList l (as.map Value.ref).toArray := by
      obtain ⟨o, e, r⟩ := hl
      exact ⟨o, hk l o hld hil e, r⟩
    have e1 : ((n + 1 : Nat) : Int) - 1 = (n : Int) := by omega
    rw [e1] at hit
    refine codeAny_builtin entry_upl ?_
    rw [Around.under_plainId plain_upl _]
    show wpAny _ A.in1 (pyNext (.ref it) >>= _) _ _ _
    refine wpAny_bind (wpAny_pyNext_rev_item (s := { s with heap := h, toks := tk }) (x := .ref a) hit hl' (by simp [ha]) fun h' hit' sb => ?_)
    have kp : ∀ b o, b ≠ it → h.get? b = some o → h'.get? b = some o := fun b o hb e => (sb.2 b hb).trans e
    have hg' : h'.get? a = some { cls := .type "tuple", data := .seq #[key, x] } := kp a _ ai (hk a _ ad ai hg)
    have hd' := hd.sameBut sb hid
    show wpAny _ _ (holding [Value.ref a] _ >>= _) _ _ _
    refine wpAny_bind (wpAny_holding (wpAny_bind (wpAny_tryCatch ?_)))
    show wpAny _ _ (Builtin.Dict.pairItems (.ref a)) _ _ _
    unfold Builtin.Dict.pairItems
    refine wpAny_bind (wpAny_typeOf (T := "tuple") ⟨_, hg', rfl⟩ ?_)
    rw [if_pos (by decide)]
    refine wpAny_bind (wpAny_seqItems hg' rfl (wpAny_pure ?_))
    show wpAny _ _ (holding [key, x] (dictSet d key x)) _ _ _
    refine wpAny_holding (wpAny_dictSet_pairs hky hd' (fun h'' hd'' sb'' => ?_) ?_)
    · have st : merged [] (kvs.drop n).reverse = stored (merged [] (kvs.drop (n + 1)).reverse) k x := by
        have hnk : n < kvs.length := by omega
        have e2 : kvs[n] = (k, x) := by
          have := List.getElem?_eq_getElem hnk
          rw [this] at hx
          exact Option.some.inj hx
        rw [List.drop_eq_getElem_cons hnk, List.reverse_cons, e2]
        unfold merged
        rw [List.foldl_append]
        rfl
      rw [← st] at hd''
      refine wpAny_pure ⟨plainId_quiet plain_upl _, ih (i + 1) h'' _ (by omega) (hit'.at fun o e => (sb''.2 it (Ne.symm hid)).trans e) (fun b o h1 h2 e => (sb''.2 b h1).trans (kp b o h2 (hk b o h1 h2 e))) hd''⟩
    · have := merged_length_le (K := Key) [] (kvs.drop (n + 1)).reverse
      simp at this
      omega
end
section
variable {prog : Program} {w : World} {A : Around} {s : Shared} {E : Value → Shared → Prop}
theorem call_dict_rev {knd : PySem.KeyKind prog w Key} {it l : Addr} {as : List Addr} {kvs : List (Key × Value)} {Q : Value → Shared → Prop} (hh : A.handled = none) (hil : l ≠ it) (hz : kvs.length ≤ sizeLine) (hlen : as.length = kvs.length) (hl : s.heap.IsList l (as.map Value.ref).toArray)
    (hit : s.heap.get? it = some { cls := .type "list_reverseiterator", data := .fields #[.ref l, rawInt ((kvs.length : Int) - 1)] })
    (hp : ∀ (j : Nat) (a : Addr), as[j]? = some a → a ≠ it ∧ ∃ key k x, kvs[j]? = some (k, x) ∧ knd.is k key = true ∧ s.heap.get? a = some { cls := .type "tuple", data := .seq #[key, x] })
    (hn : (kvs.map (·.1)).Nodup)
    (h : ∀ h' tk, (∀ b o, b ≠ it → s.heap.get? b = some o → h'.get? b = some o) → h'.DictOf knd s.heap.objs.size kvs.reverse → Q (.ref s.heap.objs.size) { s with heap := h', toks := tk }) :
    wpAny (model prog w) A (call (.type "dict") [.ref it]) Q E s := by
  refine callType_codes (Q₁ := fun obj s₁ => obj = .ref s.heap.objs.size ∧ s₁ = { s with heap := s.heap.push { cls := .type "dict", data := .dict #[] } }) F.kt_called_dict (F.kt_typeCall_dict_1 _) F.entry_dict_init (kt_code_dict_new _ ⟨rfl, rfl⟩) ?_
  rintro obj s₁ ⟨rfl, rfl⟩
  have hnew : (s.heap.push { cls := .type "dict", data := .dict #[] }).DictOf knd s.heap.objs.size [] := Heap.DictOf.new s.heap
  have hit1 := Heap.get?_push_of_some { cls := .type "dict", data := .dict #[] } hit
  have ne : ∀ b o, s.heap.get? b = some o → b ≠ s.heap.objs.size := fun b o e z => by
    subst z
    exact absurd (Heap.lt_size e) (Nat.lt_irrefl _)
  refine ⟨hnew.typeIs, F.args_dict_init_2 _ _, ?_⟩
  unfold Builtin.«dict.__init__»
  refine wpAny_bind ?_
  unfold Builtin.Dict.selfAndRest
  refine wpAny_bind (wpAny_notOrdered_dict hnew.typeIs ?_)
  show wpAny _ _ (pure (s.heap.objs.size, [Value.ref it])) _ _ _
  refine wpAny_pure ?_
  show wpAny _ _ (Builtin.Dict.updateFrom "dict.__init__" s.heap.objs.size (.ref it) [] .none) _ _ _
  unfold Builtin.Dict.updateFrom
  refine wpAny_bind (wpAny_typeOf (T := "list_reverseiterator") ⟨_, hit1, rfl⟩ ?_)
  rw [if_pos (by decide)]
  refine wpAny_bind (no_keys hit1 hh fun h2 tk2 hk2 => ?_)
  rw [if_pos (by rfl)]
  refine wpAny_bind (wpAny_rule ?_)
  have hit2 := hk2 _ _ hit1
  have ri : h2.IsRevIter it l ((kvs.length : Int) - 1) := ⟨_, hit2, rfl, rfl⟩
  refine wpAny_bind (wpAny_pyIter_revIter (s := { s with heap := h2, toks := tk2 }) ri ?_)
  refine wpAny_pure ⟨plainId_quiet plain_upl _, ?_⟩
  obtain ⟨ol, el, rl⟩ := id hl
  refine upl_loop (A := A.in1) (knd := knd) (s := s) (h₁ := h2) (kvs := kvs) (as := as) hh hil (Ne.symm (ne _ _ hit)) (ne _ _ el) hz hlen ⟨ol, hk2 _ _ (Heap.get?_push_of_some _ el), rl⟩ (fun j a e => ?_) (fun h' tk hk hd => ?_) kvs.length 0 h2 tk2 (Nat.le_refl _) ri (fun _ _ _ _ e => e) ?_
  · obtain ⟨h1, key, k, x, e1, e2, e3⟩ := hp j a e
    exact ⟨h1, ne _ _ e3, key, k, x, e1, e2, hk2 _ _ (Heap.get?_push_of_some _ e3)⟩
  · rw [merged_nil_of_nodup _ (by rw [List.map_reverse]; exact (List.reverse_perm _).symm.nodup hn)] at hd
    exact ⟨rfl, h h' tk (fun b o h1 e => hk b o (ne _ _ e) h1 (hk2 _ _ (Heap.get?_push_of_some _ e))) hd⟩
  · rw [List.drop_length]
    obtain ⟨o, es, ep, e, r⟩ := hnew
    exact ⟨o, es, ep, hk2 _ _ e, r⟩
end
section
variable {X : Cx}
theorem bootDict : bootBuiltins "dict" = some (.type "dict") := by decide +kernel
theorem bootList : bootBuiltins "list" = some (.type "list") := by decide +kernel
def tRevD (te : TE) : TE := fun σ H Q => te σ H fun x H1 => ∃ (a : Addr) (kvs : List (Key × V)), x = .ref a ∧ H1 a = some (.dK kvs) ∧ ∀ p, H1 p = none → Q (.ref p) (upd H1 p (.dK kvs.reverse))
theorem paired_snoc {α β : Type} {R : α → β → Prop} {x : α} {y : β} (r : R x y) : ∀ {xs : List α} {ys : List β}, Paired R xs ys → Paired R (xs ++ [x]) (ys ++ [y])
  | _, _, .nil => .cons r .nil
  | _, _, .cons h t => .cons h (paired_snoc r t)
theorem KV.reverse {kvs : List (Key × V)} {vs : List (Key × Value)} (h : KV kvs vs) : KV kvs.reverse vs.reverse := by
  induction h with
  | nil => exact .nil
  | cons r t ih => rw [List.reverse_cons, List.reverse_cons]; exact paired_snoc (R := fun (p : Key × V) (q : Key × Value) => p.1 = q.1 ∧ RelV p.2 q.2) r ih
theorem pe_revD {e : Expr} {te : TE} {p1 p2 p3 p4 p5 p6 ap pos : Pos} (hh : X.A.handled = none) (g1 : Gl X "dict") (m1 : X.mg "dict" = none) (g2 : Gl X "reversed") (m2 : X.mg "reversed" = none) (g3 : Gl X "list") (m3 : X.mg "list" = none) (he : PE X e te)
    (hbase : attributeBase e "items" X.env (eval e X.env) = eval e X.env := by rfl) (hline : (ap.endLine == p6.line) = true := by rfl)
    (h1 : starEach [.Call (.Name "reversed" p2) [.Call (.Name "list" p3) [.Call (.Attribute e "items" ap) [] [] p6] [] p5] [] p4] X.env = [(false, eval (.Call (.Name "reversed" p2) [.Call (.Name "list" p3) [.Call (.Attribute e "items" ap) [] [] p6] [] p5] [] p4) X.env)] := by rfl)
    (h2 : starEach [.Call (.Name "list" p3) [.Call (.Attribute e "items" ap) [] [] p6] [] p5] X.env = [(false, eval (.Call (.Name "list" p3) [.Call (.Attribute e "items" ap) [] [] p6] [] p5) X.env)] := by rfl)
    (h3 : starEach [.Call (.Attribute e "items" ap) [] [] p6] X.env = [(false, eval (.Call (.Attribute e "items" ap) [] [] p6) X.env)] := by rfl) :
    PE X (.Call (.Name "dict" p1) [.Call (.Name "reversed" p2) [.Call (.Name "list" p3) [.Call (.Attribute e "items" ap) [] [] p6] [] p5] [] p4] [] pos) (tRevD te) := by
  intro pins s σ H Q I h
  refine wpAny_Call_Name_kw (ld_blt I g1 m1 bootDict ?_ (by decide) (by decide))
  refine PyProof.Rows.callWith_type1 ?_ h1 rfl
  rw [h1]
  refine Calls.spliced_cons ?_
  refine wpAny_Call_Name_kw (ld_blt I g2 m2 bootRev ?_ (by decide) (by decide))
  refine PyProof.Rows.callWith_type1 ?_ h2 rfl
  rw [h2]
  refine Calls.spliced_cons ?_
  refine wpAny_Call_Name_kw (ld_blt I g3 m3 bootList ?_ (by decide) (by decide))
  refine PyProof.Rows.callWith_type1 ?_ h3 rfl
  rw [h3]
  refine Calls.spliced_cons ?_
  refine wpAny_Call_method0_late hbase hline (thn (he pins s σ H _ I h) fun u s1 ⟨x, H1, I1, r1, a, kvs, ex, hd, q⟩ => ?_)
  subst ex
  obtain rfl : u = Value.ref a := r1
  obtain ⟨z, lo, vs, rel, dd⟩ := dk_of I1.hok hd
  refine ⟨"dict", "dict.items", PySem.F.plainAttrs_dict, PySem.F.slot_dict_items, PySem.F.type_dict_items, dd.typeIs, (by obtain ⟨o, es, ep, e, ex, _⟩ := id dd; intro b eb; cases eb; exact ⟨o, e, ex.2.1⟩), Calls.callWith_builtin rfl (PySem.evalArgs_none ?_)⟩
  have lv := rel.length
  refine call_meetsIn PySem.F.slot_dict_items dd.typeIs PySem.F.entry_dict_items (PySem.F.args_dict_items_1 _) (meets_dict_items (mixKind X.prog X.w) a lo) ⟨⟨vs, dd⟩, Calls.spliced_nil ?_⟩
  obtain ⟨ep, hat⟩ := dd.dictAt
  refine PySem.W.kdx_call (s := { s1 with heap := s1.heap.push { cls := .type "dict_items", data := .fields #[.ref a] } }) (knd := mixKind X.prog X.w) (d := a) (kvs := vs) (ep := ep) hh ⟨_, Heap.get?_push_size _ rfl, rfl, rfl⟩ (hat.push _) (by rw [← lv]; exact z) fun h' tk acc c as hk hS hl hG hacc => Calls.spliced_nil ?_
  refine call_reversed_list (s := { s1 with heap := h', toks := tk }) (items := acc) ⟨_, hS, rfl, _, rfl⟩ (Calls.spliced_nil ?_)
  have hlt : s1.heap.objs.size + 1 < h'.objs.size := by
    have := Heap.lt_size hS
    rwa [show (s1.heap.push { cls := .type "dict_items", data := .fields #[.ref a] }).objs.size = s1.heap.objs.size + 1 from size_push' _ _] at this
  have ea : acc = (as.map Value.ref).toArray := by rw [← hacc]
  have es : acc.size = vs.length := by rw [ea, List.size_toArray, List.length_map, hl]
  have hsz : (h'.push (revObj (s1.heap.push { cls := .type "dict_items", data := .fields #[.ref a] }).objs.size ((acc.size : Int) - 1))).objs.size = h'.objs.size + 1 := size_push' _ _
  refine call_dict_rev (s := { s1 with heap := h'.push (revObj (s1.heap.push { cls := .type "dict_items", data := .fields #[.ref a] }).objs.size ((acc.size : Int) - 1)), toks := tk }) (knd := mixKind X.prog X.w) (it := h'.objs.size) (as := as) (kvs := vs) hh
    (Nat.ne_of_lt (Heap.lt_size hS)) (by rw [← lv]; exact z) hl ⟨_, Heap.get?_push_of_some _ hS, rfl, _, by rw [ea]⟩ (by rw [← es]; exact Heap.get?_push_size _ rfl) (fun j b e => ?_) (by obtain ⟨_, _, _, _, _, _, _, _, hn⟩ := dd; exact hn) fun h'' tk' hk' hd' => ?_
  · obtain ⟨key, k, x, e1, e2, e3⟩ := hG.pairs j b e
    exact ⟨Nat.ne_of_lt (Heap.lt_size e3), key, k, x, e1, e2, Heap.get?_push_of_some _ e3⟩
  · dsimp only at hd' ⊢
    rw [hsz] at hd' ⊢
    refine ⟨.ref (h'.objs.size + 1), _, I1.laid (t' := tk') (o := .dK kvs.reverse) (fun b o e => ?_) (by omega) ?_, rfl, q _ (I1.hok.fresh (by omega))⟩
    · have e1 : h'.get? b = some o := hk b o (Heap.get?_push_of_some _ e)
      exact hk' b o (Nat.ne_of_lt (Heap.lt_size e1)) (Heap.get?_push_of_some _ e1)
    · exact dk_new (by rw [List.length_reverse]; exact z) (beq_eq_false_iff_ne.mpr (Ne.symm (Nat.ne_of_lt (Nat.lt_trans I1.big (by omega))))) rel.reverse hd'
end
section
variable {prog : Program} {w : World} {A : Around} {E : Value → Shared → Prop} {s : Shared}
end
section
variable {X : Cx}
end
section
variable {prog : Program} {w : World} {A : Around} {E : Value → Shared → Prop} {s : Shared}
end
section
variable {X : Cx}
end
abbrev IsZ2 (h : Heap) (z TI TO a0 : Addr) (f : Bool) : Prop := h.get? z = some { cls := .type "zip", data := .fields #[rawInt a0, .bool f, .bool false, .ref TI, .ref TO] }
section
variable {P : Program} {w : World} {A : Around} {E : Value → Shared → Prop} {s : Shared} {z TI TO i1 i2 l1 l2 : Addr} {us vs : Array Value} {S1 S2 : Nat → Heap → Prop}
theorem not_free {a0 : Addr} {f : Bool} {oa : Obj} {Q : Bool → Shared → Prop} (hz : IsZ2 s.heap z TI TO a0 f) (ha : s.heap.get? a0 = some oa) (q : ∀ g, IsZ2 g z TI TO a0 true → Heap.SameBut z s.heap g → Q false { s with heap := g }) :
    wpAny (model P w) A (Builtin.SmallTypes.ownedTupleIsFree (.ref z)) Q E s := by
  unfold Builtin.SmallTypes.ownedTupleIsFree
  refine wpAny_bind (wpAny_field hz rfl (x := rawInt a0) rfl ?_)
  show wpAny _ _ (loadIfAlive ((a0 : Int).toNat) >>= _) _ _ _
  rw [Int.toNat_natCast]
  refine wpAny_bind (PySem.W.kdx_alive ha ?_)
  rw [if_neg (by simp)]
  refine wpAny_bind (wpAny_field hz rfl (x := .bool f) rfl ?_)
  cases f with
  | true =>
    rw [if_neg (by decide)]
    exact wpAny_pure (q s.heap hz (Heap.SameBut.refl _ _))
  | false =>
    rw [if_pos (by decide)]
    exact wpAny_bind (wpAny_setField_rec hz (by simp) fun g h1 sb => wpAny_pure (q g h1 sb))
theorem zip2_item {k : Nat} {a0 : Addr} {f : Bool} {oa : Obj} {u v : Value} {Q : Value → Shared → Prop} (D : ZA z TI TO i1 i2 l1 l2) (N1 : Nx P w i1 l1 us S1) (N2 : Nx P w i2 l2 vs S2)
    (hz : IsZ2 s.heap z TI TO a0 f) (ha : s.heap.get? a0 = some oa) (hTI : IsPair s.heap TI (.ref i1) (.ref i2)) (h1 : S1 k s.heap) (h2 : S2 k s.heap) (hu : us[k]? = some u) (hv : vs[k]? = some v)
    (q : ∀ g, IsZ2 g z TI TO a0 true → S1 (k + 1) g → S2 (k + 1) g → IsPair g s.heap.objs.size u v → g.objs.size = s.heap.objs.size + 1 →
      (∀ c o, c ≠ z → c ≠ i1 → c ≠ i2 → s.heap.get? c = some o → g.get? c = some o) → Q (.ref s.heap.objs.size) { s with heap := g }) :
    wpAny (model P w) A (Builtin.«zip.__next__» ⟨[.ref z], []⟩) (fun fin s' => ∃ v, fin = .done (.ret v) ∧ Q v s') E s := by
  obtain ⟨⟨d1, d2, d3, d4, d5, d6⟩, ⟨d7, d8, d9, d10, d11⟩, ⟨d12, d13, d14, d15⟩, d16, d17, d18⟩ := D
  show wpAny _ _ (field (.ref z) 2 >>= _) _ _ _; refine wpAny_bind (wpAny_field hz rfl (x := .bool false) rfl ?_)
  show wpAny _ _ (field (.ref z) 3 >>= _) _ _ _; refine wpAny_bind (wpAny_field hz rfl (x := .ref TI) rfl (wpAny_bind (wpAny_seqItems hTI rfl ?_)))
  show wpAny _ _ (Builtin.SmallTypes.ownedTupleIsFree (.ref z) >>= _) _ _ _
  refine wpAny_bind (not_free hz ha fun g1 z1 b1 => ?_)
  simp only [Bool.false_eq_true, if_false]
  refine wpAny_bind ?_
  simp only [List.forIn_toArray, List.forIn_cons, List.forIn_nil]
  refine wpAny_bind (wpAny_bind (wpAny_holding ?_))
  show wpAny _ _ (Builtin.SmallTypes.nextOf (.ref i1) >>= _) _ _ _
  refine wpAny_bind (N1.item _ _ _ _ k u (N1.keep k _ _ h1 (fun o e => b1.extBut _ _ d3 e) fun o e => b1.extBut _ _ d5 e) hu fun g2 n2 b2 => wpAny_pure ?_)
  refine wpAny_pure (wpAny_bind (wpAny_bind (wpAny_holding ?_)))
  show wpAny _ _ (Builtin.SmallTypes.nextOf (.ref i2) >>= _) _ _ _
  have y2 : S2 k g2 := N2.keep k _ _ h2 (fun o e => b2.extBut _ _ d13 (b1.extBut _ _ d4 e)) fun o e => b2.extBut _ _ d15 (b1.extBut _ _ d6 e)
  refine wpAny_bind (N2.item _ _ _ _ k v y2 hv fun g4 n4 b4 => wpAny_pure ?_)
  refine wpAny_pure (wpAny_pure ?_)
  show wpAny _ _ (newTuple [u, v] >>= _) _ _ _
  refine wpAny_bind (wpAny_newTuple (wpAny_pure ⟨_, rfl, ?_⟩))
  have sz : g4.objs.size = s.heap.objs.size := by rw [b4.1, b2.1, b1.1]
  have z4 : IsZ2 g4 z TI TO a0 true := b4.extBut _ _ (Ne.symm d4) (b2.extBut _ _ (Ne.symm d3) z1)
  have up : ∀ c o, g4.get? c = some o → (g4.push { cls := .type "tuple", data := .seq #[u, v] }).get? c = some o := fun c o e => Heap.get?_push_of_some _ e
  show Q (.ref g4.objs.size) _
  have t5 : IsPair (g4.push { cls := .type "tuple", data := .seq #[u, v] }) g4.objs.size u v := Heap.get?_push_size _ rfl
  have m1 : S1 (k + 1) g4 := N1.keep _ _ _ n2 (fun o e => b4.extBut _ _ (Ne.symm d13) e) fun o e => b4.extBut _ _ d17 e
  rw [sz] at t5 ⊢
  exact q _ (up _ _ z4) (N1.keep _ _ _ m1 (fun o e => up _ o e) fun o e => up _ o e) (N2.keep _ _ _ n4 (fun o e => up _ o e) fun o e => up _ o e) t5 (by rw [Heap.size_push, sz])
    fun c o c1 c3 c4 e => up c o (b4.extBut _ _ c4 (b2.extBut _ _ c3 (b1.extBut _ _ c1 e)))
theorem zip2_end {k : Nat} {a0 : Addr} {f : Bool} {oa : Obj} {Q : Fin → Shared → Prop} (hh : A.handled = none) (D : ZA z TI TO i1 i2 l1 l2) (N1 : Nx P w i1 l1 us S1)
    (hz : IsZ2 s.heap z TI TO a0 f) (ha : s.heap.get? a0 = some oa) (hTI : IsPair s.heap TI (.ref i1) (.ref i2)) (h1 : S1 k s.heap) (hu : us[k]? = none)
    (q : ∀ g e, (∀ c o, c ≠ z → c ≠ i1 → s.heap.get? c = some o → g.get? c = some o) → (∃ o, g.get? e = some o ∧ o.cls = .type "StopIteration") → E (.ref e) { s with heap := g }) :
    wpAny (model P w) A (Builtin.«zip.__next__» ⟨[.ref z], []⟩) Q E s := by
  obtain ⟨⟨d1, d2, d3, d4, d5, d6⟩, ⟨d7, d8, d9, d10, d11⟩, ⟨d12, d13, d14, d15⟩, d16, d17, d18⟩ := D
  show wpAny _ _ (field (.ref z) 2 >>= _) _ _ _; refine wpAny_bind (wpAny_field hz rfl (x := .bool false) rfl ?_)
  show wpAny _ _ (field (.ref z) 3 >>= _) _ _ _; refine wpAny_bind (wpAny_field hz rfl (x := .ref TI) rfl (wpAny_bind (wpAny_seqItems hTI rfl ?_)))
  show wpAny _ _ (Builtin.SmallTypes.ownedTupleIsFree (.ref z) >>= _) _ _ _
  refine wpAny_bind (not_free hz ha fun g1 z1 b1 => ?_)
  simp only [Bool.false_eq_true, if_false]
  refine wpAny_bind ?_
  simp only [List.forIn_toArray, List.forIn_cons, List.forIn_nil]
  refine wpAny_bind (wpAny_bind (wpAny_holding ?_))
  show wpAny _ _ (Builtin.SmallTypes.nextOf (.ref i1) >>= _) _ _ _
  refine wpAny_bind (N1.fin _ _ _ _ k hh (N1.keep k _ _ h1 (fun o e => b1.extBut _ _ d3 e) fun o e => b1.extBut _ _ d5 e) hu fun g2 e b2 he => ?_)
  exact q g2 e (fun c o c1 c3 y => b2 _ _ c3 (b1.extBut _ _ c1 y)) he
theorem next2_item {k : Nat} {a0 : Addr} {f : Bool} {oa : Obj} {u v : Value} {Q : Option Value → Shared → Prop} (D : ZA z TI TO i1 i2 l1 l2) (N1 : Nx P w i1 l1 us S1) (N2 : Nx P w i2 l2 vs S2)
    (hz : IsZ2 s.heap z TI TO a0 f) (ha : s.heap.get? a0 = some oa) (hTI : IsPair s.heap TI (.ref i1) (.ref i2)) (h1 : S1 k s.heap) (h2 : S2 k s.heap) (hu : us[k]? = some u) (hv : vs[k]? = some v)
    (q : ∀ g, IsZ2 g z TI TO a0 true → S1 (k + 1) g → S2 (k + 1) g → IsPair g s.heap.objs.size u v → g.objs.size = s.heap.objs.size + 1 →
      (∀ c o, c ≠ z → c ≠ i1 → c ≠ i2 → s.heap.get? c = some o → g.get? c = some o) → Q (some (.ref s.heap.objs.size)) { s with heap := g }) : wpAny (model P w) A (pyNext (.ref z)) Q E s := by
  have hT : s.TypeIs (.ref z) "zip" := ⟨_, hz, rfl⟩
  unfold pyNext
  exact wpAny_bind (wpAny_attempt (wpAny_callSpecial?_slot (name := Str.ofString "__next__") hT F.slot_zip_next (wpAny_call_entry F.slot_zip_next hT F.entry_zip_next
    (zip2_item D N1 N2 hz ha hTI h1 h2 hu hv fun g a1 a3 a4 a5 a6 a7 => wpAny_pure (q g a1 a3 a4 a5 a6 a7)) (F.args_zip_next_1 _))))
theorem next2_end {k : Nat} {a0 : Addr} {f : Bool} {oa : Obj} {Q : Option Value → Shared → Prop} (hh : A.handled = none) (D : ZA z TI TO i1 i2 l1 l2) (N1 : Nx P w i1 l1 us S1)
    (hz : IsZ2 s.heap z TI TO a0 f) (ha : s.heap.get? a0 = some oa) (hTI : IsPair s.heap TI (.ref i1) (.ref i2)) (h1 : S1 k s.heap) (hu : us[k]? = none)
    (q : ∀ g, (∀ c o, c ≠ z → c ≠ i1 → s.heap.get? c = some o → g.get? c = some o) → Q none { s with heap := g }) : wpAny (model P w) A (pyNext (.ref z)) Q E s := by
  have hT : s.TypeIs (.ref z) "zip" := ⟨_, hz, rfl⟩
  unfold pyNext
  refine wpAny_bind (wpAny_attempt (wpAny_callSpecial?_slot (name := Str.ofString "__next__") hT F.slot_zip_next (wpAny_call_entry F.slot_zip_next hT F.entry_zip_next
    (zip2_end hh D N1 hz ha hTI h1 hu fun g e kk he => ?_) (F.args_zip_next_1 _))))
  obtain ⟨o, eo, ec⟩ := he
  exact wpAny_bind (wpAny_isInstance (T := "StopIteration") (b := true) ⟨o, eo, ec⟩ isSubtype_stop (wpAny_pure (q _ kk)))
end
section
variable {P : Program} {w : World} {A : Around} {s : Shared} {R : Result → Shared → Prop} {z TI TO i1 i2 l1 l2 S : Addr} {us vs : Array Value} {S1 S2 : Nat → Heap → Prop}
theorem ne_hi {a b M : Nat} (h1 : b < M) (h2 : M ≤ a) : a ≠ b := by omega
def ZSt (h : Heap) (z TI TO M : Addr) : Prop := (IsZip h z TI TO .none ∧ ∃ a b, IsPair h TO a b) ∨ ∃ a0 f oa, IsZ2 h z TI TO a0 f ∧ h.get? a0 = some oa ∧ M ≤ a0
structure ZB (M S z TI TO i1 i2 : Addr) : Prop where
  lt : S < M ∧ z < M ∧ TI < M ∧ TO < M ∧ i1 < M ∧ i2 < M
  ne : S ≠ z ∧ S ≠ TI ∧ S ≠ TO ∧ S ≠ i1 ∧ S ≠ i2
def ZPs (h : Heap) (us vs : Array Value) (M : Addr) (as : List Addr) : Prop := as.Pairwise (· < ·) ∧ ∀ (j : Nat) (a : Addr), as[j]? = some a → M ≤ a ∧ ∃ u v, us[j]? = some u ∧ vs[j]? = some v ∧ IsPair h a u v
theorem zip_loop {n : Nat} {h₁ : Heap} (hh : A.handled = none) (D : ZA z TI TO i1 i2 l1 l2) (N1 : Nx P w i1 l1 us S1) (N2 : Nx P w i2 l2 vs S2) (B : ZB h₁.objs.size S z TI TO i1 i2) (hl1 : l1 ≠ S) (hl2 : l2 ≠ S) (h1 : us.size = n) (h2 : vs.size = n) (hn : n ≤ sizeLine) (res : Value)
    (hR : ∀ h' tk acc c as, (∀ b o, b ≠ S → b ≠ z → b ≠ TO → b ≠ i1 → b ≠ i2 → h₁.get? b = some o → h'.get? b = some o) → h'.get? S = some { cls := .type "list", dict := none, data := .seq acc c, slots := #[] } → as.length = n → ZPs h' us vs h₁.objs.size as →
      acc.toList = as.map Value.ref → R (.ok (.ret res)) { s with heap := h', toks := tk }) :
    ∀ (k i : Nat) (h : Heap) (tk c : Nat) (acc : Array Value) (as : List Addr), n - i = k → i ≤ n → ZSt h z TI TO h₁.objs.size → IsPair h TI (.ref i1) (.ref i2) → S1 i h → S2 i h → (∀ b o, b ≠ S → b ≠ z → b ≠ TO → b ≠ i1 → b ≠ i2 → h₁.get? b = some o → h.get? b = some o) →
      h.get? S = some { cls := .type "list", dict := none, data := .seq acc c, slots := #[] } → acc.toList = as.map Value.ref → as.length = i → ZPs h us vs h₁.objs.size as → h₁.objs.size ≤ h.objs.size →
      codeAny (model P w) A (.builtin "list.extend.loop" ⟨[.ref S, .ref z, res], []⟩) R { s with heap := h, toks := tk } := by
  obtain ⟨⟨b1, b2, b3, b4, b5, b6⟩, n1, n2, n3, n4, n5⟩ := B
  intro k
  induction k with
  | zero =>
    intro i h tk c acc as hk hi hst hTI y1 y2 hkeep hS hacc hal hP hM
    have hin : i = n := by omega
    have hu : us[i]? = none := Array.getElem?_eq_none (by omega)
    refine codeAny_builtin PySem.F.entry_extend_loop ?_
    rw [Around.under_plainId PySem.F.plain_extend_loop _]
    show wpAny _ A.in1 (pyNext (.ref z) >>= _) _ _ _
    have fin : ∀ g, (∀ c o, c ≠ z → c ≠ TO → c ≠ i1 → c ≠ i2 → h.get? c = some o → g.get? c = some o) → R (.ok (.ret res)) { s with heap := g, toks := tk } := fun g hg =>
      hR g tk acc c as (fun b o e1 e2 e3 e4 e5 e => hg b o e2 e3 e4 e5 (hkeep b o e1 e2 e3 e4 e5 e)) (hg S _ n1 n3 n4 n5 hS) (by omega)
        ⟨hP.1, fun j a ha => by
          obtain ⟨q1, u, v, q2, q3, q4⟩ := hP.2 j a ha
          exact ⟨q1, u, v, q2, q3, hg a _ (ne_hi b2 q1) (ne_hi b4 q1) (ne_hi b5 q1) (ne_hi b6 q1) q4⟩⟩ hacc
    rcases hst with ⟨hz, a, b, hTO⟩ | ⟨a0, f, oa, hz, ha, hge⟩
    · refine wpAny_bind (nextG_end (s := { s with heap := h, toks := tk }) (A := A.in1) hh D N1 N2 hz hTI hTO y1 y2 (.inl hu) fun g hg => ?_)
      exact wpAny_pure (fin g hg)
    · refine wpAny_bind (next2_end (s := { s with heap := h, toks := tk }) (A := A.in1) hh D N1 hz ha hTI y1 hu fun g hg => ?_)
      exact wpAny_pure (fin g fun c o e1 _ e3 _ e => hg c o e1 e3 e)
  | succ k ih =>
    intro i h tk c acc as hk hi hst hTI y1 y2 hkeep hS hacc hal hP hM
    have hlt : i < n := by omega
    obtain ⟨u, hu⟩ : ∃ u, us[i]? = some u := ⟨us[i], Array.getElem?_eq_getElem (by omega)⟩
    obtain ⟨v, hv⟩ : ∃ v, vs[i]? = some v := ⟨vs[i], Array.getElem?_eq_getElem (by omega)⟩
    have hsz : acc.size = i := by rw [← Array.length_toList, hacc, List.length_map, hal]
    obtain ⟨dA, dB, dC, dD⟩ := id D
    refine codeAny_builtin PySem.F.entry_extend_loop ?_
    rw [Around.under_plainId PySem.F.plain_extend_loop _]
    show wpAny _ A.in1 (pyNext (.ref z) >>= _) _ _ _
    have go : ∀ g, ZSt g z TI TO h₁.objs.size → S1 (i + 1) g → S2 (i + 1) g → IsPair g h.objs.size u v → g.objs.size = h.objs.size + 1 → (∀ c o, c ≠ z → c ≠ TO → c ≠ i1 → c ≠ i2 → h.get? c = some o → g.get? c = some o) →
        wpAny (model P w) A.in1 (updateSeq S (·.push (Value.ref h.objs.size)) >>= fun _ => again (.builtin "list.extend.loop" ⟨[.ref S, .ref z, res], []⟩))
          (fun fin s' => match fin with | .done f => R (.ok f) s' | .again c' => c'.quiet = true ∧ codeAny (model P w) A c' R s') (fun e s' => R (.error e) s') { s with heap := g, toks := tk } := by
      intro g gz g1 g2 gp gs gk
      have hS' := gk S _ n1 n3 n4 n5 hS
      have up : ∀ b o, b ≠ S → g.get? b = some o → (g.update S (Obj.mapSeq (·.push (Value.ref h.objs.size)))).get? b = some o := fun b o hb e => (Heap.get?_update_other _ _ (Ne.symm hb)).trans e
      refine wpAny_bind ?_
      refine wpAny_updateSeq hS' rfl (wpAny_pure ⟨plainId_quiet PySem.F.plain_extend_loop _, ih (i + 1) _ tk _ (acc.push (Value.ref h.objs.size)) (as ++ [h.objs.size]) (by omega) hlt ?_ (up _ _ (Ne.symm n2) (gk _ _ dA.1 dB.1 dC.1 dD.1 hTI))
        (N1.keep _ _ _ g1 (fun o e => up _ o (Ne.symm n4) e) fun o e => up _ o hl1 e) (N2.keep _ _ _ g2 (fun o e => up _ o (Ne.symm n5) e) fun o e => up _ o hl2 e)
        (fun b o e1 e2 e3 e4 e5 e => up b o e1 (gk b o e2 e3 e4 e5 (hkeep b o e1 e2 e3 e4 e5 e))) (Heap.get?_update_self _ hS' rfl) (by rw [Array.toList_push, hacc, List.map_append]; rfl) (by rw [List.length_append, hal]; rfl) ?_ ?_⟩) (by rw [hsz]; omega) (by show (acc.push (Value.ref h.objs.size)).size ≤ sizeLine + 1; rw [Array.size_push, hsz]; omega)
      · rcases gz with ⟨q1, a, b, q2⟩ | ⟨a0, f, oa, q1, q2, q3⟩
        · exact .inl ⟨up _ _ (Ne.symm n1) q1, a, b, up _ _ (Ne.symm n3) q2⟩
        · exact .inr ⟨a0, f, oa, up _ _ (Ne.symm n1) q1, up _ _ (ne_hi b1 q3) q2, q3⟩
      · refine ⟨List.pairwise_append.mpr ⟨hP.1, List.pairwise_singleton _ _, fun a ha b hb => ?_⟩, ?_⟩
        · rw [List.mem_singleton.mp hb]
          obtain ⟨j, hj⟩ := List.mem_iff_getElem?.mp ha
          obtain ⟨_, _, _, _, _, r4⟩ := hP.2 j a hj
          exact Heap.lt_size r4
        intro j a ha
        rcases Nat.lt_trichotomy j as.length with q1 | q1 | q1
        · rw [List.getElem?_append_left q1] at ha
          obtain ⟨r1, u', v', r2, r3, r4⟩ := hP.2 j a ha
          exact ⟨r1, u', v', r2, r3, up _ _ (ne_hi b1 r1) (gk _ _ (ne_hi b2 r1) (ne_hi b4 r1) (ne_hi b5 r1) (ne_hi b6 r1) r4)⟩
        · subst q1
          have e : h.objs.size = a := by simpa using ha
          subst e
          exact ⟨hM, u, v, by rw [hal]; exact hu, by rw [hal]; exact hv, up _ _ (ne_hi b1 hM) gp⟩
        · have e : (as ++ [h.objs.size])[j]? = none := List.getElem?_eq_none (by rw [List.length_append, List.length_singleton]; omega)
          rw [e] at ha; cases ha
      · rw [Heap.size_update, gs]; omega
    rcases hst with ⟨hz, a, b, hTO⟩ | ⟨a0, f, oa, hz, ha, hge⟩
    · refine wpAny_bind (nextG_item (s := { s with heap := h, toks := tk }) D N1 N2 hz hTI hTO y1 y2 hu hv fun g q1 q2 q3 q4 q5 q6 q7 => ?_)
      exact go g (.inr ⟨h.objs.size, false, _, q1, q5, hM⟩) q3 q4 q5 q6 q7
    · refine wpAny_bind (next2_item (s := { s with heap := h, toks := tk }) D N1 N2 hz ha hTI y1 y2 hu hv fun g q1 q3 q4 q5 q6 q7 => ?_)
      exact go g (.inr ⟨a0, true, oa, q1, q7 _ _ (ne_hi b2 hge) (ne_hi b5 hge) (ne_hi b6 hge) ha, hge⟩) q3 q4 q5 q6 fun c o e1 _ e3 e4 e => q7 c o e1 e3 e4 e
end
theorem zip_len : typeLookup (.type "zip") "__len__" = pure none := by rw [typeLookup_type, builtinLookup_eq_fast]; kernel_rfl
theorem zip_lh : typeLookup (.type "zip") "__length_hint__" = pure none := by rw [typeLookup_type, builtinLookup_eq_fast]; kernel_rfl
section
variable {P : Program} {w : World} {A : Around} {E : Value → Shared → Prop} {s : Shared} {z TI TO i1 i2 l1 l2 : Addr} {us vs : Array Value} {S1 S2 : Nat → Heap → Prop}
theorem zip_hint {Q : Bool → Shared → Prop} (hT : s.TypeIs (.ref z) "zip") (h : Q true s) : wpAny (model P w) A (Builtin.List.listLengthHint (.ref z)) Q E s := by
  unfold Builtin.List.listLengthHint
  refine wpAny_bind (wpAny_specialOf hT zip_len ?_)
  show wpAny _ _ (specialOf (.ref z) "__length_hint__" >>= _) _ _ _
  refine wpAny_bind (wpAny_specialOf hT zip_lh ?_)
  exact wpAny_pure h
theorem call_list_zip {n : Nat} {a b : Value} {Q : Value → Shared → Prop} (hh : A.handled = none) (D : ZA z TI TO i1 i2 l1 l2) (N1 : Nx P w i1 l1 us S1) (N2 : Nx P w i2 l2 vs S2)
    (hz : IsZip s.heap z TI TO .none) (hTI : IsPair s.heap TI (.ref i1) (.ref i2)) (hTO : IsPair s.heap TO a b) (h1 : S1 0 s.heap) (h2 : S2 0 s.heap) (hl1 : l1 < s.heap.objs.size) (hl2 : l2 < s.heap.objs.size) (e1 : us.size = n) (e2 : vs.size = n) (hn : n ≤ sizeLine)
    (hQ : ∀ h' tk acc c as, (∀ b o, b ≠ z → b ≠ TO → b ≠ i1 → b ≠ i2 → s.heap.get? b = some o → h'.get? b = some o) → h'.get? s.heap.objs.size = some { cls := .type "list", dict := none, data := .seq acc c, slots := #[] } → as.length = n → ZPs h' us vs (s.heap.objs.size + 1) as →
      acc.toList = as.map Value.ref → Q (.ref s.heap.objs.size) { s with heap := h', toks := tk }) :
    wpAny (model P w) A (call (.type "list") [.ref z]) Q E s := by
  refine callType_codes (Q₁ := fun obj s₁ => obj = .ref s.heap.objs.size ∧ s₁ = { s with heap := s.heap.push { cls := .type "list", data := .seq #[] } }) PySem.F.called_list (PySem.F.typeCall_list_1 _) PySem.F.entry_list_init
    (code_list_new _ ⟨rfl, rfl⟩) fun obj s₁ h₁ => ?_
  obtain ⟨rfl, rfl⟩ := h₁
  have hS : (s.heap.push { cls := .type "list", data := .seq #[] }).get? s.heap.objs.size = some { cls := .type "list", data := .seq #[] } := Heap.get?_push_size _ rfl
  have hsz : (s.heap.push { cls := .type "list", data := .seq #[] }).objs.size = s.heap.objs.size + 1 := size_push' _ _
  have zlt : z < s.heap.objs.size := Heap.lt_size hz
  have TIlt : TI < s.heap.objs.size := Heap.lt_size hTI
  have TOlt : TO < s.heap.objs.size := Heap.lt_size hTO
  obtain ⟨o1, g1, _⟩ := N1.there 0 _ h1
  obtain ⟨o2, g2, _⟩ := N2.there 0 _ h2
  have i1lt : i1 < s.heap.objs.size := Heap.lt_size g1
  have i2lt : i2 < s.heap.objs.size := Heap.lt_size g2
  refine ⟨⟨_, hS, rfl⟩, PySem.F.args_list_init_2 _ _, ?_⟩
  show wpAny _ _ (do let old ← Builtin.List.listItems (.ref s.heap.objs.size); Builtin.List.listUpdate (.ref s.heap.objs.size) (fun _ => #[]); letGo old.toList.reverse; Builtin.List.listExtendWith (.ref s.heap.objs.size) (.ref z) .none) _ _ _
  refine wpAny_bind ?_
  unfold Builtin.List.listItems
  refine wpAny_bind (wpAny_seqItems hS rfl (wpAny_pure ?_))
  show wpAny _ _ (updateSeq s.heap.objs.size (fun _ => #[]) >>= fun _ => letGo (#[] : Array Value).toList.reverse >>= fun _ => Builtin.List.listExtendWith (.ref s.heap.objs.size) (.ref z) .none) _ _ _
  refine wpAny_bind (wpAny_updateSeq hS rfl ?_)
  have hS₂ := Heap.get?_update_self (Obj.mapSeq (fun _ => (#[] : Array Value))) hS rfl
  have oth : ∀ {g : Heap} {f : Obj → Obj} (b : Addr) (o : Obj), b ≠ s.heap.objs.size → g.get? b = some o → (g.update s.heap.objs.size f).get? b = some o := fun b o hb e => (Heap.get?_update_other _ _ (Ne.symm hb)).trans e
  have up2 : ∀ (b : Addr) (o : Obj), s.heap.get? b = some o → ((s.heap.push { cls := .type "list", data := .seq #[] }).update s.heap.objs.size (Obj.mapSeq (fun _ => (#[] : Array Value)))).get? b = some o := fun b o e => oth b o (Nat.ne_of_lt (Heap.lt_size e)) (Heap.get?_push_of_some _ e)
  refine wpAny_bind (wpAny_letGo ?_)
  unfold Builtin.List.listExtendWith
  refine wpAny_bind (wpAny_typeOf (T := "zip") ⟨_, up2 _ _ hz, rfl⟩ ?_)
  have q1 : Builtin.List.listSameRef (.ref s.heap.objs.size) (.ref z) = false := by simp [Builtin.List.listSameRef, Nat.ne_of_gt zlt]
  have q2 : (Value.type "zip" == Value.type "list") = false := by decide
  have q3 : (Value.type "zip" == Value.type "tuple") = false := by decide
  simp only [q1, q2, q3, Bool.or_false, Bool.false_eq_true, if_false]
  refine wpAny_bind (wpAny_pyIter_zip (up2 _ _ hz) ?_)
  refine wpAny_bind (wpAny_holding (zip_hint ⟨_, up2 _ _ hz, rfl⟩ ?_))
  rw [if_pos (by rfl)]
  refine wpAny_bind (wpAny_rule ?_)
  refine wpAny_bind ?_
  show wpAny _ _ (updateSeq s.heap.objs.size (·.push .none) >>= fun _ => updateSeq s.heap.objs.size (·.pop)) _ _ _
  refine wpAny_bind (wpAny_updateSeq hS₂ rfl ?_)
  have hS₃ := Heap.get?_update_self (Obj.mapSeq (·.push Value.none)) hS₂ rfl
  refine wpAny_updateSeq (hz := by seq_fits) hS₃ rfl ?_
  have hS₄ := Heap.get?_update_self (Obj.mapSeq (·.pop)) hS₃ rfl
  have up4 : ∀ (b : Addr) (o : Obj), s.heap.get? b = some o → ((((s.heap.push { cls := .type "list", data := .seq #[] }).update s.heap.objs.size (Obj.mapSeq (fun _ => (#[] : Array Value)))).update s.heap.objs.size (Obj.mapSeq (·.push Value.none))).update s.heap.objs.size (Obj.mapSeq (·.pop))).get? b = some o := fun b o e => oth b o (Nat.ne_of_lt (Heap.lt_size e)) (oth b o (Nat.ne_of_lt (Heap.lt_size e)) (up2 b o e))
  refine wpAny_pure ⟨plainId_quiet PySem.F.plain_extend_loop _, ?_⟩
  refine zip_loop (A := A.in1) (s := s) (S := s.heap.objs.size) (n := n) (h₁ := s.heap.push { cls := .type "list", data := .seq #[] }) hh D N1 N2 ⟨⟨by rw [hsz]; exact Nat.lt_succ_self _, by rw [hsz]; exact Nat.lt_succ_of_lt zlt, by rw [hsz]; exact Nat.lt_succ_of_lt TIlt, by rw [hsz]; exact Nat.lt_succ_of_lt TOlt, by rw [hsz]; exact Nat.lt_succ_of_lt i1lt, by rw [hsz]; exact Nat.lt_succ_of_lt i2lt⟩, Nat.ne_of_gt zlt, Nat.ne_of_gt TIlt, Nat.ne_of_gt TOlt, Nat.ne_of_gt i1lt, Nat.ne_of_gt i2lt⟩
    (Nat.ne_of_lt hl1) (Nat.ne_of_lt hl2) e1 e2 hn .none (fun h' tk acc c as k1 k2 k3 k4 k5 => ?_) n 0 _ _ _ _ [] (Nat.sub_zero _) (Nat.zero_le _) (.inl ⟨up4 _ _ hz, a, b, up4 _ _ hTO⟩) (up4 _ _ hTI) (N1.keep _ _ _ h1 (fun o e => up4 _ o e) fun o e => up4 _ o e) (N2.keep _ _ _ h2 (fun o e => up4 _ o e) fun o e => up4 _ o e)
    (fun b o x1 _ _ _ _ e => oth b o x1 (oth b o x1 (oth b o x1 e))) hS₄ rfl rfl ⟨List.Pairwise.nil, fun j a e => by cases e⟩ (by simp only [Heap.size_update]; exact Nat.le_refl _)
  rw [hsz] at k4
  exact ⟨rfl, hQ h' tk acc c as (fun b o x1 x2 x3 x4 e => k1 b o (Nat.ne_of_lt (Heap.lt_size e)) x1 x2 x3 x4 (Heap.get?_push_of_some _ e)) k2 k3 k4 k5⟩
end
section
variable {X : Cx}
def tLZ (K : PySem.W.Frag) (ta : TA) : TE := fun σ H Q => ta σ H fun vs H1 => ∃ (a b : Addr) (xs ys : List V), vs = [.ref a, .ref b] ∧ SqL K H1 a xs ∧ SqL K H1 b ys ∧ xs.length = ys.length ∧
  ∀ (l : Addr) (ps : List Addr) (H' : Hp), Same H1 H' → H1 l = none → H' l = some (.lst (ps.map V.ref)) → ps.length = xs.length → (∀ (j : Nat) (p : Addr) (x y : V), ps[j]? = some p → xs[j]? = some x → ys[j]? = some y → H' p = some (.tup [x, y])) → Q (.ref l) H'
theorem Inv.laidN {pins : List (Addr × Obj)} {σ : St} {s : Shared} {H H' : Hp} {h' : Heap} {t' : Nat} (I : Inv X pins σ H s) (k : ∀ b u, s.heap.get? b = some u → h'.get? b = some u) (sm : Same H H')
    (new : ∀ b o, H' b = some o → H b = some o ∨ (s.heap.objs.size ≤ b ∧ ObjOk X.prog X.w H' h' b o)) : Inv X pins σ H' { s with heap := h', toks := t' } := by
  refine I.un ?_ (fun b u e => ?_)
  · exact {
      keep := fun b u q _ _ _ => k b u q
      slot := fun b u q _ _ _ => ⟨u.slots, k b u q⟩
      free := fun b u q n _ => by
        cases e : H' b with
        | none => rfl
        | some o =>
          rcases new b o e with z | ⟨z, _⟩
          · rw [n] at z; cases z
          · exact absurd (Heap.lt_size q) (Nat.not_lt.mpr z)
      there := fun b u q _ => ⟨u, k b u q⟩
      tups := fun b xs q => sm _ _ q
      frzs := fun b u xs q => sm _ _ q
      tbls := fun b ps q => ⟨#[], by rw [sm _ _ q]; simp⟩ }
  · rcases new b u e with z | ⟨_, z⟩
    · exact (I.hok b u z).stay (fun c v _ q => k c v q) (fun c q => sm _ _ q) fun c xs q => sm _ _ q
    · exact z
def layP : Hp → List Addr → List (V × V) → Hp
  | H, p :: ps, z :: zs => layP (upd H p (.tup [z.1, z.2])) ps zs
  | H, _, _ => H
theorem layP_ok : ∀ {ps : List Addr} {zs : List (V × V)} {H : Hp}, (∀ p ∈ ps, H p = none) → ps.Nodup → Same H (layP H ps zs) ∧ (∀ (j : Nat) (p : Addr) (z : V × V), ps[j]? = some p → zs[j]? = some z → layP H ps zs p = some (.tup [z.1, z.2])) ∧
    ∀ q o, layP H ps zs q = some o → H q = some o ∨ ∃ (j : Nat) (z : V × V), ps[j]? = some q ∧ zs[j]? = some z ∧ o = .tup [z.1, z.2]
  | [], zs, H, _, _ => ⟨Same.refl _, (fun j p z e => by cases e), fun q o e => .inl e⟩
  | p :: ps, [], H, _, _ => ⟨Same.refl _, (fun j p z _ e => by cases e), fun q o e => .inl e⟩
  | p :: ps, z :: zs, H, hf, nd => by
    obtain ⟨np, nd'⟩ := List.nodup_cons.mp nd
    have hp := hf p (.head _)
    obtain ⟨a1, a2, a3⟩ := layP_ok (ps := ps) (zs := zs) (H := upd H p (.tup [z.1, z.2])) (fun q hq => by
      have hqp : q ≠ p := fun e => by subst e; exact np hq
      rw [upd_ne hqp]; exact hf q (.tail _ hq)) nd'
    refine ⟨(Same.new hp).trans a1, fun j q y e1 e2 => ?_, fun q o e => ?_⟩
    · cases j with
      | zero => cases e1; cases e2; exact a1 _ _ upd_same
      | succ j => exact a2 j q y e1 e2
    · rcases a3 q o e with h | ⟨j, y, e1, e2, e3⟩
      · by_cases hq : q = p
        · subst hq
          rw [upd_same] at h
          cases h
          exact .inr ⟨0, z, rfl, rfl, rfl⟩
        · rw [upd_ne hq] at h
          exact .inl h
      · exact .inr ⟨j + 1, y, e1, e2, e3⟩
theorem pe_listZip {a b : Expr} {ta : TA} {p1 p2 p3 pos : Pos} (hh : X.A.handled = none) (g1 : Gl X "list") (m1 : X.mg "list" = none) (g2 : Gl X "zip") (m2 : X.mg "zip" = none) (ha : PA X [a, b] ta)
    (h1 : starEach [.Call (.Name "zip" p2) [a, b] [] p3] X.env = [(false, eval (.Call (.Name "zip" p2) [a, b] [] p3) X.env)] := by rfl) (hs : starEach [a, b] X.env = [(false, eval a X.env), (false, eval b X.env)] := by rfl) (hs2 : starEach [b] X.env = [(false, eval b X.env)] := by rfl) :
    PE X (.Call (.Name "list" p1) [.Call (.Name "zip" p2) [a, b] [] p3] [] pos) (tLZ X.K ta) := by
  intro pins s σ H Q I h
  refine wpAny_Call_Name_kw (ld_blt I g1 m1 bootList ?_ (by decide) (by decide))
  refine PyProof.Rows.callWith_type1 ?_ h1 rfl
  rw [h1]
  refine Calls.spliced_cons ?_
  refine wpAny_Call_Name_kw (ld_blt I g2 m2 bootZipG (PyProof.Rows.callWith_type1 (thn (ha p3 pins s σ H _ I h) fun us s1 ⟨vs, H1, I1, r1, q1⟩ => ?_) (by rw [hs, hs2]) (by rw [hs2]; rfl)) (by decide) (by decide))
  obtain ⟨l, m, xs, ys, e, hq, hq2, hl, q⟩ := q1
  subst e
  obtain ⟨u, v, rfl, ru, rv0⟩ := vals2 r1
  obtain rfl : u = Value.ref l := ru
  obtain rfl : v = Value.ref m := rv0
  obtain ⟨its, rv, pl, hz1⟩ := I1.list hq
  obtain ⟨its2, rv2, pl2, _⟩ := I1.list hq2
  have lx := rv.length
  have ly := rv2.length
  have sq1 : IsSq false s1.heap l its.toArray := pl.isList
  have sq2 : IsSq false s1.heap m its2.toArray := pl2.isList
  have D := za_new sq1.lt sq2.lt
  refine call_zipG sq1 sq2 fun g e1 e2 e3 e4 e5 hk => Calls.spliced_nil ?_
  obtain ⟨dA, dB, dC, dD⟩ := id D
  refine call_list_zip (s := { s1 with heap := g }) (n := xs.length) hh D (nx_list (us := its.toArray) dC.2.2.1) (nx_list (us := its2.toArray) dD.2.2) e1 e2 e3 ⟨e4, (pl.isList).at fun o e => hk _ _ e⟩ ⟨e5, (pl2.isList).at fun o e => hk _ _ e⟩
    (Nat.lt_of_lt_of_le sq1.lt (Nat.le_of_lt (Nat.lt_of_le_of_lt (Nat.le_add_right _ 4) (Heap.lt_size e1)))) (Nat.lt_of_lt_of_le sq2.lt (Nat.le_of_lt (Nat.lt_of_le_of_lt (Nat.le_add_right _ 4) (Heap.lt_size e1)))) (by rw [List.size_toArray, lx]) (by rw [List.size_toArray, ← ly, hl]) hz1 fun h' tk acc c as k1 k2 k3 k4 k5 => ?_
  have le : s1.heap.objs.size ≤ g.objs.size := Nat.le_of_lt (Nat.lt_of_le_of_lt (Nat.le_add_right _ 4) (Heap.lt_size e1))
  obtain ⟨rise, prs⟩ := k4
  have ge : ∀ p ∈ as, s1.heap.objs.size ≤ p ∧ g.objs.size < p := fun p hp => by
    obtain ⟨j, hj⟩ := List.mem_iff_getElem?.mp hp
    obtain ⟨z1, _⟩ := prs j p hj
    exact ⟨Nat.le_trans le (Nat.le_of_succ_le z1), z1⟩
  have keep : ∀ b o, s1.heap.get? b = some o → h'.get? b = some o := fun b o e => by
    have lt := Heap.lt_size e
    have lt4 : ∀ n, b ≠ s1.heap.objs.size + n := fun n => Nat.ne_of_lt (Nat.lt_of_lt_of_le lt (Nat.le_add_right _ n))
    exact k1 b o (lt4 4) (lt4 3) (Nat.ne_of_lt lt) (lt4 1) (hk b o e)
  have nd : as.Nodup := rise.imp fun h => Nat.ne_of_lt h
  have fr : ∀ p ∈ as, (upd H1 g.objs.size (.lst (as.map V.ref))) p = none := fun p hp => by
    rw [upd_ne (Nat.ne_of_gt (ge p hp).2)]
    exact I1.hok.fresh (ge p hp).1
  have fl : H1 g.objs.size = none := I1.hok.fresh le
  obtain ⟨s2, at2, new2⟩ := layP_ok (zs := xs.zip ys) fr nd
  have s12 := (Same.new (o := .lst (as.map V.ref)) fl).trans s2
  have atl := s2 _ _ (upd_same (H := H1) (a := g.objs.size) (o := .lst (as.map V.ref)))
  have atp : ∀ (j : Nat) (p : Addr) (x y : V), as[j]? = some p → xs[j]? = some x → ys[j]? = some y → layP (upd H1 g.objs.size (.lst (as.map V.ref))) as (xs.zip ys) p = some (.tup [x, y]) := fun j p x y a1 a2 a3 =>
    at2 j p (x, y) a1 (by rw [List.getElem?_zip_eq_some]; exact ⟨a2, a3⟩)
  refine ⟨.ref g.objs.size, layP (upd H1 g.objs.size (.lst (as.map V.ref))) as (xs.zip ys), I1.laidN (t' := tk) keep s12 (fun b o e => ?_), rfl, q _ as _ s12 fl atl k3 atp⟩
  rcases new2 b o e with z | ⟨j, ⟨x, y⟩, z1, z2, z3⟩
  · by_cases hb : b = g.objs.size
    · subst hb
      rw [upd_same] at z
      cases z
      refine .inr ⟨le, by rw [List.length_map, k3]; exact hz1, acc.toList, c, ?_, by rw [Array.toArray_toList]; exact k2⟩
      rw [k5]
      clear k3 prs ge nd fr rise k5 s2 at2 new2 s12 atl atp e
      induction as with
      | nil => exact .nil
      | cons a r ih => exact .cons rfl ih
    · rw [upd_ne hb] at z
      exact .inl z
  · obtain ⟨z4, u, v, z5, z6, z7⟩ := prs j b z1
    obtain ⟨zx, zy⟩ := List.getElem?_zip_eq_some.mp z2
    obtain ⟨u', w1, w2⟩ := rv.get zx
    obtain ⟨v', w3, w4⟩ := rv2.get zy
    have eu : u = u' := by simpa [w1] using z5.symm
    have ev : v = v' := by simpa [w3] using z6.symm
    subst eu ev z3
    exact .inr ⟨(ge b (List.mem_of_getElem? z1)).1, by rw [sizeLine_eq]; show 2 ≤ 16777216; omega, [u, v], .cons w2 (.cons w4 .nil), _, z7, rfl, 0, rfl⟩
end
end L2
namespace K78
open PySem L2 PyProof.Rows
def top (i : Nat) : Stmt := PySem.Challenge.pw_grantweave_k78_whole_any_folder_text.main.body.getD i (.Pass ⟨0, 0, 0, 0⟩)
structure Txt (mg : Str → Option Value) : Prop where
  n_len : mg "len" = none
  n_isinstance : mg "isinstance" = none
  n_range : mg "range" = none
  n_int : mg "int" = none
  n_bool : mg "bool" = none
  n_str : mg "str" = none
  n_tuple : mg "tuple" = none
  n_list : mg "list" = none
  n_all : mg "all" = none
  n_zip : mg "zip" = none
  n_min : mg "min" = none
  n_max : mg "max" = none
  n_dict : mg "dict" = none
  n_reversed : mg "reversed" = none
  n_sorted : mg "sorted" = none
  g_LETTERS : ∃ t, mg "LETTERS" = some (.str "abcdefghijklmnopqrstuvwxyz" t)
  g_LONGEST_WORD : ∃ t, mg "LONGEST_WORD" = some (.int 8 t)
  g_FIRST_JOIN_WORD : ∃ t, mg "FIRST_JOIN_WORD" = some (.int 4 t)
section
variable {P : Program} {w : World} {K : PySem.W.Frag} {mg : Str → Option Value} {base : Heap}
abbrev s_law_cell : Stmt := top 33
theorem sc_law_cell : FnScope ["_law_script", "_law_k"] ["_law_script", "_law_k"] (defScope s_law_cell) := ⟨rfl, rfl, rfl, by decide +kernel, rfl, by decide +kernel, by decide +kernel⟩
theorem ok_cell (T : Txt mg) (F : TopFn K mg "_law_cell" s_law_cell ["_law_script", "_law_k"]) : FnAt P w K mg base "_law_cell" 1 ["_law_script", "_law_k"] (spCell K) := by
  refine F.at sc_law_cell (fun vs H Q E h => ?_) (fun f cdv A outer s H vs Q E hr h => ?_)
  · obtain ⟨a, ns, k, rfl, _⟩ := h
    rfl
  · obtain ⟨a, ns, k, rfl, hS, q⟩ := h
    refine ⟨_, (pss_cons (ps_if (pt_cmpR op_lt (pv 1) (pe_callB call_len rfl T.n_len boot_len (pa_cons (pv 0) pa_nil)) (nomark _)) (pss_one (ps_ret (pe_ix ix_list (pv 0) (pv 1) (fun _ _ => rfl)))) pss_nil)
      (pss_one (ps_ret (pe_op op_add (pe_op op_mul pe_int (pv 1)) pe_int)))), ?_⟩
    refine ⟨_, rfl, _, rfl, _, _, rfl, .inl ⟨_, hS, rfl⟩, _, _, rfl, rfl, _, rfl, ite2 (fun hlt => ?_) (fun _ => ?_)⟩
    · have hlt : (k : Int) < (((ns.map V.int).length : Nat) : Int) := of_decide_eq_true hlt
      have hk : k < ns.length := by rw [List.length_map] at hlt; omega
      refine ⟨_, rfl, _, rfl, a, _, _, V.int ns[k], rfl, rfl, hS, atI_nat (by rw [List.getElem?_map, List.getElem?_eq_getElem hk]; rfl), q _⟩
    · exact ⟨_, rfl, _, _, rfl, rfl, .inl ⟨by decide, by decide⟩, _, _, rfl, rfl, q _⟩
abbrev s_law_mixed : Stmt := top 34
theorem sc_law_mixed : FnScope ["_law_cell_here", "_law_k", "_law_number"] ["_law_cell_here", "_law_k"] (defScope s_law_mixed) := ⟨rfl, rfl, rfl, by decide +kernel, rfl, by decide +kernel, by decide +kernel⟩
theorem ok_mixed (F : TopFn K mg "_law_mixed" s_law_mixed ["_law_cell_here", "_law_k"]) : FnAt P w K mg base "_law_mixed" 1 ["_law_cell_here", "_law_k"] spMixed := by
  refine F.at sc_law_mixed (fun vs H Q E h => ?_) (fun f cdv A outer s H vs Q E hr h => ?_)
  · obtain ⟨a, k, rfl, _⟩ := h
    rfl
  · obtain ⟨a, k, rfl, q⟩ := h
    refine ⟨_, (pss_cons (ps_set (i := 2) sc_law_mixed.nd rfl (by first | exact Or.inl rfl | exact Or.inr rfl) (pe_op op_mod (pe_op op_add (pe_op op_add (pe_op op_mul (pe_op op_mod (pv 0) pe_int) pe_int) (pe_op op_mul pe_int (pv 1))) pe_int) pe_int))
      (pss_cons (ps_set (i := 2) sc_law_mixed.nd rfl (by first | exact Or.inl rfl | exact Or.inr rfl) (pe_op op_mod (pe_op op_add (pe_op op_add (pe_op op_mul (pv 2) (pv 2)) (pe_op op_mul pe_int (pv 1))) pe_int) pe_int))
      (pss_one (ps_ret (pe_op op_mod (pe_op op_mul (pv 2) (pv 2)) pe_int))))), ?_⟩
    have md : ∀ (x : Int) (y : Int), 0 < y → y < 4294967296 → -(2 ^ 64) < x % y ∧ x % y < 2 ^ 64 := fun x y h1 h2 => by
      have a1 := Int.emod_nonneg x (show y ≠ 0 by omega)
      have a2 := Int.emod_lt_of_pos x h1
      omega
    refine ⟨_, rfl, _, _, rfl, rfl, (by show (0 : Int) < _; decide), _, _, rfl, rfl, .inr ⟨by decide, by decide⟩, _, rfl, _, _, rfl, rfl, .inl ⟨by decide, by decide⟩, _, _, rfl, rfl, _, _, rfl, rfl, _, _, rfl, rfl, (by show (0 : Int) < _; decide), ?_⟩
    refine ⟨_, rfl, _, rfl, _, _, rfl, rfl, .inl (md _ _ (by decide) (by decide)), _, rfl, _, _, rfl, rfl, .inl ⟨by decide, by decide⟩, _, _, rfl, rfl, _, _, rfl, rfl, _, _, rfl, rfl, (by show (0 : Int) < _; decide), ?_⟩
    exact ⟨_, rfl, _, rfl, _, _, rfl, rfl, .inl (md _ _ (by decide) (by decide)), _, _, rfl, rfl, (by show (0 : Int) < _; decide), q _⟩
abbrev s_law_box : Stmt := top 35
theorem sc_law_box : FnScope ["_law_cell_here"] ["_law_cell_here"] (defScope s_law_box) := ⟨rfl, rfl, rfl, by decide +kernel, rfl, by decide +kernel, by decide +kernel⟩
theorem ok_box (F : TopFn K mg "_law_box" s_law_box ["_law_cell_here"]) : FnAt P w K mg base "_law_box" 1 ["_law_cell_here"] spBox := by
  refine F.at sc_law_box (fun vs H Q E h => ?_) (fun f cdv A outer s H vs Q E hr h => ?_)
  · obtain ⟨c, rfl, _⟩ := h
    rfl
  · obtain ⟨c, rfl, q⟩ := h
    refine ⟨_, (pss_cons (ps_if (pt_cmpR op_ge (pv 0) (pe_op op_pow pe_int pe_int) (nomark _)) (pss_one (ps_ret (pe_lst (pa_cons (pv 0) (pa_cons (pe_op op_mod (pv 0) pe_int) (pa_cons pe_int pa_nil)))))) pss_nil)
      (pss_one (ps_ret (pe_lst (pa_cons pe_int (pa_cons (pe_op op_mod (pv 0) pe_int) (pa_cons pe_int pa_nil))))))), ?_⟩
    refine ⟨_, rfl, _, _, rfl, rfl, ⟨by decide, by decide, by decide⟩, _, _, rfl, rfl, _, rfl, ite2 (fun _ => ?_) (fun _ => ?_)⟩
    · exact ⟨_, rfl, _, rfl, _, _, rfl, rfl, (by show (0 : Int) < _; decide), (by show 3 ≤ sizeLine; decide), fun p hp => q p _ _ _ hp⟩
    · exact ⟨_, rfl, _, _, rfl, rfl, (by show (0 : Int) < _; decide), (by show 3 ≤ sizeLine; decide), fun p hp => q p _ _ _ hp⟩
abbrev s_law_take : Stmt := top 36
theorem sc_law_take : FnScope ["_law_box_here", "_law_many", "_law_number"] ["_law_box_here", "_law_many"] (defScope s_law_take) := ⟨rfl, rfl, rfl, by decide +kernel, rfl, by decide +kernel, by decide +kernel⟩
theorem ok_take (F_mixed : FnAt P w K mg base "_law_mixed" 1 ["_law_cell_here", "_law_k"] spMixed) (F : TopFn K mg "_law_take" s_law_take ["_law_box_here", "_law_many"]) : FnAt P w K mg base "_law_take" 2 ["_law_box_here", "_law_many"] spTake := by
  refine F.at sc_law_take (fun vs H Q E h => ?_) (fun f cdv A outer s H vs Q E hr h => ?_)
  · obtain ⟨b, n, rfl, _⟩ := h
    rfl
  · obtain ⟨b, n, rfl, ⟨x, y, z, hb⟩, h0, h1, q⟩ := h
    refine ⟨_, (pss_cons (ps_if (pt_cmpR op_gt (pe_ix ix_list (pv 0) pe_int (fun _ _ => rfl)) pe_int (nomark _)) (pss_cons (ps_set (i := 2) sc_law_take.nd rfl (by first | exact Or.inl rfl | exact Or.inr rfl) (pe_op op_mod (pe_ix ix_list (pv 0) pe_int (fun _ _ => rfl)) (pv 1)))
      (pss_cons (ps_asg (pe_op op_fdivB (pe_ix ix_list (pv 0) pe_int (fun _ _ => rfl)) (pv 1)) (pg_sub (pv 0) pe_int set_list))
      (pss_one (ps_ret (pv 2))))) pss_nil)
      (pss_cons (ps_asg (pe_op op_add (pe_ix ix_list (pv 0) pe_int (fun _ _ => rfl)) pe_int) (pg_sub (pv 0) pe_int set_list))
      (pss_one (ps_ret (pe_op op_mod (pe_fn F_mixed hr (by decide) rfl (pa_cons (pe_ix ix_list (pv 0) pe_int (fun _ _ => rfl)) (pa_cons (pe_ix ix_list (pv 0) pe_int (fun _ _ => rfl)) pa_nil))) (pv 1)))))), ?_⟩
    have a1 : ∀ r : Int, 0 ≤ r % n := fun r => Int.emod_nonneg r (show n ≠ 0 by omega)
    have a2 : ∀ r : Int, r % n < n := fun r => Int.emod_lt_of_pos r h0
    have oth : ∀ x y z : Int, Oth b H (upd H b (.lst [.int x, .int y, .int z])) := fun x y z => ⟨⟨x, y, z, upd_same⟩, fun c o e nc => by rw [upd_ne nc]; exact e⟩
    refine ⟨_, rfl, b, _, _, V.int x, rfl, rfl, SqL.of hb, rfl, _, _, rfl, rfl, _, rfl, ite2 (fun _ => ?_) (fun _ => ?_)⟩
    · refine ⟨_, rfl, b, _, _, V.int x, rfl, rfl, SqL.of hb, rfl, _, rfl, _, _, rfl, rfl, h0, ?_⟩
      refine ⟨_, rfl, b, _, _, V.int x, rfl, rfl, SqL.of hb, rfl, _, rfl, _, _, rfl, rfl, ⟨h0, h1⟩, ?_⟩
      refine ⟨_, rfl, b, _, _, 0, rfl, rfl, hb, rfl, ?_⟩
      exact ⟨_, rfl, q _ _ (a1 _) (a2 _) (oth _ _ _)⟩
    · refine ⟨_, rfl, b, _, _, V.int z, rfl, rfl, SqL.of hb, rfl, _, _, rfl, rfl, ?_⟩
      refine ⟨_, rfl, b, _, _, 2, rfl, rfl, hb, rfl, ?_⟩
      refine ⟨_, rfl, b, _, _, V.int y, rfl, rfl, SqL.of upd_same, rfl, _, rfl, b, _, _, V.int (z + 1), rfl, rfl, SqL.of upd_same, rfl, _, _, rfl, fun r => ?_⟩
      exact ⟨_, rfl, _, _, rfl, rfl, h0, q _ _ (a1 _) (a2 _) (oth _ _ _)⟩
end

end K78
namespace K78
open PySem L2 PyProof.Rows
section
variable {P : Program} {w : World} {K : PySem.W.Frag} {mg : Str → Option Value} {base : Heap}
def Arg (K : PySem.W.Frag) (H : Hp) (x : V) : Prop := ∃ k, KdOf K H x k
theorem kd_str {H : Hp} {x : V} {k : Kd} (h : KdOf K H x k) (e : k.isA .str = true) : ∃ z, x = .str z := by
  have h : TyOf K H x (.type k.nm) := h
  generalize hT : Value.type k.nm = T at h
  cases h <;> cases k <;> first | exact ⟨_, rfl⟩ | exact absurd e (by decide) | exact absurd (Value.type.inj hT) (by decide) | cases hT
theorem kd_nostr {H : Hp} {x : V} {k : Kd} (h : KdOf K H x k) (e : k.isA .str = false) : wordV x = false := by
  have h : TyOf K H x (.type k.nm) := h
  generalize hT : Value.type k.nm = T at h
  cases h <;> cases k <;> first | rfl | exact absurd e (by decide) | exact absurd (Value.type.inj hT) (by decide) | cases hT
def spWord (K : PySem.W.Frag) : Sp := fun vs H Q _ => ∃ x, vs = [x] ∧ Arg K H x ∧ (∀ z, x = .str z → z.length ≤ 1200) ∧ ∀ H', Same H H' → Q (.bl (wordV x)) H'
abbrev sis_word : Stmt := top 9
theorem scis_word : FnScope ["thing"] ["thing"] (defScope sis_word) := ⟨rfl, rfl, rfl, by decide +kernel, rfl, by decide +kernel, by decide +kernel⟩
theorem take_map_snoc (z : Str) {i : Nat} (hi : i < z.cps.size) (g : Nat → V) : (z.cps.toList.take i).map g ++ [g (z.cps.getD i 0)] = (z.cps.toList.take (i + 1)).map g := by
  have e : z.cps.getD i 0 = z.cps.toList[i]'(by simpa using hi) := by
    rw [Array.getD_eq_getD_getElem?, Array.getElem?_eq_getElem hi]; simp
  rw [List.take_succ_eq_append_getElem (by simpa using hi), List.map_append, e]
  rfl
theorem ok_word (T : Txt mg) (F : TopFn K mg "is_word" sis_word ["thing"]) : FnAt P w K mg base "is_word" 1 ["thing"] (spWord K) := by
  refine F.at scis_word (fun vs H Q E h => ?_) (fun f cdv A outer s H vs Q E hr h => ?_)
  · obtain ⟨x, rfl, _⟩ := h
    rfl
  · obtain ⟨x, rfl, ⟨k, hk⟩, hl, q⟩ := h
    refine ⟨_, (pss_cons (ps_if (PW.pt (pw_or (pt_not (pt_val (pe_callB (call_isKd .str (by simp)) rfl T.n_isinstance boot_isinstance (pa_cons (pv 0) (pa_cons (pe_bltn (v := .ty "str") rfl T.n_str boot_str rfl) pa_nil))))) (pw_or1 (pt_not (pt_chain op_le op_le pe_int (pe_callB call_len rfl T.n_len boot_len (pa_cons (pv 0) pa_nil)) (pe_globI rfl T.g_LONGEST_WORD)))))) (pss_one (ps_ret pe_bl)) pss_nil)
      (pss_one (ps_ret (pe_callB (call_allB rfl) rfl T.n_all boot_all (pa_cons (pe_comp (sc := defScope sis_word) (N0 := ["thing"]) (xs := ["sign"]) (ys := []) (js := []) ⟨rfl, by decide +kernel, by decide +kernel, by decide +kernel, by decide +kernel⟩ rfl (pi_str (pv 0)) (fun _ _ _ _ => (pg_name (i := 0) (show (["sign"] : List Str).Nodup by decide +kernel) rfl (by first | exact Or.inl rfl | exact Or.inr rfl))) (fun _ _ _ _ => pq_nil) (fun _ _ _ _ => (pe_cmpR op_in_str (pv 0) (pe_globS rfl T.g_LETTERS) (by with_unfolding_all rfl)))) pa_nil))))), ?_⟩
    refine ⟨_, rfl, x, k, rfl, hk, _, rfl, ?_⟩
    cases e : k.isA .str with
    | false =>
      refine iteT (iteT ?_)
      have := q H (Same.refl H)
      rw [kd_nostr hk e] at this
      exact this
    | true =>
      refine iteF ?_
      obtain ⟨z, rfl⟩ := kd_str hk e
      have hz := hl z rfl
      have hs : sizeLine = 16777216 := sizeLine_eq
      refine ⟨_, rfl, _, _, rfl, ⟨by omega, rfl⟩, _, _, rfl, rfl, _, rfl, ?_⟩
      have no : ¬ (1 ≤ z.length ∧ z.length ≤ 8) → Q (.bl false) H := fun hn => by
        have := q H (Same.refl H)
        have e2 : wordV (.str z) = false := by
          show (decide (1 ≤ z.length ∧ z.length ≤ 8) && z.cps.toList.all isLow) = false
          rw [decide_eq_false hn]; rfl
        rw [e2] at this
        exact this
      refine ite2 (fun h1 => ?_) (fun h1 => ?_)
      · have h1 : (1 : Int) ≤ (z.length : Int) := of_decide_eq_true h1
        refine ⟨_, _, rfl, rfl, _, rfl, ?_⟩
        refine ite2 (fun h2 => ?_) (fun h2 => ?_)
        · have h2 : ¬ ((z.length : Int) ≤ 8) := by simpa using h2
          exact no (by omega)
        · have h2 : (z.length : Int) ≤ 8 := by simpa using h2
          refine ⟨_, rfl, z, rfl, comp_str (fun i ys H' => H' = H ∧ ys = (z.cps.toList.take i).map fun c => V.bl (isLow c)) ⟨rfl, rfl⟩ (by show z.length ≤ sizeLine; omega) ?_ ?_ ?_⟩
          · rintro i ys H' ⟨rfl, rfl⟩
            simp; omega
          · rintro i ys H' hi ⟨rfl, rfl⟩
            refine ⟨_, rfl, _, _, rfl, rfl, rfl, ?_⟩
            have e3 : (!(Builtin.Str.occurrences (Str.ofString "abcdefghijklmnopqrstuvwxyz") (sgn z i) 0 (Str.ofString "abcdefghijklmnopqrstuvwxyz").length 1).isEmpty) = isLow (z.cps.getD i 0) := low_in _
            rw [e3]
            exact take_map_snoc z hi fun c => V.bl (isLow c)
          · rintro ys H' ⟨rfl, rfl⟩ p hp
            refine ⟨p, z.cps.toList.map isLow, rfl, SqL.of (by rw [upd_same, List.take_of_length_le (by simp), List.map_map]; rfl), ?_⟩
            have e2 : wordV (.str z) = (z.cps.toList.map isLow).all id := by
              show (decide (1 ≤ z.length ∧ z.length ≤ 8) && z.cps.toList.all isLow) = _
              rw [decide_eq_true (by omega), List.all_map]
              rfl
            have := q _ (Same.new (o := .lst ((z.cps.toList.take z.cps.size).map fun c => V.bl (isLow c))) hp)
            rw [e2] at this
            exact this
      · have h1 : ¬ ((1 : Int) ≤ (z.length : Int)) := by simpa using h1
        exact ⟨_, rfl, iteT (no (by omega))⟩
end
end K78
namespace L2
open PySem PyProof.Rows
theorem pe_fn0 {X : Cx} {x : Str} {sp : Sp} {k j : Nat} {p pos : Pos} (F : FnAt X.prog X.w X.K X.mg X.base x k [] sp) (hr : Room j X.A) (hj : k ≤ j) (hg : Gl X x)
    (hdb : (x == ("__debug__" : Str)) = false := by decide) : PE X (.Call (.Name x p) [] [] pos) (tCall sp [] E0 tNil) := by
  obtain ⟨f, fd, G, hm, hk, hb⟩ := F.ex
  exact pe_call0 G (hr.mono hj) hg hm hk hb .nil pass0 hdb
end L2
namespace K78
open PySem L2 PyProof.Rows
def nm : Nat → Str
  | 0 => "called"
  | 1 => "beside"
  | 2 => "joined"
  | _ => "changed"
structure Js where
  c0 : Addr
  c1 : Addr
  c2 : Addr
  c3 : Addr
def Js.c (J : Js) : Nat → Addr
  | 0 => J.c0
  | 1 => J.c1
  | 2 => J.c2
  | _ => J.c3
def JAt (J : Js) (H : Hp) (p : Addr) (j : Nat) : Prop := ∃ dx, H p = some (.ins (J.c j) dx [])
theorem JAt.same {J : Js} {H H' : Hp} {p : Addr} {j : Nat} (h : JAt J H p j) (s : Same H H') : JAt J H' p j := by
  obtain ⟨dx, h⟩ := h
  exact ⟨dx, s _ _ h⟩
theorem j4 {j : Nat} (h : j < 4) : j = 0 ∨ j = 1 ∨ j = 2 ∨ j = 3 := by omega
def spC (v : V) : Sp := fun vs H Q _ => (∃ a, vs = [.ref a]) ∧ Q v H
structure JHas (P : Program) (w : World) (K : PySem.W.Frag) (mg : Str → Option Value) (base : Heap) (J : Js) : Prop where
  n0 : New0 K mg "Called" J.c0
  n1 : New0 K mg "Beside" J.c1
  n2 : New0 K mg "Joined" J.c2
  n3 : New0 K mg "Changed" J.c3
  word : ∀ j, j < 4 → MethD P w K mg base CX0 1 (J.c j) "word" ["self"] (spC (.str (nm j)))
def DW (J : Js) : Addr → Sp → Prop := fun C sp => ∃ j, j < 4 ∧ C = J.c j ∧ sp = spC (.str (nm j))
section
variable {P : Program} {w : World} {K : PySem.W.Frag} {mg : Str → Option Value} {base : Heap} {J : Js}
theorem JHas.hDW (D : JHas P w K mg base J) : ∀ C sp, DW J C sp → MethD P w K mg base CX0 1 C "word" ["self"] sp := by
  rintro C sp ⟨j, hj, rfl, rfl⟩
  exact D.word j hj
theorem new_same {H : Hp} {C x dx : Addr} (hx : H x = none) (hd : H dx = none) : Same H (upd (upd H dx (.own x)) x (.ins C dx [])) := fun b o e => by rw [upd_ne (ne_of_none e hx), upd_ne (ne_of_none e hd)]; exact e
abbrev sCalled_word : Stmt := inClass (top 16) 0
theorem scCalled_word : FnScope ["self"] ["self"] (defScope sCalled_word) := ⟨rfl, rfl, rfl, by decide +kernel, rfl, by decide +kernel, by decide +kernel⟩
theorem ok_Called_word {f : Addr} {fd : FuncData} (F : Fun K "word" "Called.word" sCalled_word f fd) : FnOk P w K mg base CX0 1 f fd ["self"] (spC (.str (nm 0))) := by
  refine F.ok scCalled_word (fun vs H Q E h => ?_) (fun cdv A outer s H vs Q E hr h => ?_)
  · obtain ⟨⟨a, rfl⟩, _⟩ := h
    rfl
  · obtain ⟨⟨a, rfl⟩, q⟩ := h
    refine ⟨_, (pss_one (ps_ret pe_str)), ?_⟩
    exact q
abbrev sBeside_word : Stmt := inClass (top 17) 0
theorem scBeside_word : FnScope ["self"] ["self"] (defScope sBeside_word) := ⟨rfl, rfl, rfl, by decide +kernel, rfl, by decide +kernel, by decide +kernel⟩
theorem ok_Beside_word {f : Addr} {fd : FuncData} (F : Fun K "word" "Beside.word" sBeside_word f fd) : FnOk P w K mg base CX0 1 f fd ["self"] (spC (.str (nm 1))) := by
  refine F.ok scBeside_word (fun vs H Q E h => ?_) (fun cdv A outer s H vs Q E hr h => ?_)
  · obtain ⟨⟨a, rfl⟩, _⟩ := h
    rfl
  · obtain ⟨⟨a, rfl⟩, q⟩ := h
    refine ⟨_, (pss_one (ps_ret pe_str)), ?_⟩
    exact q
abbrev sJoined_word : Stmt := inClass (top 18) 0
theorem scJoined_word : FnScope ["self"] ["self"] (defScope sJoined_word) := ⟨rfl, rfl, rfl, by decide +kernel, rfl, by decide +kernel, by decide +kernel⟩
theorem ok_Joined_word {f : Addr} {fd : FuncData} (F : Fun K "word" "Joined.word" sJoined_word f fd) : FnOk P w K mg base CX0 1 f fd ["self"] (spC (.str (nm 2))) := by
  refine F.ok scJoined_word (fun vs H Q E h => ?_) (fun cdv A outer s H vs Q E hr h => ?_)
  · obtain ⟨⟨a, rfl⟩, _⟩ := h
    rfl
  · obtain ⟨⟨a, rfl⟩, q⟩ := h
    refine ⟨_, (pss_one (ps_ret pe_str)), ?_⟩
    exact q
abbrev sChanged_word : Stmt := inClass (top 19) 0
theorem scChanged_word : FnScope ["self"] ["self"] (defScope sChanged_word) := ⟨rfl, rfl, rfl, by decide +kernel, rfl, by decide +kernel, by decide +kernel⟩
theorem ok_Changed_word {f : Addr} {fd : FuncData} (F : Fun K "word" "Changed.word" sChanged_word f fd) : FnOk P w K mg base CX0 1 f fd ["self"] (spC (.str (nm 3))) := by
  refine F.ok scChanged_word (fun vs H Q E h => ?_) (fun cdv A outer s H vs Q E hr h => ?_)
  · obtain ⟨⟨a, rfl⟩, _⟩ := h
    rfl
  · obtain ⟨⟨a, rfl⟩, q⟩ := h
    refine ⟨_, (pss_one (ps_ret pe_str)), ?_⟩
    exact q
def spAll (J : Js) : Sp := fun vs H Q _ => vs = [] ∧ ∀ (l p0 p1 p2 p3 : Addr) (H' : Hp), Same H H' → H' l = some (.lst [.ref p0, .ref p1, .ref p2, .ref p3]) → JAt J H' p0 0 → JAt J H' p1 1 → JAt J H' p2 2 → JAt J H' p3 3 → Q (.ref l) H'
abbrev sall_joins : Stmt := top 20
theorem scall_joins : FnScope [] [] (defScope sall_joins) := ⟨rfl, rfl, rfl, by decide +kernel, rfl, by decide +kernel, by decide +kernel⟩
theorem ok_all (D : JHas P w K mg base J) (F : TopFn K mg "all_joins" sall_joins []) : FnAt P w K mg base "all_joins" 1 [] (spAll J) := by
  refine F.at scall_joins (fun vs H Q E h => ?_) (fun f cdv A outer s H vs Q E hr h => ?_)
  · obtain ⟨rfl, _⟩ := h
    rfl
  · obtain ⟨rfl, q⟩ := h
    refine ⟨_, (pss_one (ps_ret (pe_lst (pa_cons (pe_new0 D.n0 rfl) (pa_cons (pe_new0 D.n1 rfl) (pa_cons (pe_new0 D.n2 rfl) (pa_cons (pe_new0 D.n3 rfl) pa_nil))))))), ?_⟩
    intro p0 d0 x0 y0 _
    have s0 := new_same (C := J.c0) x0 y0
    have a0 : upd (upd H d0 (.own p0)) p0 (.ins J.c0 d0 []) p0 = some (.ins J.c0 d0 []) := upd_same
    generalize upd (upd H d0 (.own p0)) p0 (.ins J.c0 d0 []) = H0 at s0 a0 ⊢
    replace a0 : JAt J H0 p0 0 := ⟨_, a0⟩
    intro p1 d1 x1 y1 _
    have s1 := new_same (C := J.c1) x1 y1
    have a1 : upd (upd H0 d1 (.own p1)) p1 (.ins J.c1 d1 []) p1 = some (.ins J.c1 d1 []) := upd_same
    generalize upd (upd H0 d1 (.own p1)) p1 (.ins J.c1 d1 []) = H1 at s1 a1 ⊢
    replace a1 : JAt J H1 p1 1 := ⟨_, a1⟩
    intro p2 d2 x2 y2 _
    have s2 := new_same (C := J.c2) x2 y2
    have a2 : upd (upd H1 d2 (.own p2)) p2 (.ins J.c2 d2 []) p2 = some (.ins J.c2 d2 []) := upd_same
    generalize upd (upd H1 d2 (.own p2)) p2 (.ins J.c2 d2 []) = H2 at s2 a2 ⊢
    replace a2 : JAt J H2 p2 2 := ⟨_, a2⟩
    intro p3 d3 x3 y3 _
    have s3 := new_same (C := J.c3) x3 y3
    have a3 : upd (upd H2 d3 (.own p3)) p3 (.ins J.c3 d3 []) p3 = some (.ins J.c3 d3 []) := upd_same
    generalize upd (upd H2 d3 (.own p3)) p3 (.ins J.c3 d3 []) = H3 at s3 a3 ⊢
    replace a3 : JAt J H3 p3 3 := ⟨_, a3⟩
    refine ⟨(by show 4 ≤ sizeLine; decide), fun l hl => ?_⟩
    have s4 := Same.new (o := .lst [.ref p0, .ref p1, .ref p2, .ref p3]) hl
    have t3 := s3.trans s4
    have t2 := s2.trans t3
    have t1 := s1.trans t2
    exact q l p0 p1 p2 p3 _ (s0.trans t1) upd_same (a0.same t1) (a1.same t2) (a2.same t3) (a3.same s4)
theorem at4 {J : Js} {H1 : Hp} {p0 p1 p2 p3 : Addr} (a0 : JAt J H1 p0 0) (a1 : JAt J H1 p1 1) (a2 : JAt J H1 p2 2) (a3 : JAt J H1 p3 3) : ∀ i y, ([V.ref p0, V.ref p1, V.ref p2, V.ref p3] : List V)[i]? = some y → ∃ p dx, i < 4 ∧ y = V.ref p ∧ H1 p = some (.ins (J.c i) dx []) := by
  intro i y e
  match i, e with
  | 0, e => cases e; obtain ⟨dx, h⟩ := a0; exact ⟨_, dx, by decide, rfl, h⟩
  | 1, e => cases e; obtain ⟨dx, h⟩ := a1; exact ⟨_, dx, by decide, rfl, h⟩
  | 2, e => cases e; obtain ⟨dx, h⟩ := a2; exact ⟨_, dx, by decide, rfl, h⟩
  | 3, e => cases e; obtain ⟨dx, h⟩ := a3; exact ⟨_, dx, by decide, rfl, h⟩
  | n + 4, e => simp at e
end
end K78
namespace K78
open PySem L2 PyProof.Rows PySem.SeqAt
def A2 {α β : Type} (R : α → β → Prop) (xs : List α) (ys : List β) : Prop := xs.length = ys.length ∧ ∀ (i : Nat) (x : α) (y : β), xs[i]? = some x → ys[i]? = some y → R x y
section
variable {α β γ δ : Type} {R S : α → β → Prop}
theorem A2.nil : A2 R [] [] := ⟨rfl, fun i x y h => by simp at h⟩
theorem A2.imp {xs : List α} {ys : List β} (h : A2 R xs ys) (f : ∀ x y, R x y → S x y) : A2 S xs ys := ⟨h.1, fun i x y e1 e2 => f _ _ (h.2 i x y e1 e2)⟩
theorem A2.cons {x : α} {y : β} {xs : List α} {ys : List β} (r : R x y) (h : A2 R xs ys) : A2 R (x :: xs) (y :: ys) := by
  refine ⟨by simp [h.1], fun i a b e1 e2 => ?_⟩
  cases i with
  | zero => simp only [List.getElem?_cons_zero, Option.some.injEq] at e1 e2; subst e1 e2; exact r
  | succ i => simp only [List.getElem?_cons_succ] at e1 e2; exact h.2 i a b e1 e2
theorem A2.inv {x : α} {y : β} {xs : List α} {ys : List β} (h : A2 R (x :: xs) (y :: ys)) : R x y ∧ A2 R xs ys := by
  refine ⟨h.2 0 x y rfl rfl, by have := h.1; simp at this; exact this, fun i a b e1 e2 => h.2 (i + 1) a b (by simpa using e1) (by simpa using e2)⟩
theorem A2.app {xs xs' : List α} {ys ys' : List β} (h : A2 R xs ys) (h' : A2 R xs' ys') : A2 R (xs ++ xs') (ys ++ ys') := by
  induction xs generalizing ys with
  | nil =>
    have : ys = [] := by have := h.1; simp at this; exact List.length_eq_zero_iff.mp this.symm
    subst this
    exact h'
  | cons x xs ih =>
    cases ys with
    | nil => have := h.1; simp at this
    | cons y ys => exact (h.inv.2 |> ih).cons h.inv.1
theorem A2.one {x : α} {y : β} (r : R x y) : A2 R [x] [y] := A2.nil.cons r
theorem A2.at {xs : List α} {ys : List β} {i : Nat} {x : α} (h : A2 R xs ys) (e : xs[i]? = some x) : ∃ y, ys[i]? = some y ∧ R x y := by
  have hi := (List.getElem?_eq_some_iff.mp e).1
  have hj : i < ys.length := by rw [← h.1]; exact hi
  exact ⟨ys[i], List.getElem?_eq_getElem hj, h.2 i x _ e (List.getElem?_eq_getElem hj)⟩
theorem A2.at' {xs : List α} {ys : List β} {i : Nat} {y : β} (h : A2 R xs ys) (e : ys[i]? = some y) : ∃ x, xs[i]? = some x ∧ R x y := by
  have hi := (List.getElem?_eq_some_iff.mp e).1
  have hj : i < xs.length := by rw [h.1]; exact hi
  exact ⟨xs[i], List.getElem?_eq_getElem hj, h.2 i _ y (List.getElem?_eq_getElem hj) e⟩
end
theorem take_snoc {α : Type} {xs : List α} {i : Nat} {x : α} (h : xs[i]? = some x) : xs.take (i + 1) = xs.take i ++ [x] := by
  obtain ⟨hi, e⟩ := List.getElem?_eq_some_iff.mp h
  rw [List.take_succ_eq_append_getElem hi, e]
abbrev KeyR (H : Hp) (p : Addr) (k : Str × Nat) : Prop := H p = some (.tup [.str k.1, .int k.2])
def TpIn (H H' : Hp) : Prop := ∀ a o, H a = some o → ((∃ xs, o = .tup xs) ∨ (∃ C dx fs, o = .ins C dx fs)) → H' a = some o
theorem TpIn.of {H H' : Hp} (s : Same H H') : TpIn H H' := fun a o e _ => s a o e
theorem TpIn.tup {H H' : Hp} (t : TpIn H H') {a : Addr} {xs : List V} (h : H a = some (.tup xs)) : H' a = some (.tup xs) := t _ _ h (.inl ⟨_, rfl⟩)
theorem TpIn.upd {H : Hp} {l : Addr} {xs : List V} {o : HO} (h : H l = some (.lst xs)) : TpIn H (upd H l o) := fun a ob e k => by
  rw [upd_ne]
  · exact e
  · rintro rfl
    rw [h] at e
    cases e
    rcases k with ⟨_, z⟩ | ⟨_, _, _, z⟩ <;> cases z
section
variable {P : Program} {w : World} {K : PySem.W.Frag} {mg : Str → Option Value} {base : Heap} {C : Addr}
end
theorem inV_str (z : Str) : ∀ zs : List Str, inV (.str z) (zs.map V.str) = decide (z ∈ zs)
  | [] => rfl
  | y :: zs => by
    have ih := inV_str z zs
    unfold inV at ih ⊢
    rw [List.map_cons, List.any_cons, ih]
    show (y == z || decide (z ∈ zs)) = decide (z ∈ y :: zs)
    rw [Bool.eq_iff_iff, Bool.or_eq_true, beq_iff_eq, decide_eq_true_iff, decide_eq_true_iff, List.mem_cons]
    exact ⟨fun h => h.imp Eq.symm id, fun h => h.imp Eq.symm id⟩
end K78
namespace K78
open PySem L2 PyProof.Rows
theorem join_go : ∀ (zs : List Nat) (acc : Array Nat), (zs.map fun c => (⟨#[c]⟩ : Str)).foldl (fun acc p => acc ++ Str.empty.cps ++ p.cps) acc = acc ++ zs.toArray
  | [], acc => by simp
  | c :: r, acc => by
    rw [List.map_cons, List.foldl_cons, join_go r]
    show acc ++ #[] ++ #[c] ++ r.toArray = acc ++ (c :: r).toArray
    simp
theorem join_signs (zs : List Nat) (sep : Str) (hs : sep = Str.empty) : Txt.join sep (zs.map fun c => (⟨#[c]⟩ : Str)) = ⟨zs.toArray⟩ := by
  subst hs
  cases zs with
  | nil => rfl
  | cons c r =>
    show (⟨(r.map fun c => (⟨#[c]⟩ : Str)).foldl (fun acc p => acc ++ Str.empty.cps ++ p.cps) #[c]⟩ : Str) = _
    rw [join_go]
    simp
theorem slice_to {z : Str} {i : Nat} (h : i ≤ z.cps.toList.length) : Txt.slice z none (some (i : Int)) = ⟨(z.cps.toList.take i).toArray⟩ := by
  have := slice_closes_to (x := z) (j := i) ⟨by omega, by omega⟩
  have := beq_iff_eq.mp this
  rw [this]
  simp
theorem slice_from {z : Str} {i : Nat} (h : i ≤ z.cps.toList.length) : Txt.slice z (some (i : Int)) none = ⟨(z.cps.toList.drop i).toArray⟩ := by
  have hz : z.length = z.cps.toList.length := by simp [Str.length]
  rw [slice_from_eq (x := z) (i := i) (b := z.length) (by omega) (by omega) rfl]
  congr 2
  rw [List.take_of_length_le]
  · simp
  · rw [List.length_drop]
    have : z.cps.toList.length = z.length := hz.symm
    omega
theorem app_l (A B : List Nat) : (⟨A.toArray⟩ : Str) ++ (⟨B.toArray⟩ : Str) = ⟨(A ++ B).toArray⟩ := by
  show (⟨A.toArray ++ B.toArray⟩ : Str) = _
  simp
theorem word_l {L : List Nat} (h1 : 1 ≤ L.length) (h2 : L.length ≤ 8) (h3 : L.all isLow = true) : isWordZ ⟨L.toArray⟩ = true := by
  unfold isWordZ
  rw [Bool.and_eq_true, decide_eq_true_eq]
  refine ⟨?_, by simpa using h3⟩
  show 1 ≤ L.toArray.size ∧ L.toArray.size ≤ 8
  rw [List.size_toArray]
  exact ⟨h1, h2⟩
abbrev abc : Str := Str.ofString "abcdefghijklmnopqrstuvwxyz"
theorem abc_at {r : Int} (h0 : 0 ≤ r) (h1 : r < 26) : ∃ c, atI abc.cps.toList r = some c ∧ isLow c = true := by
  have el : abc.cps.toList = [97, 98, 99, 100, 101, 102, 103, 104, 105, 106, 107, 108, 109, 110, 111, 112, 113, 114, 115, 116, 117, 118, 119, 120, 121, 122] := by decide +kernel
  obtain ⟨c1, e1, m1⟩ := atI_ex (xs := abc.cps.toList) h0 (by rw [el]; exact h1)
  refine ⟨c1, e1, ?_⟩
  have hl : ∀ c ∈ abc.cps.toList, isLow c = true := by rw [el]; decide +kernel
  exact hl c1 m1
theorem abc_val : ∀ n : Fin 26, atI abc.cps.toList (n.val : Int) = some (97 + n.val) := by decide +kernel
theorem abc_inj {r r' : Int} (h0 : 0 ≤ r) (h1 : r < 26) (h0' : 0 ≤ r') (h1' : r' < 26) (e : atI abc.cps.toList r = atI abc.cps.toList r') : r = r' := by
  obtain ⟨n, rfl⟩ : ∃ n : Nat, r = (n : Int) := ⟨r.toNat, by omega⟩
  obtain ⟨n', rfl⟩ : ∃ n : Nat, r' = (n : Int) := ⟨r'.toNat, by omega⟩
  have a := abc_val ⟨n, by omega⟩
  have b := abc_val ⟨n', by omega⟩
  dsimp only at a b
  rw [a, b] at e
  have := Option.some.inj e
  omega
def Lett (pos : Nat) (first : Int) (L : Nat) (us : List Str) : Prop := ∀ (j : Nat) (z : Str), us[j]? = some z → (j < 26 → z.cps.toList[pos]? = atI abc.cps.toList ((first + 7 * (0 + (j : Int))) % 26) ∧ z.length ≠ L) ∧ (26 ≤ j → z.cps.toList[0]? = atI abc.cps.toList ((first + 7 * (0 + (j : Int))) % 26) ∧ z.length = L)
theorem Lett.snoc {pos L : Nat} {first : Int} {us : List Str} {z : Str} (h : Lett pos first L us) (e : us.length < 26 → z.cps.toList[pos]? = atI abc.cps.toList ((first + 7 * (0 + (us.length : Int))) % 26) ∧ z.length ≠ L) (e' : 26 ≤ us.length → z.cps.toList[0]? = atI abc.cps.toList ((first + 7 * (0 + (us.length : Int))) % 26) ∧ z.length = L) : Lett pos first L (us ++ [z]) := fun j y hy => by
  by_cases hj : j < us.length
  · rw [List.getElem?_append_left hj] at hy; exact h j y hy
  · have hj2 : j = us.length := by
      have := (List.getElem?_eq_some_iff.mp hy).1
      rw [List.length_append, List.length_singleton] at this
      omega
    subst hj2
    rw [List.getElem?_append_right (Nat.le_refl _), Nat.sub_self] at hy
    cases hy
    exact ⟨e, e'⟩
theorem Lett.nodup {pos L : Nat} {first : Int} {us : List Str} (h : Lett pos first L us) (hl : us.length ≤ 40) : us.Nodup := by
  rw [List.Nodup, List.pairwise_iff_getElem]
  intro i j hi hj hij e
  have a := h i us[i] (List.getElem?_eq_getElem hi)
  have b := h j us[j] (List.getElem?_eq_getElem hj)
  rw [e] at a
  by_cases h1 : i < 26
  · by_cases h2 : j < 26
    · have a := (a.1 h1).1
      rw [(b.1 h2).1] at a
      have := abc_inj (Int.emod_nonneg _ (by decide)) (Int.emod_lt_of_pos _ (by decide)) (Int.emod_nonneg _ (by decide)) (Int.emod_lt_of_pos _ (by decide)) a
      omega
    · exact (a.1 h1).2 (b.2 (by omega)).2
  · have a := (a.2 (by omega)).1
    rw [(b.2 (by omega)).1] at a
    have := abc_inj (Int.emod_nonneg _ (by decide)) (Int.emod_lt_of_pos _ (by decide)) (Int.emod_nonneg _ (by decide)) (Int.emod_lt_of_pos _ (by decide)) a
    omega
theorem qz3 : repZ 3 (Str.ofString "qz") = ⟨([113, 122, 113, 122, 113, 122] : List Nat).toArray⟩ := by decide +kernel
theorem x1 : repZ 1 (Str.ofString "x") = ⟨([120] : List Nat).toArray⟩ := by decide +kernel
theorem x0 : repZ 0 (Str.ofString "x") = ⟨([] : List Nat).toArray⟩ := by decide +kernel
theorem late {c : Nat} (low : isLow c = true) (k : Nat) (hk : k = 0 ∨ k = 1) : isWordZ (⟨#[c]⟩ ++ repZ 3 (Str.ofString "qz") ++ repZ k (Str.ofString "x") : Str) = true ∧ (⟨#[c]⟩ ++ repZ 3 (Str.ofString "qz") ++ repZ k (Str.ofString "x") : Str).length = 7 + k ∧ (⟨#[c]⟩ ++ repZ 3 (Str.ofString "qz") ++ repZ k (Str.ofString "x") : Str).cps.toList[0]? = some c := by
  rcases hk with rfl | rfl
  · rw [qz3, x0, show (⟨#[c]⟩ : Str) = ⟨([c] : List Nat).toArray⟩ from rfl, app_l, app_l]
    refine ⟨word_l (by simp) (by simp) (by simp [low]; decide), by rfl, by simp⟩
  · rw [qz3, x1, show (⟨#[c]⟩ : Str) = ⟨([c] : List Nat).toArray⟩ from rfl, app_l, app_l]
    refine ⟨word_l (by simp) (by simp) (by simp [low]; decide), by rfl, by simp⟩
theorem abc_len : abc.length ≤ sizeLine := by
  rw [show abc.length = 26 from by decide +kernel, sizeLine_eq]
  decide
theorem all_take {L : List Nat} {n : Nat} (h : L.all isLow = true) : (L.take n).all isLow = true := List.all_eq_true.mpr fun x hx => List.all_eq_true.mp h x (List.mem_of_mem_take hx)
theorem all_drop {L : List Nat} {n : Nat} (h : L.all isLow = true) : (L.drop n).all isLow = true := List.all_eq_true.mpr fun x hx => List.all_eq_true.mp h x (List.mem_of_mem_drop hx)
def spWords : Sp := fun vs H Q _ => ∃ (c : Int) (m : Nat), m ≤ 40 ∧ vs = [.int c, .int m] ∧ ∀ (l : Addr) (zs : List Str) (H' : Hp), Same H H' → H' l = some (.lst (zs.map V.str)) → zs.length = m → (∀ z ∈ zs, isWordZ z = true) → zs.Nodup → H l = none → Q (.ref l) H'
section
variable {P : Program} {w : World} {K : PySem.W.Frag} {mg : Str → Option Value} {base : Heap}
abbrev s_law_words : Stmt := top 37
abbrev nWords : List Str := ["_law_cell_here", "_law_many", "_law_letters", "_law_box_here", "_law_size", "_law_at", "_law_way", "_law_base", "_law_first", "_law_found", "_law_k", "_law_letter"]
theorem sc_law_words : FnScope nWords ["_law_cell_here", "_law_many"] (defScope s_law_words) := ⟨rfl, rfl, rfl, by decide +kernel, rfl, by decide +kernel, by decide +kernel⟩
theorem ok_words (T : Txt mg) (F__law_box : FnAt P w K mg base "_law_box" 1 ["_law_cell_here"] spBox) (F__law_take : FnAt P w K mg base "_law_take" 2 ["_law_box_here", "_law_many"] spTake) (F : TopFn K mg "_law_words" s_law_words ["_law_cell_here", "_law_many"]) : FnAt P w K mg base "_law_words" 3 ["_law_cell_here", "_law_many"] spWords := by
  refine F.at sc_law_words (fun vs H Q E h => ?_) (fun f cdv A outer s H vs Q E hr h => ?_)
  · obtain ⟨c, m, _, rfl, _⟩ := h
    rfl
  · obtain ⟨c, m, hm, rfl, q⟩ := h
    refine ⟨_, (pss_cons (ps_set (i := 2) sc_law_words.nd rfl (by first | exact Or.inl rfl | exact Or.inr rfl) pe_str)
      (pss_cons (ps_set (i := 3) sc_law_words.nd rfl (by first | exact Or.inl rfl | exact Or.inr rfl) (pe_fn F__law_box hr (by decide) rfl (pa_cons (pv 0) pa_nil)))
      (pss_cons (ps_set (i := 4) sc_law_words.nd rfl (by first | exact Or.inl rfl | exact Or.inr rfl) (pe_fn F__law_take hr (by decide) rfl (pa_cons (pv 3) (pa_cons pe_int pa_nil))))
      (pss_cons (ps_set (i := 5) sc_law_words.nd rfl (by first | exact Or.inl rfl | exact Or.inr rfl) (pe_fn F__law_take hr (by decide) rfl (pa_cons (pv 3) (pa_cons (pe_op op_add (pv 4) pe_int) pa_nil))))
      (pss_cons (ps_set (i := 6) sc_law_words.nd rfl (by first | exact Or.inl rfl | exact Or.inr rfl) (pe_fn F__law_take hr (by decide) rfl (pa_cons (pv 3) (pa_cons pe_int pa_nil))))
      (pss_cons (ps_set (i := 7) sc_law_words.nd rfl (by first | exact Or.inl rfl | exact Or.inr rfl) (pe_bm PySem.F.plainAttrs_str PySem.F.slot_str_join PySem.F.type_str_join mt_join pe_str (pa_cons (pe_comp (sc := defScope s_law_words) (N0 := nWords) (xs := ["_law_k"]) (ys := ["_law_letters", "_law_box_here"]) (js := [2, 3]) ⟨rfl, by decide +kernel, by decide +kernel, by decide +kernel, by decide +kernel⟩ rfl (pi_range1 rfl T.n_range (pa_cons (pv 4) pa_nil)) (fun _ _ _ _ => (pg_name (i := 0) (show (["_law_k", "_law_letters", "_law_box_here"] : List Str).Nodup by decide +kernel) rfl (by first | exact Or.inl rfl | exact Or.inr rfl))) (fun _ _ _ _ => pq_nil) (fun _ _ _ _ => (pe_ix ix_str (pv 1) (pe_fn F__law_take hr (by decide) rfl (pa_cons (pv 2) (pa_cons pe_int pa_nil))) (fun _ _ => rfl)))) pa_nil)))
      (pss_cons (ps_set (i := 8) sc_law_words.nd rfl (by first | exact Or.inl rfl | exact Or.inr rfl) (pe_fn F__law_take hr (by decide) rfl (pa_cons (pv 3) (pa_cons pe_int pa_nil))))
      (pss_cons (ps_set (i := 9) sc_law_words.nd rfl (by first | exact Or.inl rfl | exact Or.inr rfl) (pe_lst pa_nil))
      (pss_cons (ps_for PassesOwn.never rfl (pi_range1 rfl T.n_range (pa_cons (pv 1) pa_nil)) (pg_name (i := 10) sc_law_words.nd rfl (by first | exact Or.inl rfl | exact Or.inr rfl)) (pss_cons (ps_set (i := 11) sc_law_words.nd rfl (by first | exact Or.inl rfl | exact Or.inr rfl) (pe_ix ix_str (pv 2) (pe_op op_mod (pe_op op_add (pv 8) (pe_op op_mul pe_int (pv 10))) pe_int) (fun _ _ => rfl)))
      (pss_one (ps_if (pt_cmpR op_gt (pv 10) pe_int (nomark _)) (pss_one (ps_expr (pe_bm PySem.F.plainAttrs_list PySem.F.slot_list_append PySem.F.type_list_append mt_append (pv 9) (pa_cons (pe_op op_add_str (pe_op op_add_str (pv 11) (pe_op op_mulS pe_str pe_int)) (pe_op op_mulS pe_str (pe_ix ix_list (pe_lst (pa_cons pe_int (pa_cons pe_int pa_nil))) (pe_callTy call_int1 rfl T.n_int boot_int (pa_cons (pe_cmpR op_eq (pv 4) pe_int (nomark _)) pa_nil)) (fun _ _ => rfl)))) pa_nil)))) (pss_one (ps_if (pt_cmpR op_eq (pv 6) pe_int (nomark _)) (pss_one (ps_expr (pe_bm PySem.F.plainAttrs_list PySem.F.slot_list_append PySem.F.type_list_append mt_append (pv 9) (pa_cons (pe_op op_add_str (pe_op op_add_str (pe_slice sl_str (pv 7) po_none (po_some (pv 5))) (pv 11)) (pe_slice sl_str (pv 7) (po_some (pv 5)) po_none)) pa_nil)))) (pss_one (ps_expr (pe_bm PySem.F.plainAttrs_list PySem.F.slot_list_append PySem.F.type_list_append mt_append (pv 9) (pa_cons (pe_op op_add_str (pv 11) (pe_slice sl_str (pv 7) po_none (po_some (pe_fn F__law_take hr (by decide) rfl (pa_cons (pv 3) (pa_cons (pe_op op_add (pe_callB (call_min2 rfl) rfl T.n_min boot_min (pa_cons (pv 4) (pa_cons pe_int pa_nil))) pe_int) pa_nil)))))) pa_nil))))))))))
      (pss_one (ps_ret (pv 9)))))))))))), ?_⟩
    have hs : sizeLine = 16777216 := sizeLine_eq
    refine ⟨_, rfl, c, rfl, fun b x y z hb => ?_⟩
    have O1 : Oth b (upd H b (.lst [.int x, .int y, .int z])) (upd H b (.lst [.int x, .int y, .int z])) := Oth.refl ⟨x, y, z, upd_same⟩
    have S0 : ∀ {H' : Hp}, Oth b (upd H b (.lst [.int x, .int y, .int z])) H' → Same H H' := fun {H'} o d u e => o.oth d u (by rw [upd_ne (ne_of_none e hb)]; exact e) (ne_of_none e hb)
    generalize upd H b (.lst [.int x, .int y, .int z]) = H1 at O1 S0 ⊢
    refine ⟨_, rfl, b, 8, rfl, O1.box, (by decide), (by decide), fun size H2 s0 s1 o2 => ?_⟩
    refine ⟨_, rfl, _, rfl, _, _, rfl, rfl, b, size + 1, rfl, o2.box, (by omega), (by show size + 1 < 10000000000000000000000000000000000000000; omega), fun at_ H3 a0 a1 o3 => ?_⟩
    refine ⟨_, rfl, b, 2, rfl, o3.box, (by decide), (by decide), fun way H4 w0 w1 o4 => ?_⟩
    have O4 := (o2.trans o3).trans o4
    refine ⟨rfl, _, rfl, size, rfl, (by omega), (by omega), comp_range (n := size.toNat) (fun i ys H' => (∃ zs : List Nat, ys = zs.map (fun c => V.str ⟨#[c]⟩) ∧ zs.length = i ∧ zs.all isLow = true) ∧ Oth b H1 H') ⟨⟨[], rfl, rfl, rfl⟩, O4⟩ (by omega) ?_ ?_ ?_⟩
    · rintro i ys H' ⟨⟨zs, rfl, e, _⟩, _⟩
      rw [List.length_map, e]; exact Nat.le_refl _
    · rintro i ys H5 hi ⟨⟨zs, rfl, e, h1⟩, o5⟩
      refine ⟨_, rfl, _, rfl, b, 26, rfl, o5.box, (by decide), (by decide), fun r1 H6 r0 r2 o6 => ?_⟩
      obtain ⟨c1, e1, low⟩ := abc_at r0 r2
      refine ⟨_, _, c1, rfl, rfl, abc_len, e1, ?_⟩
      exact ⟨⟨zs ++ [c1], by simp, by simp [e], by rw [List.all_append, h1]; simp [low]⟩, o5.trans o6⟩
    · rintro ys H5 ⟨⟨zs, rfl, e, hlow⟩, o5⟩ p hp
      have O6 : Oth b H1 (upd H5 p (.lst (zs.map fun c => V.str ⟨#[c]⟩))) := o5.new hp
      have em : (zs.map fun c => V.str ⟨#[c]⟩) = (zs.map fun c => (⟨#[c]⟩ : Str)).map V.str := by rw [List.map_map]; rfl
      have hsum : ((zs.map fun c => (⟨#[c]⟩ : Str)).map (·.length)).sum = zs.length := by
        clear e O6 em hlow hp
        induction zs with
        | nil => rfl
        | cons c r ih => rw [List.map_cons, List.map_cons, List.sum_cons, ih]; show 1 + r.length = r.length + 1; omega
      refine ⟨_, p, zs.map fun c => ⟨#[c]⟩, rfl, rfl, SqL.of (by rw [← em]; exact upd_same), (by rw [hsum, List.length_map, e]; show _ + _ * 0 ≤ _; omega), ?_⟩
      rw [join_signs zs (Str.ofString "") (by decide +kernel)]
      have zl : zs.length = size.toNat := e
      have zlen : (⟨zs.toArray⟩ : Str).cps.toList = zs := by simp
      have zlen2 : (⟨zs.toArray⟩ : Str).length = zs.length := by show zs.toArray.size = _; rw [List.size_toArray]
      generalize upd H5 p (.lst (zs.map fun c => V.str ⟨#[c]⟩)) = H6 at O6 ⊢
      refine ⟨_, rfl, b, 26, rfl, O6.box, (by decide), (by decide), fun first H7 f0 f1 o7 => ?_⟩
      have O7 := O6.trans o7
      refine ⟨(by show 0 ≤ sizeLine; decide), fun l hl => ?_⟩
      have O8 := O7.new (o := .lst []) hl
      have e8 : upd H7 l (.lst []) l = some (.lst []) := upd_same
      have nl : l ≠ b := Box.ne O7.box hl
      have hl0 : H l = none := (S0 O7).free hl
      generalize upd H7 l (.lst []) = H8 at O8 e8 ⊢
      refine ⟨_, rfl, m, rfl, (by omega), (by omega), for_range (n := m) (fun i σ H' => ∃ (us : List Str) (v10 v11 : Option V), σ = [some (.int c), some (.int m), some (.str abc), some (.ref b), some (.int size), some (.int at_), some (.int way), some (.str ⟨zs.toArray⟩), some (.int first), some (.ref l), v10, v11] ∧ us.length = i ∧ (∀ z ∈ us, isWordZ z = true) ∧ H' l = some (.lst (us.map V.str)) ∧ Box H' b ∧ Same H H' ∧ Lett (if way = 0 then at_.toNat else 0) first (if size = 7 then 7 else 8) us)
        ⟨[], _, _, rfl, rfl, by simp, e8, O8.box, S0 O8, fun j z h => by simp at h⟩ ?_ ?_⟩
      · rintro i σ H9 hi ⟨us, v10, v11, rfl, hlen, hall, el, hbox, ss, lett⟩
        have m0 : 0 ≤ (first + 7 * (0 + (i : Int))) % 26 := Int.emod_nonneg _ (by decide)
        have m1 : (first + 7 * (0 + (i : Int))) % 26 < 26 := Int.emod_lt_of_pos _ (by decide)
        obtain ⟨c1, e1, low⟩ := abc_at m0 m1
        refine ⟨_, rfl, _, rfl, _, rfl, _, _, rfl, rfl, .inl ⟨by decide, by decide⟩, _, _, rfl, rfl, _, _, rfl, rfl, (by show (0 : Int) < 26; decide), _, _, c1, rfl, rfl, abc_len, e1, ?_⟩
        have same2 : ∀ (HA : Hp) (xs : List V), Same H HA → Same H (upd HA l (.lst xs)) := fun HA xs sA d u e => by rw [upd_ne (ne_of_none e hl0)]; exact sA d u e
        refine ⟨_, rfl, _, _, rfl, rfl, _, rfl, ite2 (fun hg => ?_) (fun hg => ?_)⟩
        · have hg : (25 : Int) < 0 + (i : Int) := of_decide_eq_true hg
          have ql : (repZ (3 : Int).toNat (Str.ofString "qz")).length = 6 := by show (repZ 3 (Str.ofString "qz")).length = 6; rw [qz3]; rfl
          have c1l : (⟨#[c1]⟩ : Str).length = 1 := rfl
          have aw : ∀ a b : Str, (a ++ b).length = a.length + b.length := len_app
          have fin : ∀ (k : Nat) (H' : Hp), (k = 0 ∨ k = 1) → 7 + k = (if size = 7 then 7 else 8) → Oth b H9 H' → H' l = some (.lst (us.map V.str)) → ∃ (us' : List Str) (v10 v11 : Option V), [some (V.int c), some (V.int m), some (V.str abc), some (V.ref b), some (V.int size), some (V.int at_), some (V.int way), some (V.str ⟨zs.toArray⟩), some (V.int first), some (V.ref l), some (V.int (0 + (i : Int))), some (V.str ⟨#[c1]⟩)] = [some (.int c), some (.int m), some (.str abc), some (.ref b), some (.int size), some (.int at_), some (.int way), some (.str ⟨zs.toArray⟩), some (.int first), some (.ref l), v10, v11] ∧ us'.length = i + 1 ∧ (∀ z ∈ us', isWordZ z = true) ∧ (upd H' l (.lst (us.map V.str ++ [.str (⟨#[c1]⟩ ++ repZ 3 (Str.ofString "qz") ++ repZ k (Str.ofString "x"))]))) l = some (.lst (us'.map V.str)) ∧ Box (upd H' l (.lst (us.map V.str ++ [.str (⟨#[c1]⟩ ++ repZ 3 (Str.ofString "qz") ++ repZ k (Str.ofString "x"))]))) b ∧ Same H (upd H' l (.lst (us.map V.str ++ [.str (⟨#[c1]⟩ ++ repZ 3 (Str.ofString "qz") ++ repZ k (Str.ofString "x"))]))) ∧ Lett (if way = 0 then at_.toNat else 0) first (if size = 7 then 7 else 8) us' := fun k H' hk hL oA elA => by
            obtain ⟨w1, w2, w3⟩ := late low k hk
            refine ⟨us ++ [⟨#[c1]⟩ ++ repZ 3 (Str.ofString "qz") ++ repZ k (Str.ofString "x")], _, _, rfl, by rw [List.length_append, hlen]; rfl, fun z hz => ?_, ?_, ?_, same2 _ _ (fun d u e => ?_), ?_⟩
            · rcases List.mem_append.mp hz with hz | hz
              · exact hall z hz
              · rw [List.mem_singleton] at hz; rw [hz]; exact w1
            · rw [upd_same, List.map_append]; rfl
            · obtain ⟨x1, y1, z1, hbx⟩ := oA.box
              exact ⟨x1, y1, z1, by rw [upd_ne (Ne.symm nl)]; exact hbx⟩
            · exact oA.oth d u (ss d u e) (ne_of_none e hb)
            · refine lett.snoc (fun h => by omega) (fun _ => ⟨?_, by rw [w2, hL]⟩)
              rw [hlen, e1, w3]
          refine ⟨_, rfl, .inl ⟨rfl, _, SqL.of el⟩, _, rfl, _, _, rfl, rfl, (by decide), (by decide), (by decide +kernel), _, _, rfl, rfl, (by show 1 + (repZ (3 : Int).toNat (Str.ofString "qz")).length ≤ sizeLine; omega), (by show 2 ≤ sizeLine; decide), fun lx hlx => ?_⟩
          have oX : Oth b H9 (upd H9 lx (.lst [.int 1, .int 0])) := (Oth.refl hbox).new hlx
          have elX : upd H9 lx (.lst [.int 1, .int 0]) l = some (.lst (us.map V.str)) := by rw [upd_ne (ne_of_none el hlx)]; exact el
          have exX : upd H9 lx (.lst [.int 1, .int 0]) lx = some (.lst [.int 1, .int 0]) := upd_same
          generalize upd H9 lx (.lst [.int 1, .int 0]) = HX at oX elX exX ⊢
          by_cases h7 : size = 7
          · have d7 : decide (V.int size = V.int 7) = true := decide_eq_true (by rw [h7])
            refine ⟨_, rfl, rfl, .inr ⟨_, rfl, ?_⟩⟩
            rw [d7]
            refine ⟨lx, _, _, V.int 0, rfl, rfl, SqL.of exX, rfl, _, _, rfl, rfl, (by decide), (by decide), (by decide +kernel), _, _, rfl, rfl, ?_, l, _, _, rfl, rfl, elX, (by rw [List.length_map]; omega), ?_⟩
            · rw [aw, ql, c1l]
              have : (repZ (0 : Int).toNat (Str.ofString "x")).length = 0 := by show (repZ 0 (Str.ofString "x")).length = 0; rw [x0]; rfl
              omega
            · exact fin 0 HX (.inl rfl) (by rw [if_pos h7]) oX elX
          · have d7 : decide (V.int size = V.int 7) = false := decide_eq_false (fun z => h7 (V.int.inj z))
            refine ⟨_, rfl, rfl, .inr ⟨_, rfl, ?_⟩⟩
            rw [d7]
            refine ⟨lx, _, _, V.int 1, rfl, rfl, SqL.of exX, rfl, _, _, rfl, rfl, (by decide), (by decide), (by decide +kernel), _, _, rfl, rfl, ?_, l, _, _, rfl, rfl, elX, (by rw [List.length_map]; omega), ?_⟩
            · rw [aw, ql, c1l]
              have : (repZ (1 : Int).toNat (Str.ofString "x")).length = 1 := by show (repZ 1 (Str.ofString "x")).length = 1; rw [x1]; rfl
              omega
            · exact fin 1 HX (.inr rfl) (by rw [if_neg h7]) oX elX
        have hng : ¬ ((25 : Int) < 0 + (i : Int)) := fun z => hg (decide_eq_true z)
        have hi26 : i < 26 := by omega
        refine ⟨_, rfl, rfl, _, rfl, ite2 (fun hw => ?_) (fun hw => ?_)⟩
        · have hw' : way = 0 := V.int.inj (of_decide_eq_true hw)
          obtain ⟨a, rfl⟩ : ∃ a : Nat, at_ = (a : Int) := ⟨at_.toNat, by omega⟩
          have ha : a ≤ (⟨zs.toArray⟩ : Str).cps.toList.length := by rw [zlen]; omega
          have t1 := slice_to ha
          have t2 := slice_from ha
          rw [zlen] at t1 t2
          have wd : (⟨(zs.take a).toArray⟩ : Str) ++ ⟨#[c1]⟩ ++ ⟨(zs.drop a).toArray⟩ = ⟨(zs.take a ++ [c1] ++ zs.drop a).toArray⟩ := by
            rw [show (⟨#[c1]⟩ : Str) = ⟨([c1] : List Nat).toArray⟩ from rfl, app_l, app_l]
          have ln : (zs.take a ++ [c1] ++ zs.drop a).length = zs.length + 1 := by
            rw [List.length_append, List.length_append, List.length_take, List.length_drop, List.length_singleton]
            rw [zlen] at ha
            omega
          have isw : isWordZ (⟨(zs.take a).toArray⟩ ++ ⟨#[c1]⟩ ++ ⟨(zs.drop a).toArray⟩ : Str) = true := by
            rw [wd]
            refine word_l (by omega) (by omega) ?_
            rw [List.all_append, List.all_append, all_take hlow, all_drop hlow]
            simp [low]
          have len1 : (⟨(zs.take a).toArray⟩ : Str).length ≤ 7 := by show (zs.take a).toArray.size ≤ 7; rw [List.size_toArray, List.length_take]; omega
          have len2 : (⟨(zs.drop a).toArray⟩ : Str).length ≤ 7 := by show (zs.drop a).toArray.size ≤ 7; rw [List.size_toArray, List.length_drop]; omega
          refine ⟨_, rfl, .inl ⟨rfl, _, SqL.of el⟩, _, rfl, _, rfl, _, rfl, ⟨zs.toArray⟩, rfl, (by omega), ?_⟩
          rw [t1]
          refine ⟨_, rfl, _, _, rfl, rfl, (by show _ + 1 ≤ sizeLine; omega), _, rfl, _, rfl, _, rfl, ⟨zs.toArray⟩, rfl, (by omega), ?_⟩
          rw [t2]
          refine ⟨_, _, rfl, rfl, ?_, l, _, _, rfl, rfl, el, (by rw [List.length_map]; omega), ?_⟩
          · have : ((⟨(zs.take a).toArray⟩ : Str) ++ (⟨#[c1]⟩ : Str)).length = (⟨(zs.take a).toArray⟩ : Str).length + 1 := by
              show ((zs.take a).toArray ++ #[c1]).size = _
              rw [Array.size_append]
              rfl
            omega
          · refine ⟨us ++ [⟨(zs.take a).toArray⟩ ++ ⟨#[c1]⟩ ++ ⟨(zs.drop a).toArray⟩], _, _, rfl, by rw [List.length_append, hlen]; rfl, fun z hz => ?_, ?_, ?_, same2 _ _ ss, ?_⟩
            · rcases List.mem_append.mp hz with hz | hz
              · exact hall z hz
              · rw [List.mem_singleton] at hz; rw [hz]; exact isw
            · rw [upd_same, List.map_append]; rfl
            · obtain ⟨x1, y1, z1, hbx⟩ := hbox
              exact ⟨x1, y1, z1, by rw [upd_ne (Ne.symm nl)]; exact hbx⟩
            · refine lett.snoc (fun _ => ⟨?_, ?_⟩) (fun h => by omega)
              rotate_left
              · rw [wd]
                show (zs.take a ++ [c1] ++ zs.drop a).toArray.size ≠ _
                rw [List.size_toArray, ln]
                split <;> omega
              rw [hlen, e1, if_pos hw', wd, Int.toNat_natCast]
              rw [zlen] at ha
              show ((zs.take a ++ [c1] ++ zs.drop a).toArray.toList)[a]? = some c1
              have hta : (zs.take a).length = a := by rw [List.length_take]; omega
              rw [List.toList_toArray, List.append_assoc, List.getElem?_append_right (by omega), hta, Nat.sub_self]
              rfl
        · have hw' : ¬ way = 0 := fun z => hw (by rw [z]; exact decide_eq_true rfl)
          refine ⟨_, rfl, .inl ⟨rfl, _, SqL.of el⟩, _, rfl, _, rfl, _, rfl, _, rfl, _, _, rfl, _, _, rfl, rfl, b, (if (5 : Int) < size then 5 else size) + 1, rfl, hbox, (by split <;> omega), (by show (if (5 : Int) < size then (5 : Int) else size) + 1 < 10000000000000000000000000000000000000000; split <;> omega), fun n HA n0 n1 oA => ?_⟩
          have elA : HA l = some (.lst (us.map V.str)) := oA.oth _ _ el nl
          obtain ⟨k, rfl⟩ : ∃ k : Nat, n = (k : Int) := ⟨n.toNat, by omega⟩
          have hk5 : k ≤ zs.length := by split at n1 <;> omega
          have ha : k ≤ (⟨zs.toArray⟩ : Str).cps.toList.length := by rw [zlen]; exact hk5
          have t1 := slice_to ha
          rw [zlen] at t1
          have wd : (⟨#[c1]⟩ : Str) ++ ⟨(zs.take k).toArray⟩ = ⟨([c1] ++ zs.take k).toArray⟩ := by
            rw [show (⟨#[c1]⟩ : Str) = ⟨([c1] : List Nat).toArray⟩ from rfl, app_l]
          have ln : ([c1] ++ zs.take k).length ≤ 8 ∧ 1 ≤ ([c1] ++ zs.take k).length := by
            rw [List.length_append, List.length_take, List.length_singleton]
            omega
          have isw : isWordZ (⟨#[c1]⟩ ++ ⟨(zs.take k).toArray⟩ : Str) = true := by
            rw [wd]
            refine word_l ln.2 ln.1 ?_
            rw [List.all_append, all_take hlow]
            simp [low]
          have len1 : (⟨(zs.take k).toArray⟩ : Str).length ≤ 7 := by show (zs.take k).toArray.size ≤ 7; rw [List.size_toArray, List.length_take]; omega
          refine ⟨_, rfl, ⟨zs.toArray⟩, rfl, (by omega), ?_⟩
          rw [t1]
          refine ⟨_, _, rfl, rfl, (by show 1 + _ ≤ sizeLine; omega), l, _, _, rfl, rfl, elA, (by rw [List.length_map]; omega), ?_⟩
          refine ⟨us ++ [⟨#[c1]⟩ ++ ⟨(zs.take k).toArray⟩], _, _, rfl, by rw [List.length_append, hlen]; rfl, fun z hz => ?_, ?_, ?_, same2 _ _ (fun d u e => ?_), ?_⟩
          · rcases List.mem_append.mp hz with hz | hz
            · exact hall z hz
            · rw [List.mem_singleton] at hz; rw [hz]; exact isw
          · rw [upd_same, List.map_append]; rfl
          · obtain ⟨x1, y1, z1, hbx⟩ := oA.box
            exact ⟨x1, y1, z1, by rw [upd_ne (Ne.symm nl)]; exact hbx⟩
          · exact oA.oth d u (ss d u e) (ne_of_none e hb)
          · refine lett.snoc (fun _ => ⟨?_, ?_⟩) (fun h => by omega)
            · rw [hlen, e1, if_neg hw', wd]
              rfl
            · rw [wd]
              show ([c1] ++ zs.take k).toArray.size ≠ _
              rw [List.size_toArray, List.length_append, List.length_take, List.length_singleton]
              split at n1 <;> split <;> omega
      · rintro σ H9 ⟨us, v10, v11, rfl, hlen, hall, el, hbox, ss, lett⟩
        exact ⟨_, rfl, q l us H9 ss el hlen hall (lett.nodup (by omega)) hl0⟩
end
end K78
namespace L2
open PySem PySem.Spec PyProof.Rows
theorem call_intT {X : Cx} : CallR X (.type "int") (fun xs H Q => ∃ z n, xs = [.str z] ∧ PySem.intText? z = some n ∧ z.length ≤ 640 ∧ Q (.int n) H) := by
  intro pins s σ H xs us Q I r h
  obtain ⟨z, n, rfl, hn, hl, q⟩ := h
  obtain ⟨u, rfl, ru⟩ := vals1 r
  obtain ⟨t, rfl⟩ := ru
  exact PySem.W.KIN.call_text hn hl ⟨.int n, H, I.tok _, ⟨_, rfl⟩, q⟩
end L2
namespace K78
open PySem L2 PyProof.Rows
structure Tx2 (mg : Str → Option Value) : Prop where
  g_FIGURES : ∃ t, mg "FIGURES" = some (.str "0123456789" t)
  n_reversed : mg "reversed" = none
def jl (c : Nat) : List (List Nat) → List Nat
  | [] => []
  | [x] => x
  | x :: y :: r => x ++ c :: jl c (y :: r)
theorem app_toList (a b : Str) : (a ++ b).cps.toList = a.cps.toList ++ b.cps.toList := by
  show (a.cps ++ b.cps).toList = _
  simp
theorem join_toList (c : Nat) : ∀ ws : List Str, (Str.join ⟨#[c]⟩ ws).cps.toList = jl c (ws.map (·.cps.toList))
  | [] => rfl
  | [x] => rfl
  | x :: y :: r => by
    show (x ++ ⟨#[c]⟩ ++ Str.join ⟨#[c]⟩ (y :: r)).cps.toList = x.cps.toList ++ c :: jl c ((y :: r).map (·.cps.toList))
    rw [app_toList, app_toList, join_toList c (y :: r)]
    simp
theorem cut_inj {c : Nat} : ∀ {x y a b : List Nat}, c ∉ x → c ∉ y → x ++ c :: a = y ++ c :: b → x = y ∧ a = b
  | [], [], a, b, _, _, h => ⟨rfl, by simpa using h⟩
  | [], d :: y, a, b, _, hy, h => by
    simp only [List.nil_append, List.cons_append, List.cons.injEq] at h
    exact absurd h.1 (fun e => hy (by rw [e]; exact List.mem_cons_self))
  | d :: x, [], a, b, hx, _, h => by
    simp only [List.nil_append, List.cons_append, List.cons.injEq] at h
    exact absurd h.1 (fun e => hx (by rw [← e]; exact List.mem_cons_self))
  | d :: x, e :: y, a, b, hx, hy, h => by
    simp only [List.cons_append, List.cons.injEq] at h
    obtain ⟨h1, h2⟩ := cut_inj (fun m => hx (List.mem_cons_of_mem _ m)) (fun m => hy (List.mem_cons_of_mem _ m)) h.2
    exact ⟨by rw [h.1, h1], h2⟩
theorem jl_inj {c : Nat} : ∀ {xs ys : List (List Nat)}, xs ≠ [] → ys ≠ [] → (∀ x ∈ xs, c ∉ x) → (∀ y ∈ ys, c ∉ y) → jl c xs = jl c ys → xs = ys
  | [], _, h, _, _, _, _ => absurd rfl h
  | _, [], _, h, _, _, _ => absurd rfl h
  | [x], [y], _, _, _, _, h => by rw [show x = y from h]
  | [x], y :: y' :: r, _, _, hx, _, h => by
    have h : x = y ++ c :: jl c (y' :: r) := h
    exact absurd (by rw [h]; simp) (hx x List.mem_cons_self)
  | x :: x' :: r, [y], _, _, _, hy, h => by
    have h : x ++ c :: jl c (x' :: r) = y := h
    exact absurd (by rw [← h]; simp) (hy y List.mem_cons_self)
  | x :: x' :: r, y :: y' :: r', _, _, hx, hy, h => by
    have h : x ++ c :: jl c (x' :: r) = y ++ c :: jl c (y' :: r') := h
    obtain ⟨h1, h2⟩ := cut_inj (hx x List.mem_cons_self) (hy y List.mem_cons_self) h
    rw [h1, jl_inj (by simp) (by simp) (fun z hz => hx z (List.mem_cons_of_mem _ hz)) (fun z hz => hy z (List.mem_cons_of_mem _ hz)) h2]
theorem str_inj : ∀ {a b : Str}, a.cps.toList = b.cps.toList → a = b
  | ⟨a⟩, ⟨b⟩, h => by rw [show a = b from Array.toList_inj.mp h]
theorem strs_inj : ∀ {a b : List Str}, a.map (·.cps.toList) = b.map (·.cps.toList) → a = b
  | [], [], _ => rfl
  | [], _ :: _, h => by cases h
  | _ :: _, [], h => by cases h
  | x :: a, y :: b, h => by
    simp only [List.map_cons, List.cons.injEq] at h
    rw [str_inj h.1, strs_inj h.2]
theorem split_join {c : Nat} {ws : List Str} (hne : ws ≠ []) (hf : ∀ z ∈ ws, c ∉ z.cps.toList) : Txt.split (Txt.join ⟨#[c]⟩ ws) ⟨#[c]⟩ = ws := by
  have e : Txt.join ⟨#[c]⟩ ws = Str.join ⟨#[c]⟩ ws := StrLaws.glued_eq_join _ _
  rw [e]
  have h := StrLaws.join_split (Str.join ⟨#[c]⟩ ws) ⟨#[c]⟩
  refine strs_inj (jl_inj (c := c) ?_ ?_ ?_ ?_ ?_)
  · intro z
    have := split_pos (Str.join ⟨#[c]⟩ ws) ⟨#[c]⟩
    rw [← List.length_map (f := fun z : Str => z.cps.toList), z] at this
    exact absurd this (by decide)
  · intro z
    exact hne (List.map_eq_nil_iff.mp z)
  · intro x hx
    obtain ⟨z, hz, rfl⟩ := List.mem_map.mp hx
    exact StrLaws.split_free _ _ z hz
  · intro x hx
    obtain ⟨z, hz, rfl⟩ := List.mem_map.mp hx
    exact hf z hz
  · rw [← join_toList, ← join_toList, h]
theorem app_assoc' (a b c : Str) : a ++ b ++ c = a ++ (b ++ c) := str_inj (by rw [app_toList, app_toList, app_toList, app_toList, List.append_assoc])
theorem join_cons (s x : Str) : ∀ {r : List Str}, r ≠ [] → Str.join s (x :: r) = x ++ s ++ Str.join s r
  | [], h => absurd rfl h
  | y :: r, _ => rfl
theorem join_app (s : Str) : ∀ {xs ys : List Str}, xs ≠ [] → ys ≠ [] → Str.join s (xs ++ ys) = Str.join s xs ++ s ++ Str.join s ys
  | [], _, h, _ => absurd rfl h
  | [x], ys, _, h => by rw [List.singleton_append, join_cons s x h]; rfl
  | x :: y :: r, ys, _, h => by
    rw [List.cons_append, join_cons s x (by simp), join_app s (xs := y :: r) (by simp) h, join_cons s x (r := y :: r) (by simp)]
    simp only [app_assoc']
theorem tjoin (s : Str) (xs : List Str) : Txt.join s xs = Str.join s xs := StrLaws.glued_eq_join _ _
theorem sum_le : ∀ {zs : List Str} {k : Nat}, (∀ z ∈ zs, z.length ≤ k) → (zs.map (·.length)).sum ≤ zs.length * k
  | [], k, _ => by simp
  | z :: zs, k, h => by
    rw [List.map_cons, List.sum_cons, List.length_cons]
    have := sum_le (zs := zs) fun x hx => h x (List.mem_cons_of_mem _ hx)
    have := h z List.mem_cons_self
    rw [Nat.add_mul]
    omega
theorem join_ok {zs : List Str} {s : Str} {k n : Nat} (h : ∀ z ∈ zs, z.length ≤ k) (hn : zs.length ≤ n) (hs : n * k + n * s.length ≤ 16777216) : (zs.map (·.length)).sum + zs.length * s.length ≤ 16777216 := by
  have h1 := sum_le h
  have h2 := Nat.mul_le_mul_right k hn
  have h3 := Nat.mul_le_mul_right s.length hn
  omega
theorem len_join_le (s : Str) (zs : List Str) : (Txt.join s zs).length ≤ (zs.map (·.length)).sum + zs.length * s.length := by
  rw [tjoin]
  exact StrLaws.join_length_le s zs
def isFig (c : Nat) : Bool := decide (48 ≤ c ∧ c ≤ 57)
def nT (n : Nat) : Str := Str.ofString (toString (n : Int))
def figOk (n : Nat) : Bool := decide (1 ≤ (nT n).length ∧ (nT n).length ≤ 4) && !(decide ((nT n).cps.getD 0 0 = 48) && decide (1 < (nT n).length)) && (nT n).cps.toList.all isFig
theorem fig_all : ∀ a : Fin 100, figOk a.val = true := by decide +kernel
theorem fig_ok {n : Nat} (h : n < 100) : figOk n = true := fig_all ⟨n, h⟩
theorem word_len {z : Str} (h : isWordZ z = true) : z.length ≤ 8 := by
  unfold isWordZ at h
  rw [Bool.and_eq_true] at h
  exact (of_decide_eq_true h.1).2
def textZ (a : Str) (n : Int) : Str := a ++ Str.ofString "." ++ Str.ofString (toString n)
theorem small_text : ∀ n : Fin 100, (Str.ofString (toString (n.val : Int))).length ≤ 2 := by decide +kernel
theorem text_len {a : Str} {n : Int} (ha : isWordZ a = true) (h0 : 0 ≤ n) (h1 : n < 100) : (textZ a n).length ≤ 11 := by
  unfold textZ
  rw [len_app, len_app]
  have e : (Str.ofString ".").length = 1 := by decide +kernel
  have := small_text ⟨n.toNat, by omega⟩
  have e2 : ((n.toNat : Nat) : Int) = n := by omega
  simp only [e2] at this
  unfold isWordZ at ha
  simp only [Bool.and_eq_true, decide_eq_true_eq] at ha
  omega
theorem log_small {n : Int} (h0 : 0 ≤ n) (h1 : n < 10000) : n.natAbs.log2 < 1920 := by
  have : n.natAbs < 2 ^ 14 := by omega
  by_cases hz : n.natAbs = 0
  · rw [hz]; decide
  · have := (Nat.log2_lt hz).mpr this
    omega
theorem mp_rest2 {C R G : Prop} (r : C → R) (h : (C → R) → G) : G := h r
theorem fig_in (c : Nat) : (!(Builtin.Str.occurrences (Str.ofString "0123456789") ⟨#[c]⟩ 0 (Str.ofString "0123456789").length 1).isEmpty) = isFig c := by
  rw [PySem.StrLaws.found_one]
  have e : (Str.ofString "0123456789").cps.toList = [48, 49, 50, 51, 52, 53, 54, 55, 56, 57] := by decide +kernel
  rw [e, Bool.eq_iff_iff]
  have h1 : ∀ c ∈ ([48, 49, 50, 51, 52, 53, 54, 55, 56, 57] : List Nat), isFig c = true := by decide +kernel
  have h2 : ∀ i : Fin 10, 48 + i.val ∈ ([48, 49, 50, 51, 52, 53, 54, 55, 56, 57] : List Nat) := by decide +kernel
  refine ⟨fun h => h1 c (of_decide_eq_true h), fun h => decide_eq_true ?_⟩
  unfold isFig at h
  have h := of_decide_eq_true h
  obtain ⟨d, rfl⟩ := Nat.exists_eq_add_of_le h.1
  exact h2 ⟨d, by omega⟩
structure NumT (z : Str) (L : Nat) : Prop where
  h1 : 1 ≤ z.length
  h2 : z.length ≤ L
  h3 : ¬ (z.cps.getD 0 0 = 48 ∧ 1 < z.length)
  h4 : z.cps.toList.all isFig = true
theorem num4 {n : Nat} (h : n < 100) : NumT (nT n) 4 := by
  have := fig_ok h
  unfold figOk at this
  simp only [Bool.and_eq_true, decide_eq_true_eq, Bool.not_eq_true', Bool.and_eq_false_iff, decide_eq_false_iff_not] at this
  obtain ⟨⟨⟨a, b⟩, c⟩, d⟩ := this
  exact ⟨a, b, fun ⟨x, y⟩ => c.elim (fun f => f x) (fun f => f y), d⟩
theorem num2 {n : Nat} (h : n < 100) : NumT (nT n) 2 := by
  obtain ⟨a, b, c, d⟩ := num4 (n := n) (by omega)
  exact ⟨a, small_text ⟨n, h⟩, c, d⟩
theorem dot1 : ("." : Str) = ⟨#[46]⟩ := by decide +kernel
theorem word_no {z : Str} (h : isWordZ z = true) {c : Nat} (hc : ¬ (97 ≤ c ∧ c ≤ 122)) : c ∉ z.cps.toList := fun m => by
  unfold isWordZ at h
  rw [Bool.and_eq_true] at h
  have := List.all_eq_true.mp h.2 c m
  unfold isLow at this
  exact hc (of_decide_eq_true this)
theorem fig_no {z : Str} {L : Nat} (h : NumT z L) {c : Nat} (hc : ¬ (48 ≤ c ∧ c ≤ 57)) : c ∉ z.cps.toList := fun m => by
  have := List.all_eq_true.mp h.h4 c m
  unfold isFig at this
  exact hc (of_decide_eq_true this)
theorem split_key {a : Str} {n : Nat} (ha : isWordZ a = true) (hn : n < 100) : Txt.split (textZ a n) "." = [a, nT n] := by
  have e : textZ a n = Txt.join ⟨#[46]⟩ [a, nT n] := by
    rw [tjoin]
    show a ++ ("." : Str) ++ nT n = a ++ ⟨#[46]⟩ ++ nT n
    rw [dot1]
  rw [e, dot1]
  refine split_join (by simp) fun z hz => ?_
  simp only [List.mem_cons, List.not_mem_nil, or_false] at hz
  rcases hz with rfl | rfl
  · exact word_no ha (by decide)
  · exact fig_no (num2 hn) (by decide)
def spIKT : Sp := fun vs H Q _ => ∃ (a : Str) (n : Nat), vs = [.str (textZ a n)] ∧ isWordZ a = true ∧ n < 100 ∧ ∀ H', Same H H' → Q (.bl true) H'
def spKeO : Sp := fun vs H Q _ => ∃ (a : Str) (n : Nat), vs = [.str (textZ a n)] ∧ isWordZ a = true ∧ n < 100 ∧ ∀ (p : Addr) (H' : Hp), Same H H' → H' p = some (.tup [.str a, .int n]) → Q (.ref p) H'
section
variable {P : Program} {w : World} {K : PySem.W.Frag} {mg : Str → Option Value} {base : Heap} {J : Js}
abbrev skey_text : Stmt := top 10
theorem sckey_text : FnScope ["key", "word", "number"] ["key"] (defScope skey_text) := ⟨rfl, rfl, rfl, by decide +kernel, rfl, by decide +kernel, by decide +kernel⟩
def spKeyText (K : PySem.W.Frag) : Sp := fun vs H Q _ => ∃ t a n, vs = [.ref t] ∧ SqT K H t [.str a, .int n] ∧ isWordZ a = true ∧ 0 ≤ n ∧ n < 100 ∧ Q (.str (textZ a n)) H
theorem ok_key_text (F : TopFn K mg "key_text" skey_text ["key"]) : FnAt P w K mg base "key_text" 1 ["key"] (spKeyText K) := by
  refine F.at sckey_text (fun vs H Q E h => ?_) (fun f cdv A outer s H vs Q E hr h => ?_)
  · obtain ⟨t, a, n, rfl, _⟩ := h
    rfl
  · obtain ⟨t, a, n, rfl, ht, ha, h0, h1, q⟩ := h
    refine ⟨_, (pss_cons (ps_set (i := 1) sckey_text.nd rfl (by first | exact Or.inl rfl | exact Or.inr rfl) (pe_ix ix_tup (pv 0) pe_int (fun _ _ => rfl)))
      (pss_cons (ps_set (i := 2) sckey_text.nd rfl (by first | exact Or.inl rfl | exact Or.inr rfl) (pe_ix ix_tup (pv 0) pe_int (fun _ _ => rfl)))
      (pss_one (ps_ret (pe_f3 (pv 1) (pv 2)))))), ?_⟩
    have hs : sizeLine = 16777216 := sizeLine_eq
    have tl := text_len ha h0 h1
    have al : a.length ≤ 8 := by
      unfold isWordZ at ha
      simp only [Bool.and_eq_true, decide_eq_true_eq] at ha
      exact ha.1.2
    refine ⟨_, rfl, t, _, _, V.str a, rfl, rfl, ht, rfl, ?_⟩
    refine ⟨_, rfl, t, _, _, V.int n, rfl, rfl, ht, rfl, ?_⟩
    exact ⟨_, rfl, a, rfl, (by have e : (Str.ofString ".").length = 1 := by decide +kernel
                               omega), _, rfl, n, rfl, log_small h0 (by omega), (by show (textZ a n).length ≤ _; omega), q⟩
abbrev sis_number_text : Stmt := top 11
theorem scis_number_text : FnScope ["text", "longest"] ["text", "longest"] (defScope sis_number_text) := ⟨rfl, rfl, rfl, by decide +kernel, rfl, by decide +kernel, by decide +kernel⟩
abbrev sis_key_text : Stmt := top 12
theorem scis_key_text : FnScope ["text", "halves"] ["text"] (defScope sis_key_text) := ⟨rfl, rfl, rfl, by decide +kernel, rfl, by decide +kernel, by decide +kernel⟩
abbrev skey_of : Stmt := top 13
theorem sckey_of : FnScope ["text", "halves"] ["text"] (defScope skey_of) := ⟨rfl, rfl, rfl, by decide +kernel, rfl, by decide +kernel, by decide +kernel⟩
theorem ok_keo (T : Txt mg) (F_is_key_text : FnAt P w K mg base "is_key_text" 2 ["text"] spIKT) (F : TopFn K mg "key_of" skey_of ["text"]) :
    FnAt P w K mg base "key_of" 3 ["text"] spKeO := by
  refine F.at sckey_of (fun vs H Q E h => ?_) (fun f cdv A outer s H vs Q E hr h => ?_)
  · obtain ⟨a, n, rfl, _⟩ := h
    rfl
  · obtain ⟨a, n, rfl, ha, hn, q⟩ := h
    refine ⟨_, (pss_cons (ps_if (PW.pt (pw_or (pt_not (pt_val (pe_callB (call_isKd .str (by simp)) rfl T.n_isinstance boot_isinstance (pa_cons (pv 0) (pa_cons (pe_bltn (v := .ty "str") rfl T.n_str boot_str rfl) pa_nil))))) (pw_or1 (pt_not (pt_val (pe_fn F_is_key_text hr (by decide) rfl (pa_cons (pv 0) pa_nil))))))) (pss_one ps_never) pss_nil)
      (pss_cons (ps_set (i := 1) sckey_of.nd rfl (by first | exact Or.inl rfl | exact Or.inr rfl) (pe_bm PySem.F.plainAttrs_str PySem.F.slot_str_split PySem.F.type_str_split mt_split (pv 0) (pa_cons pe_str pa_nil)))
      (pss_one (ps_ret (pe_tup (pa_cons (pe_ix ix_list (pv 1) pe_int (fun _ _ => rfl)) (pa_cons (pe_callTy call_intT rfl T.n_int boot_int (pa_cons (pe_ix ix_list (pv 1) pe_int (fun _ _ => rfl)) pa_nil)) pa_nil))))))), ?_⟩
    have hs : sizeLine = 16777216 := sizeLine_eq
    have tl := text_len ha (n := (n : Int)) (by omega) (by omega)
    refine ⟨_, rfl, _, .str, rfl, TyOf.str _, _, rfl, iteF ?_⟩
    refine ⟨_, rfl, a, n, rfl, ha, hn, fun H0 s0 => ⟨_, rfl, iteF ?_⟩⟩
    refine ⟨_, rfl, rfl, textZ a n, ".", rfl, rfl, (by decide +kernel), (by omega), fun p hp => ?_⟩
    rw [split_key ha hn]
    have s1 := Same.new (o := .lst (([a, nT n] : List Str).map V.str)) hp
    have l1 : upd H0 p (.lst (([a, nT n] : List Str).map V.str)) p = some (.lst [.str a, .str (nT n)]) := upd_same
    generalize upd H0 p (.lst (([a, nT n] : List Str).map V.str)) = H1 at s1 l1 ⊢
    have il : PySem.intText? (nT n) = some (n : Int) := PySem.W.KIN.num_reads (by omega) (by omega)
    have nl := (num2 hn).h2
    refine ⟨_, rfl, p, _, _, V.str a, rfl, rfl, SqL.of l1, rfl, _, rfl, p, _, _, V.str (nT n), rfl, rfl, SqL.of l1, rfl, nT n, n, rfl, il, (by omega), (by show 2 ≤ sizeLine; decide), fun p2 hp2 => ?_⟩
    exact q p2 _ ((s0.trans s1).trans (Same.new hp2)) upd_same
def JW : List Str := [nm 0, nm 1, nm 2, nm 3]
def spJW : Sp := fun vs H Q _ => vs = [] ∧ ∀ (l : Addr) (H' : Hp), Same H H' → H l = none → H' l = some (.lst (JW.map V.str)) → Q (.ref l) H'
abbrev sjoin_words : Stmt := top 21
theorem scjoin_words : FnScope [] [] (defScope sjoin_words) := ⟨rfl, rfl, rfl, by decide +kernel, rfl, by decide +kernel, by decide +kernel⟩
theorem ok_jw (D : JHas P w K mg base J) (F_all_joins : FnAt P w K mg base "all_joins" 1 [] (spAll J)) (F : TopFn K mg "join_words" sjoin_words []) : FnAt P w K mg base "join_words" 2 [] spJW := by
  refine F.at scjoin_words (fun vs H Q E h => ?_) (fun f cdv A outer s H vs Q E hr h => ?_)
  · obtain ⟨rfl, _⟩ := h
    rfl
  · obtain ⟨rfl, q⟩ := h
    refine ⟨_, (pss_one (ps_ret (pe_comp (sc := defScope sjoin_words) (N0 := []) (xs := ["join"]) (ys := []) (js := []) ⟨rfl, by decide +kernel, by decide +kernel, by decide +kernel, by decide +kernel⟩ rfl (pi_list (pe_fn0 F_all_joins hr (by decide) rfl)) (fun _ _ _ _ => (pg_name (i := 0) (show (["join"] : List Str).Nodup by decide +kernel) rfl (by first | exact Or.inl rfl | exact Or.inr rfl))) (fun _ _ _ _ => pq_nil) (fun _ _ _ _ => (pe_methD (D := DW J) (pv 0) D.hDW (hr.mono (by decide)) pass0))))), ?_⟩
    refine ⟨rfl, fun l p0 p1 p2 p3 H1 s1 el a0 a1 a2 a3 => ?_⟩
    refine ⟨l, rfl, ⟨_, SqL.of el⟩, comp_list (K := K) (a := l) (xs := [V.ref p0, V.ref p1, V.ref p2, V.ref p3]) (fun j us H' => us = (JW.take j).map V.str ∧ H' = H1) ⟨rfl, rfl⟩ (by show 4 ≤ sizeLine; decide) ?_ ?_ ?_ ?_⟩
    · rintro j us H' ⟨rfl, _⟩
      rw [List.length_map, List.length_take]; omega
    · rintro j us H' _ ⟨_, rfl⟩
      exact SqL.of el
    · rintro j x us H' hx ⟨rfl, rfl⟩
      obtain ⟨p, dx, h4, rfl, hp⟩ := at4 a0 a1 a2 a3 j x hx
      refine ⟨_, rfl, p, J.c j, dx, [], spC (.str (nm j)), rfl, hp, rfl, ⟨j, h4, rfl, rfl⟩, ⟨p, rfl⟩, ?_, rfl⟩
      rcases j4 h4 with rfl | rfl | rfl | rfl <;> rfl
    · rintro us H' ⟨rfl, rfl⟩ l2 hl2
      exact q l2 _ (s1.trans (Same.new hl2)) (s1.free hl2) upd_same
end
end K78
namespace K78
open PySem L2 PyProof.Rows PySem.SeqAt
def keyT (k : Str × Nat) : Str := textZ k.1 (k.2 : Int)
theorem nm_len (j : Nat) : (nm j).length ≤ 7 := by
  match j with
  | 0 => decide +kernel
  | 1 => decide +kernel
  | 2 => decide +kernel
  | n + 3 => exact (by decide +kernel : (Str.ofString "changed").length ≤ 7)
theorem keyT_len {k : Str × Nat} (h : isWordZ k.1 = true ∧ k.2 < 100) : (keyT k).length ≤ 11 := text_len h.1 (by omega) (by omega)
section
variable {P : Program} {w : World} {K : PySem.W.Frag} {mg : Str → Option Value} {base : Heap} {C : Addr}
end
end K78
namespace L2
open PySem PySem.Spec PyProof.Rows
def XatF (C : Addr) (f : Str) (v : V) (H : Hp) (E : XK) : Prop := ∀ (a dx : Addr) (H' : Hp), Same H H' → H' a = some (excR a C (some dx)) → H' dx = some (.xd [(f, v)]) → E (.ref a) none H'
theorem XatF.go {C a dx : Addr} {f : Str} {v : V} {H H1 : Hp} {E : XK} (x : XatF C f v H E) (s : Same H H1) (h1 : H1 a = none) (h2 : H1 dx = none) (h3 : dx ≠ a) :
    E (.ref a) none (upd (upd (upd H1 a (excO a C (some dx))) dx (.xd [(f, v)])) a (excR a C (some dx))) := by
  refine x a dx _ (fun b o e => ?_) upd_same (by rw [upd_ne h3]; exact upd_same)
  have e1 := s b o e
  rw [upd_ne (ne_of_none e1 h1), upd_ne (ne_of_none e1 h2), upd_ne (ne_of_none e1 h1)]
  exact e1
theorem XatF.same {C : Addr} {f : Str} {v : V} {H H1 : Hp} {E : XK} (x : XatF C f v H E) (s : Same H H1) : XatF C f v H1 E := fun a dx H' s' h1 h2 => x a dx H' (s.trans s') h1 h2
end L2
namespace K78
open PySem L2 PyProof.Rows PySem.SeqAt
theorem hu1 {A : Around} {k : Nat} (hr : Room k A) : A.units + 1 < cLine := by have := hr.units; omega
theorem hu0 {A : Around} {k : Nat} (hr : Room k A) : A.units < cLine := by have := hr.units; omega
section
variable {P : Program} {w : World} {K : PySem.W.Frag} {mg : Str → Option Value} {base : Heap} {C cx G : Addr} {J : Js}
abbrev sBadText : Stmt := inClass (top 4) 0
theorem scBadText : FnScope ["self", "line"] ["self", "line"] (defScope sBadText) := ⟨rfl, rfl, rfl, by decide +kernel, rfl, by decide +kernel, by decide +kernel⟩
theorem ok_BadText (B : GBase K mg "GrantError" G) (D : XTop K mg "BadText" "line" sBadText cx G) : XAt P w K mg base "BadText" 1 "line" cx := by
  obtain ⟨df, _, f, fd, hi, hfn, F, hb⟩ := D
  refine ⟨df, f, fd, hi, hfn, F.ok scBadText (fun vs H Q E h => ?_) (fun cdv A outer s H vs Q E hr h => ?_), hb⟩
  · obtain ⟨e, v, rfl, _⟩ := h
    rfl
  · obtain ⟨e, v, rfl, he, q⟩ := h
    refine ⟨_, (pss_cons (ps_expr (pe_binit B rfl (pa_cons (pv 0) (pa_cons pe_str pa_nil)))) (pss_one (ps_xfld (pv 0) (pv 1)))), ?_⟩
    refine ⟨_, rfl, e, cx, none, _, rfl, he, df.ok.mkk, ?_⟩
    exact ⟨_, rfl, _, rfl, e, cx, rfl, he, df.ok, fun dx n1 n2 => q dx n1 n2⟩
end
end K78
namespace K78
open PySem L2 PyProof.Rows
def isNumZ (z : Str) : Bool := decide (1 ≤ z.length ∧ z.length ≤ 2) && !(decide (z.cps.getD 0 0 = 48) && decide (1 < z.length)) && z.cps.toList.all isFig
theorem one_fig : ∀ c : Fin 10, PySem.intText? ⟨#[48 + c.val]⟩ = some (c.val : Int) := by decide +kernel
theorem two_figs : ∀ c d : Fin 10, PySem.intText? ⟨#[48 + c.val, 48 + d.val]⟩ = some ((10 * c.val + d.val : Nat) : Int) := by decide +kernel
theorem num_text {b : Str} (h : isNumZ b = true) : ∃ n : Int, PySem.intText? b = some n ∧ 0 ≤ n ∧ n < 100 := by
  obtain ⟨⟨l⟩⟩ := b
  unfold isNumZ at h
  simp only [Bool.and_eq_true, decide_eq_true_eq] at h
  obtain ⟨⟨⟨h1, h2⟩, _⟩, ha⟩ := h
  match l, h1, h2, ha with
  | [], h1, _, _ => exact absurd h1 (by decide)
  | [c], _, _, ha =>
    have hc : 48 ≤ c ∧ c ≤ 57 := by simpa [isFig] using ha
    have := one_fig ⟨c - 48, by omega⟩
    have e : 48 + (c - 48) = c := by omega
    simp only [e] at this
    exact ⟨_, this, by omega, by omega⟩
  | [c, d], _, _, ha =>
    have hc : (48 ≤ c ∧ c ≤ 57) ∧ 48 ≤ d ∧ d ≤ 57 := by simpa [isFig] using ha
    have := two_figs ⟨c - 48, by omega⟩ ⟨d - 48, by omega⟩
    have e : 48 + (c - 48) = c := by omega
    have e' : 48 + (d - 48) = d := by omega
    simp only [e, e'] at this
    exact ⟨_, this, by omega, by omega⟩
  | c :: d :: e :: r, _, h2, _ => exact absurd h2 (by show ¬ (r.length + 1 + 1 + 1 ≤ 2); omega)
def keyZ (z : Str) : Option (Str × Int) := match Txt.split z "." with
  | [a, b] => if isWordZ a = true ∧ isNumZ b = true then (PySem.intText? b).map fun n => (a, n) else none
  | _ => none
section
variable {P : Program} {w : World} {K : PySem.W.Frag} {mg : Str → Option Value} {base : Heap}
def spNumA : Sp := fun vs H Q _ => ∃ z, vs = [.str z, .int 2] ∧ z.length ≤ 1200 ∧ ∀ H', Same H H' → Q (.bl (isNumZ z)) H'
theorem ok_numA (T : Txt mg) (N : Tx2 mg) (F : TopFn K mg "is_number_text" sis_number_text ["text", "longest"]) : FnAt P w K mg base "is_number_text" 1 ["text", "longest"] spNumA := by
  refine F.at scis_number_text (fun vs H Q E h => ?_) (fun f cdv A outer s H vs Q E hr h => ?_)
  · obtain ⟨z, rfl, _⟩ := h
    rfl
  · obtain ⟨z, rfl, hz, q⟩ := h
    refine ⟨_, (pss_cons (ps_if (pt_not (pt_chain op_le op_le pe_int (pe_callB call_len rfl T.n_len boot_len (pa_cons (pv 0) pa_nil)) (pv 1))) (pss_one (ps_ret pe_bl)) pss_nil)
      (pss_cons (ps_if (PW.pt (pw_and (pt_cmpR op_eq (pe_ix ix_str (pv 0) pe_int (fun _ _ => rfl)) pe_str (nomark _)) (pw_and1 (pt_cmpR op_gt (pe_callB call_len rfl T.n_len boot_len (pa_cons (pv 0) pa_nil)) pe_int (nomark _))))) (pss_one (ps_ret pe_bl)) pss_nil)
      (pss_one (ps_ret (pe_callB (call_allB rfl) rfl T.n_all boot_all (pa_cons (pe_comp (sc := defScope sis_number_text) (N0 := ["text", "longest"]) (xs := ["sign"]) (ys := []) (js := []) ⟨rfl, by decide +kernel, by decide +kernel, by decide +kernel, by decide +kernel⟩ rfl (pi_str (pv 0)) (fun _ _ _ _ => (pg_name (i := 0) (show (["sign"] : List Str).Nodup by decide +kernel) rfl (by first | exact Or.inl rfl | exact Or.inr rfl))) (fun _ _ _ _ => pq_nil) (fun _ _ _ _ => (pe_cmpR op_in_str (pv 0) (pe_globS rfl N.g_FIGURES) (by with_unfolding_all rfl)))) pa_nil)))))), ?_⟩
    have hs : sizeLine = 16777216 := sizeLine_eq
    have no : isNumZ z = false → Q (.bl false) H := fun e => by
      have := q H (Same.refl H)
      rw [e] at this
      exact this
    refine ⟨_, rfl, _, _, rfl, ⟨by omega, rfl⟩, _, _, rfl, rfl, _, rfl, ?_⟩
    refine ite2 (fun h1 => ?_) (fun h1 => ?_)
    · have h1 : (1 : Int) ≤ (z.length : Int) := of_decide_eq_true h1
      refine ⟨_, rfl, _, _, rfl, rfl, _, rfl, ?_⟩
      refine ite2 (fun h2 => ?_) (fun h2 => ?_)
      · have h2 : ¬ ((z.length : Int) ≤ 2) := by simpa using h2
        refine no ?_
        unfold isNumZ
        rw [decide_eq_false (by omega)]; rfl
      · have h2 : (z.length : Int) ≤ 2 := by simpa using h2
        have hsz : z.cps.size = z.length := rfl
        have h0 : 0 < z.cps.size := by omega
        refine' mp_rest2 (C := ¬ (z.cps.getD 0 0 = 48 ∧ 1 < z.length)) ?r ?b
        case b =>
          intro r
          refine ⟨_, rfl, z, 0, z.cps.getD 0 0, rfl, rfl, (by omega), atI_nat (j := 0) (by rw [Array.getD_eq_getD_getElem?, Array.getElem?_eq_getElem h0]; simp [h0]), rfl, _, rfl, ?_⟩
          refine ite2 (fun h3 => ?_) (fun h3 => iteF (r fun z5 => h3 (decide_eq_true (by rw [z5.1]; decide +kernel))))
          refine ⟨_, rfl, _, _, rfl, ⟨by omega, rfl⟩, _, _, rfl, rfl, _, rfl, ?_⟩
          refine ite2 (fun h4 => ?_) (fun h4 => r fun z5 => h4 (decide_eq_true (by have := z5.2; omega)))
          have h4 : (1 : Int) < (z.length : Int) := of_decide_eq_true h4
          have h3 : (⟨#[z.cps.getD 0 0]⟩ : Str) = Str.ofString "0" := V.str.inj (of_decide_eq_true h3)
          have h5 : z.cps.getD 0 0 = 48 := by
            have e : Str.ofString "0" = ⟨#[48]⟩ := by decide +kernel
            rw [e] at h3
            have := congrArg (fun x : Str => x.cps.getD 0 0) h3
            simpa using this
          refine no ?_
          unfold isNumZ
          rw [decide_eq_true h5, decide_eq_true (show 1 < z.length by omega)]
          simp
        case r =>
          intro hn0
          have fin : isNumZ z = (z.cps.toList.map isFig).all id := by
            unfold isNumZ
            rw [decide_eq_true (by omega), List.all_map]
            have : (decide (z.cps.getD 0 0 = 48) && decide (1 < z.length)) = false := by
              rw [Bool.eq_false_iff]
              intro z6
              rw [Bool.and_eq_true, decide_eq_true_eq, decide_eq_true_eq] at z6
              exact hn0 z6
            rw [this]
            rfl
          refine ⟨_, rfl, z, rfl, comp_str (fun i ys H' => H' = H ∧ ys = (z.cps.toList.take i).map fun c => V.bl (isFig c)) ⟨rfl, rfl⟩ (by show z.length ≤ sizeLine; omega) ?_ ?_ ?_⟩
          · rintro i ys H' ⟨rfl, rfl⟩
            simp; omega
          · rintro i ys H' hi ⟨rfl, rfl⟩
            refine ⟨_, rfl, _, _, rfl, rfl, rfl, ?_⟩
            have e3 : (!(Builtin.Str.occurrences (Str.ofString "0123456789") (sgn z i) 0 (Str.ofString "0123456789").length 1).isEmpty) = isFig (z.cps.getD i 0) := fig_in _
            rw [e3]
            exact take_map_snoc z hi fun c => V.bl (isFig c)
          · rintro ys H' ⟨rfl, rfl⟩ p hp
            refine ⟨p, z.cps.toList.map isFig, rfl, SqL.of (by rw [upd_same, List.take_of_length_le (by simp), List.map_map]; rfl), ?_⟩
            have := q _ (Same.new (o := .lst ((z.cps.toList.take z.cps.size).map fun c => V.bl (isFig c))) hp)
            rw [fin] at this
            exact this
    · have h1 : ¬ ((1 : Int) ≤ (z.length : Int)) := by simpa using h1
      refine ⟨_, rfl, iteT (no ?_)⟩
      unfold isNumZ
      rw [decide_eq_false (by omega)]; rfl
def spIKTA : Sp := fun vs H Q _ => ∃ z : Str, vs = [.str z] ∧ z.length ≤ 1200 ∧ ∀ H', Same H H' → Q (.bl (keyZ z).isSome) H'
theorem ok_iktA (T : Txt mg) (F_is_word : FnAt P w K mg base "is_word" 1 ["thing"] (spWord K)) (F_is_number_text : FnAt P w K mg base "is_number_text" 1 ["text", "longest"] spNumA) (F : TopFn K mg "is_key_text" sis_key_text ["text"]) :
    FnAt P w K mg base "is_key_text" 2 ["text"] spIKTA := by
  refine F.at scis_key_text (fun vs H Q E h => ?_) (fun f cdv A outer s H vs Q E hr h => ?_)
  · obtain ⟨z, rfl, _⟩ := h
    rfl
  · obtain ⟨z, rfl, hzl, q⟩ := h
    refine ⟨_, (pss_cons (ps_set (i := 1) scis_key_text.nd rfl (by first | exact Or.inl rfl | exact Or.inr rfl) (pe_bm PySem.F.plainAttrs_str PySem.F.slot_str_split PySem.F.type_str_split mt_split (pv 0) (pa_cons pe_str pa_nil)))
      (pss_one (ps_ret (pe_and (pe_cmpR op_eq (pe_callB call_len rfl T.n_len boot_len (pa_cons (pv 1) pa_nil)) pe_int (nomark _)) (pe_and (pe_fn F_is_word hr (by decide) rfl (pa_cons (pe_ix ix_list (pv 1) pe_int (fun _ _ => rfl)) pa_nil)) (pe_one (pe_fn F_is_number_text hr (by decide) rfl (pa_cons (pe_ix ix_list (pv 1) pe_int (fun _ _ => rfl)) (pa_cons pe_int pa_nil))))))))), ?_⟩
    have hs : sizeLine = 16777216 := sizeLine_eq
    refine ⟨_, rfl, rfl, z, ".", rfl, rfl, (by decide +kernel), (by omega), fun p hp => ?_⟩
    have s1 := Same.new (o := .lst ((Txt.split z ".").map V.str)) hp
    have l1 : upd H p (.lst ((Txt.split z ".").map V.str)) p = some (.lst ((Txt.split z ".").map V.str)) := upd_same
    generalize upd H p (.lst ((Txt.split z ".").map V.str)) = H1 at s1 l1 ⊢
    have short : ∀ x ∈ Txt.split z ".", x.length ≤ z.length := fun x hx => part_short hx
    have kz : keyZ z = (match Txt.split z "." with | [a, b] => if isWordZ a = true ∧ isNumZ b = true then (PySem.intText? b).map fun n => (a, n) else none | _ => none) := rfl
    generalize Txt.split z "." = L at l1 short kz
    refine ⟨_, rfl, _, _, rfl, .inl ⟨_, SqL.of l1, rfl⟩, rfl, _, rfl, ?_⟩
    by_cases h2 : L.length = 2
    · obtain ⟨a, b, rfl⟩ : ∃ a b, L = [a, b] := by
        match L, h2 with
        | [a, b], _ => exact ⟨a, b, rfl⟩
      have la := short a (by simp)
      have lb := short b (by simp)
      refine iteT ?_
      refine ⟨_, rfl, p, _, _, V.str a, rfl, rfl, SqL.of l1, rfl, .str a, rfl, ⟨.str, TyOf.str a⟩, (fun z' e => by cases e; omega), fun H2 s2 => ⟨_, rfl, ?_⟩⟩
      have l2 := s2 _ _ l1
      show if isWordZ a = true then _ else _
      cases ha : isWordZ a with
      | false =>
        have e0 : (keyZ z).isSome = false := by rw [kz]; simp [ha]
        have q' := q H2 (s1.trans s2)
        rw [e0] at q'
        exact iteF q'
      | true =>
        refine iteT ?_
        refine ⟨_, rfl, p, _, _, V.str b, rfl, rfl, SqL.of l2, rfl, b, rfl, (by omega), fun H3 s3 => ?_⟩
        have q' := q H3 ((s1.trans s2).trans s3)
        have e0 : (keyZ z).isSome = isNumZ b := by
          cases hb : isNumZ b with
          | false => rw [kz]; simp [hb]
          | true =>
            obtain ⟨n, hn, _, _⟩ := num_text hb
            rw [kz]; simp [ha, hb, hn]
        rw [e0] at q'
        exact q'
    · have e0 : (keyZ z).isSome = false := by
        rw [kz]
        match L, h2 with
        | [], _ => rfl
        | [_], _ => rfl
        | _ :: _ :: _ :: _, _ => rfl
        | [_, _], h => exact absurd rfl h
      have hne : ¬ (V.int ((L.map V.str).length : Nat) = V.int 2) := fun h => h2 (by
        have := V.int.inj h
        rw [List.length_map] at this
        omega)
      have q' := q H1 s1
      rw [e0] at q'
      rw [decide_eq_false hne]
      exact iteF q'
end
end K78
namespace L2
open PySem PySem.Spec PyProof.Rows
theorem op_inK {X : Cx} (K : PySem.W.Frag) (hK : X.K = K := by rfl) : OpR X (compareOp .In) (rIn K false) := by
  subst hK
  exact op_in_seq
end L2
namespace K78
open PySem L2 PyProof.Rows PySem.SeqAt
theorem cut1 (x : V) (xs : List V) : cutV (x :: xs) (some 1) none = xs := by
  have e : HT.sIx (x :: xs).length 0 (some 1) = 1 := by
    rw [show (1 : Int) = ((1 : Nat) : Int) from rfl, HT.sIx_nat, List.length_cons]
    omega
  unfold cutV
  rw [e, HT.sIx_none, List.drop_one, List.tail_cons]
  exact List.take_of_length_le (by rw [List.length_cons]; omega)
theorem flat_strs (zs : List Str) : (zs.map V.str).all flatV = true := by
  rw [List.all_eq_true]
  intro x hx
  obtain ⟨z, _, rfl⟩ := List.mem_map.mp hx
  rfl
theorem in_strs {z : Str} {zs : List Str} (h : z ∈ zs) : inV (V.str z) (zs.map V.str) = true := by
  unfold inV
  rw [List.any_eq_true]
  exact ⟨V.str z, List.mem_map.mpr ⟨z, h, rfl⟩, by simp [eqV]⟩
theorem nm_in {j : Nat} (h : j < 4) : nm j ∈ JW := by
  match j, h with
  | 0, _ => exact List.mem_cons_self
  | 1, _ => exact List.mem_cons_of_mem _ List.mem_cons_self
  | 2, _ => exact List.mem_cons_of_mem _ (List.mem_cons_of_mem _ List.mem_cons_self)
  | 3, _ => exact List.mem_cons_of_mem _ (List.mem_cons_of_mem _ (List.mem_cons_of_mem _ List.mem_cons_self))
theorem one_nT : ∀ c : Fin 10, (⟨#[48 + c.val]⟩ : Str) = nT c.val := by decide +kernel
theorem two_nT : ∀ c d : Fin 10, c.val ≠ 0 → (⟨#[48 + c.val, 48 + d.val]⟩ : Str) = nT (10 * c.val + d.val) := by decide +kernel
theorem num_nT {b : Str} (h : isNumZ b = true) : ∃ n : Nat, b = nT n ∧ n < 100 := by
  obtain ⟨⟨l⟩⟩ := b
  unfold isNumZ at h
  simp only [Bool.and_eq_true, decide_eq_true_eq, Bool.not_eq_true', Bool.and_eq_false_iff, decide_eq_false_iff_not] at h
  obtain ⟨⟨⟨h1, h2⟩, h3⟩, ha⟩ := h
  match l, h1, h2, h3, ha with
  | [], h1, _, _, _ => exact absurd h1 (by decide)
  | [c], _, _, _, ha =>
    have hc : 48 ≤ c ∧ c ≤ 57 := by simpa [isFig] using ha
    have := one_nT ⟨c - 48, by omega⟩
    have e : 48 + (c - 48) = c := by omega
    simp only [e] at this
    exact ⟨_, this, by omega⟩
  | [c, d], _, _, h3, ha =>
    have hc : (48 ≤ c ∧ c ≤ 57) ∧ 48 ≤ d ∧ d ≤ 57 := by simpa [isFig] using ha
    have h0 : c - 48 ≠ 0 := by
      rcases h3 with h | h
      · have h : ¬ c = 48 := h
        omega
      · exact absurd (show 1 < ([c, d] : List Nat).length by simp) h
    have := two_nT ⟨c - 48, by omega⟩ ⟨d - 48, by omega⟩ h0
    have e : 48 + (c - 48) = c := by omega
    have e' : 48 + (d - 48) = d := by omega
    simp only [e, e'] at this
    exact ⟨_, this, by omega⟩
  | c :: d :: e :: r, _, h2, _, _ => exact absurd h2 (by show ¬ (r.length + 1 + 1 + 1 ≤ 2); omega)
theorem nT_num : ∀ n : Fin 100, isNumZ (nT n.val) = true ∧ PySem.intText? (nT n.val) = some (n.val : Int) := by decide +kernel
def keyP (z : Str) : Option (Str × Nat) := (keyZ z).map fun k => (k.1, k.2.toNat)
theorem keyP_text {k : Str × Nat} (h : isWordZ k.1 = true ∧ k.2 < 100) : keyP (keyT k) = some k := by
  unfold keyP keyZ keyT
  rw [split_key h.1 h.2]
  have hd := nT_num ⟨k.2, h.2⟩
  simp only [h.1, hd.1, hd.2, and_self, if_true, Option.map_some]
  rfl
theorem keyP_some {z : Str} {k : Str × Nat} (h : keyP z = some k) : z = keyT k ∧ isWordZ k.1 = true ∧ k.2 < 100 := by
  unfold keyP keyZ at h
  rw [dot1] at h
  have hj := StrLaws.join_split z ⟨#[46]⟩
  generalize Txt.split z ⟨#[46]⟩ = L at h hj
  match L, h, hj with
  | [], h, _ => cases h
  | [a], h, _ => cases h
  | a :: b :: c :: r, h, _ => cases h
  | [a, b], h, hj =>
    by_cases hc : isWordZ a = true ∧ isNumZ b = true
    · obtain ⟨n, rfl, hn⟩ := num_nT hc.2
      have hd := nT_num ⟨n, hn⟩
      simp only [hc.1, hd.1, hd.2, and_self, if_true, Option.map_some, Option.some.injEq] at h
      subst h
      refine ⟨?_, hc.1, by show ((n : Int)).toNat < 100; omega⟩
      rw [← hj]
      show a ++ ⟨#[46]⟩ ++ nT n = a ++ ("." : Str) ++ nT _
      rw [dot1, show ((n : Int)).toNat = n by omega]
    · simp only [if_neg hc] at h
      cases h
theorem keyP_is (z : Str) : (keyZ z).isSome = (keyP z).isSome := by unfold keyP; rw [Option.isSome_map]
def jP (z : Str) : Option Nat := if z = nm 0 then some 0 else if z = nm 1 then some 1 else if z = nm 2 then some 2 else if z = nm 3 then some 3 else none
theorem jP_some {z : Str} {j : Nat} (h : jP z = some j) : z = nm j ∧ j < 4 := by
  unfold jP at h
  repeat' (split at h)
  all_goals first | (cases h; done) | (cases h; exact ⟨by assumption, by decide⟩)
theorem jP_in (z : Str) : inV (V.str z) (JW.map V.str) = (jP z).isSome := by
  rw [Bool.eq_iff_iff]
  constructor
  · intro h
    unfold inV at h
    rw [List.any_eq_true] at h
    obtain ⟨x, hx, e⟩ := h
    obtain ⟨y, hy, rfl⟩ := List.mem_map.mp hx
    have e : z = y := by
      have : eqV (V.str y) (V.str z) = true ∨ eqV (V.str z) (V.str y) = true := by first | exact .inl e | exact .inr e
      rcases this with h | h
      · exact (beq_iff_eq.mp (show (y == z) = true from h)).symm
      · exact beq_iff_eq.mp (show (z == y) = true from h)
    subst e
    unfold JW at hy
    simp only [List.mem_cons, List.not_mem_nil, or_false] at hy
    rcases hy with rfl | rfl | rfl | rfl
    · exact (by decide +kernel : (jP (nm 0)).isSome = true)
    · exact (by decide +kernel : (jP (nm 1)).isSome = true)
    · exact (by decide +kernel : (jP (nm 2)).isSome = true)
    · exact (by decide +kernel : (jP (nm 3)).isSome = true)
  · intro h
    obtain ⟨j, hj⟩ := Option.isSome_iff_exists.mp h
    obtain ⟨rfl, h4⟩ := jP_some hj
    exact in_strs (nm_in h4)
section
variable {P : Program} {w : World} {K : PySem.W.Frag} {mg : Str → Option Value} {base : Heap} {C : Addr}
structure WsAt (H : Hp) (l : Addr) (ws : List Str) : Prop where
  at_ : H l = some (.lst (ws.map V.str))
  few : ws.length ≤ 2000
  short : ∀ z ∈ ws, z.length ≤ 1200
theorem WsAt.same {H H' : Hp} {l : Addr} {ws : List Str} (h : WsAt H l ws) (s : Same H H') : WsAt H' l ws := ⟨s _ _ h.at_, h.few, h.short⟩
end
end K78
namespace K78
open PySem L2 PyProof.Rows PySem.SeqAt
theorem dot_is : Str.ofString "." = ⟨#[46]⟩ := by decide +kernel
theorem at_iff (z : Str) (i : Nat) : StrLaws.At z ⟨#[46]⟩ z.length i ↔ z.cps.toList[i]? = some 46 := by
  unfold StrLaws.At
  rw [StrLaws.subAt_eq]
  have hl : (⟨#[46]⟩ : Str).length = 1 := rfl
  rw [hl]
  have hz : z.length = z.cps.toList.length := by simp [Str.length]
  rw [hz]
  constructor
  · rintro ⟨h1, h2⟩
    have h3 : i < z.cps.toList.length := by omega
    have h2 : (z.cps.toList.drop i).take 1 = [46] := by simpa using h2
    rw [List.drop_eq_getElem_cons h3] at h2
    have : z.cps.toList[i] = 46 := by simpa using h2
    rw [List.getElem?_eq_getElem h3, this]
  · intro h
    obtain ⟨h3, h4⟩ := List.getElem?_eq_some_iff.mp h
    refine ⟨by omega, ?_⟩
    rw [List.drop_eq_getElem_cons h3, h4]
    simp
theorem first_dot {z : Str} {a r : List Nat} (h : z.cps.toList = a ++ 46 :: r) (ha : 46 ∉ a) : findZ z (Str.ofString ".") = a.length := by
  rw [dot_is]
  unfold findZ
  rcases StrLaws.occ_head z ⟨#[46]⟩ 1 (Nat.le_refl _) with ⟨_, hn⟩ | ⟨i, t, e, hi, hk⟩
  · exact absurd ((at_iff z a.length).mpr (by rw [h]; simp)) (hn a.length)
  · rw [e]
    show (i : Int) = a.length
    have hi := (at_iff z i).mp hi
    have h1 : ¬ a.length < i := fun lt => hk a.length lt ((at_iff z a.length).mpr (by rw [h]; simp))
    have h2 : ¬ i < a.length := fun lt => by
      rw [h, List.getElem?_append_left lt] at hi
      exact ha (List.mem_of_getElem? hi)
    omega
theorem no_dot {z : Str} (h : 46 ∉ z.cps.toList) : findZ z (Str.ofString ".") = -1 := by
  rw [dot_is]
  unfold findZ
  rcases StrLaws.occ_head z ⟨#[46]⟩ 1 (Nat.le_refl _) with ⟨e, _⟩ | ⟨i, t, e, hi, hk⟩
  · rw [e]
  · exact absurd (List.mem_of_getElem? ((at_iff z i).mp hi)) h
theorem first_split : ∀ {l : List Nat}, 46 ∈ l → ∃ a b, l = a ++ 46 :: b ∧ 46 ∉ a
  | [], h => by cases h
  | x :: l, h => by
    by_cases e : x = 46
    · exact ⟨[], l, by rw [e]; rfl, by simp⟩
    · rcases List.mem_cons.mp h with h | h
      · exact absurd h.symm e
      · obtain ⟨a, b, h1, h2⟩ := first_split h
        refine ⟨x :: a, b, by rw [h1]; rfl, fun m => ?_⟩
        rcases List.mem_cons.mp m with m | m
        · exact e m.symm
        · exact h2 m
theorem keyT_list (k : Str × Nat) : (keyT k).cps.toList = k.1.cps.toList ++ 46 :: (nT k.2).cps.toList := by
  show (k.1 ++ ("." : Str) ++ nT k.2).cps.toList = _
  rw [app_toList, app_toList, dot1]
  simp
theorem keyP_cut {z : Str} {a b : List Nat} (h : z.cps.toList = a ++ 46 :: b) {k : Str × Nat} (ha : 46 ∉ a) (e : keyP z = some k) : k.1 = ⟨a.toArray⟩ ∧ nT k.2 = ⟨b.toArray⟩ ∧ isWordZ k.1 = true ∧ k.2 < 100 := by
  obtain ⟨e1, e2, e3⟩ := keyP_some e
  rw [e1, keyT_list] at h
  obtain ⟨h1, h2⟩ := cut_inj (word_no e2 (by decide)) ha h
  exact ⟨str_inj h1, str_inj h2, e2, e3⟩
theorem keyP_no {z : Str} (h : 46 ∉ z.cps.toList) : keyP z = none := by
  cases e : keyP z with
  | none => rfl
  | some k =>
    obtain ⟨e1, _⟩ := keyP_some e
    rw [e1, keyT_list] at h
    exact absurd (by simp) h
theorem keyP_put {z : Str} {a b : List Nat} {n : Nat} (h : z.cps.toList = a ++ 46 :: b) (ha : isWordZ ⟨a.toArray⟩ = true) (hn : n < 100) (hb : nT n = ⟨b.toArray⟩) : keyP z = some (⟨a.toArray⟩, n) := by
  have : z = keyT (⟨a.toArray⟩, n) := str_inj (by rw [h, keyT_list, hb])
  rw [this]
  exact keyP_text ⟨ha, hn⟩
section
variable {P : Program} {w : World} {K : PySem.W.Frag} {mg : Str → Option Value} {base : Heap}
def lowV (z : Str) (i : Nat) : List V := ((z.cps.toList.take i).filter isLow).map fun c => V.str ⟨#[c]⟩
theorem low_step (z : Str) {i : Nat} (hi : i < z.cps.size) : lowV z (i + 1) = if isLow (z.cps.getD i 0) = true then lowV z i ++ [V.str ⟨#[z.cps.getD i 0]⟩] else lowV z i := by
  have e : z.cps.getD i 0 = z.cps.toList[i]'(by simpa using hi) := by
    rw [Array.getD_eq_getD_getElem?, Array.getElem?_eq_getElem hi]; simp
  unfold lowV
  rw [List.take_succ_eq_append_getElem (by simpa using hi), List.filter_append, List.map_append, e]
  cases h : isLow (z.cps.toList[i]'(by simpa using hi)) <;> simp [h] <;> simpa using h
theorem low_all (z : Str) : ((lowV z z.cps.size).length = z.length) ↔ z.cps.toList.all isLow = true := by
  unfold lowV
  rw [List.take_of_length_le (by simp), List.length_map, show z.length = z.cps.toList.length by simp [Str.length], List.length_filter_eq_length_iff, List.all_eq_true]
def spLW : Sp := fun vs H Q _ => ∃ z : Str, vs = [.str z] ∧ z.length ≤ 1200 ∧ ∀ H', Same H H' → Q (.bl (isWordZ z)) H'
abbrev s_law_is_word : Stmt := top 44
theorem sc_law_is_word : FnScope ["_law_text", "_law_small"] ["_law_text"] (defScope s_law_is_word) := ⟨rfl, rfl, rfl, by decide +kernel, rfl, by decide +kernel, by decide +kernel⟩
theorem ok_lw (T : Txt mg) (F : TopFn K mg "_law_is_word" s_law_is_word ["_law_text"]) : FnAt P w K mg base "_law_is_word" 1 ["_law_text"] spLW := by
  refine F.at sc_law_is_word (fun vs H Q E h => ?_) (fun f cdv A outer s H vs Q E hr h => ?_)
  · obtain ⟨z, rfl, _⟩ := h
    rfl
  · obtain ⟨z, rfl, hz, q⟩ := h
    refine ⟨_, (pss_cons (ps_setComp (i := 1) (sc := defScope s_law_is_word) (N0 := ["_law_text", "_law_small"]) (xs := ["_law_sign"]) (ys := []) (js := []) ⟨rfl, by decide +kernel, by decide +kernel, by decide +kernel, by decide +kernel⟩ rfl sc_law_is_word.nd rfl rfl (pi_str (pv 0)) (fun _ _ _ _ => (pg_name (i := 0) (show (["_law_sign"] : List Str).Nodup by decide +kernel) rfl (by first | exact Or.inl rfl | exact Or.inr rfl))) (fun _ _ _ _ => pq_one (pt_cmpR op_in_str (pv 0) pe_str (by with_unfolding_all rfl))) (fun _ _ _ _ => (pv 0)))
      (pss_one (ps_ret (pe_and (pe_chain op_le op_le pe_int (pe_callB call_len rfl T.n_len boot_len (pa_cons (pv 0) pa_nil)) pe_int) (pe_one (pe_cmpR op_eq (pe_callB call_len rfl T.n_len boot_len (pa_cons (pv 1) pa_nil)) (pe_callB call_len rfl T.n_len boot_len (pa_cons (pv 0) pa_nil)) (nomark _))))))), ?_⟩
    have hs : sizeLine = 16777216 := sizeLine_eq
    have hzs : z.cps.size = z.length := rfl
    refine ⟨_, rfl, z, rfl, comp_str (fun i ys H' => H' = H ∧ ys = lowV z i) ⟨rfl, rfl⟩ (by show z.length ≤ sizeLine; omega) ?_ ?_ ?_⟩
    · rintro i ys H' ⟨rfl, rfl⟩
      unfold lowV
      rw [List.length_map]
      exact Nat.le_trans (List.length_filter_le _ _) (by rw [List.length_take]; omega)
    · rintro i ys H' hi ⟨rfl, rfl⟩
      have st := low_step z hi
      refine ⟨_, rfl, _, _, rfl, rfl, _, rfl, ?_⟩
      have e3 : (!(Builtin.Str.occurrences (Str.ofString "abcdefghijklmnopqrstuvwxyz") (sgn z i) 0 (Str.ofString "abcdefghijklmnopqrstuvwxyz").length 1).isEmpty) = isLow (z.cps.getD i 0) := low_in _
      rw [e3]
      refine ite2 (fun h => ?_) (fun h => ?_)
      · rw [if_pos h] at st
        exact ⟨_, rfl, rfl, st.symm⟩
      · rw [if_neg h] at st
        exact ⟨rfl, st.symm⟩
    · rintro ys H' ⟨rfl, rfl⟩ p hp
      have s1 := Same.new (o := .lst (lowV z z.cps.size)) hp
      have e1 : upd H' p (.lst (lowV z z.cps.size)) p = some (.lst (lowV z z.cps.size)) := upd_same
      generalize upd H' p (.lst (lowV z z.cps.size)) = H1 at s1 e1 ⊢
      have q := q H1 s1
      refine ⟨_, rfl, _, _, rfl, ⟨by omega, rfl⟩, _, _, rfl, rfl, _, rfl, ite2 (fun h1 => ?_) (fun h1 => ?_)⟩
      · have h1 : (1 : Int) ≤ (z.length : Int) := of_decide_eq_true h1
        refine ⟨_, _, rfl, rfl, _, rfl, ite2 (fun h2 => ?_) (fun h2 => ?_)⟩
        · have h2 : (z.length : Int) ≤ 8 := of_decide_eq_true h2
          refine ⟨_, rfl, _, _, rfl, .inl ⟨_, SqL.of e1, rfl⟩, _, rfl, _, _, rfl, ⟨by omega, rfl⟩, rfl, ?_⟩
          have e : isWordZ z = decide (V.int ((lowV z z.cps.size).length : Nat) = V.int (z.length : Nat)) := by
            rw [Bool.eq_iff_iff]
            unfold isWordZ
            rw [Bool.and_eq_true, decide_eq_true_eq, decide_eq_true_eq, ← low_all z]
            constructor
            · intro h; rw [h.2]
            · intro h
              have := V.int.inj h
              exact ⟨by omega, by omega⟩
          rw [e] at q
          exact q
        · have h2 : ¬ (z.length : Int) ≤ 8 := fun y => h2 (decide_eq_true y)
          have e : isWordZ z = false := by
            unfold isWordZ
            rw [decide_eq_false (show ¬ (1 ≤ z.length ∧ z.length ≤ 8) by omega)]
            rfl
          rw [e] at q
          exact q
      · have h1 : ¬ (1 : Int) ≤ (z.length : Int) := fun y => h1 (decide_eq_true y)
        have e : isWordZ z = false := by
          unfold isWordZ
          rw [decide_eq_false (show ¬ (1 ≤ z.length ∧ z.length ≤ 8) by omega)]
          rfl
        rw [e] at q
        exact ⟨_, rfl, iteF q⟩
def spLK : Sp := fun vs H Q _ => ∃ z : Str, vs = [.str z] ∧ z.length ≤ 1200 ∧ (keyP z = none → ∀ H', Same H H' → Q .non H') ∧ ∀ k, keyP z = some k → ∀ (p : Addr) (H' : Hp), Same H H' → KeyR H' p k → Q (.ref p) H'
abbrev s_law_key : Stmt := top 45
theorem sc_law_key : FnScope ["_law_text", "_law_cut", "_law_figures"] ["_law_text"] (defScope s_law_key) := ⟨rfl, rfl, rfl, by decide +kernel, rfl, by decide +kernel, by decide +kernel⟩
theorem ok_lk (T : Txt mg) (F__law_is_word : FnAt P w K mg base "_law_is_word" 1 ["_law_text"] spLW) (F : TopFn K mg "_law_key" s_law_key ["_law_text"]) : FnAt P w K mg base "_law_key" 2 ["_law_text"] spLK := by
  refine F.at sc_law_key (fun vs H Q E h => ?_) (fun f cdv A outer s H vs Q E hr h => ?_)
  · obtain ⟨z, rfl, _⟩ := h
    rfl
  · obtain ⟨z, rfl, hz, q0, q1⟩ := h
    refine ⟨_, (pss_cons (ps_set (i := 1) sc_law_key.nd rfl (by first | exact Or.inl rfl | exact Or.inr rfl) (pe_bm PySem.F.plainAttrs_str PySem.F.slot_str_find PySem.F.type_str_find mt_find (pv 0) (pa_cons pe_str pa_nil)))
      (pss_cons (ps_if (PW.pt (pw_or (pt_cmpR op_lt (pv 1) pe_int (nomark _)) (pw_or1 (pt_not (pt_val (pe_fn F__law_is_word hr (by decide) rfl (pa_cons (pe_slice sl_str (pv 0) po_none (po_some (pv 1))) pa_nil))))))) (pss_one (ps_ret pe_non)) pss_nil)
      (pss_cons (ps_set (i := 2) sc_law_key.nd rfl (by first | exact Or.inl rfl | exact Or.inr rfl) (pe_slice sl_str (pv 0) (po_some (pe_op op_add (pv 1) pe_int)) po_none))
      (pss_cons (ps_if (pt_cmpR op_notIn_seq (pv 2) (pe_comp (sc := defScope s_law_key) (N0 := ["_law_text", "_law_cut", "_law_figures"]) (xs := ["_law_number"]) (ys := []) (js := []) ⟨rfl, by decide +kernel, by decide +kernel, by decide +kernel, by decide +kernel⟩ rfl (pi_range1 rfl T.n_range (pa_cons pe_int pa_nil)) (fun _ _ _ _ => (pg_name (i := 0) (show (["_law_number"] : List Str).Nodup by decide +kernel) rfl (by first | exact Or.inl rfl | exact Or.inr rfl))) (fun _ _ _ _ => pq_nil) (fun _ _ _ _ => (pe_callTy call_str_int rfl T.n_str boot_str (pa_cons (pv 0) pa_nil)))) (by with_unfolding_all rfl)) (pss_one (ps_ret pe_non)) pss_nil)
      (pss_one (ps_ret (pe_tup (pa_cons (pe_slice sl_str (pv 0) po_none (po_some (pv 1))) (pa_cons (pe_callTy call_intT rfl T.n_int boot_int (pa_cons (pv 2) pa_nil)) pa_nil))))))))), ?_⟩
    have hs : sizeLine = 16777216 := sizeLine_eq
    refine ⟨_, rfl, rfl, z, _, rfl, rfl, ?_⟩
    by_cases h46 : 46 ∈ z.cps.toList
    · obtain ⟨a, b, hab, ha⟩ := first_split h46
      rw [first_dot hab ha]
      have hl : z.cps.toList.length = a.length + 1 + b.length := by rw [hab]; simp; omega
      have hzl : z.length = z.cps.toList.length := by simp [Str.length]
      have e2 : Txt.slice z none (some (a.length : Int)) = ⟨a.toArray⟩ := by
        rw [slice_to (by omega), hab]; simp
      have e3 : Txt.slice z (some ((a.length : Int) + 1)) none = ⟨b.toArray⟩ := by
        have := slice_from (z := z) (i := a.length + 1) (by omega)
        rw [hab] at this
        have e : (((a.length + 1 : Nat)) : Int) = (a.length : Int) + 1 := by omega
        rw [e] at this
        rw [this]
        congr 2
        have e5 : a ++ 46 :: b = (a ++ [46]) ++ b := by simp
        rw [e5]
        exact List.drop_left' (by simp)
      have al : (⟨a.toArray⟩ : Str).length = a.length := List.size_toArray
      have bl : (⟨b.toArray⟩ : Str).length = b.length := List.size_toArray
      refine ⟨_, rfl, _, _, rfl, rfl, _, rfl, ite2 (fun h1 => absurd (of_decide_eq_true h1) (by omega)) (fun _ => ?_)⟩
      refine ⟨_, rfl, _, rfl, _, rfl, z, rfl, (by omega), ?_⟩
      rw [e2]
      refine ⟨_, rfl, (by omega), fun H1 s1 => ⟨_, rfl, ?_⟩⟩
      cases hw : isWordZ ⟨a.toArray⟩ with
      | false =>
        refine iteT (q0 ?_ _ s1)
        cases e : keyP z with
        | none => rfl
        | some k =>
          obtain ⟨k1, _, k3, _⟩ := keyP_cut hab ha e
          rw [k1, hw] at k3
          cases k3
      | true =>
        refine iteF ?_
        refine ⟨_, rfl, _, rfl, _, _, rfl, rfl, _, rfl, z, rfl, (by omega), ?_⟩
        rw [e3]
        refine ⟨_, rfl, 100, rfl, by decide, by decide, comp_range (n := 100) (fun i ys H' => ys = ((List.range i).map nT).map V.str ∧ H' = H1) ⟨rfl, rfl⟩ ?_ ?_ ?_ ?_⟩
        · show 100 ≤ sizeLine
          omega
        · rintro i ys H' ⟨rfl, _⟩
          rw [List.length_map, List.length_map, List.length_range]
          exact Nat.le_refl _
        · rintro i ys H' hi ⟨rfl, rfl⟩
          have hi : i < 100 := hi
          refine ⟨_, rfl, _, rfl, log_small (by omega) (by omega), ?_, rfl⟩
          rw [List.range_succ, List.map_append, List.map_append]
          show _ ++ [V.str (Str.ofString (toString ((0 : Int) + (i : Int))))] = _ ++ [V.str (Str.ofString (toString ((i : Nat) : Int)))]
          rw [Int.zero_add]
        · rintro ys H' ⟨rfl, rfl⟩ p hp
          have s2 := Same.new (o := .lst (((List.range 100).map nT).map V.str)) hp
          have l2 : upd H' p (.lst (((List.range 100).map nT).map V.str)) p = some (.lst (((List.range 100).map nT).map V.str)) := upd_same
          generalize upd H' p (.lst (((List.range 100).map nT).map V.str)) = H2 at s2 l2 ⊢
          have S2 := s1.trans s2
          refine ⟨p, _, rfl, .inl (SqL.of l2), rfl, flat_strs _, _, rfl, ?_⟩
          show if (!inV (V.str ⟨b.toArray⟩) (((List.range 100).map nT).map V.str)) = true then _ else _
          rw [inV_str]
          by_cases hm : (⟨b.toArray⟩ : Str) ∈ (List.range 100).map nT
          · rw [decide_eq_true hm]
            obtain ⟨n, hn, e⟩ := List.mem_map.mp hm
            have hn : n < 100 := List.mem_range.mp hn
            have il : PySem.intText? (⟨b.toArray⟩ : Str) = some (n : Int) := by rw [← e]; exact (nT_num ⟨n, hn⟩).2
            refine iteF ⟨_, rfl, _, rfl, _, rfl, z, rfl, (by omega), ?_⟩
            rw [e2]
            exact ⟨_, rfl, _, n, rfl, il, (by have := num2 hn; rw [e] at this; have := this.h2; omega), (by show 2 ≤ sizeLine; decide), fun p2 hp2 => q1 _ (keyP_put hab hw hn e) p2 _ (S2.trans (Same.new hp2)) upd_same⟩
          · rw [decide_eq_false hm]
            refine iteT (q0 ?_ _ S2)
            cases e : keyP z with
            | none => rfl
            | some k =>
              obtain ⟨_, k2, _, k4⟩ := keyP_cut hab ha e
              exact absurd (List.mem_map.mpr ⟨k.2, List.mem_range.mpr k4, k2⟩) hm
    · rw [no_dot h46]
      refine ⟨_, rfl, _, _, rfl, rfl, _, rfl, iteT (iteT (q0 (keyP_no h46) _ (Same.refl _)))⟩
end
end K78
namespace K78
open PySem L2 PyProof.Rows
abbrev Ky := Str × Nat
abbrev KyOk (k : Ky) : Prop := isWordZ k.1 = true ∧ k.2 < 100
structure Nt where
  d : Str
  n : Str
  o : Ky
  r : List (Str × Str)
def flatS : List (Str × Str) → List Str
  | [] => []
  | p :: r => p.1 :: p.2 :: flatS r
def underW (k : Ky) : List Str := ["under", keyT k]
def takeW (t : Str × Ky) : List Str := ["take", t.1, keyT t.2]
def oweW (x : Nt) : List Str := "owe" :: x.d :: x.n :: keyT x.o :: flatS x.r
def pairOk (p : Str × Str) : Bool := (jP p.1).isSome && isWordZ p.2
structure NtOk (x : Nt) : Prop where
  d : isWordZ x.d = true
  n : isWordZ x.n = true
  o : KyOk x.o
  r : x.r.all pairOk = true
def pairsS : List Str → Option (List (Str × Str))
  | [] => some []
  | [_] => none
  | a :: b :: r => (pairsS r).map fun ps => (a, b) :: ps
theorem pairsS_some : ∀ {ws : List Str} {ps : List (Str × Str)}, pairsS ws = some ps → ws = flatS ps
  | [], _, h => by cases h; rfl
  | [_], _, h => by cases h
  | a :: b :: r, _, h => by
    rw [pairsS] at h
    obtain ⟨qs, e, rfl⟩ := Option.map_eq_some_iff.mp h
    rw [flatS, ← pairsS_some e]
theorem pairsS_odd : ∀ {ws : List Str}, ws.length % 2 = 1 → pairsS ws = none
  | [], h => by cases h
  | [_], _ => rfl
  | a :: b :: r, h => by
    rw [pairsS, pairsS_odd (by simp only [List.length_cons] at h; omega)]; rfl
theorem pairsS_even : ∀ {ws : List Str}, ws.length % 2 = 0 → ∃ ps, pairsS ws = some ps
  | [], _ => ⟨_, rfl⟩
  | [_], h => by cases h
  | a :: b :: r, h => by
    obtain ⟨ps, e⟩ := pairsS_even (ws := r) (by simp only [List.length_cons] at h; omega)
    exact ⟨_, by rw [pairsS, e]; rfl⟩
theorem flatS_len : ∀ ps : List (Str × Str), (flatS ps).length = 2 * ps.length
  | [] => rfl
  | p :: r => by rw [flatS, List.length_cons, List.length_cons, flatS_len r, List.length_cons]; omega
def underP : List Str → Option Ky
  | [w, z] => if w = "under" then keyP z else none
  | _ => none
def takeP : List Str → Option (Str × Ky)
  | [w, n, z] => if w = "take" ∧ isWordZ n = true then (keyP z).map fun k => (n, k) else none
  | _ => none
def oweP : List Str → Option Nt
  | w :: d :: n :: z :: rest => if w = "owe" ∧ isWordZ d = true ∧ isWordZ n = true then (keyP z).bind fun k => (pairsS rest).bind fun ps => if ps.all pairOk = true then some ⟨d, n, k, ps⟩ else none else none
  | _ => none
theorem underP_some {ws : List Str} {k : Ky} (h : underP ws = some k) : ws = underW k ∧ KyOk k := by
  unfold underP at h
  split at h
  · split at h
    · rename_i w z e
      subst e
      obtain ⟨e, h1, h2⟩ := keyP_some h
      exact ⟨by rw [underW, ← e], h1, h2⟩
    · cases h
  · cases h
theorem takeP_some {ws : List Str} {t : Str × Ky} (h : takeP ws = some t) : ws = takeW t ∧ isWordZ t.1 = true ∧ KyOk t.2 := by
  unfold takeP at h
  split at h
  · split at h
    · rename_i w n z e
      obtain ⟨k, e1, rfl⟩ := Option.map_eq_some_iff.mp h
      obtain ⟨e2, h1, h2⟩ := keyP_some e1
      exact ⟨by rw [takeW, ← e2, e.1], e.2, h1, h2⟩
    · cases h
  · cases h
theorem oweP_some {ws : List Str} {x : Nt} (h : oweP ws = some x) : ws = oweW x ∧ NtOk x := by
  unfold oweP at h
  split at h
  · split at h
    · rename_i w d n z rest e
      obtain ⟨k, e1, h⟩ := Option.bind_eq_some_iff.mp h
      obtain ⟨ps, e2, h⟩ := Option.bind_eq_some_iff.mp h
      split at h
      · rename_i e3
        cases h
        obtain ⟨e4, h1, h2⟩ := keyP_some e1
        exact ⟨by rw [oweW, ← e4, e.1, ← pairsS_some e2], e.2.1, e.2.2, ⟨h1, h2⟩, e3⟩
      · cases h
    · cases h
  · cases h
abbrev ltZ (a b : Str) : Prop := a.cps.toList < b.cps.toList
theorem ltZ_trans {a b c : Str} (h1 : ltZ a b) (h2 : ltZ b c) : ltZ a c := List.lt_trans h1 h2
theorem ltZ_irrefl {a : Str} (h : ltZ a a) : False := List.lt_irrefl _ h
theorem nil_ltZ {z : Str} (h : isWordZ z = true) : ltZ "" z := by
  have hl : 1 ≤ z.cps.toList.length := by
    unfold isWordZ at h
    simp only [Bool.and_eq_true, decide_eq_true_eq] at h
    have := h.1
    show 1 ≤ z.cps.toList.length
    rw [Array.length_toList]
    first | exact this.1 | (show 1 ≤ z.length; omega)
  have e : ("" : Str).cps.toList = [] := by decide +kernel
  unfold ltZ
  rw [e]
  cases hz : z.cps.toList with
  | nil => rw [hz] at hl; cases hl
  | cons x r => exact List.Lex.nil
def lastOf (c : List (Str × Ky)) : Str := (c.getLast?.map (·.1)).getD ""
theorem lastOf_snoc (c : List (Str × Ky)) (t : Str × Ky) : lastOf (c ++ [t]) = t.1 := by simp [lastOf]
def stepP (c : List (Str × Ky)) (n : List Nt) (ws : List Str) : Option ((Str × Ky) ⊕ Nt) :=
  if ws.head? = some "take" ∧ n.isEmpty = true then (takeP ws).bind fun t => if ltZ (lastOf c) t.1 then some (.inl t) else none else (oweP ws).map .inr
def goP : List (Str × Ky) → List Nt → Nat → List (List Str) → Nat ⊕ (List (Str × Ky) × List Nt)
  | c, n, _, [] => .inr (c, n)
  | c, n, i, ws :: r => match stepP c n ws with
    | none => .inl i
    | some (.inl t) => goP (c ++ [t]) n (i + 1) r
    | some (.inr x) => goP c (n ++ [x]) (i + 1) r
theorem goP_none {c : List (Str × Ky)} {n : List Nt} {i : Nat} {ws : List Str} {r : List (List Str)} (h : stepP c n ws = none) : goP c n i (ws :: r) = .inl i := by rw [goP, h]
theorem goP_inl {c : List (Str × Ky)} {n : List Nt} {i : Nat} {ws : List Str} {r : List (List Str)} {t : Str × Ky} (h : stepP c n ws = some (.inl t)) : goP c n i (ws :: r) = goP (c ++ [t]) n (i + 1) r := by rw [goP, h]
theorem goP_inr {c : List (Str × Ky)} {n : List Nt} {i : Nat} {ws : List Str} {r : List (List Str)} {x : Nt} (h : stepP c n ws = some (.inr x)) : goP c n i (ws :: r) = goP c (n ++ [x]) (i + 1) r := by rw [goP, h]
structure COk (c : List (Str × Ky)) : Prop where
  ok : ∀ t ∈ c, isWordZ t.1 = true ∧ KyOk t.2
  asc : c.Pairwise fun a b => ltZ a.1 b.1
theorem COk.nil : COk [] := ⟨(fun t h => by cases h), List.Pairwise.nil⟩
theorem COk.last {c : List (Str × Ky)} (h : COk c) {z : Str} (hz : ltZ (lastOf c) z) : ∀ a ∈ c, ltZ a.1 z := by
  intro a ha
  rcases List.eq_nil_or_concat c with e | ⟨c', t, e⟩
  · subst e; cases ha
  · subst e
    rw [List.concat_eq_append] at *
    rw [lastOf_snoc] at hz
    rcases List.mem_append.mp ha with h1 | h1
    · exact ltZ_trans ((List.pairwise_append.mp h.asc).2.2 a h1 t (.head _)) hz
    · rw [List.mem_singleton.mp h1]; exact hz
theorem COk.snoc {c : List (Str × Ky)} (h : COk c) {t : Str × Ky} (h1 : isWordZ t.1 = true) (h2 : KyOk t.2) (hz : ltZ (lastOf c) t.1) : COk (c ++ [t]) := by
  refine ⟨fun a ha => ?_, List.pairwise_append.mpr ⟨h.asc, List.pairwise_singleton _ _, fun a ha b hb => ?_⟩⟩
  · rcases List.mem_append.mp ha with h3 | h3
    · exact h.ok a h3
    · rw [List.mem_singleton.mp h3]; exact ⟨h1, h2⟩
  · rw [List.mem_singleton.mp hb]; exact h.last hz a ha
theorem COk.fresh {c : List (Str × Ky)} (h : COk c) {z : Str} (hz : ltZ (lastOf c) z) : z ∉ c.map (·.1) := fun m => by
  obtain ⟨a, ha, e⟩ := List.mem_map.mp m
  have := h.last hz a ha
  rw [e] at this
  exact ltZ_irrefl this
theorem COk.nodup {c : List (Str × Ky)} (h : COk c) : (c.map (·.1)).Nodup := by
  rw [List.Nodup, List.pairwise_map]
  refine h.asc.imp fun h e => ?_
  rw [e] at h
  exact ltZ_irrefl h
theorem stepP_some {c : List (Str × Ky)} {n : List Nt} {ws : List Str} {y : (Str × Ky) ⊕ Nt} (h : stepP c n ws = some y) :
    (∃ t, y = .inl t ∧ n = [] ∧ ws = takeW t ∧ isWordZ t.1 = true ∧ KyOk t.2 ∧ ltZ (lastOf c) t.1) ∨ ∃ x, y = .inr x ∧ ws = oweW x ∧ NtOk x := by
  unfold stepP at h
  split at h
  · rename_i hc
    obtain ⟨t, e, h⟩ := Option.bind_eq_some_iff.mp h
    split at h
    · rename_i hl
      cases h
      obtain ⟨h1, h2, h3⟩ := takeP_some e
      exact .inl ⟨t, rfl, List.isEmpty_iff.mp hc.2, h1, h2, h3, hl⟩
    · cases h
  · obtain ⟨x, e, rfl⟩ := Option.map_eq_some_iff.mp h
    obtain ⟨h1, h2⟩ := oweP_some e
    exact .inr ⟨x, rfl, h1, h2⟩
theorem goP_some : ∀ {r : List (List Str)} {c c' : List (Str × Ky)} {n n' : List Nt} {i : Nat}, COk c → (∀ x ∈ n, NtOk x) → goP c n i r = .inr (c', n') →
    COk c' ∧ (∀ x ∈ n', NtOk x) ∧ ∃ c2 n2, c' = c ++ c2 ∧ n' = n ++ n2 ∧ r = c2.map takeW ++ n2.map oweW ∧ (n ≠ [] → c2 = [])
  | [], c, c', n, n', i, hc, hn, h => by
    cases h
    exact ⟨hc, hn, [], [], by simp, by simp, rfl, fun _ => rfl⟩
  | ws :: r, c, c', n, n', i, hc, hn, h => by
    cases hs : stepP c n ws with
    | none => rw [goP_none hs] at h; cases h
    | some y =>
      rcases stepP_some hs with ⟨t, rfl, rfl, rfl, h1, h2, h3⟩ | ⟨x, rfl, rfl, h1⟩
      · rw [goP_inl hs] at h
        obtain ⟨a1, a2, c2, n2, e1, e2, e3, e4⟩ := goP_some (hc.snoc h1 h2 h3) hn h
        exact ⟨a1, a2, t :: c2, n2, by rw [e1, List.append_assoc]; rfl, e2, by rw [e3]; rfl, fun z => absurd rfl z⟩
      · rw [goP_inr hs] at h
        obtain ⟨a1, a2, c2, n2, e1, e2, e3, e4⟩ := goP_some hc (fun y hy => by
          rcases List.mem_append.mp hy with h3 | h3
          · exact hn y h3
          · rw [List.mem_singleton.mp h3]; exact h1) h
        have e5 := e4 (by simp)
        subst e5
        exact ⟨a1, a2, [], x :: n2, e1, by rw [e2, List.append_assoc]; rfl, by rw [e3]; rfl, fun _ => rfl⟩
abbrev Fd := Ky × List (Str × Ky) × List Nt
def readF : List (List Str) → Nat ⊕ Fd
  | [] => .inl 0
  | w0 :: r => match underP w0 with
    | none => .inl 0
    | some k => match goP [] [] 1 r with
      | .inl i => .inl i
      | .inr (c, n) => .inr (k, c, n)
def rowsF (f : Fd) : List (List Str) := underW f.1 :: (f.2.1.map takeW ++ f.2.2.map oweW)
theorem readF_some {rows : List (List Str)} {f : Fd} (h : readF rows = .inr f) : rows = rowsF f ∧ KyOk f.1 ∧ COk f.2.1 ∧ ∀ x ∈ f.2.2, NtOk x := by
  cases rows with
  | nil => cases h
  | cons w0 r =>
    rw [readF] at h
    cases hu : underP w0 with
    | none => rw [hu] at h; cases h
    | some k =>
      rw [hu] at h
      dsimp only at h
      cases hg : goP [] [] 1 r with
      | inl i => rw [hg] at h; cases h
      | inr p =>
        rw [hg] at h
        obtain ⟨c, n⟩ := p
        cases h
        obtain ⟨e1, e2⟩ := underP_some hu
        obtain ⟨a1, a2, c2, n2, e3, e4, e5, _⟩ := goP_some COk.nil (fun x hx => by cases hx) hg
        rw [List.nil_append] at e3 e4
        subst e3 e4
        exact ⟨by rw [rowsF, ← e1, e5], e2, a1, a2⟩
theorem readF_0 {w0 : List Str} {r : List (List Str)} (h : underP w0 = none) : readF (w0 :: r) = .inl 0 := by rw [readF, h]
theorem readF_l {w0 : List Str} {r : List (List Str)} {k : Ky} {i : Nat} (h : underP w0 = some k) (h2 : goP [] [] 1 r = .inl i) : readF (w0 :: r) = .inl i := by rw [readF, h]; dsimp only; rw [h2]
theorem readF_r {w0 : List Str} {r : List (List Str)} {k : Ky} {c : List (Str × Ky)} {n : List Nt} (h : underP w0 = some k) (h2 : goP [] [] 1 r = .inr (c, n)) : readF (w0 :: r) = .inr (k, c, n) := by rw [readF, h]; dsimp only; rw [h2]
end K78
namespace K78
open PySem L2 PyProof.Rows
section
variable {P : Program} {w : World} {K : PySem.W.Frag} {mg : Str → Option Value} {base : Heap}
theorem iteEs {a b : Str} {G1 G2 : Prop} (h1 : a = b → G1) (h2 : a ≠ b → G2) : if decide (V.str a = V.str b) = true then G1 else G2 := by
  by_cases h : a = b
  · rw [decide_eq_true (congrArg V.str h)]; exact h1 h
  · rw [decide_eq_false (fun y => h (V.str.inj y))]; exact h2 h
theorem iteNs {a b : Str} {G1 G2 : Prop} (h1 : a ≠ b → G1) (h2 : a = b → G2) : if (!decide (V.str a = V.str b)) = true then G1 else G2 := by
  by_cases h : a = b
  · rw [decide_eq_true (congrArg V.str h)]; exact h2 h
  · rw [decide_eq_false (fun y => h (V.str.inj y))]; exact h1 h
theorem iteEl {n m : Nat} {G1 G2 : Prop} (h1 : n = m → G1) (h2 : n ≠ m → G2) : if decide (V.int (n : Nat) = V.int (m : Nat)) = true then G1 else G2 := by
  by_cases h : n = m
  · rw [decide_eq_true (by rw [h])]; exact h1 h
  · rw [decide_eq_false (fun y => h (by have := V.int.inj y; omega))]; exact h2 h
theorem iteNl {n m : Nat} {G1 G2 : Prop} (h1 : n ≠ m → G1) (h2 : n = m → G2) : if (!decide (V.int (n : Nat) = V.int (m : Nat))) = true then G1 else G2 := by
  by_cases h : n = m
  · rw [decide_eq_true (by rw [h])]; exact h2 h
  · rw [decide_eq_false (fun y => h (by have := V.int.inj y; omega))]; exact h1 h
theorem strs_len (ws : List Str) : (ws.map V.str).length = ws.length := List.length_map ..
def spUR : Sp := fun vs H Q _ => ∃ (l : Addr) (ws : List Str), vs = [.ref l] ∧ WsAt H l ws ∧ ∀ H', Same H H' → Q (.bl (underP ws).isSome) H'
abbrev sis_under_row : Stmt := top 26
theorem scis_under_row : FnScope ["words"] ["words"] (defScope sis_under_row) := ⟨rfl, rfl, rfl, by decide +kernel, rfl, by decide +kernel, by decide +kernel⟩
theorem ok_ur (T : Txt mg) (F_is_key_text : FnAt P w K mg base "is_key_text" 2 ["text"] spIKTA) (F : TopFn K mg "is_under_row" sis_under_row ["words"]) : FnAt P w K mg base "is_under_row" 3 ["words"] spUR := by
  refine F.at scis_under_row (fun vs H Q E h => ?_) (fun f cdv A outer s H vs Q E hr h => ?_)
  · obtain ⟨l, ws, rfl, _⟩ := h
    rfl
  · obtain ⟨l, ws, rfl, ⟨hl, few, short⟩, q⟩ := h
    refine ⟨_, (pss_one (ps_ret (pe_and (pe_cmpR op_eq (pe_callB call_len rfl T.n_len boot_len (pa_cons (pv 0) pa_nil)) pe_int (nomark _)) (pe_and (pe_cmpR op_eq (pe_ix ix_list (pv 0) pe_int (fun _ _ => rfl)) pe_str (nomark _)) (pe_one (pe_fn F_is_key_text hr (by decide) rfl (pa_cons (pe_ix ix_list (pv 0) pe_int (fun _ _ => rfl)) pa_nil))))))), ?_⟩
    have no : underP ws = none → Q (.bl false) H := fun e => by
      have := q H (Same.refl H)
      rw [e] at this
      exact this
    refine ⟨_, rfl, _, _, rfl, .inl ⟨_, SqL.of hl, rfl⟩, rfl, _, rfl, ?_⟩
    rw [strs_len]
    refine iteEl (m := 2) (fun h2 => ?_) (fun h2 => no ?_)
    · match ws, hl, short, q, no, h2 with
      | [u, z], hl, short, q, no, _ =>
        refine ⟨_, rfl, l, _, _, V.str u, rfl, rfl, SqL.of hl, (atI_nat (j := 0) rfl), rfl, _, rfl, ?_⟩
        refine iteEs (fun hu => ?_) (fun hu => no ?_)
        · refine ⟨_, rfl, l, _, _, V.str z, rfl, rfl, SqL.of hl, (atI_nat (j := 1) rfl), z, rfl, short z (by simp), fun H1 s1 => ?_⟩
          have q' := q H1 s1
          rw [show underP [u, z] = keyP z from if_pos hu, ← keyP_is] at q'
          exact q'
        · exact if_neg hu
    · match ws, h2 with
      | [], _ => rfl
      | [_], _ => rfl
      | _ :: _ :: _ :: _, _ => rfl
      | [_, _], h => exact absurd rfl h
def letB (a w : List Str) : Bool := decide (a.head? = some "under") || (decide (a.head? = some "take") && decide (ltZ (a.getD 1 "") (w.getD 1 "")))
def spTR : Sp := fun vs H Q _ => ∃ (l la : Addr) (ws a : List Str), vs = [.ref l, .ref la] ∧ WsAt H l ws ∧ WsAt H la a ∧ 2 ≤ a.length ∧ ∀ H', Same H H' → Q (.bl ((takeP ws).isSome && letB a ws)) H'
abbrev sis_take_row : Stmt := top 27
theorem scis_take_row : FnScope ["words", "ahead"] ["words", "ahead"] (defScope sis_take_row) := ⟨rfl, rfl, rfl, by decide +kernel, rfl, by decide +kernel, by decide +kernel⟩
theorem ok_tr (T : Txt mg) (F_is_word : FnAt P w K mg base "is_word" 1 ["thing"] (spWord K)) (F_is_key_text : FnAt P w K mg base "is_key_text" 2 ["text"] spIKTA) (F : TopFn K mg "is_take_row" sis_take_row ["words", "ahead"]) : FnAt P w K mg base "is_take_row" 3 ["words", "ahead"] spTR := by
  refine F.at scis_take_row (fun vs H Q E h => ?_) (fun f cdv A outer s H vs Q E hr h => ?_)
  · obtain ⟨l, la, ws, a, rfl, _⟩ := h
    rfl
  · obtain ⟨l, la, ws, a, rfl, ⟨hl, few, short⟩, wa, h2, q⟩ := h
    refine ⟨_, (pss_cons (ps_if (PW.pt (pw_or (pt_cmpR op_ne (pe_callB call_len rfl T.n_len boot_len (pa_cons (pv 0) pa_nil)) pe_int (nomark _)) (pw_or (pt_cmpR op_ne (pe_ix ix_list (pv 0) pe_int (fun _ _ => rfl)) pe_str (nomark _)) (pw_or (pt_not (pt_val (pe_fn F_is_word hr (by decide) rfl (pa_cons (pe_ix ix_list (pv 0) pe_int (fun _ _ => rfl)) pa_nil)))) (pw_or1 (pt_not (pt_val (pe_fn F_is_key_text hr (by decide) rfl (pa_cons (pe_ix ix_list (pv 0) pe_int (fun _ _ => rfl)) pa_nil))))))))) (pss_one (ps_ret pe_bl)) pss_nil)
      (pss_one (ps_ret (pe_or (pe_cmpR op_eq (pe_ix ix_list (pv 1) pe_int (fun _ _ => rfl)) pe_str (nomark _)) (pe_one (pe_and (pe_cmpR op_eq (pe_ix ix_list (pv 1) pe_int (fun _ _ => rfl)) pe_str (nomark _)) (pe_one (pe_cmpR op_lt_str (pe_ix ix_list (pv 1) pe_int (fun _ _ => rfl)) (pe_ix ix_list (pv 0) pe_int (fun _ _ => rfl)) (nomark _))))))))), ?_⟩
    have no : takeP ws = none → ∀ H', Same H H' → Q (.bl false) H' := fun e H' s' => by
      have := q H' s'
      rw [e] at this
      exact this
    refine ⟨_, rfl, _, _, rfl, .inl ⟨_, SqL.of hl, rfl⟩, rfl, _, rfl, ?_⟩
    rw [strs_len]
    refine iteNl (m := 3) (fun h3 => no ?_ _ (Same.refl _)) (fun h3 => ?_)
    · match ws, h3 with
      | [], _ => rfl
      | [_], _ => rfl
      | [_, _], _ => rfl
      | _ :: _ :: _ :: _ :: _, _ => rfl
      | [_, _, _], h => exact absurd rfl h
    · match ws, hl, short, q, no, h3 with
      | [u, n, z], hl, short, q, no, _ =>
        refine ⟨_, rfl, l, _, _, V.str u, rfl, rfl, SqL.of hl, (atI_nat (j := 0) rfl), rfl, _, rfl, ?_⟩
        refine iteNs (fun hu => no (if_neg fun y => hu y.1) _ (Same.refl _)) (fun hu => ?_)
        refine ⟨_, rfl, l, _, _, V.str n, rfl, rfl, SqL.of hl, (atI_nat (j := 1) rfl), .str n, rfl, ⟨.str, TyOf.str n⟩, (fun z' e => by cases e; exact short n (by simp)), fun H1 s1 => ⟨_, rfl, ?_⟩⟩
        show if (!isWordZ n) = true then _ else _
        cases hn : isWordZ n with
        | false => exact iteT (no (if_neg fun y => by rw [hn] at y; exact absurd y.2 (by decide)) _ s1)
        | true =>
          refine iteF ?_
          refine ⟨_, rfl, l, _, _, V.str z, rfl, rfl, SqL.of (s1 _ _ hl), (atI_nat (j := 2) rfl), z, rfl, short z (by simp), fun H2 s2 => ⟨_, rfl, ?_⟩⟩
          show if (!(keyZ z).isSome) = true then _ else _
          rw [keyP_is]
          have s12 := s1.trans s2
          have eT : takeP [u, n, z] = (keyP z).map fun k => (n, k) := if_pos ⟨hu, hn⟩
          cases hk : keyP z with
          | none => exact iteT (no (by rw [eT, hk]; rfl) _ s12)
          | some k =>
            refine iteF ?_
            have qT : ∀ b, letB a [u, n, z] = b → Q (.bl b) H2 := fun b eb => by
              have := q H2 s12
              rw [eT, hk, eb] at this
              exact this
            have wa2 := wa.same s12
            match a, wa2, h2, qT with
            | a0 :: a1 :: ar, wa2, _, qT =>
              refine ⟨_, rfl, la, _, _, V.str a0, rfl, rfl, SqL.of wa2.at_, (atI_nat (j := 0) rfl), rfl, _, rfl, ?_⟩
              refine iteEs (fun h0 => ?_) (fun h0 => ?_)
              · exact qT true (by subst h0; rfl)
              · refine ⟨_, rfl, la, _, _, V.str a0, rfl, rfl, SqL.of wa2.at_, (atI_nat (j := 0) rfl), rfl, _, rfl, ?_⟩
                refine iteEs (fun h1 => ?_) (fun h1 => ?_)
                · refine ⟨_, rfl, la, _, _, V.str a1, rfl, rfl, SqL.of wa2.at_, (atI_nat (j := 1) rfl), _, rfl, l, _, _, V.str n, rfl, rfl, SqL.of (s12 _ _ hl), (atI_nat (j := 1) rfl), _, _, rfl, rfl, ?_⟩
                  refine qT _ ?_
                  show (decide (some a0 = some (Str.ofString "under")) || (decide (some a0 = some (Str.ofString "take")) && decide (ltZ a1 n))) = _
                  rw [decide_eq_false (fun y => h0 (Option.some.inj y)), decide_eq_true (congrArg some h1)]
                  rfl
                · refine qT false ?_
                  show (decide (some a0 = some (Str.ofString "under")) || (decide (some a0 = some (Str.ofString "take")) && decide (ltZ a1 n))) = _
                  rw [decide_eq_false (fun y => h0 (Option.some.inj y)), decide_eq_false (fun y => h1 (Option.some.inj y))]
                  rfl
end
end K78
namespace K78
open PySem L2 PyProof.Rows
section
variable {P : Program} {w : World} {K : PySem.W.Frag} {mg : Str → Option Value} {base : Heap}
def PrR (H : Hp) (p : Addr) (x : Str × Str) : Prop := H p = some (.tup [.str x.1, .str x.2])
theorem flat_map : ∀ ps : List (Str × Str), (flatS ps).map V.str = flat2 (ps.map fun p => (V.str p.1, V.str p.2))
  | [] => rfl
  | p :: r => by rw [flatS, List.map_cons, List.map_cons, flat_map r]; rfl
theorem cut4 (a b c d : V) (xs : List V) : cutV (a :: b :: c :: d :: xs) (some 4) none = xs := by
  have e : HT.sIx (a :: b :: c :: d :: xs).length 0 (some 4) = 4 := by
    rw [show (4 : Int) = ((4 : Nat) : Int) from rfl, HT.sIx_nat, List.length_cons, List.length_cons, List.length_cons, List.length_cons]
    omega
  unfold cutV
  rw [e, HT.sIx_none]
  exact List.take_of_length_le (by rw [List.length_drop, List.length_cons, List.length_cons, List.length_cons, List.length_cons]; omega)
def spRO : Sp := fun vs H Q _ => ∃ (l : Addr) (a b c d : Str) (ps : List (Str × Str)), vs = [.ref l] ∧ H l = some (.lst ((a :: b :: c :: d :: flatS ps).map V.str)) ∧
  ∀ (r : Addr) (as : List Addr) (H' : Hp), Same H H' → H r = none → H' r = some (.lst (as.map V.ref)) → A2 (PrR H') as ps → Q (.ref r) H'
abbrev sroad_of : Stmt := top 29
theorem scroad_of : FnScope ["words", "pairs"] ["words"] (defScope sroad_of) := ⟨rfl, rfl, rfl, by decide +kernel, rfl, by decide +kernel, by decide +kernel⟩
theorem ok_ro (T : Txt mg) (F : TopFn K mg "road_of" sroad_of ["words"]) : FnAt P w K mg base "road_of" 1 ["words"] spRO := by
  refine F.at scroad_of (fun vs H Q E h => ?_) (fun f cdv A outer s H vs Q E hr h => ?_)
  · obtain ⟨l, a, b, c, d, ps, rfl, _⟩ := h
    rfl
  · obtain ⟨l, a, b, c, d, ps, rfl, hl, q⟩ := h
    refine ⟨_, (pss_cons (ps_set (i := 1) scroad_of.nd rfl (by first | exact Or.inl rfl | exact Or.inr rfl) (pe_slice sl_list (pv 0) (po_some (pe_globI rfl T.g_FIRST_JOIN_WORD)) po_none))
      (pss_one (ps_ret (pe_listZip hr.hd rfl T.n_list rfl T.n_zip (pa_cons (pe_sliceS (pv 1) po_none po_none (po_some pe_int)) (pa_cons (pe_sliceS (pv 1) (po_some pe_int) po_none (po_some pe_int)) pa_nil)))))), ?_⟩
    refine ⟨_, rfl, _, rfl, l, _, rfl, SqL.of hl, fun l1 h1 => ?_⟩
    rw [List.map_cons, List.map_cons, List.map_cons, List.map_cons, cut4]
    have s1 := Same.new (o := .lst ((flatS ps).map V.str)) h1
    have e1 : upd H l1 (.lst ((flatS ps).map V.str)) l1 = some (.lst ((flatS ps).map V.str)) := upd_same
    generalize upd H l1 (.lst ((flatS ps).map V.str)) = H1 at s1 e1 ⊢
    rw [flat_map] at e1
    refine ⟨_, rfl, _, rfl, l1, _, rfl, SqL.of e1, (by decide), fun l2 h2 => ?_⟩
    rw [pick_even]
    have s2 := Same.new (o := .lst ((ps.map fun p => (V.str p.1, V.str p.2)).map (·.1))) h2
    have e2 : upd H1 l2 (.lst ((ps.map fun p => (V.str p.1, V.str p.2)).map (·.1))) l2 = some (.lst ((ps.map fun p => (V.str p.1, V.str p.2)).map (·.1))) := upd_same
    generalize upd H1 l2 (.lst ((ps.map fun p => (V.str p.1, V.str p.2)).map (·.1))) = H2 at s2 e2 ⊢
    refine ⟨_, rfl, _, rfl, _, rfl, l1, _, rfl, SqL.of (s2 _ _ e1), (by decide), fun l3 h3 => ?_⟩
    rw [pick_odd]
    have s3 := Same.new (o := .lst ((ps.map fun p => (V.str p.1, V.str p.2)).map (·.2))) h3
    have e3 : upd H2 l3 (.lst ((ps.map fun p => (V.str p.1, V.str p.2)).map (·.2))) l3 = some (.lst ((ps.map fun p => (V.str p.1, V.str p.2)).map (·.2))) := upd_same
    generalize upd H2 l3 (.lst ((ps.map fun p => (V.str p.1, V.str p.2)).map (·.2))) = H3 at s3 e3 ⊢
    have s123 := (s1.trans s2).trans s3
    refine ⟨l2, l3, _, _, rfl, SqL.of (s3 _ _ e2), SqL.of e3, by simp, fun r as H' s' fr er hl hp => q r as H' (s123.trans s') (s123.free fr) er ⟨by simpa using hl, fun i p x x1 x2 => ?_⟩⟩
    exact hp i p _ _ x1 (by rw [List.getElem?_map, List.getElem?_map, x2]; rfl) (by rw [List.getElem?_map, List.getElem?_map, x2]; rfl)
def spOR : Sp := fun vs H Q _ => ∃ (l : Addr) (ws : List Str), vs = [.ref l] ∧ WsAt H l ws ∧ ∀ H', Same H H' → Q (.bl (oweP ws).isSome) H'
abbrev sis_owe_row : Stmt := top 28
theorem scis_owe_row : FnScope ["words", "known"] ["words"] (defScope sis_owe_row) := ⟨rfl, rfl, rfl, by decide +kernel, rfl, by decide +kernel, by decide +kernel⟩
theorem oweP_4 (u d n z : Str) (rest : List Str) : oweP (u :: d :: n :: z :: rest) = if u = "owe" ∧ isWordZ d = true ∧ isWordZ n = true then (keyP z).bind fun k => (pairsS rest).bind fun ps => if ps.all pairOk = true then some ⟨d, n, k, ps⟩ else none else none := rfl
theorem oweP_few {ws : List Str} (h : ws.length < 4) : oweP ws = none := by
  match ws, h with
  | [], _ => rfl
  | [_], _ => rfl
  | [_, _], _ => rfl
  | [_, _, _], _ => rfl
  | _ :: _ :: _ :: _ :: r, h => exact absurd h (by simp only [List.length_cons]; omega)
theorem oweP_odd {ws : List Str} (h : ws.length % 2 = 1) : oweP ws = none := by
  match ws, h with
  | [], _ => rfl
  | [_], _ => rfl
  | [_, _], _ => rfl
  | [_, _, _], _ => rfl
  | u :: d :: n :: z :: r, h =>
    rw [oweP_4, pairsS_odd (ws := r) (by simp only [List.length_cons] at h; omega)]
    cases keyP z <;> simp
theorem oweP_head {u d n z : Str} {rest : List Str} (h : ¬ (u = "owe" ∧ isWordZ d = true ∧ isWordZ n = true)) : oweP (u :: d :: n :: z :: rest) = none := by rw [oweP_4, if_neg h]
theorem ok_or (T : Txt mg) (F_is_word : FnAt P w K mg base "is_word" 1 ["thing"] (spWord K)) (F_is_key_text : FnAt P w K mg base "is_key_text" 2 ["text"] spIKTA) (F_join_words : FnAt P w K mg base "join_words" 2 [] spJW) (F_road_of : FnAt P w K mg base "road_of" 1 ["words"] spRO)
    (F : TopFn K mg "is_owe_row" sis_owe_row ["words"]) : FnAt P w K mg base "is_owe_row" 3 ["words"] spOR := by
  refine F.at scis_owe_row (fun vs H Q E h => ?_) (fun f cdv A outer s H vs Q E hr h => ?_)
  · obtain ⟨l, ws, rfl, _⟩ := h
    rfl
  · obtain ⟨l, ws, rfl, ⟨hl, few, short⟩, q⟩ := h
    refine ⟨_, (pss_cons (ps_if (PW.pt (pw_or (pt_cmpR op_lt (pe_callB call_len rfl T.n_len boot_len (pa_cons (pv 0) pa_nil)) (pe_globI rfl T.g_FIRST_JOIN_WORD) (nomark _)) (pw_or (pt_cmpR op_ne (pe_op op_mod (pe_callB call_len rfl T.n_len boot_len (pa_cons (pv 0) pa_nil)) pe_int) pe_int (nomark _)) (pw_or1 (pt_cmpR op_ne (pe_ix ix_list (pv 0) pe_int (fun _ _ => rfl)) pe_str (nomark _)))))) (pss_one (ps_ret pe_bl)) pss_nil)
      (pss_cons (ps_if (PW.pt (pw_or (pt_not (pt_val (pe_fn F_is_word hr (by decide) rfl (pa_cons (pe_ix ix_list (pv 0) pe_int (fun _ _ => rfl)) pa_nil)))) (pw_or (pt_not (pt_val (pe_fn F_is_word hr (by decide) rfl (pa_cons (pe_ix ix_list (pv 0) pe_int (fun _ _ => rfl)) pa_nil)))) (pw_or1 (pt_not (pt_val (pe_fn F_is_key_text hr (by decide) rfl (pa_cons (pe_ix ix_list (pv 0) pe_int (fun _ _ => rfl)) pa_nil)))))))) (pss_one (ps_ret pe_bl)) pss_nil)
      (pss_cons (ps_set (i := 1) scis_owe_row.nd rfl (by first | exact Or.inl rfl | exact Or.inr rfl) (pe_fn0 F_join_words hr (by decide) rfl))
      (pss_one (ps_ret (pe_callB (call_allB rfl) rfl T.n_all boot_all (pa_cons (pe_comp (sc := defScope sis_owe_row) (N0 := ["words", "known"]) (xs := ["join", "name"]) (ys := ["known"]) (js := [1]) ⟨rfl, by decide +kernel, by decide +kernel, by decide +kernel, by decide +kernel⟩ rfl (pi_list (pe_fn F_road_of hr (by decide) rfl (pa_cons (pv 0) pa_nil))) (fun _ _ _ _ => (pg_tupK (n := 2) K rfl (pgs_cons (pg_name (i := 0) (show (["join", "name", "known"] : List Str).Nodup by decide +kernel) rfl (by first | exact Or.inl rfl | exact Or.inr rfl)) (pgs_cons (pg_name (i := 1) (show (["join", "name", "known"] : List Str).Nodup by decide +kernel) rfl (by first | exact Or.inl rfl | exact Or.inr rfl)) pgs_nil)))) (fun _ _ _ _ => pq_nil) (fun _ _ _ _ => (pe_and (pe_cmpR (op_inK K) (pv 0) (pv 2) (by with_unfolding_all rfl)) (pe_one (pe_fn F_is_word hr (by decide) rfl (pa_cons (pv 1) pa_nil)))))) pa_nil))))))), ?_⟩
    have hs : sizeLine = 16777216 := sizeLine_eq
    have no : oweP ws = none → ∀ H', Same H H' → Q (.bl false) H' := fun e H' s' => by
      have := q H' s'
      rw [e] at this
      exact this
    refine ⟨_, rfl, _, _, rfl, .inl ⟨_, SqL.of hl, rfl⟩, _, _, rfl, rfl, _, rfl, ?_⟩
    rw [strs_len]
    refine ite2 (fun g1 => iteT (no (oweP_few (by have := of_decide_eq_true g1; omega)) _ (Same.refl _))) (fun g1 => ?_)
    have g1 : 4 ≤ ws.length := by
      by_cases z : ((ws.length : Nat) : Int) < 4
      · exact absurd (decide_eq_true z) g1
      · omega
    refine ⟨_, rfl, _, _, rfl, .inl ⟨_, SqL.of hl, rfl⟩, _, _, rfl, rfl, (show (0 : Int) < 2 by decide), rfl, _, rfl, ?_⟩
    rw [strs_len]
    by_cases g2 : ws.length % 2 = 1
    · refine ite2 (fun _ => iteT (no (oweP_odd g2) _ (Same.refl _))) (fun h => absurd (by rw [decide_eq_false (fun y => by have := V.int.inj y; omega)]; rfl) h)
    refine ite2 (fun h => absurd h (by rw [decide_eq_true (congrArg V.int (show ((ws.length : Nat) : Int) % 2 = 0 by omega))]; decide)) (fun _ => ?_)
    match ws, hl, few, short, q, no, g1, g2 with
    | u :: d :: n :: z :: rest, hl, few, short, q, no, g1, g2 =>
      have ev : rest.length % 2 = 0 := by simp only [List.length_cons] at g2; omega
      obtain ⟨ps, hp⟩ := pairsS_even ev
      have er := pairsS_some hp
      subst er
      refine ⟨_, rfl, l, _, _, V.str u, rfl, rfl, SqL.of hl, (atI_nat (j := 0) rfl), rfl, _, rfl, ?_⟩
      refine iteNs (fun hu => no (oweP_head fun y => hu y.1) _ (Same.refl _)) (fun hu => ?_)
      refine ⟨_, rfl, l, _, _, V.str d, rfl, rfl, SqL.of hl, (atI_nat (j := 1) rfl), .str d, rfl, ⟨.str, TyOf.str d⟩, (fun z' e => by cases e; exact short d (by simp)), fun H1 s1 => ⟨_, rfl, ?_⟩⟩
      show if (!isWordZ d) = true then _ else _
      cases hd : isWordZ d with
      | false => exact iteT (no (oweP_head fun y => by rw [hd] at y; exact absurd y.2.1 (by decide)) _ s1)
      | true =>
        refine iteF ?_
        refine ⟨_, rfl, l, _, _, V.str n, rfl, rfl, SqL.of (s1 _ _ hl), (atI_nat (j := 2) rfl), .str n, rfl, ⟨.str, TyOf.str n⟩, (fun z' e => by cases e; exact short n (by simp)), fun H2 s2 => ⟨_, rfl, ?_⟩⟩
        have s12 := s1.trans s2
        show if (!isWordZ n) = true then _ else _
        cases hn : isWordZ n with
        | false => exact iteT (no (oweP_head fun y => by rw [hn] at y; exact absurd y.2.2 (by decide)) _ s12)
        | true =>
          refine iteF ?_
          refine ⟨_, rfl, l, _, _, V.str z, rfl, rfl, SqL.of (s12 _ _ hl), (atI_nat (j := 3) rfl), z, rfl, short z (by simp), fun H3 s3 => ⟨_, rfl, ?_⟩⟩
          have s13 := s12.trans s3
          have eO : oweP (u :: d :: n :: z :: flatS ps) = (keyP z).bind fun k => if ps.all pairOk = true then some ⟨d, n, k, ps⟩ else none := by
            rw [oweP_4, if_pos ⟨hu, hd, hn⟩, hp]; rfl
          show if (!(keyZ z).isSome) = true then _ else _
          rw [keyP_is]
          cases hk : keyP z with
          | none => exact iteT (no (by rw [eO, hk]; rfl) _ s13)
          | some k =>
            refine iteF ?_
            have eO2 : (oweP (u :: d :: n :: z :: flatS ps)).isSome = ps.all pairOk := by
              rw [eO, hk]
              show (if ps.all pairOk = true then some (⟨d, n, k, ps⟩ : Nt) else none).isSome = _
              cases ps.all pairOk <;> rfl
            refine ⟨rfl, fun lj H4 s4 nlj ej => ?_⟩
            have s14 := s13.trans s4
            refine ⟨_, rfl, l, u, d, n, z, ps, rfl, s14 _ _ hl, fun r as H5 s5 fr er ap => ?_⟩
            have s15 := s14.trans s5
            have ns : ∀ p ∈ ps, p.2.length ≤ 1200 := fun p hpp => short p.2 (by
              have : ∀ {qs : List (Str × Str)}, p ∈ qs → p.2 ∈ flatS qs := by
                intro qs
                induction qs with
                | nil => intro h; cases h
                | cons a t ih =>
                  intro h
                  rw [flatS]
                  rcases List.mem_cons.mp h with rfl | h
                  · simp
                  · exact .tail _ (.tail _ (ih h))
              exact .tail _ (.tail _ (.tail _ (.tail _ (this hpp)))))
            have pl : ps.length ≤ 1000 := by
              have := flatS_len ps
              simp only [List.length_cons] at few
              omega
            refine ⟨r, rfl, ⟨_, SqL.of er⟩, comp_list (K := K) (a := r) (xs := as.map V.ref) (fun i ys H' => ys = ((ps.take i).map pairOk).map V.bl ∧ Same H5 H') ⟨rfl, Same.refl _⟩ (by rw [List.length_map, ap.1]; omega) ?_ ?_ ?_ ?_⟩
            · rintro i ys H' ⟨rfl, _⟩
              rw [List.length_map, List.length_map, List.length_take]; omega
            · rintro i ys H' _ ⟨_, s'⟩
              exact SqL.of (s' _ _ er)
            · rintro i x ys H' hx ⟨rfl, s'⟩
              rw [List.getElem?_map] at hx
              obtain ⟨p, hpp, rfl⟩ := Option.map_eq_some_iff.mp hx
              obtain ⟨y, hy, hpr⟩ := ap.at hpp
              have step : ∀ b, pairOk y = b → ((ps.take i).map pairOk).map V.bl ++ [V.bl b] = ((ps.take (i + 1)).map pairOk).map V.bl := fun b e => by
                rw [take_snoc hy, List.map_append, List.map_append, ← e]; rfl
              refine ⟨p, _, rfl, SqT.of (s' _ _ hpr), rfl, _, _, rfl, _, _, rfl, rfl, ?_⟩
              refine ⟨_, rfl, _, rfl, lj, _, rfl, .inl (SqL.of (s' _ _ (s5 _ _ ej))), rfl, flat_strs _, _, rfl, ?_⟩
              show if inV (V.str y.1) (JW.map V.str) = true then _ else _
              rw [jP_in]
              cases hj : (jP y.1).isSome with
              | false => exact iteF ⟨step false (by unfold pairOk; rw [hj]; rfl), s'⟩
              | true =>
                refine iteT ⟨_, rfl, .str y.2, rfl, ⟨.str, TyOf.str y.2⟩, (fun z' e => by cases e; exact ns y (List.mem_of_getElem? hy)), fun H6 s6 => ⟨step _ ?_, s'.trans s6⟩⟩
                unfold pairOk
                rw [hj]
                rfl
            · rintro ys H' ⟨rfl, s'⟩ p hp'
              rw [List.length_map, ap.1, List.take_length]
              have s3' := Same.new (o := .lst ((ps.map pairOk).map V.bl)) hp'
              refine ⟨p, _, rfl, SqL.of upd_same, ?_⟩
              have q' := q _ ((s15.trans s').trans s3')
              rw [eO2] at q'
              rw [List.all_map]
              exact q'
    | [], _, _, _, _, _, g1, _ => exact absurd g1 (by decide)
    | [_], _, _, _, _, _, g1, _ => exact absurd g1 (by simp)
    | [_, _], _, _, _, _, _, g1, _ => exact absurd g1 (by simp)
    | [_, _, _], _, _, _, _, _, g1, _ => exact absurd g1 (by simp)
end
end K78
namespace K78
open PySem L2 PyProof.Rows
def Ahd (c : List (Str × Ky)) (n : List Nt) (a : List Str) : Prop := 2 ≤ a.length ∧ ((c = [] ∧ n = [] ∧ a.head? = some "under") ∨ (n = [] ∧ a.head? = some "take" ∧ a.getD 1 "" = lastOf c) ∨ (n.isEmpty = false ∧ a.head? = some "owe"))
theorem owe_take {ws : List Str} (h : ws.head? = some "take") : oweP ws = none := by
  cases e : oweP ws with
  | none => rfl
  | some x =>
    rw [(oweP_some e).1] at h
    exact absurd (Option.some.inj h) (by decide +kernel)
theorem take_no {ws : List Str} (h : ws.head? ≠ some "take") : takeP ws = none := by
  cases e : takeP ws with
  | none => rfl
  | some x =>
    rw [(takeP_some e).1] at h
    exact absurd rfl h
theorem step_is {c : List (Str × Ky)} {n : List Nt} {a ws : List Str} (h : Ahd c n a) : (((takeP ws).isSome && letB a ws) || (oweP ws).isSome) = (stepP c n ws).isSome := by
  by_cases ht : ws.head? = some "take"
  · rw [owe_take ht]
    show (((takeP ws).isSome && letB a ws) || false) = _
    rw [Bool.or_false]
    obtain ⟨_, ⟨rfl, rfl, h1⟩ | ⟨rfl, h1, h2⟩ | ⟨h1, h2⟩⟩ := h
    · unfold stepP
      rw [if_pos ⟨ht, rfl⟩]
      cases e : takeP ws with
      | none => rfl
      | some t =>
        obtain ⟨rfl, w1, w2⟩ := takeP_some e
        show (true && letB a (takeW t)) = (if ltZ (lastOf []) t.1 then some (Sum.inl t) else none : Option ((Str × Ky) ⊕ Nt)).isSome
        have e0 : ltZ (lastOf []) t.1 := nil_ltZ w1
        rw [if_pos e0]
        unfold letB
        rw [decide_eq_true h1]
        rfl
    · unfold stepP
      rw [if_pos ⟨ht, rfl⟩]
      cases e : takeP ws with
      | none => rfl
      | some t =>
        obtain ⟨rfl, w1, w2⟩ := takeP_some e
        show (true && letB a (takeW t)) = (if ltZ (lastOf c) t.1 then some (Sum.inl t) else none : Option ((Str × Ky) ⊕ Nt)).isSome
        have hu : a.head? ≠ some "under" := fun y => absurd (Option.some.inj (h1.symm.trans y)) (by decide +kernel)
        unfold letB
        rw [decide_eq_true h1, decide_eq_false hu, h2]
        show (true && (false || (true && decide (ltZ (lastOf c) t.1)))) = _
        by_cases hl : ltZ (lastOf c) t.1
        · rw [if_pos hl, decide_eq_true hl]; rfl
        · rw [if_neg hl, decide_eq_false hl]; rfl
    · have hu : a.head? ≠ some "under" := fun y => absurd (Option.some.inj (h2.symm.trans y)) (by decide +kernel)
      have hk : a.head? ≠ some "take" := fun y => absurd (Option.some.inj (h2.symm.trans y)) (by decide +kernel)
      unfold stepP letB
      rw [if_neg (fun y => by rw [h1] at y; exact absurd y.2 (by decide)), owe_take ht, decide_eq_false hu, decide_eq_false hk]
      show ((takeP ws).isSome && (false || (false && _))) = false
      cases (takeP ws).isSome <;> rfl
  · unfold stepP
    rw [if_neg (fun y => ht y.1), take_no ht, Option.isSome_map]
    rfl
theorem Ahd.inl {c : List (Str × Ky)} {n : List Nt} {ws : List Str} {t : Str × Ky} (h : stepP c n ws = some (.inl t)) : Ahd (c ++ [t]) n ws := by
  rcases stepP_some h with ⟨t', e, h1, h2, _⟩ | ⟨x, e, _⟩
  · cases e
    subst h1 h2
    exact ⟨by simp [takeW], .inr (.inl ⟨rfl, rfl, by rw [lastOf_snoc]; rfl⟩)⟩
  · cases e
theorem Ahd.inr {c : List (Str × Ky)} {n : List Nt} {ws : List Str} {x : Nt} (h : stepP c n ws = some (.inr x)) : Ahd c (n ++ [x]) ws := by
  rcases stepP_some h with ⟨t', e, h1, h2, _⟩ | ⟨x, e, h2, _⟩
  · cases e
  · cases e
    subst h2
    exact ⟨by simp [oweW], .inr (.inr ⟨by simp, rfl⟩)⟩
structure RsAt (H : Hp) (l : Addr) (rows : List (List Str)) : Prop where
  ex : ∃ ps : List Addr, H l = some (.lst (ps.map V.ref)) ∧ A2 (WsAt H) ps rows
  few : rows.length ≤ 100
  some : rows ≠ []
theorem RsAt.same {H H' : Hp} {l : Addr} {rows : List (List Str)} (h : RsAt H l rows) (s : Same H H') : RsAt H' l rows := by
  obtain ⟨⟨ps, h1, h2⟩, h3, h4⟩ := h
  exact ⟨⟨ps, s _ _ h1, h2.imp fun _ _ e => e.same s⟩, h3, h4⟩
section
variable {P : Program} {w : World} {K : PySem.W.Frag} {mg : Str → Option Value} {base : Heap}
variable {ct : Addr}
def spNF (ct : Addr) : Sp := fun vs H Q E => ∃ (l : Addr) (rows : List (List Str)), vs = [.ref l] ∧ RsAt H l rows ∧ ((∃ f, readF rows = .inr f) → ∀ H', Same H H' → Q .non H') ∧ ∀ i, readF rows = .inl i → XatF ct "line" (.int (i : Nat)) H E
abbrev sneed_forms : Stmt := top 30
theorem scneed_forms : FnScope ["rows", "place"] ["rows"] (defScope sneed_forms) := ⟨rfl, rfl, rfl, by decide +kernel, rfl, by decide +kernel, by decide +kernel⟩
theorem ok_nf (T : Txt mg) (X : XAt P w K mg base "BadText" 1 "line" ct) (F_is_under_row : FnAt P w K mg base "is_under_row" 3 ["words"] spUR) (F_is_take_row : FnAt P w K mg base "is_take_row" 3 ["words", "ahead"] spTR) (F_is_owe_row : FnAt P w K mg base "is_owe_row" 3 ["words"] spOR)
    (F : TopFn K mg "need_forms" sneed_forms ["rows"]) : FnAtX P w K mg base "need_forms" 5 ["rows"] (spNF ct) := by
  refine F.atX scneed_forms (fun vs H Q E h => ?_) (fun f cdv A outer s H vs Q E hr h => ?_)
  · obtain ⟨l, rows, rfl, _⟩ := h
    rfl
  · obtain ⟨l, rows, rfl, ⟨⟨ps, hl, hps⟩, few, ne⟩, q, xx⟩ := h
    refine ⟨_, (pss_cons (ps_if (pt_not (pt_val (pe_fn F_is_under_row hr (by decide) rfl (pa_cons (pe_ix ix_list (pv 0) pe_int (fun _ _ => rfl)) pa_nil)))) (pss_one (ps_raise raises_def hr.hd (pe_x X hr (by decide) rfl (pa_cons pe_int pa_nil)))) pss_nil)
      (pss_one (ps_for PassesOwn.leaving rfl (pi_range2 rfl T.n_range (pa_cons pe_int (pa_cons (pe_callB call_len rfl T.n_len boot_len (pa_cons (pv 0) pa_nil)) pa_nil))) (pg_name (i := 1) scneed_forms.nd rfl (by first | exact Or.inl rfl | exact Or.inr rfl)) (pss_one (ps_if (PW.pt (pw_and (pt_not (pt_val (pe_fn F_is_take_row hr (by decide) rfl (pa_cons (pe_ix ix_list (pv 0) (pv 1) (fun _ _ => rfl)) (pa_cons (pe_ix ix_list (pv 0) (pe_op op_sub (pv 1) pe_int) (fun _ _ => rfl)) pa_nil))))) (pw_and1 (pt_not (pt_val (pe_fn F_is_owe_row hr (by decide) rfl (pa_cons (pe_ix ix_list (pv 0) (pv 1) (fun _ _ => rfl)) pa_nil))))))) (pss_one (ps_raise raises_def hr.hd (pe_x X hr (by decide) rfl (pa_cons (pv 1) pa_nil)))) pss_nil))))), ?_⟩
    have hs : sizeLine = 16777216 := sizeLine_eq
    obtain ⟨p0, ps, rfl⟩ : ∃ p0 ps', ps = p0 :: ps' := by
      cases ps with
      | nil => exact absurd hps.1 (by cases rows with | nil => exact absurd rfl ne | cons _ _ => simp)
      | cons p0 ps => exact ⟨p0, ps, rfl⟩
    obtain ⟨w0, rest, rfl⟩ : ∃ w0 rest, rows = w0 :: rest := by
      cases rows with
      | nil => exact absurd rfl ne
      | cons w0 rest => exact ⟨w0, rest, rfl⟩
    have hall := hps
    obtain ⟨hp0, hps⟩ := hps.inv
    have pl : ps.length ≤ 99 := by rw [hps.1]; rw [List.length_cons] at few; omega
    have ll : ((p0 :: ps).map V.ref).length = ps.length + 1 := by rw [List.length_map, List.length_cons]
    refine ⟨_, rfl, l, _, _, V.ref p0, rfl, rfl, SqL.of hl, (atI_nat (j := 0) rfl), p0, w0, rfl, hp0, fun H1 s1 => ⟨_, rfl, ?_⟩⟩
    cases hw : underP w0 with
    | none =>
      refine iteT ?_
      exact ⟨_, rfl, fun a dx' z1 z2 z3 => ⟨a, ct, some dx', rfl, by rw [upd_ne (Ne.symm z3)]; exact upd_same, X.df.ok.mkk, XatF.go (xx 0 (readF_0 hw)) s1 z1 z2 z3⟩⟩
    | some k0 =>
    refine iteF ?_
    have a0 : Ahd [] [] w0 := by
      obtain ⟨rfl, _⟩ := underP_some hw
      exact ⟨by simp [underW], .inl ⟨rfl, rfl, rfl⟩⟩
    refine ⟨_, rfl, _, _, rfl, .inl ⟨_, SqL.of (s1 _ _ hl), rfl⟩, _, _, rfl, ⟨by decide, by decide, ?_, ?_⟩, for_range (n := _) (fun i σ H' => ∃ (v1 : Option V) (c : List (Str × Ky)) (n : List Nt) (a : List Str), σ = [some (.ref l), v1] ∧ Same H H' ∧ goP c n (i + 1) (rest.drop i) = goP [] [] 1 rest ∧ (w0 :: rest)[i]? = some a ∧ Ahd c n a) ⟨_, [], [], w0, rfl, s1, rfl, rfl, a0⟩ ?_ ?_⟩
    · rw [ll]; omega
    · rw [ll]; omega
    · rintro i σ H' hi ⟨v1, c, n, a, rfl, s', hg, hia, ha⟩
      have hi : i < ps.length := by rw [ll] at hi; omega
      obtain ⟨p, hp⟩ : ∃ p, ps[i]? = some p := ⟨ps[i], List.getElem?_eq_getElem hi⟩
      obtain ⟨ws, he, hpe⟩ := hps.at hp
      obtain ⟨pa, hpa, hpea⟩ := hall.at' hia
      have h1 : atI ((p0 :: ps).map V.ref) (1 + (i : Int)) = some (.ref p) := by
        rw [show (1 : Int) + i = ((i + 1 : Nat) : Int) by omega]
        exact atI_nat (by rw [List.map_cons, List.getElem?_cons_succ, List.getElem?_map, hp]; rfl)
      have h2 : atI ((p0 :: ps).map V.ref) (1 + (i : Int) - 1) = some (.ref pa) := by
        rw [show (1 : Int) + i - 1 = ((i : Nat) : Int) by omega]
        exact atI_nat (by rw [List.getElem?_map, hpa]; rfl)
      have ed : rest.drop i = ws :: rest.drop (i + 1) := by
        obtain ⟨h1, h2⟩ := List.getElem?_eq_some_iff.mp he
        rw [← h2, ← List.drop_eq_getElem_cons h1]
      rw [ed] at hg
      refine ⟨_, rfl, _, rfl, l, _, _, V.ref p, rfl, rfl, SqL.of (s' _ _ hl), h1, ?_⟩
      refine ⟨_, rfl, _, rfl, _, _, rfl, rfl, l, _, _, V.ref pa, rfl, rfl, SqL.of (s' _ _ hl), h2, p, pa, ws, a, rfl, hpe.same s', hpea.same s', ha.1, fun H2 s2 => ⟨_, rfl, ?_⟩⟩
      have S2 := s'.trans s2
      have hst := step_is (ws := ws) ha
      have nxt : ∀ H3, Same H H3 → (stepP c n ws).isSome = true → ∃ (v1 : Option V) (c : List (Str × Ky)) (n : List Nt) (a : List Str), [some (V.ref l), some (V.int (1 + (i : Int)))] = [some (.ref l), v1] ∧ Same H H3 ∧ goP c n (i + 1 + 1) (rest.drop (i + 1)) = goP [] [] 1 rest ∧ (w0 :: rest)[i + 1]? = some a ∧ Ahd c n a := fun H3 s3 hso => by
        cases hsp : stepP c n ws with
        | none => rw [hsp] at hso; cases hso
        | some y =>
          cases y with
          | inl t =>
            rw [goP_inl hsp] at hg
            exact ⟨_, _, _, ws, rfl, s3, hg, he, Ahd.inl hsp⟩
          | inr x =>
            rw [goP_inr hsp] at hg
            exact ⟨_, _, _, ws, rfl, s3, hg, he, Ahd.inr hsp⟩
      cases hb : ((takeP ws).isSome && letB a ws) with
      | true =>
        rw [hb, Bool.true_or] at hst
        exact iteF (nxt _ S2 hst.symm)
      | false =>
        rw [hb, Bool.false_or] at hst
        refine iteT ⟨_, rfl, _, rfl, l, _, _, V.ref p, rfl, rfl, SqL.of (S2 _ _ hl), h1, p, ws, rfl, hpe.same S2, fun H3 s3 => ⟨_, rfl, ?_⟩⟩
        have S3 := S2.trans s3
        rw [hst]
        cases hc : stepP c n ws with
        | none =>
          rw [goP_none hc] at hg
          refine iteT ?_
          have ev : (V.int (1 + (i : Int))) = V.int ((i + 1 : Nat) : Int) := by rw [show (1 : Int) + i = ((i + 1 : Nat) : Int) by omega]
          rw [ev]
          exact ⟨_, rfl, _, rfl, fun a dx' z1 z2 z3 => ⟨a, ct, some dx', rfl, by rw [upd_ne (Ne.symm z3)]; exact upd_same, X.df.ok.mkk, XatF.go (xx (i + 1) (readF_l hw hg.symm)) S3 z1 z2 z3⟩⟩
        | some y => exact iteF (nxt _ S3 (by rw [hc]; rfl))
    · rintro σ H' ⟨v1, c, n, a, rfl, s', hg, hia, ha⟩
      have hln : ((ps.length + 1 : Nat) : Int) - 1 = (ps.length : Int) := by omega
      have ht : rest.drop ((((p0 :: ps).map V.ref).length : Nat) - 1 : Int).toNat = [] := List.drop_of_length_le (by rw [← hps.1, ll]; omega)
      rw [ht] at hg
      exact q ⟨_, readF_r hw hg.symm⟩ _ s'
end
end K78
namespace L2
open PySem PySem.Spec PyProof.Rows
theorem pe_bmK {X : Cx} {o e : Expr} {es : List Expr} {to : TE} {t : TA} {name : Str} {apos cpos : Pos} {T id : String} {r : V → List V → Hp → VK → Prop} (K : PySem.W.Frag) (pa : PlainAttrs T) (slot : Slot T name id) (hty : typeOf (.builtin id) = pure (.type "method_descriptor")) (hm : MtR X id r) (ho : PE X o to) (ha : PA X (e :: es) t) (hK : X.K = K := by rfl)
    (hbase : attributeBase o name X.env (eval o X.env) = eval o X.env := by rfl)
    (hfew : ((backTo cpos (starEach (e :: es) X.env)).all (fun x => !x.1) && (backToKw cpos (keywordEach [] X.env)).all (fun x => x.1.isSome)
      && decide ((e :: es).length + ([] : List Keyword).length + (if ([] : List Keyword).isEmpty then 0 else 1) < 30)) = true := by rfl)
    (hline : (apos.endLine == cpos.line) = true := by rfl) (hs : starEach (e :: es) X.env = (false, eval e X.env) :: starEach es X.env := by rfl) (hplain : (backTo cpos (starEach es X.env)).any (·.1) = false := by rfl) :
    PE X (.Call (.Attribute o name apos) (e :: es) [] cpos) (tBM K T r to t) := by
  subst hK
  exact pe_bm pa slot hty hm ho ha hbase hfew hline hs hplain
end L2
namespace K78
open PySem L2 PyProof.Rows
theorem split_le (z y : Str) : (Txt.split z y).length ≤ z.length + 2 := by
  unfold Txt.split
  have e1 := StrLaws.occ_length_le z y 0 z.length (z.length + 1)
  split
  · show 1 ≤ _; omega
  · split
    · show 1 ≤ _; omega
    · rw [length_partsBetween]; omega
def rowsOf (z : Str) : List (List Str) := (Txt.split z "\n").map fun r => Txt.split r " "
structure TxOk (z : Str) : Prop where
  len : z.length ≤ 200000
  few : (Txt.split z "\n").length ≤ 60
  short : ∀ r ∈ Txt.split z "\n", r.length ≤ 1200
def CEn (H : Hp) (kv : Key × V) (t : Str × Ky) : Prop := kv.1 = Sum.inr t.1 ∧ ∃ p, kv.2 = .ref p ∧ KeyR H p t.2
def RoT (H : Hp) (p : Addr) (r : List (Str × Str)) : Prop := ∃ as : List Addr, H p = some (.tup (as.map V.ref)) ∧ A2 (PrR H) as r
def NAt (H : Hp) (p : Addr) (x : Nt) : Prop := ∃ po pr, H p = some (.tup [.str x.d, .str x.n, .ref po, .ref pr]) ∧ KeyR H po x.o ∧ RoT H pr x.r
structure FAd (H : Hp) (p pk d l : Addr) (f : Fd) : Prop where
  at_ : H p = some (.tup [.ref pk, .ref d, .ref l])
  key : KeyR H pk f.1
  dct : ∃ kvs, H d = some (.dK kvs) ∧ A2 (CEn H) kvs f.2.1
  lst : ∃ ps : List Addr, H l = some (.lst (ps.map V.ref)) ∧ A2 (NAt H) ps f.2.2
theorem CEn.t {H H' : Hp} {kv : Key × V} {t : Str × Ky} (h : CEn H kv t) (i : TpIn H H') : CEn H' kv t := by
  obtain ⟨h1, p, h2, h3⟩ := h
  exact ⟨h1, p, h2, i.tup h3⟩
theorem RoT.t {H H' : Hp} {p : Addr} {r : List (Str × Str)} (h : RoT H p r) (i : TpIn H H') : RoT H' p r := by
  obtain ⟨as, h1, h2⟩ := h
  exact ⟨as, i.tup h1, h2.imp fun _ _ e => i.tup e⟩
theorem NAt.t {H H' : Hp} {p : Addr} {x : Nt} (h : NAt H p x) (i : TpIn H H') : NAt H' p x := by
  obtain ⟨po, pr, h1, h2, h3⟩ := h
  exact ⟨po, pr, i.tup h1, i.tup h2, h3.t i⟩
theorem FAd.same {H H' : Hp} {p pk d l : Addr} {f : Fd} (h : FAd H p pk d l f) (s : Same H H') : FAd H' p pk d l f := by
  obtain ⟨h1, h2, ⟨kvs, h3, h4⟩, ps, h5, h6⟩ := h
  exact ⟨s _ _ h1, s _ _ h2, ⟨kvs, s _ _ h3, h4.imp fun _ _ e => e.t (.of s)⟩, ps, s _ _ h5, h6.imp fun _ _ e => e.t (.of s)⟩
def Kd2 (d l : Addr) (H H' : Hp) : Prop := ∀ a o, H a = some o → a ≠ d → a ≠ l → H' a = some o
theorem Kd2.of {d l : Addr} {H H' : Hp} (s : Same H H') : Kd2 d l H H' := fun a o e _ _ => s a o e
theorem Kd2.trans {d l : Addr} {H H' H'' : Hp} (h : Kd2 d l H H') (h' : Kd2 d l H' H'') : Kd2 d l H H'' := fun a o e h1 h2 => h' a o (h a o e h1 h2) h1 h2
theorem Kd2.updD {d l : Addr} {H : Hp} {o : HO} : Kd2 d l H (upd H d o) := fun a ob e h1 _ => by rw [upd_ne h1]; exact e
theorem Kd2.updL {d l : Addr} {H : Hp} {o : HO} : Kd2 d l H (upd H l o) := fun a ob e _ h2 => by rw [upd_ne h2]; exact e
theorem Kd2.tp {d l : Addr} {H H' : Hp} {kvs : List (Key × V)} {xs : List V} (h : Kd2 d l H H') (hd : H d = some (.dK kvs)) (hl : H l = some (.lst xs)) : TpIn H H' := fun a o e k => h a o e (fun z => by
  subst z; rw [hd] at e; cases e
  rcases k with ⟨_, k⟩ | ⟨_, _, _, k⟩ <;> cases k) (fun z => by
  subst z; rw [hl] at e; cases e
  rcases k with ⟨_, k⟩ | ⟨_, _, _, k⟩ <;> cases k)
theorem Kd2.lst {d l a : Addr} {H H' : Hp} {kvs : List (Key × V)} {xs : List V} (h : Kd2 d l H H') (hd : H d = some (.dK kvs)) (hl : a ≠ l) (e : H a = some (.lst xs)) : H' a = some (.lst xs) := h a _ e (fun z => by subst z; rw [hd] at e; cases e) hl
theorem cen_keys {H : Hp} : ∀ {kvs : List (Key × V)} {c : List (Str × Ky)}, A2 (CEn H) kvs c → kvs.map (·.1) = (c.map (·.1)).map Sum.inr
  | [], [], _ => rfl
  | [], _ :: _, h => by cases h.1
  | _ :: _, [], h => by cases h.1
  | kv :: kvs, t :: c, h => by
    obtain ⟨h1, h2⟩ := h.inv
    rw [List.map_cons, cen_keys h2, h1.1]; rfl
theorem cen_none {H : Hp} {kvs : List (Key × V)} {c : List (Str × Ky)} (h : A2 (CEn H) kvs c) {z : Str} (hz : z ∉ c.map (·.1)) : valV kvs (Sum.inr z) = none := by
  cases e : valV kvs (Sum.inr z) with
  | none => rfl
  | some v =>
    have := valV_in e
    rw [cen_keys h] at this
    obtain ⟨y, hy, ey⟩ := List.mem_map.mp this
    cases ey
    exact absurd hy hz
section
variable {P : Program} {w : World} {K : PySem.W.Frag} {mg : Str → Option Value} {base : Heap}
variable {ct : Addr}
def spRF (ct : Addr) (K : PySem.W.Frag) : Sp := fun vs H Q E => ∃ v : V, vs = [v] ∧ ((∃ z, v = .str z ∧ TxOk z ∧ (∀ f, readF (rowsOf z) = .inr f → ∀ (p pk d l : Addr) (H' : Hp), Same H H' → H d = none → H l = none → FAd H' p pk d l f → Q (.ref p) H') ∧ ∀ i, readF (rowsOf z) = .inl i → XatF ct "line" (.int (i : Nat)) H E) ∨
  ∃ k, KdOf K H v k ∧ k.isA .str = false ∧ XatF ct "line" (.int 0) H E)
abbrev sread_folder : Stmt := top 31
theorem scread_folder : FnScope ["text", "rows", "choice", "notices", "words"] ["text"] (defScope sread_folder) := ⟨rfl, rfl, rfl, by decide +kernel, rfl, by decide +kernel, by decide +kernel⟩
theorem ok_rf (T : Txt mg) (X : XAt P w K mg base "BadText" 1 "line" ct) (F_need_forms : FnAtX P w K mg base "need_forms" 5 ["rows"] (spNF ct)) (F_key_of : FnAt P w K mg base "key_of" 3 ["text"] spKeO) (F_road_of : FnAt P w K mg base "road_of" 1 ["words"] spRO)
    (F : TopFn K mg "read_folder" sread_folder ["text"]) : FnAtX P w K mg base "read_folder" 6 ["text"] (spRF ct K) := by
  refine F.atX scread_folder (fun vs H Q E h => ?_) (fun f cdv A outer s H vs Q E hr h => ?_)
  · obtain ⟨v, rfl, _⟩ := h
    rfl
  · obtain ⟨v, rfl, h⟩ := h
    have ps_ : ∀ {N qual scope f cdv A outer s₀ H₀}, Passes (CXR P w) (cxOf (CXR P w) P w K mg base N qual scope f cdv A outer s₀ H₀ E) E := passes_def fun _ _ h => h
    refine ⟨_, (pss_cons (ps_if (pt_not (pt_val (pe_callB (call_isKd .str (by simp)) rfl T.n_isinstance boot_isinstance (pa_cons (pv 0) (pa_cons (pe_bltn (v := .ty "str") rfl T.n_str boot_str rfl) pa_nil))))) (pss_one (ps_raise raises_def hr.hd (pe_x X hr (by decide) rfl (pa_cons pe_int pa_nil)))) pss_nil)
      (pss_cons (ps_setComp (i := 1) (sc := defScope sread_folder) (N0 := ["text", "rows", "choice", "notices", "words"]) (xs := ["row"]) (ys := []) (js := []) ⟨rfl, by decide +kernel, by decide +kernel, by decide +kernel, by decide +kernel⟩ rfl scread_folder.nd rfl rfl (pi_list (pe_bm PySem.F.plainAttrs_str PySem.F.slot_str_split PySem.F.type_str_split mt_split (pv 0) (pa_cons pe_str pa_nil))) (fun _ _ _ _ => (pg_name (i := 0) (show (["row"] : List Str).Nodup by decide +kernel) rfl (by first | exact Or.inl rfl | exact Or.inr rfl))) (fun _ _ _ _ => pq_nil) (fun _ _ _ _ => (pe_bmK K PySem.F.plainAttrs_str PySem.F.slot_str_split PySem.F.type_str_split mt_split (pv 0) (pa_cons pe_str pa_nil))))
      (pss_cons (ps_expr (pe_fnX (E := E) F_need_forms ps_ hr (by decide) rfl (pa_cons (pv 1) pa_nil)))
      (pss_cons (ps_set (i := 2) scread_folder.nd rfl (by first | exact Or.inl rfl | exact Or.inr rfl) pe_dnewK)
      (pss_cons (ps_set (i := 3) scread_folder.nd rfl (by first | exact Or.inl rfl | exact Or.inr rfl) (pe_lst pa_nil))
      (pss_cons (ps_for PassesOwn.leaving rfl (pi_list (pe_slice sl_list (pv 1) (po_some pe_int) po_none)) (pg_name (i := 4) scread_folder.nd rfl (by first | exact Or.inl rfl | exact Or.inr rfl)) (pss_one (ps_if (pt_cmpR op_eq (pe_ix ix_list (pv 4) pe_int (fun _ _ => rfl)) pe_str (nomark _)) (pss_one (ps_dput (hu1 hr) (pv 2) (pe_ix ix_list (pv 4) pe_int (fun _ _ => rfl)) (pe_fn F_key_of hr (by decide) rfl (pa_cons (pe_ix ix_list (pv 4) pe_int (fun _ _ => rfl)) pa_nil)) rfl)) (pss_one (ps_expr (pe_bm PySem.F.plainAttrs_list PySem.F.slot_list_append PySem.F.type_list_append mt_append (pv 3) (pa_cons (pe_tup (pa_cons (pe_ix ix_list (pv 4) pe_int (fun _ _ => rfl)) (pa_cons (pe_ix ix_list (pv 4) pe_int (fun _ _ => rfl)) (pa_cons (pe_fn F_key_of hr (by decide) rfl (pa_cons (pe_ix ix_list (pv 4) pe_int (fun _ _ => rfl)) pa_nil)) (pa_cons (pe_callTy call_tuple_of rfl T.n_tuple boot_tuple (pa_cons (pe_fn F_road_of hr (by decide) rfl (pa_cons (pv 4) pa_nil)) pa_nil)) pa_nil))))) pa_nil)))))))
      (pss_one (ps_ret (pe_tup (pa_cons (pe_fn F_key_of hr (by decide) rfl (pa_cons (pe_ix ix_list (pe_ix ix_list (pv 1) pe_int (fun _ _ => rfl)) pe_int (fun _ _ => rfl)) pa_nil)) (pa_cons (pv 2) (pa_cons (pv 3) pa_nil)))))))))))), ?_⟩
    have hs : sizeLine = 16777216 := sizeLine_eq
    rcases h with ⟨z, rfl, ok, q, xx⟩ | ⟨kd, hk, hns, xx⟩
    · have tl := ok.len
      have wl := ok.few
      have short := ok.short
      refine ⟨_, rfl, _, .str, rfl, TyOf.str _, _, rfl, iteF ?_⟩
      refine ⟨_, rfl, rfl, z, "\n", rfl, rfl, (by decide +kernel), (by omega), fun p hp => ?_⟩
      have rO : rowsOf z = (Txt.split z "\n").map fun r => Txt.split r " " := rfl
      have pos := split_pos z "\n"
      generalize Txt.split z "\n" = L at wl short rO pos ⊢
      have s1 := Same.new (o := .lst (L.map V.str)) hp
      have e1 : upd H p (.lst (L.map V.str)) p = some (.lst (L.map V.str)) := upd_same
      generalize upd H p (.lst (L.map V.str)) = H1 at s1 e1 ⊢
      refine ⟨p, rfl, ⟨_, SqL.of e1⟩, comp_list (K := K) (a := p) (xs := L.map V.str) (fun i ys H' => ∃ qs : List Addr, ys = qs.map V.ref ∧ A2 (WsAt H') qs ((rowsOf z).take i) ∧ Same H1 H') ⟨[], rfl, A2.nil, Same.refl _⟩ (by rw [List.length_map]; omega) ?_ ?_ ?_ ?_⟩
      · rintro i ys H' ⟨qs, rfl, hq, _⟩
        rw [List.length_map, hq.1, List.length_take]
        omega
      · rintro i ys H' _ ⟨_, _, _, s'⟩
        exact SqL.of (s' _ _ e1)
      · rintro i x ys H' hx ⟨qs, rfl, hq, s'⟩
        rw [List.getElem?_map] at hx
        obtain ⟨y, hy, rfl⟩ := Option.map_eq_some_iff.mp hx
        have hm := List.mem_of_getElem? hy
        have hw : (rowsOf z)[i]? = some (Txt.split y " ") := by rw [rO, List.getElem?_map, hy]; rfl
        have yl := short y hm
        refine ⟨_, rfl, rfl, y, " ", rfl, rfl, (by decide +kernel), (by omega), fun p2 hp2 => ?_⟩
        refine ⟨qs ++ [p2], by rw [List.map_append]; rfl, ?_, s'.trans (Same.new hp2)⟩
        rw [take_snoc hw]
        exact (hq.imp fun _ _ e => e.same (Same.new hp2)).app (A2.one ⟨upd_same, by have := split_le y " "; omega, fun a ha => by have := part_short ha; omega⟩)
      · rintro ys H' ⟨qs, rfl, hq, s'⟩ l hl
        have len : (rowsOf z).length = L.length := by rw [rO, List.length_map]
        rw [List.length_map, ← len, List.take_length] at hq
        have s2 := Same.new (o := .lst (qs.map V.ref)) hl
        have e2 : upd H' l (.lst (qs.map V.ref)) l = some (.lst (qs.map V.ref)) := upd_same
        generalize upd H' l (.lst (qs.map V.ref)) = H2 at s2 e2 ⊢
        have S2 := (s1.trans s').trans s2
        have hR : RsAt H2 l (rowsOf z) := ⟨⟨qs, e2, hq.imp fun _ _ e => e.same s2⟩, by omega, fun e => by rw [e] at len; simp at len; omega⟩
        refine ⟨_, rfl, l, rowsOf z, rfl, hR, fun hf H3 s3 => ?_, fun i hi => (xx i hi).same S2⟩
        obtain ⟨⟨k0, cF, nF⟩, hf⟩ := hf
        obtain ⟨hrw, hk0, hcF, hnF⟩ := readF_some hf
        obtain ⟨⟨qs', e3, hq'⟩, few, _⟩ := hR.same s3
        generalize rowsOf z = rows at hf hrw hq' q few
        obtain ⟨w0, rest, rfl⟩ : ∃ w0 rest, rows = w0 :: rest := by
          cases rows with
          | nil => cases hf
          | cons w0 rest => exact ⟨w0, rest, rfl⟩
        have hu : underP w0 = some k0 ∧ goP [] [] 1 rest = .inr (cF, nF) := by
          rw [readF] at hf
          cases hu : underP w0 with
          | none => rw [hu] at hf; cases hf
          | some k =>
            rw [hu] at hf
            dsimp only at hf
            cases hg : goP [] [] 1 rest with
            | inl i => rw [hg] at hf; cases hf
            | inr y => rw [hg] at hf; cases hf; exact ⟨rfl, rfl⟩
        obtain ⟨hu, hg0⟩ := hu
        obtain ⟨ew0, _⟩ := underP_some hu
        obtain ⟨p0, ps, rfl⟩ : ∃ p0 ps, qs' = p0 :: ps := by
          cases qs' with
          | nil => exact absurd hq'.1 (by simp)
          | cons p0 ps => exact ⟨p0, ps, rfl⟩
        obtain ⟨h1, h2⟩ := A2.inv hq'
        have S3 := S2.trans s3
        refine fun d hd => ?_
        have s4 := Same.new (o := .dK []) hd
        have e4 : upd H3 d (.dK []) d = some (.dK []) := upd_same
        generalize upd H3 d (.dK []) = H4 at s4 e4 ⊢
        refine ⟨(by show 0 ≤ sizeLine; omega), fun ln hln => ?_⟩
        have s5 := Same.new (o := .lst []) hln
        have e5 : upd H4 ln (.lst []) ln = some (.lst []) := upd_same
        generalize upd H4 ln (.lst []) = H5 at s5 e5 ⊢
        have S45 := s4.trans s5
        have S5 := S3.trans S45
        have lne : l ≠ ln := ne_of_none (s4 _ _ e3) hln
        refine ⟨_, rfl, _, rfl, l, _, rfl, SqL.of (S45 _ _ e3), fun lr hlr => ?_⟩
        rw [List.map_cons, cut1]
        have s6 := Same.new (o := .lst (ps.map V.ref)) hlr
        have e6 : upd H5 lr (.lst (ps.map V.ref)) lr = some (.lst (ps.map V.ref)) := upd_same
        generalize upd H5 lr (.lst (ps.map V.ref)) = H6 at s6 e6 ⊢
        have S36 := S45.trans s6
        have S6 := S3.trans S36
        have e4' := s6 _ _ (s5 _ _ e4)
        have e5' := s6 _ _ e5
        have lrn : lr ≠ ln := fun y => by subst y; rw [e5] at hlr; cases hlr
        have fd : H d = none := S3.free hd
        have fn : H ln = none := (S3.trans s4).free hln
        have hpp : ∀ (i : Nat) (pw : Addr), ps[i]? = some pw → pw ≠ ln := fun i pw e y => by
          obtain ⟨ws, _, hws⟩ := h2.at e
          subst y
          have := s4 _ _ hws.at_
          rw [hln] at this
          cases this
        have pl : ps.length ≤ 99 := by rw [h2.1]; rw [List.length_cons] at few; omega
        refine ⟨lr, rfl, ⟨_, SqL.of e6⟩, for_list (K := K) (a := lr) (xs := ps.map V.ref) (fun i σ H' => ∃ (v4 : Option V) (c : List (Str × Ky)) (n : List Nt) (kvs : List (Key × V)) (ns : List Addr), σ = [some (.str z), some (.ref l), some (.ref d), some (.ref ln), v4] ∧ Kd2 d ln H6 H' ∧ H' d = some (.dK kvs) ∧ A2 (CEn H') kvs c ∧ H' ln = some (.lst (ns.map V.ref)) ∧ A2 (NAt H') ns n ∧ goP c n (i + 1) (rest.drop i) = .inr (cF, nF) ∧ COk c ∧ c.length ≤ i ∧ n.length ≤ i)
          ⟨_, [], [], [], [], rfl, Kd2.of (Same.refl _), e4', A2.nil, e5', A2.nil, hg0, COk.nil, Nat.zero_le _, Nat.zero_le _⟩ (fun i σ H' _ ⟨_, _, _, _, _, _, k, _⟩ => SqL.of (k.lst e4' lrn e6)) ?_ ?_⟩
        · rintro i v σ H7 hv ⟨v4, c, n, kvs, ns, rfl, k7, d7, c7, l7, n7, g7, ok7, cl, nl⟩
          rw [List.getElem?_map] at hv
          obtain ⟨pw, hpw, rfl⟩ := Option.map_eq_some_iff.mp hv
          obtain ⟨ws, he, hws⟩ := h2.at hpw
          have hi := (List.getElem?_eq_some_iff.mp hpw).1
          have ed : rest.drop i = ws :: rest.drop (i + 1) := by
            obtain ⟨h1, h2⟩ := List.getElem?_eq_some_iff.mp he
            rw [← h2, ← List.drop_eq_getElem_cons h1]
          rw [ed] at g7
          have t7 := k7.tp e4' e5'
          have hw7 : H7 pw = some (.lst (ws.map V.str)) := k7.lst e4' (hpp i pw hpw) (S36 _ _ hws.at_)
          cases hsp : stepP c n ws with
          | none => rw [goP_none hsp] at g7; cases g7
          | some y =>
            rcases stepP_some hsp with ⟨t, rfl, rfl, rfl, w1, w2, w3⟩ | ⟨x, rfl, rfl, xo⟩
            · rw [goP_inl hsp] at g7
              refine ⟨_, rfl, pw, _, _, V.str "take", rfl, rfl, SqL.of hw7, (atI_nat (j := 0) rfl), rfl, _, rfl, iteT ?_⟩
              refine ⟨_, rfl, pw, _, _, V.str (keyT t.2), rfl, rfl, SqL.of hw7, (atI_nat (j := 2) rfl), t.2.1, t.2.2, rfl, w2.1, w2.2, fun pk H8 s8 hk8 => ?_⟩
              have vn : valV kvs (Sum.inr t.1) = none := cen_none c7 (ok7.fresh w3)
              refine ⟨_, rfl, _, rfl, pw, _, _, V.str t.1, rfl, rfl, SqL.of (s8 _ _ hw7), (atI_nat (j := 1) rfl), d, _, rfl, DPut.k (k := Sum.inr t.1) (s8 _ _ d7) (by rw [c7.1]; omega), ?_⟩
              rw [putK_new _ vn]
              have u8 : Kd2 d ln H8 (upd H8 d (.dK (kvs ++ [(Sum.inr t.1, .ref pk)]))) := Kd2.updD
              have t8 := u8.tp (s8 _ _ d7) (s8 _ _ l7)
              have t78 : TpIn H7 (upd H8 d (.dK (kvs ++ [(Sum.inr t.1, .ref pk)]))) := fun a o e k => t8 a o (s8 a o e) k
              refine ⟨_, c ++ [t], [], kvs ++ [(Sum.inr t.1, .ref pk)], ns, rfl, (k7.trans (Kd2.of s8)).trans u8, upd_same, (c7.imp fun _ _ e => e.t t78).app (A2.one ⟨rfl, pk, rfl, t8.tup hk8⟩), ?_, n7.imp fun _ _ e => e.t t78, g7, ok7.snoc w1 w2 w3, by simp; omega, by simp⟩
              rw [upd_ne (fun y => by have := s8 _ _ l7; rw [y, s8 _ _ d7] at this; cases this)]
              exact s8 _ _ l7
            · rw [goP_inr hsp] at g7
              refine ⟨_, rfl, pw, _, _, V.str "owe", rfl, rfl, SqL.of hw7, (atI_nat (j := 0) rfl), rfl, _, rfl, ite2 (fun y => absurd (V.str.inj (of_decide_eq_true y)) (by decide +kernel)) (fun _ => ?_)⟩
              refine ⟨_, rfl, .inl ⟨rfl, _, SqL.of l7⟩, _, rfl, pw, _, _, V.str x.d, rfl, rfl, SqL.of hw7, (atI_nat (j := 1) rfl), _, rfl, pw, _, _, V.str x.n, rfl, rfl, SqL.of hw7, (atI_nat (j := 2) rfl),
                _, rfl, pw, _, _, V.str (keyT x.o), rfl, rfl, SqL.of hw7, (atI_nat (j := 3) rfl), x.o.1, x.o.2, rfl, xo.o.1, xo.o.2, fun po H8 s8 hk8 => ?_⟩
              refine ⟨_, rfl, pw, "owe", x.d, x.n, keyT x.o, x.r, rfl, s8 _ _ hw7, fun r as H9 s9 fr er ap => ⟨r, _, rfl, .inl ⟨SqL.of er, fun pr hpr => ?_⟩⟩⟩
              have s10 := Same.new (o := .tup (as.map V.ref)) hpr
              have e10 : upd H9 pr (.tup (as.map V.ref)) pr = some (.tup (as.map V.ref)) := upd_same
              generalize upd H9 pr (.tup (as.map V.ref)) = H10 at s10 e10 ⊢
              refine ⟨(by show 4 ≤ sizeLine; omega), fun pt hpt => ?_⟩
              have s11 := Same.new (o := .tup [.str x.d, .str x.n, .ref po, .ref pr]) hpt
              have e11 : upd H10 pt (.tup [.str x.d, .str x.n, .ref po, .ref pr]) pt = some (.tup [.str x.d, .str x.n, .ref po, .ref pr]) := upd_same
              generalize upd H10 pt (.tup [.str x.d, .str x.n, .ref po, .ref pr]) = H11 at s11 e11 ⊢
              have S11 := ((s8.trans s9).trans s10).trans s11
              have na : NAt H11 pt x := ⟨po, pr, e11, ((s9.trans s10).trans s11) _ _ hk8, as, s11 _ _ e10, ap.imp fun _ _ e => (s10.trans s11) _ _ e⟩
              refine ⟨ln, _, _, rfl, rfl, S11 _ _ l7, by rw [List.length_map, n7.1]; omega, ?_⟩
              have u8 : Kd2 d ln H11 (upd H11 ln (.lst (ns.map V.ref ++ [.ref pt]))) := Kd2.updL
              have t8 := u8.tp (S11 _ _ d7) (S11 _ _ l7)
              have t78 : TpIn H7 (upd H11 ln (.lst (ns.map V.ref ++ [.ref pt]))) := fun a o e k => t8 a o (S11 a o e) k
              refine ⟨_, c, n ++ [x], kvs, ns ++ [pt], rfl, (k7.trans (Kd2.of S11)).trans u8, ?_, c7.imp fun _ _ e => e.t t78, by rw [List.map_append]; exact upd_same, (n7.imp fun _ _ e => e.t t78).app (A2.one (na.t t8)), g7, ok7, by omega, by simp; omega⟩
              rw [upd_ne (fun y => by have := S11 _ _ l7; rw [← y, S11 _ _ d7] at this; cases this)]
              exact S11 _ _ d7
        · rintro σ H7 ⟨v4, c, n, kvs, ns, rfl, k7, d7, c7, l7, n7, g7, ok7, cl, nl⟩
          rw [List.drop_of_length_le (by rw [List.length_map, h2.1]; exact Nat.le_refl _)] at g7
          cases g7
          have hl7 := k7.lst e4' lne (S36 _ _ e3)
          have p0n : p0 ≠ ln := fun y => by
            subst y
            have := s4 _ _ h1.at_
            rw [hln] at this
            cases this
          have hp7 : H7 p0 = some (.lst ((underW k0).map V.str)) := k7.lst e4' p0n (by rw [← ew0]; exact S36 _ _ h1.at_)
          refine ⟨_, rfl, l, _, _, V.ref p0, rfl, rfl, SqL.of hl7, (atI_nat (j := 0) rfl), p0, _, _, V.str (keyT k0), rfl, rfl, SqL.of hp7, (atI_nat (j := 1) rfl), k0.1, k0.2, rfl, hk0.1, hk0.2, fun pk H8 s8 hk8 => ?_⟩
          refine ⟨_, rfl, _, rfl, (by show 3 ≤ sizeLine; omega), fun pt hpt => ?_⟩
          have s9 := Same.new (o := .tup [.ref pk, .ref d, .ref ln]) hpt
          have S9 := s8.trans s9
          refine q _ hf pt pk d ln _ (fun a o e => S9 _ _ (k7 a o (S6 a o e) (ne_of_none e fd) (ne_of_none e fn))) fd fn ⟨upd_same, s9 _ _ hk8, ⟨kvs, S9 _ _ d7, c7.imp fun _ _ e => e.t (.of S9)⟩, ns, S9 _ _ l7, n7.imp fun _ _ e => e.t (.of S9)⟩
    · refine ⟨_, rfl, v, kd, rfl, hk, _, rfl, ?_⟩
      rw [hns]
      refine iteT ?_
      exact ⟨_, rfl, fun a dx' z1 z2 z3 => ⟨a, ct, some dx', rfl, by rw [upd_ne (Ne.symm z3)]; exact upd_same, X.df.ok.mkk, XatF.go xx (Same.refl _) z1 z2 z3⟩⟩
end
end K78
namespace L2
open PySem PySem.Spec PyProof.Rows
theorem mt_joinK {X : Cx} (K : PySem.W.Frag) (hK : X.K = K := by rfl) : MtR X "str.join" (fun x xs H Q => ∃ z a ys, x = .str z ∧ xs = [.ref a] ∧ SqL K H a (ys.map V.str) ∧ (ys.map (·.length)).sum + ys.length * z.length ≤ 16777216 ∧ Q (.str (Txt.join z ys)) H) := by
  subst hK
  exact mt_join
end L2
namespace K78
open PySem L2 PyProof.Rows
def rowZ (ws : List Str) : Str := Txt.join " " ws
def textF (f : Fd) : Str := Txt.join "\n" ((rowsF f).map rowZ)
def lk (c : List (Str × Ky)) (z : Str) : Ky := ((c.find? fun t => decide (t.1 = z)).map (·.2)).getD ("", 0)
structure FdOk (f : Fd) : Prop where
  k : KyOk f.1
  c : ∀ t ∈ f.2.1, isWordZ t.1 = true ∧ KyOk t.2
  nd : (f.2.1.map (·.1)).Nodup
  n : ∀ x ∈ f.2.2, NtOk x ∧ x.r.length ≤ 1000
  cl : f.2.1.length ≤ 60
  nl : f.2.2.length ≤ 100
theorem lk_mem {c : List (Str × Ky)} {t : Str × Ky} (nd : (c.map (·.1)).Nodup) (h : t ∈ c) : lk c t.1 = t.2 := by
  induction c with
  | nil => cases h
  | cons a r ih =>
    rw [List.map_cons, List.nodup_cons] at nd
    unfold lk
    by_cases e : a.1 = t.1
    · rw [List.find?_cons_of_pos (by simpa using e)]
      rcases List.mem_cons.mp h with rfl | h
      · rfl
      · exact absurd (List.mem_map.mpr ⟨t, h, e.symm⟩) nd.1
    · rw [List.find?_cons_of_neg (by simpa using e)]
      rcases List.mem_cons.mp h with rfl | h
      · exact absurd rfl e
      · exact ih nd.2 h
theorem word8 {z : Str} (h : isWordZ z = true) : z.length ≤ 8 := word_len h
theorem jw_len {z : Str} (h : (jP z).isSome = true) : z.length ≤ 7 := by
  obtain ⟨j, hj⟩ := Option.isSome_iff_exists.mp h
  rw [(jP_some hj).1]
  exact nm_len j
theorem flatS_short : ∀ {ps : List (Str × Str)}, ps.all pairOk = true → ∀ z ∈ flatS ps, z.length ≤ 8
  | [], _, z, h => by cases h
  | p :: r, hp, z, h => by
    rw [List.all_cons, Bool.and_eq_true] at hp
    have h1 := hp.1
    unfold pairOk at h1
    rw [Bool.and_eq_true] at h1
    rw [flatS] at h
    rcases List.mem_cons.mp h with rfl | h
    · have := jw_len h1.1; omega
    · rcases List.mem_cons.mp h with rfl | h
      · exact word8 h1.2
      · exact flatS_short hp.2 z h
theorem oweW_short {x : Nt} (h : NtOk x) : ∀ z ∈ oweW x, z.length ≤ 11 := fun z hz => by
  rw [oweW] at hz
  rcases List.mem_cons.mp hz with rfl | hz
  · decide +kernel
  · rcases List.mem_cons.mp hz with rfl | hz
    · have := word8 h.d; omega
    · rcases List.mem_cons.mp hz with rfl | hz
      · have := word8 h.n; omega
      · rcases List.mem_cons.mp hz with rfl | hz
        · exact keyT_len h.o
        · have := flatS_short h.r z hz; omega
theorem oweW_len (x : Nt) : (oweW x).length = 4 + 2 * x.r.length := by
  rw [oweW]
  simp only [List.length_cons, flatS_len]
  omega
theorem rowZ_len {ws : List Str} {n k : Nat} (h : ∀ z ∈ ws, z.length ≤ k) (hn : ws.length ≤ n) : (rowZ ws).length ≤ n * k + n := by
  have b1 : ((" " : Str)).length = 1 := by decide +kernel
  have h1 := len_join_le " " ws
  have h2 := sum_le h
  rw [b1] at h1
  have h3 : ws.length * k ≤ n * k := Nat.mul_le_mul_right _ hn
  unfold rowZ
  omega
theorem flatS_snoc (ps : List (Str × Str)) (p : Str × Str) : flatS (ps ++ [p]) = flatS ps ++ [p.1, p.2] := by
  induction ps with
  | nil => rfl
  | cons a r ih => rw [List.cons_append, flatS, flatS, ih]; rfl
section
variable {P : Program} {w : World} {K : PySem.W.Frag} {mg : Str → Option Value} {base : Heap}
def spOw : Sp := fun vs H Q _ => ∃ (po pr : Addr) (x : Nt), vs = [.str x.d, .str x.n, .ref po, .ref pr] ∧ KeyR H po x.o ∧ RoT H pr x.r ∧ NtOk x ∧ x.r.length ≤ 1000 ∧ ∀ H', Same H H' → Q (.str (rowZ (oweW x))) H'
abbrev sowe_row : Stmt := top 24
theorem scowe_row : FnScope ["duty", "name", "offer", "road", "words", "pair"] ["duty", "name", "offer", "road"] (defScope sowe_row) := ⟨rfl, rfl, rfl, by decide +kernel, rfl, by decide +kernel, by decide +kernel⟩
theorem ok_ow (T : Txt mg) (F_key_text : FnAt P w K mg base "key_text" 1 ["key"] (spKeyText K)) (F : TopFn K mg "owe_row" sowe_row ["duty", "name", "offer", "road"]) : FnAt P w K mg base "owe_row" 2 ["duty", "name", "offer", "road"] spOw := by
  refine F.at scowe_row (fun vs H Q E h => ?_) (fun f cdv A outer s H vs Q E hr h => ?_)
  · obtain ⟨po, pr, x, rfl, _⟩ := h
    rfl
  · obtain ⟨po, pr, x, rfl, hk, ⟨as, hr1, hr2⟩, ok, rl, q⟩ := h
    refine ⟨_, (pss_cons (ps_set (i := 4) scowe_row.nd rfl (by first | exact Or.inl rfl | exact Or.inr rfl) (pe_lst (pa_cons pe_str (pa_cons (pv 0) (pa_cons (pv 1) (pa_cons (pe_fn F_key_text hr (by decide) rfl (pa_cons (pv 2) pa_nil)) pa_nil))))))
      (pss_cons (ps_for PassesOwn.never rfl (pi_tup (pv 3)) (pg_name (i := 5) scowe_row.nd rfl (by first | exact Or.inl rfl | exact Or.inr rfl)) (pss_one (ps_expr (pe_bm PySem.F.plainAttrs_list PySem.F.slot_list_extend PySem.F.type_list_extend mt_extend (pv 4) (pa_cons (pe_callTy call_list_of rfl T.n_list boot_list (pa_cons (pv 5) pa_nil)) pa_nil)))))
      (pss_one (ps_ret (pe_bm PySem.F.plainAttrs_str PySem.F.slot_str_join PySem.F.type_str_join mt_join pe_str (pa_cons (pv 4) pa_nil)))))), ?_⟩
    have hs : sizeLine = 16777216 := sizeLine_eq
    have b1 : ((" " : Str)).length = 1 := by decide +kernel
    refine ⟨_, rfl, _, rfl, _, rfl, po, x.o.1, x.o.2, rfl, SqT.of hk, ok.o.1, by omega, by have := ok.o.2; omega, (by show 4 ≤ sizeLine; omega), fun lw hlw => ?_⟩
    have s1 := Same.new (o := .lst [.str "owe", .str x.d, .str x.n, .str (keyT x.o)]) hlw
    have e1 : upd H lw (.lst [.str "owe", .str x.d, .str x.n, .str (keyT x.o)]) lw = some (.lst [.str "owe", .str x.d, .str x.n, .str (keyT x.o)]) := upd_same
    have hm : upd H lw (.lst [.str "owe", .str x.d, .str x.n, .str (textZ x.o.1 (x.o.2 : Int))]) = upd H lw (.lst [.str "owe", .str x.d, .str x.n, .str (keyT x.o)]) := rfl
    rw [hm]
    generalize upd H lw (.lst [.str "owe", .str x.d, .str x.n, .str (keyT x.o)]) = H1 at s1 e1 ⊢
    refine ⟨_, rfl, pr, rfl, ⟨_, SqT.of (s1 _ _ hr1)⟩, for_tup (K := K) (a := pr) (xs := as.map V.ref) (fun i σ H' => ∃ v5 : Option V, σ = [some (.str x.d), some (.str x.n), some (.ref po), some (.ref pr), some (.ref lw), v5] ∧ (∀ a o, H1 a = some o → a ≠ lw → H' a = some o) ∧ H' lw = some (.lst ((("owe" : Str) :: x.d :: x.n :: keyT x.o :: flatS (x.r.take i)).map V.str))) ⟨_, rfl, fun _ _ e _ => e, e1⟩ ?_ ?_ ?_⟩
    · rintro i σ H' _ ⟨_, _, k, _⟩
      exact SqT.of (k _ _ (s1 _ _ hr1) (ne_of_none hr1 hlw))
    · rintro i v σ H' hv ⟨v5, rfl, k, el⟩
      rw [List.getElem?_map] at hv
      obtain ⟨p, hp, rfl⟩ := Option.map_eq_some_iff.mp hv
      obtain ⟨y, hy, hpr⟩ := hr2.at hp
      have hpn : p ≠ lw := ne_of_none hpr hlw
      have hi := (List.getElem?_eq_some_iff.mp hy).1
      refine ⟨_, rfl, .inl ⟨rfl, _, SqL.of el⟩, _, rfl, p, _, rfl, .inr (SqT.of (k _ _ (s1 _ _ hpr) hpn)), fun lb hlb => ?_⟩
      have nb : lb ≠ lw := fun z => by subst z; rw [el] at hlb; cases hlb
      have fl := flatS_len (x.r.take i)
      have ft : (x.r.take i).length ≤ x.r.length := by rw [List.length_take]; omega
      refine ⟨lw, lb, _, _, rfl, rfl, by rw [upd_ne (Ne.symm nb)]; exact el, upd_same, ?_, ?_⟩
      · simp only [List.length_map, List.length_cons, List.length_nil]
        omega
      · refine ⟨_, rfl, fun a o e z => ?_, ?_⟩
        · rw [upd_ne z, upd_ne (ne_of_none (k a o e z) hlb)]
          exact k a o e z
        · rw [upd_same, take_snoc hy, flatS_snoc]
          simp only [List.map_cons, List.map_append, List.cons_append, List.map_nil]
    · rintro σ H' ⟨v5, rfl, k, el⟩
      rw [List.length_map, hr2.1, List.take_length] at el
      have hw : H' lw = some (.lst ((oweW x).map V.str)) := el
      refine ⟨rfl, _, rfl, _, lw, oweW x, rfl, rfl, SqL.of hw, join_ok (k := 11) (n := 2004) (oweW_short ok) (by rw [oweW_len]; omega) (by rw [b1]; decide), q _ fun a o e => k a o (s1 a o e) (ne_of_none e hlw)⟩
theorem ok_len {c : List (Str × Ky)} {zs : List Str} (hp : zs.Perm (c.map (·.1))) : zs.length = c.length := by rw [hp.length_eq, List.length_map]
theorem cen_get {H : Hp} {kvs : List (Key × V)} {c : List (Str × Ky)} (h : A2 (CEn H) kvs c) (nd : (c.map (·.1)).Nodup) {t : Str × Ky} (ht : t ∈ c) : ∃ p, valV kvs (Sum.inr t.1) = some (.ref p) ∧ KeyR H p t.2 := by
  induction c generalizing kvs with
  | nil => cases ht
  | cons a r ih =>
    cases kvs with
    | nil => cases h.1
    | cons kv kvs =>
      obtain ⟨⟨h1, p, h2, h3⟩, h4⟩ := h.inv
      obtain ⟨kk, vv⟩ := kv
      dsimp only at h1 h2
      subst h1 h2
      rw [List.map_cons, List.nodup_cons] at nd
      rcases List.mem_cons.mp ht with rfl | ht
      · exact ⟨p, by unfold valV; simp, h3⟩
      · obtain ⟨p', e1, e2⟩ := ih h4 nd.2 ht
        refine ⟨p', ?_, e2⟩
        have ne : ¬ a.1 = t.1 := fun e => nd.1 (List.mem_map.mpr ⟨t, ht, e.symm⟩)
        rw [← e1]
        unfold valV
        rw [List.find?_cons_of_neg (by simpa using ne)]
def spSF : Sp := fun vs H Q _ => ∃ (p pk d l : Addr) (f : Fd), vs = [.ref p] ∧ FAd H p pk d l f ∧ FdOk f ∧ ∀ zs : List Str, zs.Perm (f.2.1.map (·.1)) → sortedS zs = true → ∀ H', Same H H' → Q (.str (textF (f.1, zs.map (fun z => (z, lk f.2.1 z)), f.2.2))) H'
abbrev sshow_folder : Stmt := top 25
theorem scshow_folder : FnScope ["folder", "choice", "rows"] ["folder"] (defScope sshow_folder) := ⟨rfl, rfl, rfl, by decide +kernel, rfl, by decide +kernel, by decide +kernel⟩
theorem ok_sf (T : Txt mg) (F_key_text : FnAt P w K mg base "key_text" 1 ["key"] (spKeyText K)) (F_owe_row : FnAt P w K mg base "owe_row" 2 ["duty", "name", "offer", "road"] spOw) (F : TopFn K mg "show_folder" sshow_folder ["folder"]) : FnAt P w K mg base "show_folder" 3 ["folder"] spSF := by
  refine F.at scshow_folder (fun vs H Q E h => ?_) (fun f cdv A outer s H vs Q E hr h => ?_)
  · obtain ⟨p, pk, d, l, f, rfl, _⟩ := h
    rfl
  · obtain ⟨p, pk, d, l, ⟨k, c, n⟩, rfl, ⟨hp, hk, ⟨kvs, hd, hc⟩, ps, hl, hn⟩, ok, q⟩ := h
    refine ⟨_, (pss_cons (ps_set (i := 1) scshow_folder.nd rfl (by first | exact Or.inl rfl | exact Or.inr rfl) (pe_ix ix_tup (pv 0) pe_int (fun _ _ => rfl)))
      (pss_cons (ps_set (i := 2) scshow_folder.nd rfl (by first | exact Or.inl rfl | exact Or.inr rfl) (pe_lst (pa_cons (pe_bm PySem.F.plainAttrs_str PySem.F.slot_str_join PySem.F.type_str_join mt_join pe_str (pa_cons (pe_lst (pa_cons pe_str (pa_cons (pe_fn F_key_text hr (by decide) rfl (pa_cons (pe_ix ix_tup (pv 0) pe_int (fun _ _ => rfl)) pa_nil)) pa_nil))) pa_nil)) pa_nil)))
      (pss_cons (ps_expr (pe_bm PySem.F.plainAttrs_list PySem.F.slot_list_extend PySem.F.type_list_extend mt_extend (pv 2) (pa_cons (pe_comp (sc := defScope sshow_folder) (N0 := ["folder", "choice", "rows"]) (xs := ["name"]) (ys := ["choice"]) (js := [1]) ⟨rfl, by decide +kernel, by decide +kernel, by decide +kernel, by decide +kernel⟩ rfl (pi_list (pe_callB (call_sortedD hr.hd) rfl T.n_sorted boot_sorted (pa_cons (pv 1) pa_nil))) (fun _ _ _ _ => (pg_name (i := 0) (show (["name", "choice"] : List Str).Nodup by decide +kernel) rfl (by first | exact Or.inl rfl | exact Or.inr rfl))) (fun _ _ _ _ => pq_nil) (fun _ _ _ _ => (pe_bmK K PySem.F.plainAttrs_str PySem.F.slot_str_join PySem.F.type_str_join (mt_joinK K) pe_str (pa_cons (pe_lst (pa_cons pe_str (pa_cons (pv 0) (pa_cons (pe_fn F_key_text hr (by decide) rfl (pa_cons (pe_dget (hu1 hr) (pv 1) (pv 0) (fun _ _ => rfl)) pa_nil)) pa_nil)))) pa_nil)))) pa_nil)))
      (pss_cons (ps_expr (pe_bm PySem.F.plainAttrs_list PySem.F.slot_list_extend PySem.F.type_list_extend mt_extend (pv 2) (pa_cons (pe_comp (sc := defScope sshow_folder) (N0 := ["folder", "choice", "rows"]) (xs := ["duty", "name", "offer", "road"]) (ys := []) (js := []) ⟨rfl, by decide +kernel, by decide +kernel, by decide +kernel, by decide +kernel⟩ rfl (pi_list (pe_ix ix_tup (pv 0) pe_int (fun _ _ => rfl))) (fun _ _ _ _ => (pg_tupK (n := 4) K rfl (pgs_cons (pg_name (i := 0) (show (["duty", "name", "offer", "road"] : List Str).Nodup by decide +kernel) rfl (by first | exact Or.inl rfl | exact Or.inr rfl)) (pgs_cons (pg_name (i := 1) (show (["duty", "name", "offer", "road"] : List Str).Nodup by decide +kernel) rfl (by first | exact Or.inl rfl | exact Or.inr rfl)) (pgs_cons (pg_name (i := 2) (show (["duty", "name", "offer", "road"] : List Str).Nodup by decide +kernel) rfl (by first | exact Or.inl rfl | exact Or.inr rfl)) (pgs_cons (pg_name (i := 3) (show (["duty", "name", "offer", "road"] : List Str).Nodup by decide +kernel) rfl (by first | exact Or.inl rfl | exact Or.inr rfl)) pgs_nil)))))) (fun _ _ _ _ => pq_nil) (fun _ _ _ _ => (pe_fn F_owe_row hr (by decide) rfl (pa_cons (pv 0) (pa_cons (pv 1) (pa_cons (pv 2) (pa_cons (pv 3) pa_nil))))))) pa_nil)))
      (pss_one (ps_ret (pe_bm PySem.F.plainAttrs_str PySem.F.slot_str_join PySem.F.type_str_join mt_join pe_str (pa_cons (pv 2) pa_nil)))))))), ?_⟩
    have hs : sizeLine = 16777216 := sizeLine_eq
    have b1 : ((" " : Str)).length = 1 := by decide +kernel
    have b2 : (("\n" : Str)).length = 1 := by decide +kernel
    refine ⟨_, rfl, p, _, _, .ref d, rfl, rfl, SqT.of hp, rfl, rfl, _, rfl, p, _, _, .ref pk, rfl, rfl, SqT.of hp, rfl, pk, k.1, k.2, rfl, SqT.of hk, ok.k.1, by omega, by have : k.2 < 100 := ok.k.2; omega, (by show 2 ≤ sizeLine; omega), fun l1 h1 => ?_⟩
    have s1 := Same.new (o := .lst [.str "under", .str (textZ k.1 (k.2 : Int))]) h1
    have e1 : upd H l1 (.lst [.str "under", .str (textZ k.1 (k.2 : Int))]) l1 = some (.lst ((underW k).map V.str)) := upd_same
    generalize upd H l1 (.lst [.str "under", .str (textZ k.1 (k.2 : Int))]) = H1 at s1 e1 ⊢
    have us : ∀ z ∈ underW k, z.length ≤ 11 := fun z hz => by
      rcases List.mem_cons.mp hz with rfl | hz
      · decide +kernel
      · rw [List.mem_singleton.mp hz]; exact keyT_len ok.k
    refine ⟨_, l1, underW k, rfl, rfl, SqL.of e1, join_ok (k := 11) (n := 2) us (Nat.le_refl _) (by rw [b1]; decide), (by show 1 ≤ sizeLine; omega), fun lr hlr => ?_⟩
    have s2 := Same.new (o := .lst [.str (rowZ (underW k))]) hlr
    have e2 : upd H1 lr (.lst [.str (rowZ (underW k))]) lr = some (.lst [.str (rowZ (underW k))]) := upd_same
    have hm : upd H1 lr (.lst [.str (Txt.join " " (underW k))]) = upd H1 lr (.lst [.str (rowZ (underW k))]) := rfl
    rw [hm]
    generalize upd H1 lr (.lst [.str (rowZ (underW k))]) = H2 at s2 e2 ⊢
    have S2 := s1.trans s2
    have hck := cen_keys hc
    have cl := ok.cl
    have nl := ok.nl
    refine ⟨_, rfl, .inl ⟨rfl, _, SqL.of e2⟩, _, rfl, d, kvs, c.map (·.1), rfl, S2 _ _ hd, hck, (by rw [List.length_map]; exact Nat.lt_of_le_of_lt cl (by decide)), fun zs lz hpz hsz hlz => ?_⟩
    have s3 := Same.new (o := .lst (zs.map V.str)) hlz
    have e3 : upd H2 lz (.lst (zs.map V.str)) lz = some (.lst (zs.map V.str)) := upd_same
    generalize upd H2 lz (.lst (zs.map V.str)) = H3 at s3 e3 ⊢
    have S3 := S2.trans s3
    have zl := ok_len hpz
    have cl' : c.length ≤ 60 := cl
    have tm : ∀ z ∈ zs, ∃ t ∈ c, t.1 = z := fun z hz => List.mem_map.mp (hpz.mem_iff.mp hz)
    refine ⟨lz, rfl, ⟨_, SqL.of e3⟩, comp_list (K := K) (a := lz) (xs := zs.map V.str) (fun i ys H' => ys = ((zs.take i).map fun z => rowZ (takeW (z, lk c z))).map V.str ∧ Same H3 H') ⟨rfl, Same.refl _⟩ (by rw [List.length_map]; omega) ?_ ?_ ?_ ?_⟩
    · rintro i ys H' ⟨rfl, _⟩
      rw [List.length_map, List.length_map, List.length_take]; omega
    · rintro i ys H' _ ⟨_, s'⟩
      exact SqL.of (s' _ _ e3)
    · rintro i x ys H' hx ⟨rfl, s'⟩
      rw [List.getElem?_map] at hx
      obtain ⟨z, hz, rfl⟩ := Option.map_eq_some_iff.mp hx
      obtain ⟨t, ht, rfl⟩ := tm z (List.mem_of_getElem? hz)
      obtain ⟨pt, hv, hkt⟩ := cen_get hc ok.nd ht
      obtain ⟨w1, w2⟩ := ok.c t ht
      have hlk : lk c t.1 = t.2 := lk_mem ok.nd ht
      have dg : DGet H' d (.str t.1) (some (.ref pt)) := by
        have := DGet.k (k := Sum.inr t.1) ((S3.trans s') _ _ hd)
        rw [hv] at this
        exact this
      have w22 : t.2.2 < 100 := w2.2
      refine ⟨rfl, _, rfl, _, rfl, _, rfl, d, _, rfl, dg, pt, t.2.1, t.2.2, rfl, SqT.of ((S3.trans s') _ _ hkt), w2.1, by omega, by omega, (by show 3 ≤ sizeLine; omega), fun l4 h4 => ?_⟩
      have s4 := Same.new (o := .lst [.str "take", .str t.1, .str (textZ t.2.1 (t.2.2 : Int))]) h4
      have e4 : upd H' l4 (.lst [.str "take", .str t.1, .str (textZ t.2.1 (t.2.2 : Int))]) l4 = some (.lst ((takeW t).map V.str)) := upd_same
      generalize upd H' l4 (.lst [.str "take", .str t.1, .str (textZ t.2.1 (t.2.2 : Int))]) = H4 at s4 e4 ⊢
      have ts : ∀ z ∈ takeW t, z.length ≤ 11 := fun z hz => by
        rcases List.mem_cons.mp hz with rfl | hz
        · decide +kernel
        · rcases List.mem_cons.mp hz with rfl | hz
          · have := word8 w1; omega
          · rw [List.mem_singleton.mp hz]; exact keyT_len w2
      refine ⟨_, l4, takeW t, rfl, rfl, SqL.of e4, join_ok (k := 11) (n := 3) ts (Nat.le_refl _) (by rw [b1]; decide), ?_, s'.trans s4⟩
      rw [take_snoc hz, List.map_append, List.map_append, List.map_singleton, List.map_singleton, hlk]
      rfl
    · rintro ys H' ⟨rfl, s'⟩ l4 hl4
      rw [List.length_map, List.take_length]
      have s4 := Same.new (o := .lst ((zs.map fun z => rowZ (takeW (z, lk c z))).map V.str)) hl4
      have e4 : upd H' l4 (.lst ((zs.map fun z => rowZ (takeW (z, lk c z))).map V.str)) l4 = some (.lst ((zs.map fun z => rowZ (takeW (z, lk c z))).map V.str)) := upd_same
      generalize upd H' l4 (.lst ((zs.map fun z => rowZ (takeW (z, lk c z))).map V.str)) = H4 at s4 e4 ⊢
      have s24 := (s3.trans s').trans s4
      refine ⟨lr, l4, _, _, rfl, rfl, s24 _ _ e2, e4, (by simp only [List.length_map, List.length_cons, List.length_nil]; omega), ?_⟩
      have S4 : Same H H4 := S2.trans s24
      have flr : H lr = none := s1.free hlr
      have S5 : Same H (upd H4 lr (.lst ([.str (rowZ (underW k))] ++ (zs.map fun z => rowZ (takeW (z, lk c z))).map V.str))) := fun a o e => by
        rw [upd_ne (ne_of_none e flr)]; exact S4 a o e
      have e5 : upd H4 lr (.lst ([.str (rowZ (underW k))] ++ (zs.map fun z => rowZ (takeW (z, lk c z))).map V.str)) lr = some (.lst ([.str (rowZ (underW k))] ++ (zs.map fun z => rowZ (takeW (z, lk c z))).map V.str)) := upd_same
      generalize upd H4 lr (.lst ([.str (rowZ (underW k))] ++ (zs.map fun z => rowZ (takeW (z, lk c z))).map V.str)) = H5 at S5 e5 ⊢
      have nl' : n.length ≤ 100 := nl
      have pl : ps.length = n.length := hn.1
      refine ⟨_, rfl, .inl ⟨rfl, _, SqL.of e5⟩, _, rfl, p, _, _, .ref l, rfl, rfl, SqT.of (S5 _ _ hp), rfl, l, rfl, ⟨_, SqL.of (S5 _ _ hl)⟩, comp_list (K := K) (a := l) (xs := ps.map V.ref) (fun i ys H' => ys = ((n.take i).map fun x => rowZ (oweW x)).map V.str ∧ Same H5 H') ⟨rfl, Same.refl _⟩ (by rw [List.length_map]; omega) ?_ ?_ ?_ ?_⟩
      · rintro i ys H' ⟨rfl, _⟩
        rw [List.length_map, List.length_map, List.length_take]; omega
      · rintro i ys H' _ ⟨_, s'⟩
        exact SqL.of (s' _ _ (S5 _ _ hl))
      · rintro i x ys H' hx ⟨rfl, s'⟩
        rw [List.getElem?_map] at hx
        obtain ⟨pn, hpn, rfl⟩ := Option.map_eq_some_iff.mp hx
        obtain ⟨y, hy, hny⟩ := hn.at hpn
        obtain ⟨po, pr, a1, a2, a3⟩ := hny.t (.of (S5.trans s'))
        obtain ⟨ok1, ok2⟩ := ok.n y (List.mem_of_getElem? hy)
        refine ⟨pn, _, rfl, SqT.of a1, rfl, _, _, rfl, _, _, rfl, _, _, rfl, _, _, rfl, rfl, ?_⟩
        refine ⟨_, rfl, _, rfl, _, rfl, _, rfl, po, pr, y, rfl, a2, a3, ok1, ok2, fun H6 s6 => ⟨?_, s'.trans s6⟩⟩
        rw [take_snoc hy, List.map_append, List.map_append]
        rfl
      · rintro ys H' ⟨rfl, s5'⟩ l6 hl6
        rw [List.length_map, pl, List.take_length]
        have s6 := Same.new (o := .lst ((n.map fun x => rowZ (oweW x)).map V.str)) hl6
        have e6 : upd H' l6 (.lst ((n.map fun x => rowZ (oweW x)).map V.str)) l6 = some (.lst ((n.map fun x => rowZ (oweW x)).map V.str)) := upd_same
        generalize upd H' l6 (.lst ((n.map fun x => rowZ (oweW x)).map V.str)) = H6 at s6 e6 ⊢
        have s56 := s5'.trans s6
        refine ⟨lr, l6, _, _, rfl, rfl, s56 _ _ e5, e6, (by simp only [List.length_map, List.length_cons, List.length_nil, List.length_append]; omega), ?_⟩
        have S7 : Same H (upd H6 lr (.lst (([.str (rowZ (underW k))] ++ (zs.map fun z => rowZ (takeW (z, lk c z))).map V.str) ++ (n.map fun x => rowZ (oweW x)).map V.str))) := fun a o e => by
          rw [upd_ne (ne_of_none e flr)]; exact s56 a o (S5 a o e)
        have er : ([.str (rowZ (underW k))] ++ (zs.map fun z => rowZ (takeW (z, lk c z))).map V.str) ++ (n.map fun x => rowZ (oweW x)).map V.str = ((rowsF (k, zs.map (fun z => (z, lk c z)), n)).map rowZ).map V.str := by
          simp only [rowsF, List.map_cons, List.map_append, List.map_map, List.cons_append, List.nil_append]
          rfl
        rw [er] at S7 ⊢
        have rl : ∀ z ∈ (rowsF (k, zs.map (fun z => (z, lk c z)), n)).map rowZ, z.length ≤ 2004 * 11 + 2004 := fun z hz => by
          obtain ⟨ws, hws, rfl⟩ := List.mem_map.mp hz
          have sh : (∀ y ∈ ws, y.length ≤ 11) ∧ ws.length ≤ 2004 := by
            unfold rowsF at hws
            rcases List.mem_cons.mp hws with rfl | hws
            · exact ⟨us, by show 2 ≤ 2004; omega⟩
            · rcases List.mem_append.mp hws with hws | hws
              · obtain ⟨t', ht', rfl⟩ := List.mem_map.mp hws
                obtain ⟨z', hz', rfl⟩ := List.mem_map.mp ht'
                obtain ⟨t, ht, rfl⟩ := tm z' hz'
                obtain ⟨w1, w2⟩ := ok.c t ht
                have hlk : lk c t.1 = t.2 := lk_mem ok.nd ht
                rw [hlk]
                refine ⟨fun y hy => ?_, by show 3 ≤ 2004; omega⟩
                rcases List.mem_cons.mp hy with rfl | hy
                · decide +kernel
                · rcases List.mem_cons.mp hy with rfl | hy
                  · have : t.1.length ≤ 8 := word8 w1
                    show t.1.length ≤ 11
                    omega
                  · rw [List.mem_singleton.mp hy]; exact keyT_len w2
              · obtain ⟨x, hx, rfl⟩ := List.mem_map.mp hws
                obtain ⟨ok1, ok2⟩ := ok.n x hx
                exact ⟨oweW_short ok1, by rw [oweW_len]; omega⟩
          exact rowZ_len sh.1 sh.2
        refine ⟨rfl, _, rfl, _, lr, _, rfl, rfl, SqL.of upd_same, join_ok (n := 161) rl ?_ (by rw [b2]; decide), q zs hpz hsz _ S7⟩
        simp only [rowsF, List.length_map, List.length_cons, List.length_append]
        omega
end
end K78
namespace K78
open PySem L2 PyProof.Rows
def tMid (t : TS) : TS := fun D σ H => ∃ M : L2.St → Hp → Prop, t { D with nx := M } σ H ∧ ∀ σ' H', M σ' H' → D.nx σ' H'
theorem ps_mid {X : Cx} {st : Stmt} {t : TS} (h : PS X st t) : PS X st (tMid t) := by
  intro pins s σ H D I ⟨M, hM, k⟩
  refine thn (h pins s σ H { D with nx := M } I hM) fun f s' hf => ?_
  cases f with
  | next => obtain ⟨σ', H', I', q⟩ := hf; exact ⟨σ', H', I', k _ _ q⟩
  | brk => exact hf
  | cont => exact hf
  | ret u => exact hf
theorem nat_of {i : Int} {n : Nat} (h0 : 0 ≤ i) (h1 : i < n) : ∃ k : Nat, i = (k : Int) ∧ k < n := ⟨i.toNat, by omega, by omega⟩
theorem strs_ne_box {H : Hp} {b l : Addr} {zs : List Str} (hb : Box H b) (hl : H l = some (.lst (zs.map V.str))) : l ≠ b := by
  rintro rfl
  obtain ⟨x, y, z, e⟩ := hb
  rw [e] at hl
  cases zs with
  | nil => cases hl
  | cons k ks => cases hl
theorem oth_tp {b : Addr} {H H' : Hp} (hb : Box H b) (o : Oth b H H') : TpIn H H' := fun a ob e k => o.oth a ob e fun z => by
  subst z
  obtain ⟨x, y, z, q⟩ := hb
  rw [q] at e
  cases e
  rcases k with ⟨_, k⟩ | ⟨_, _, _, k⟩ <;> cases k
theorem tup_ne_box {H : Hp} {b p : Addr} {xs : List V} (hb : Box H b) (h : H p = some (.tup xs)) : p ≠ b := fun z => by
  subst z
  obtain ⟨x, y, z, q⟩ := hb
  rw [q] at h; cases h
theorem dct_ne_box {H : Hp} {b p : Addr} {kvs : List (Key × V)} (hb : Box H b) (h : H p = some (.dK kvs)) : p ≠ b := fun z => by
  subst z
  obtain ⟨x, y, z, q⟩ := hb
  rw [q] at h; cases h
theorem refs_ne_box {H : Hp} {b p : Addr} {as : List Addr} (hb : Box H b) (h : H p = some (.lst (as.map V.ref))) : p ≠ b := fun z => by
  subst z
  obtain ⟨x, y, z, q⟩ := hb
  rw [q] at h
  cases as with
  | nil => cases h
  | cons a r => cases h
theorem FAd.oth {H H' : Hp} {p pk d l b : Addr} {f : Fd} (h : FAd H p pk d l f) (hb : Box H b) (o : Oth b H H') : FAd H' p pk d l f := by
  have t := oth_tp hb o
  obtain ⟨h1, h2, ⟨kvs, h3, h4⟩, ps, h5, h6⟩ := h
  exact ⟨t.tup h1, t.tup h2, ⟨kvs, o.oth _ _ h3 (dct_ne_box hb h3), h4.imp fun _ _ e => e.t t⟩, ps, o.oth _ _ h5 (refs_ne_box hb h5), h6.imp fun _ _ e => e.t t⟩
def putC (c : List (Str × Ky)) (z : Str) (k : Ky) : List (Str × Ky) := if (c.any fun t => decide (t.1 = z)) = true then c.map (fun t => if t.1 = z then (t.1, k) else t) else c ++ [(z, k)]
theorem putC_len (c : List (Str × Ky)) (z : Str) (k : Ky) : (putC c z k).length ≤ c.length + 1 := by
  unfold putC
  split
  · rw [List.length_map]; omega
  · rw [List.length_append]; exact Nat.le_refl _
theorem putC_names (c : List (Str × Ky)) (z : Str) (k : Ky) (nd : (c.map (·.1)).Nodup) : ((putC c z k).map (·.1)).Nodup := by
  unfold putC
  split
  · have e : (c.map (fun t => if t.1 = z then (t.1, k) else t)).map (·.1) = c.map (·.1) := by
      rw [List.map_map]
      refine List.map_congr_left fun t _ => ?_
      show (if t.1 = z then (t.1, k) else t).1 = t.1
      split <;> rfl
    rw [e]; exact nd
  · rename_i h
    rw [List.map_append]
    refine List.nodup_append.mpr ⟨nd, by simp, fun a ha b hb e => h ?_⟩
    have eb : b = z := by simpa using hb
    subst eb e
    obtain ⟨t, ht, e⟩ := List.mem_map.mp ha
    exact List.any_eq_true.mpr ⟨t, ht, decide_eq_true e⟩
theorem putC_ok {c : List (Str × Ky)} {z : Str} {k : Ky} (h : ∀ t ∈ c, isWordZ t.1 = true ∧ KyOk t.2) (hz : isWordZ z = true) (hk : KyOk k) : ∀ t ∈ putC c z k, isWordZ t.1 = true ∧ KyOk t.2 := by
  intro t ht
  unfold putC at ht
  split at ht
  · obtain ⟨a, ha, rfl⟩ := List.mem_map.mp ht
    show isWordZ (if a.1 = z then (a.1, k) else a).1 = true ∧ KyOk (if a.1 = z then (a.1, k) else a).2
    split
    · exact ⟨(h a ha).1, hk⟩
    · exact h a ha
  · rcases List.mem_append.mp ht with ht | ht
    · exact h t ht
    · rw [List.mem_singleton.mp ht]; exact ⟨hz, hk⟩
theorem cen_any {H : Hp} {kvs : List (Key × V)} {c : List (Str × Ky)} (h : A2 (CEn H) kvs c) (z : Str) : (kvs.any fun kv => decide (kv.1 = Sum.inr z)) = c.any fun t => decide (t.1 = z) := by
  induction c generalizing kvs with
  | nil =>
    cases kvs with
    | nil => rfl
    | cons => cases h.1
  | cons a r ih =>
    cases kvs with
    | nil => cases h.1
    | cons kv kvs =>
      obtain ⟨⟨h1, _⟩, h4⟩ := h.inv
      rw [List.any_cons, List.any_cons, ih h4, h1]
      congr 1
      by_cases e : a.1 = z
      · rw [decide_eq_true e, decide_eq_true (by rw [e])]
      · rw [decide_eq_false e, decide_eq_false (fun y => e (Sum.inr.inj y))]
theorem cen_put {H : Hp} {kvs : List (Key × V)} {c : List (Str × Ky)} {z : Str} {k : Ky} {p : Addr} (h : A2 (CEn H) kvs c) (hp : KeyR H p k) : A2 (CEn H) (putK kvs (Sum.inr z) (.ref p)) (putC c z k) := by
  unfold putK putC
  rw [cen_any h z]
  by_cases e : (c.any fun t => decide (t.1 = z)) = true
  · rw [if_pos e, if_pos e]
    refine ⟨by rw [List.length_map, List.length_map, h.1], fun i x y h1 h2 => ?_⟩
    rw [List.getElem?_map] at h1 h2
    obtain ⟨x', hx, rfl⟩ := Option.map_eq_some_iff.mp h1
    obtain ⟨y', hy, rfl⟩ := Option.map_eq_some_iff.mp h2
    obtain ⟨a1, a2⟩ := h.2 i x' y' hx hy
    by_cases ez : y'.1 = z
    · rw [if_pos ez, if_pos (by rw [a1, ez])]
      exact ⟨a1, p, rfl, hp⟩
    · rw [if_neg ez, if_neg (fun y => ez (by rw [a1] at y; exact Sum.inr.inj y))]
      exact ⟨a1, a2⟩
  · rw [if_neg e, if_neg e]
    exact h.app (A2.one ⟨rfl, p, rfl, hp⟩)
section
variable {P : Program} {w : World} {K : PySem.W.Frag} {mg : Str → Option Value} {base : Heap}
structure WsOk (zs : List Str) : Prop where
  len : zs.length = 12
  ok : ∀ z ∈ zs, isWordZ z = true
theorem WsOk.at {zs : List Str} (h : WsOk zs) {t : Nat} (ht : t < 12) : ∃ z, atI (zs.map V.str) (t : Int) = some (.str z) ∧ isWordZ z = true := by
  have hl := h.len
  have hz : zs[t]? = some zs[t] := List.getElem?_eq_getElem (by omega)
  exact ⟨zs[t], atI_nat (by rw [List.getElem?_map, hz]; rfl), h.ok _ (List.mem_of_getElem? hz)⟩
def spKD : Sp := fun vs H Q _ => ∃ (b ln : Addr) (zs : List Str), vs = [.ref b, .ref ln] ∧ Box H b ∧ H ln = some (.lst (zs.map V.str)) ∧ WsOk zs ∧ ∀ (k : Ky) (p : Addr) (H' : Hp), KyOk k → Oth b H H' → KeyR H' p k → Q (.ref p) H'
abbrev s_law_key_drawn : Stmt := top 38
theorem sc_law_key_drawn : FnScope ["_law_box_here", "_law_words_here"] ["_law_box_here", "_law_words_here"] (defScope s_law_key_drawn) := ⟨rfl, rfl, rfl, by decide +kernel, rfl, by decide +kernel, by decide +kernel⟩
theorem ok_kd (T : Txt mg) (F__law_take : FnAt P w K mg base "_law_take" 2 ["_law_box_here", "_law_many"] spTake) (F : TopFn K mg "_law_key_drawn" s_law_key_drawn ["_law_box_here", "_law_words_here"]) : FnAt P w K mg base "_law_key_drawn" 3 ["_law_box_here", "_law_words_here"] spKD := by
  refine F.at sc_law_key_drawn (fun vs H Q E h => ?_) (fun f cdv A outer s H vs Q E hr h => ?_)
  · obtain ⟨b, ln, zs, rfl, _⟩ := h
    rfl
  · obtain ⟨b, ln, zs, rfl, hb, hl, wo, q⟩ := h
    refine ⟨_, (pss_one (ps_ret (pe_tup (pa_cons (pe_ix ix_list (pv 1) (pe_fn F__law_take hr (by decide) rfl (pa_cons (pv 0) (pa_cons pe_int pa_nil))) (fun _ _ => rfl)) (pa_cons (pe_fn F__law_take hr (by decide) rfl (pa_cons (pv 0) (pa_cons (pe_ix ix_list (pe_lst (pa_cons pe_int (pa_cons pe_int pa_nil))) (pe_fn F__law_take hr (by decide) rfl (pa_cons (pv 0) (pa_cons pe_int pa_nil))) (fun _ _ => rfl)) pa_nil))) pa_nil))))), ?_⟩
    have hs : sizeLine = 16777216 := sizeLine_eq
    have nlb := strs_ne_box hb hl
    refine ⟨_, rfl, _, rfl, b, 12, rfl, hb, (by decide), (by decide), fun t H1 t0 t1 o1 => ?_⟩
    obtain ⟨t, rfl, ht⟩ := nat_of t0 t1
    obtain ⟨z, hz, wz⟩ := wo.at ht
    refine ⟨ln, _, _, V.str z, rfl, rfl, SqL.of (o1.oth _ _ hl nlb), hz, _, rfl, (by show 2 ≤ sizeLine; omega), fun lx hlx => ?_⟩
    have o2 := o1.new (o := .lst [.int 10, .int 100]) hlx
    have e2 : upd H1 lx (.lst [.int 10, .int 100]) lx = some (.lst [.int 10, .int 100]) := upd_same
    have nxb : lx ≠ b := o1.box.ne hlx
    generalize upd H1 lx (.lst [.int 10, .int 100]) = H2 at o2 e2 ⊢
    refine ⟨_, rfl, b, 2, rfl, o2.box, (by decide), (by decide), fun t2 H3 t20 t21 o3 => ?_⟩
    obtain ⟨t2, rfl, ht2⟩ := nat_of t20 t21
    obtain ⟨m, hm, m0, m1⟩ : ∃ m : Int, atI [V.int 10, V.int 100] (t2 : Int) = some (.int m) ∧ 0 < m ∧ m ≤ 100 := by
      have : t2 = 0 ∨ t2 = 1 := by omega
      rcases this with rfl | rfl
      · exact ⟨10, rfl, by decide, by decide⟩
      · exact ⟨100, rfl, by decide, by decide⟩
    have hbig : m < bigLine := Int.lt_of_le_of_lt m1 (by decide)
    refine ⟨lx, _, _, V.int m, rfl, rfl, SqL.of (o3.oth _ _ e2 nxb), hm, b, m, rfl, o3.box, m0, hbig, fun r H4 r0 r1 o4 => ?_⟩
    obtain ⟨r, rfl, hr'⟩ := nat_of (n := 100) r0 (by omega)
    refine ⟨(by show 2 ≤ sizeLine; omega), fun p hp => ?_⟩
    have O4 := (o2.trans o3).trans o4
    exact q (z, r) p _ ⟨wz, hr'⟩ (O4.new hp) upd_same
def spLKT : Sp := fun vs H Q _ => ∃ (p : Addr) (k : Ky), vs = [.ref p] ∧ KeyR H p k ∧ KyOk k ∧ Q (.str (keyT k)) H
abbrev s_law_key_text : Stmt := top 40
theorem sc_law_key_text : FnScope ["_law_key_here"] ["_law_key_here"] (defScope s_law_key_text) := ⟨rfl, rfl, rfl, by decide +kernel, rfl, by decide +kernel, by decide +kernel⟩
theorem ok_lkt (T : Txt mg) (F : TopFn K mg "_law_key_text" s_law_key_text ["_law_key_here"]) : FnAt P w K mg base "_law_key_text" 1 ["_law_key_here"] spLKT := by
  refine F.at sc_law_key_text (fun vs H Q E h => ?_) (fun f cdv A outer s H vs Q E hr h => ?_)
  · obtain ⟨p, k, rfl, _⟩ := h
    rfl
  · obtain ⟨p, k, rfl, hk, ok, q⟩ := h
    refine ⟨_, (pss_one (ps_ret (pe_op op_add_str (pe_op op_add_str (pe_ix ix_tup (pv 0) pe_int (fun _ _ => rfl)) pe_str) (pe_callTy call_str_int rfl T.n_str boot_str (pa_cons (pe_ix ix_tup (pv 0) pe_int (fun _ _ => rfl)) pa_nil))))), ?_⟩
    have hs : sizeLine = 16777216 := sizeLine_eq
    have zl := word_len ok.1
    have k2 := ok.2
    have d1 : ("." : Str).length = 1 := by decide +kernel
    refine ⟨_, rfl, p, _, _, V.str k.1, rfl, rfl, SqT.of hk, rfl, _, _, rfl, rfl, by omega, ?_⟩
    have e1 : (k.1 ++ ("." : Str)).length ≤ 9 := by
      rw [len_app]
      omega
    have e2 : (nT k.2).length ≤ 2 := (num2 ok.2).h2
    refine ⟨_, rfl, p, _, _, V.int (k.2 : Nat), rfl, rfl, SqT.of hk, rfl, _, rfl, log_small (by omega) (by omega), _, _, rfl, rfl, ?_, q⟩
    show (k.1 ++ ("." : Str)).length + (nT k.2).length ≤ sizeLine
    omega
end
end K78
namespace K78
open PySem L2 PyProof.Rows
section
variable {P : Program} {w : World} {K : PySem.W.Frag} {mg : Str → Option Value} {base : Heap}
structure FdSm (f : Fd) : Prop where
  ok : FdOk f
  c8 : f.2.1.length ≤ 8
  n40 : f.2.2.length ≤ 40
  r5 : ∀ x ∈ f.2.2, x.r.length ≤ 5
structure Ld (b d l : Addr) (H H' : Hp) (kvs : List (Key × V)) (c : List (Str × Ky)) (ps : List Addr) (ns : List Nt) : Prop where
  o : Oth b H H'
  d : H' d = some (.dK kvs)
  c : A2 (CEn H') kvs c
  l : H' l = some (.lst (ps.map V.ref))
  n : A2 (NAt H') ps ns
theorem Ld.oth {b d l : Addr} {H H1 H2 : Hp} {kvs : List (Key × V)} {c : List (Str × Ky)} {ps : List Addr} {ns : List Nt} (h : Ld b d l H H1 kvs c ps ns) (o : Oth b H1 H2) : Ld b d l H H2 kvs c ps ns := by
  have t := oth_tp h.o.box o
  exact ⟨h.o.trans o, o.oth _ _ h.d (dct_ne_box h.o.box h.d), h.c.imp fun _ _ e => e.t t, o.oth _ _ h.l (refs_ne_box h.o.box h.l), h.n.imp fun _ _ e => e.t t⟩
theorem Ld.same {b d l : Addr} {H H1 H2 : Hp} {kvs : List (Key × V)} {c : List (Str × Ky)} {ps : List Addr} {ns : List Nt} (h : Ld b d l H H1 kvs c ps ns) (s : Same H1 H2) : Ld b d l H H2 kvs c ps ns :=
  ⟨h.o.same s, s _ _ h.d, h.c.imp fun _ _ e => e.t (.of s), s _ _ h.l, h.n.imp fun _ _ e => e.t (.of s)⟩
theorem Ld.upd {b d l r : Addr} {H H1 : Hp} {kvs : List (Key × V)} {c : List (Str × Ky)} {ps : List Addr} {ns : List Nt} {xs ys : List V} (h : Ld b d l H H1 kvs c ps ns) (hr : H1 r = some (.lst xs)) (fr : H r = none) (hb : Box H b) (hrl : r ≠ l) : Ld b d l H (upd H1 r (.lst ys)) kvs c ps ns := by
  have t : TpIn H1 (L2.upd H1 r (.lst ys)) := TpIn.upd hr
  refine ⟨⟨?_, fun a o e n => ?_⟩, ?_, h.c.imp fun _ _ e => e.t t, ?_, h.n.imp fun _ _ e => e.t t⟩
  · obtain ⟨x, y, z, e⟩ := h.o.box
    exact ⟨x, y, z, by rw [upd_ne (Ne.symm (hb.ne fr))]; exact e⟩
  · rw [upd_ne (ne_of_none e fr)]; exact h.o.oth a o e n
  · rw [upd_ne (fun y => by subst y; rw [h.d] at hr; cases hr)]; exact h.d
  · rw [upd_ne (Ne.symm hrl)]; exact h.l
theorem jw_at {t : Nat} (h : t < 4) : atI [V.str "called", V.str "beside", V.str "joined", V.str "changed"] (t : Int) = some (.str (nm t)) ∧ (jP (nm t)).isSome = true := by
  have : t = 0 ∨ t = 1 ∨ t = 2 ∨ t = 3 := by omega
  rcases this with rfl | rfl | rfl | rfl
  · exact ⟨rfl, by decide +kernel⟩
  · exact ⟨rfl, by decide +kernel⟩
  · exact ⟨rfl, by decide +kernel⟩
  · exact ⟨rfl, by decide +kernel⟩
def spLF : Sp := fun vs H Q _ => ∃ (b ln : Addr) (zs : List Str), vs = [.ref b, .ref ln] ∧ Box H b ∧ H ln = some (.lst (zs.map V.str)) ∧ WsOk zs ∧ ∀ (f : Fd) (p pk d l : Addr) (H' : Hp), FdSm f → Oth b H H' → H d = none → H l = none → FAd H' p pk d l f → Q (.ref p) H'
abbrev s_law_folder : Stmt := top 39
theorem sc_law_folder : FnScope ["_law_box_here", "_law_words_here", "_law_choice", "_law_k", "_law_many", "_law_rows", "_law_road", "_law_j", "_law_pair"] ["_law_box_here", "_law_words_here"] (defScope s_law_folder) := ⟨rfl, rfl, rfl, by decide +kernel, rfl, by decide +kernel, by decide +kernel⟩
theorem ok_lf (T : Txt mg) (F__law_take : FnAt P w K mg base "_law_take" 2 ["_law_box_here", "_law_many"] spTake) (F__law_key_drawn : FnAt P w K mg base "_law_key_drawn" 3 ["_law_box_here", "_law_words_here"] spKD) (F : TopFn K mg "_law_folder" s_law_folder ["_law_box_here", "_law_words_here"]) : FnAt P w K mg base "_law_folder" 4 ["_law_box_here", "_law_words_here"] spLF := by
  refine F.at sc_law_folder (fun vs H Q E h => ?_) (fun f cdv A outer s H vs Q E hr h => ?_)
  · obtain ⟨b, ln, zs, rfl, _⟩ := h
    rfl
  · obtain ⟨b, ln, zs, rfl, hb, hl, wo, q⟩ := h
    refine ⟨_, (pss_cons (ps_set (i := 2) sc_law_folder.nd rfl (by first | exact Or.inl rfl | exact Or.inr rfl) pe_dnewK)
      (pss_cons (ps_for PassesOwn.never rfl (pi_range1 rfl T.n_range (pa_cons (pe_fn F__law_take hr (by decide) rfl (pa_cons (pv 0) (pa_cons pe_int pa_nil))) pa_nil)) (pg_name (i := 3) sc_law_folder.nd rfl (by first | exact Or.inl rfl | exact Or.inr rfl)) (pss_one (ps_dput (hu1 hr) (pv 2) (pe_ix ix_list (pv 1) (pe_fn F__law_take hr (by decide) rfl (pa_cons (pv 0) (pa_cons pe_int pa_nil))) (fun _ _ => rfl)) (pe_fn F__law_key_drawn hr (by decide) rfl (pa_cons (pv 0) (pa_cons (pv 1) pa_nil))) rfl)))
      (pss_cons (ps_set (i := 4) sc_law_folder.nd rfl (by first | exact Or.inl rfl | exact Or.inr rfl) (pe_fn F__law_take hr (by decide) rfl (pa_cons (pv 0) (pa_cons pe_int pa_nil))))
      (pss_cons (ps_mid (ps_if (pt_cmpR op_eq (pe_fn F__law_take hr (by decide) rfl (pa_cons (pv 0) (pa_cons pe_int pa_nil))) pe_int (nomark _)) (pss_one (ps_set (i := 4) sc_law_folder.nd rfl (by first | exact Or.inl rfl | exact Or.inr rfl) (pe_fn F__law_take hr (by decide) rfl (pa_cons (pv 0) (pa_cons pe_int pa_nil))))) pss_nil))
      (pss_cons (ps_set (i := 5) sc_law_folder.nd rfl (by first | exact Or.inl rfl | exact Or.inr rfl) (pe_lst pa_nil))
      (pss_cons (ps_for PassesOwn.never rfl (pi_range1 rfl T.n_range (pa_cons (pv 4) pa_nil)) (pg_name (i := 3) sc_law_folder.nd rfl (by first | exact Or.inl rfl | exact Or.inr rfl)) (pss_cons (ps_set (i := 6) sc_law_folder.nd rfl (by first | exact Or.inl rfl | exact Or.inr rfl) (pe_lst pa_nil))
      (pss_cons (ps_for PassesOwn.never rfl (pi_range1 rfl T.n_range (pa_cons (pe_fn F__law_take hr (by decide) rfl (pa_cons (pv 0) (pa_cons pe_int pa_nil))) pa_nil)) (pg_name (i := 7) sc_law_folder.nd rfl (by first | exact Or.inl rfl | exact Or.inr rfl)) (pss_one (ps_expr (pe_bm PySem.F.plainAttrs_list PySem.F.slot_list_append PySem.F.type_list_append mt_append (pv 6) (pa_cons (pe_tup (pa_cons (pe_ix ix_list (pe_lst (pa_cons pe_str (pa_cons pe_str (pa_cons pe_str (pa_cons pe_str pa_nil))))) (pe_fn F__law_take hr (by decide) rfl (pa_cons (pv 0) (pa_cons pe_int pa_nil))) (fun _ _ => rfl)) (pa_cons (pe_ix ix_list (pv 1) (pe_fn F__law_take hr (by decide) rfl (pa_cons (pv 0) (pa_cons pe_int pa_nil))) (fun _ _ => rfl)) pa_nil))) pa_nil)))))
      (pss_cons (ps_set (i := 8) sc_law_folder.nd rfl (by first | exact Or.inl rfl | exact Or.inr rfl) (pe_tup (pa_cons (pe_ix ix_list (pv 1) (pe_fn F__law_take hr (by decide) rfl (pa_cons (pv 0) (pa_cons pe_int pa_nil))) (fun _ _ => rfl)) (pa_cons (pe_ix ix_list (pv 1) (pe_fn F__law_take hr (by decide) rfl (pa_cons (pv 0) (pa_cons pe_int pa_nil))) (fun _ _ => rfl)) pa_nil))))
      (pss_one (ps_expr (pe_bm PySem.F.plainAttrs_list PySem.F.slot_list_append PySem.F.type_list_append mt_append (pv 5) (pa_cons (pe_op op_catT (pv 8) (pe_tup (pa_cons (pe_fn F__law_key_drawn hr (by decide) rfl (pa_cons (pv 0) (pa_cons (pv 1) pa_nil))) (pa_cons (pe_callTy call_tuple_of rfl T.n_tuple boot_tuple (pa_cons (pv 6) pa_nil)) pa_nil)))) pa_nil))))))))
      (pss_one (ps_ret (pe_tup (pa_cons (pe_fn F__law_key_drawn hr (by decide) rfl (pa_cons (pv 0) (pa_cons (pv 1) pa_nil))) (pa_cons (pv 2) (pa_cons (pv 5) pa_nil)))))))))))), ?_⟩
    have hs : sizeLine = 16777216 := sizeLine_eq
    have nlb := strs_ne_box hb hl
    refine fun d hd => ?_
    have o1 := Oth.new (o := .dK []) (Oth.refl hb) hd
    have e1 : upd H d (.dK []) d = some (.dK []) := upd_same
    have ndb : d ≠ b := hb.ne hd
    generalize upd H d (.dK []) = H1 at o1 e1 ⊢
    refine ⟨_, rfl, b, 9, rfl, o1.box, (by decide), (by decide), fun m H2 m0 m1 o2 => ?_⟩
    obtain ⟨m, rfl, hm⟩ := nat_of m0 m1
    have O2 := o1.trans o2
    refine ⟨_, rfl, by omega, by omega, for_range (n := _) (fun i σ H' => ∃ (v3 : Option V) (c : List (Str × Ky)) (kvs : List (Key × V)), σ = [some (.ref b), some (.ref ln), some (.ref d), v3, none, none, none, none, none] ∧ Oth b H H' ∧ H' d = some (.dK kvs) ∧ A2 (CEn H') kvs c ∧ c.length ≤ i ∧ (c.map (·.1)).Nodup ∧ ∀ t ∈ c, isWordZ t.1 = true ∧ KyOk t.2) ⟨_, [], [], rfl, O2, o2.oth _ _ e1 ndb, A2.nil, Nat.le_refl _, List.nodup_nil, fun t h => by cases h⟩ ?_ ?_⟩
    · rintro i σ H3 hi ⟨v3, c, kvs, rfl, O3, d3, c3, cl, nd, cok⟩
      have hl3 := O3.oth _ _ hl nlb
      refine ⟨_, rfl, _, rfl, b, ln, zs, rfl, O3.box, hl3, wo, fun k pk H4 kok o4 hk4 => ?_⟩
      refine ⟨_, rfl, _, rfl, _, rfl, b, 12, rfl, o4.box, (by decide), (by decide), fun t H5 t0 t1 o5 => ?_⟩
      obtain ⟨t, rfl, ht⟩ := nat_of t0 t1
      obtain ⟨z, hz, wz⟩ := wo.at ht
      have o45 := o4.trans o5
      have O5 := O3.trans o45
      have t35 := oth_tp O3.box o45
      have d5 := o45.oth _ _ d3 ndb
      refine ⟨ln, _, _, V.str z, rfl, rfl, SqL.of (O5.oth _ _ hl nlb), hz, d, _, rfl, DPut.k (k := Sum.inr z) d5 (by rw [c3.1]; omega), ?_⟩
      have u5 : Kd2 d d H5 (upd H5 d (.dK (putK kvs (Sum.inr z) (.ref pk)))) := Kd2.updD
      have t5 : TpIn H5 (upd H5 d (.dK (putK kvs (Sum.inr z) (.ref pk)))) := fun a o e k => by
        rw [upd_ne (fun y => by subst y; rw [d5] at e; cases e; rcases k with ⟨_, k⟩ | ⟨_, _, _, k⟩ <;> cases k)]; exact e
      have c5 := cen_put (z := z) (c3.imp fun _ _ e => e.t t35) ((oth_tp o4.box o5).tup hk4)
      refine ⟨_, putC c z k, _, rfl, ⟨?_, fun a o e n => ?_⟩, upd_same, c5.imp fun _ _ e => e.t t5, by have := putC_len c z k; omega, putC_names c z k nd, putC_ok cok wz kok⟩
      · obtain ⟨x, y, z', e⟩ := O5.box
        exact ⟨x, y, z', by rw [upd_ne (Ne.symm ndb)]; exact e⟩
      · rw [upd_ne (ne_of_none e hd)]; exact O5.oth a o e n
    · rintro σ H3 ⟨v3, c, kvs, rfl, O3, d3, c3, cl, nd, cok⟩
      have cl8 : c.length ≤ 8 := by omega
      refine ⟨_, rfl, b, 10, rfl, O3.box, (by decide), (by decide), fun g H4 g0 g1 o4 => ?_⟩
      obtain ⟨g, rfl, hg⟩ := nat_of g0 g1
      refine ⟨fun σ' H' => ∃ n : Nat, n ≤ 40 ∧ σ' = [some (.ref b), some (.ref ln), some (.ref d), v3, some (.int (n : Nat)), none, none, none, none] ∧ Oth b H3 H', ?_, ?_⟩
      · refine ⟨_, rfl, b, 8, rfl, o4.box, (by decide), (by decide), fun u H5 _ _ o5 => ⟨rfl, _, rfl, ite2 (fun _ => ?_) (fun _ => ?_)⟩⟩
        · refine ⟨_, rfl, b, 41, rfl, o5.box, (by decide), (by decide), fun t H6 t0 t1 o6 => ?_⟩
          obtain ⟨t, rfl, ht⟩ := nat_of t0 t1
          exact ⟨t, by omega, rfl, (o4.trans o5).trans o6⟩
        · exact ⟨g, by omega, rfl, o4.trans o5⟩
      · rintro σ' H5 ⟨n, hn, rfl, o35⟩
        have O5 := O3.trans o35
        have t35 := oth_tp O3.box o35
        have d5 := o35.oth _ _ d3 ndb
        have c5 := c3.imp fun _ _ e => CEn.t e t35
        refine ⟨(by show 0 ≤ sizeLine; omega), fun l hl5 => ?_⟩
        have fl : H l = none := O5.free hl5
        have nlb2 : l ≠ b := hb.ne fl
        have nld : l ≠ d := fun y => by subst y; rw [d5] at hl5; cases hl5
        have o6 := Oth.new (o := .lst []) O5 hl5
        have s6 := Same.new (o := .lst []) hl5
        have e6 : upd H5 l (.lst []) l = some (.lst []) := upd_same
        generalize upd H5 l (.lst []) = H6 at o6 s6 e6 ⊢
        refine ⟨_, rfl, _, rfl, by omega, by omega, for_range (n := _) (fun i σ H' => ∃ (v3 v6 v7 v8 : Option V) (ns : List Nt) (ps : List Addr), σ = [some (.ref b), some (.ref ln), some (.ref d), v3, some (.int (n : Nat)), some (.ref l), v6, v7, v8] ∧ Oth b H H' ∧ H' d = some (.dK kvs) ∧ A2 (CEn H') kvs c ∧ H' l = some (.lst (ps.map V.ref)) ∧ A2 (NAt H') ps ns ∧ ns.length = i ∧ ∀ x ∈ ns, NtOk x ∧ x.r.length ≤ 5) ⟨_, _, _, _, [], [], rfl, o6, s6 _ _ d5, c5.imp fun _ _ e => e.t (.of s6), e6, A2.nil, rfl, fun x h => by cases h⟩ ?_ ?_⟩
        · rintro i σ H7 hi ⟨v3, v6, v7, v8, ns, ps, rfl, O7, d7, c7, l7, n7, nl, nok⟩
          have L7 : Ld b d l H H7 kvs c ps ns := ⟨O7, d7, c7, l7, n7⟩
          refine ⟨(by show 0 ≤ sizeLine; omega), fun lr hlr => ?_⟩
          have fr : H lr = none := O7.free hlr
          have nrl : lr ≠ l := fun y => by subst y; rw [l7] at hlr; cases hlr
          have nrb : lr ≠ b := hb.ne fr
          have L8 := L7.same (Same.new (o := .lst []) hlr)
          have e8 : upd H7 lr (.lst []) lr = some (.lst []) := upd_same
          generalize upd H7 lr (.lst []) = H8 at L8 e8 ⊢
          refine ⟨_, rfl, b, 6, rfl, L8.o.box, (by decide), (by decide), fun m2 H9 m20 m21 o9 => ?_⟩
          obtain ⟨m2, rfl, hm2⟩ := nat_of m20 m21
          refine ⟨_, rfl, by omega, by omega, for_range (n := _) (fun j σ H' => ∃ (v7 : Option V) (rd : List (Str × Str)) (as : List Addr), σ = [some (.ref b), some (.ref ln), some (.ref d), some (.int (0 + (i : Int))), some (.int (n : Nat)), some (.ref l), some (.ref lr), v7, v8] ∧ Ld b d l H H' kvs c ps ns ∧ H' lr = some (.lst (as.map V.ref)) ∧ A2 (PrR H') as rd ∧ rd.length = j ∧ rd.all pairOk = true) ⟨_, [], [], rfl, L8.oth o9, o9.oth _ _ e8 nrb, A2.nil, rfl, rfl⟩ ?_ ?_⟩
          · rintro j σ Ha hj ⟨v7, rd, as, rfl, La, ra, pa, rl, rok⟩
            refine ⟨_, rfl, .inl ⟨rfl, _, SqL.of ra⟩, (by show 4 ≤ sizeLine; omega), fun lx hlx => ?_⟩
            have ex : upd Ha lx (.lst [.str "called", .str "beside", .str "joined", .str "changed"]) lx = some (.lst [.str "called", .str "beside", .str "joined", .str "changed"]) := upd_same
            have sx := Same.new (o := .lst [.str "called", .str "beside", .str "joined", .str "changed"]) hlx
            have nxb : lx ≠ b := La.o.box.ne hlx
            generalize upd Ha lx (.lst [.str "called", .str "beside", .str "joined", .str "changed"]) = Hb at ex sx ⊢
            have Lb := La.same sx
            refine ⟨_, rfl, b, 4, rfl, Lb.o.box, (by decide), (by decide), fun t Hc t0 t1 oc => ?_⟩
            obtain ⟨t, rfl, ht⟩ := nat_of t0 t1
            obtain ⟨j1, j2⟩ := jw_at ht
            refine ⟨lx, _, _, V.str (nm t), rfl, rfl, SqL.of (oc.oth _ _ ex nxb), j1, _, rfl, _, rfl, b, 12, rfl, oc.box, (by decide), (by decide), fun t2 Hd t20 t21 od => ?_⟩
            obtain ⟨t2, rfl, ht2⟩ := nat_of t20 t21
            obtain ⟨z, hz, wz⟩ := wo.at ht2
            have ocd := oc.trans od
            have Ld' := Lb.oth ocd
            refine ⟨ln, _, _, V.str z, rfl, rfl, SqL.of (Ld'.o.oth _ _ hl nlb), hz, (by show 2 ≤ sizeLine; omega), fun pp hpp => ?_⟩
            have sp := Same.new (o := .tup [.str (nm t), .str z]) hpp
            have ep : upd Hd pp (.tup [.str (nm t), .str z]) pp = some (.tup [.str (nm t), .str z]) := upd_same
            generalize upd Hd pp (.tup [.str (nm t), .str z]) = He at sp ep ⊢
            have Le := Ld'.same sp
            have re : He lr = some (.lst (as.map V.ref)) := sp _ _ (ocd.oth _ _ (sx _ _ ra) nrb)
            have tae : TpIn Ha He := fun a o e k => sp _ _ (oth_tp Lb.o.box ocd a o (sx _ _ e) k)
            have al : as.length ≤ 5 := by rw [pa.1]; omega
            refine ⟨lr, _, _, rfl, rfl, re, by rw [List.length_map]; omega, ?_⟩
            have tu : TpIn He (upd He lr (.lst (as.map V.ref ++ [.ref pp]))) := TpIn.upd re
            refine ⟨_, rd ++ [(nm t, z)], as ++ [pp], rfl, Le.upd re fr hb nrl, by rw [List.map_append]; exact upd_same, (pa.imp fun _ _ e => tu.tup (tae.tup e)).app (A2.one (tu.tup ep)), by rw [List.length_append, rl]; rfl, ?_⟩
            rw [List.all_append, rok, List.all_cons]
            unfold pairOk
            rw [j2, wz]
            rfl
          · rintro σ Ha ⟨v7, rd, as, rfl, La, ra, pa, rl, rok⟩
            have rl5 : rd.length ≤ 5 := by omega
            refine ⟨_, rfl, _, rfl, b, 12, rfl, La.o.box, (by decide), (by decide), fun t Hb t0 t1 ob => ?_⟩
            obtain ⟨t, rfl, ht⟩ := nat_of t0 t1
            obtain ⟨z1, hz1, wz1⟩ := wo.at ht
            have Lb := La.oth ob
            refine ⟨ln, _, _, V.str z1, rfl, rfl, SqL.of (Lb.o.oth _ _ hl nlb), hz1, _, rfl, _, rfl, b, 12, rfl, Lb.o.box, (by decide), (by decide), fun t' Hc t0' t1' oc => ?_⟩
            obtain ⟨t', rfl, ht'⟩ := nat_of t0' t1'
            obtain ⟨z2, hz2, wz2⟩ := wo.at ht'
            have Lc := Lb.oth oc
            have obc := ob.trans oc
            refine ⟨ln, _, _, V.str z2, rfl, rfl, SqL.of (Lc.o.oth _ _ hl nlb), hz2, (by show 2 ≤ sizeLine; omega), fun pq hpq => ?_⟩
            have sq := Same.new (o := .tup [.str z1, .str z2]) hpq
            have eq : upd Hc pq (.tup [.str z1, .str z2]) pq = some (.tup [.str z1, .str z2]) := upd_same
            generalize upd Hc pq (.tup [.str z1, .str z2]) = Hd at sq eq ⊢
            have Ld' := Lc.same sq
            refine ⟨_, rfl, .inl ⟨rfl, _, SqL.of Ld'.l⟩, _, rfl, _, rfl, _, rfl, b, ln, zs, rfl, Ld'.o.box, Ld'.o.oth _ _ hl nlb, wo, fun ko po He kok oe hke => ?_⟩
            have Le := Ld'.oth oe
            have re : He lr = some (.lst (as.map V.ref)) := oe.oth _ _ (sq _ _ (obc.oth _ _ ra nrb)) nrb
            have tae : TpIn Ha He := fun a o e k => oth_tp Ld'.o.box oe a o (sq _ _ (oth_tp La.o.box obc a o e k)) k
            have qe : He pq = some (.tup [.str z1, .str z2]) := oe.oth _ _ eq (tup_ne_box Ld'.o.box eq)
            refine ⟨_, rfl, lr, _, rfl, .inl ⟨SqL.of re, fun pr hpr => ?_⟩⟩
            have sr := Same.new (o := .tup (as.map V.ref)) hpr
            have er : upd He pr (.tup (as.map V.ref)) pr = some (.tup (as.map V.ref)) := upd_same
            generalize upd He pr (.tup (as.map V.ref)) = Hf at sr er ⊢
            refine ⟨(by show 2 ≤ sizeLine; omega), fun p2 hp2 => ?_⟩
            have s2 := Same.new (o := .tup [.ref po, .ref pr]) hp2
            have e2' : upd Hf p2 (.tup [.ref po, .ref pr]) p2 = some (.tup [.ref po, .ref pr]) := upd_same
            generalize upd Hf p2 (.tup [.ref po, .ref pr]) = Hg at s2 e2' ⊢
            have sfg := sr.trans s2
            refine ⟨pq, p2, _, _, rfl, rfl, SqT.of (sfg _ _ qe), SqT.of e2', (fun y => by cases y), (by show 4 ≤ sizeLine; omega), (fun y => by cases y), fun _ pt hpt => ?_⟩
            have st := Same.new (o := .tup ([.str z1, .str z2] ++ [.ref po, .ref pr])) hpt
            have et : upd Hg pt (.tup ([.str z1, .str z2] ++ [.ref po, .ref pr])) pt = some (.tup [.str z1, .str z2, .ref po, .ref pr]) := upd_same
            generalize upd Hg pt (.tup ([.str z1, .str z2] ++ [.ref po, .ref pr])) = Hh at st et ⊢
            have seh := sfg.trans st
            have Lh := Le.same seh
            have na : NAt Hh pt ⟨z1, z2, ko, rd⟩ := ⟨po, pr, et, seh _ _ hke, as, (s2.trans st) _ _ er, pa.imp fun _ _ e => seh _ _ (tae.tup e)⟩
            refine ⟨l, _, _, rfl, rfl, Lh.l, by rw [List.length_map, Lh.n.1]; omega, ?_⟩
            have tu : TpIn Hh (upd Hh l (.lst (ps.map V.ref ++ [.ref pt]))) := TpIn.upd Lh.l
            refine ⟨_, _, _, _, ns ++ [⟨z1, z2, ko, rd⟩], ps ++ [pt], rfl, ⟨?_, fun a o e n => ?_⟩, ?_, Lh.c.imp fun _ _ e => e.t tu, by rw [List.map_append]; exact upd_same, (Lh.n.imp fun _ _ e => e.t tu).app (A2.one (na.t tu)), by rw [List.length_append, nl]; rfl, fun x hx => ?_⟩
            · obtain ⟨x, y, z, e⟩ := Lh.o.box
              exact ⟨x, y, z, by rw [upd_ne (Ne.symm nlb2)]; exact e⟩
            · rw [upd_ne (ne_of_none e fl)]; exact Lh.o.oth a o e n
            · rw [upd_ne (Ne.symm nld)]; exact Lh.d
            · rcases List.mem_append.mp hx with hx | hx
              · exact nok x hx
              · rw [List.mem_singleton.mp hx]
                exact ⟨⟨wz1, wz2, kok, rok⟩, rl5⟩
        · rintro σ H7 ⟨v3, v6, v7, v8, ns, ps, rfl, O7, d7, c7, l7, n7, nl, nok⟩
          have hl7 := O7.oth _ _ hl nlb
          refine ⟨_, rfl, _, rfl, b, ln, zs, rfl, O7.box, hl7, wo, fun k pk H8 kok o8 hk8 => ?_⟩
          refine ⟨_, rfl, _, rfl, (by show 3 ≤ sizeLine; omega), fun p hp => ?_⟩
          have s9 := Same.new (o := .tup [.ref pk, .ref d, .ref l]) hp
          have t8 := oth_tp O7.box o8
          have t89 : TpIn H7 (upd H8 p (.tup [.ref pk, .ref d, .ref l])) := fun a o e k => s9 _ _ (t8 a o e k)
          have nl2 : ns.length ≤ 40 := by omega
          refine q (k, c, ns) p pk d l _ ⟨⟨kok, cok, nd, fun x hx => ⟨(nok x hx).1, by have := (nok x hx).2; omega⟩, by show c.length ≤ 60; omega, by show ns.length ≤ 100; omega⟩, cl8, nl2, fun x hx => (nok x hx).2⟩ ((O7.trans o8).new hp) hd fl
            ⟨upd_same, s9 _ _ hk8, ⟨kvs, s9 _ _ (o8.oth _ _ d7 ndb), c7.imp fun _ _ e => e.t t89⟩, ps, s9 _ _ (o8.oth _ _ l7 nlb2), n7.imp fun _ _ e => e.t t89⟩
end
end K78
namespace K78
open PySem L2 PyProof.Rows
def pj (p : Str × Str) : Str := p.1 ++ " " ++ p.2
theorem join_flat : ∀ {r : List (Str × Str)}, r ≠ [] → Str.join " " (r.map pj) = Str.join " " (flatS r)
  | [], h => absurd rfl h
  | [p], _ => rfl
  | p :: q :: r, _ => by
    have ih := join_flat (r := q :: r) (by simp)
    have e1 : Str.join " " ((p :: q :: r).map pj) = pj p ++ " " ++ Str.join " " ((q :: r).map pj) := join_cons _ _ (by simp)
    have e2 : Str.join " " (flatS (p :: q :: r)) = p.1 ++ " " ++ (p.2 ++ " " ++ Str.join " " (flatS (q :: r))) := by
      show Str.join " " (p.1 :: p.2 :: flatS (q :: r)) = _
      rw [join_cons _ _ (by simp), join_cons _ _ (by simp [flatS])]
    rw [e1, e2, ih]
    unfold pj
    simp only [app_assoc']
theorem join_pre {pre : List Str} (h : pre ≠ []) (r : List (Str × Str)) : Txt.join " " (pre ++ r.map pj) = Txt.join " " (pre ++ flatS r) := by
  rw [tjoin, tjoin]
  cases r with
  | nil => rfl
  | cons p r => rw [join_app _ h (by simp), join_app _ h (by simp [flatS]), join_flat (by simp)]
theorem under_z (k : Ky) : ("under " : Str) ++ keyT k = rowZ (underW k) := by
  unfold rowZ underW
  rw [tjoin, join_cons _ _ (by simp), show ("under " : Str) = "under" ++ " " by decide +kernel]
  rfl
theorem take_z (z : Str) (k : Ky) : ("take " : Str) ++ z ++ " " ++ keyT k = rowZ (takeW (z, k)) := by
  unfold rowZ takeW
  rw [tjoin, join_cons _ _ (by simp), join_cons _ _ (by simp), show ("take " : Str) = "take" ++ " " by decide +kernel]
  show ("take" : Str) ++ " " ++ z ++ " " ++ keyT k = ("take" : Str) ++ " " ++ (z ++ " " ++ keyT k)
  simp only [app_assoc']
theorem owe_z (x : Nt) : Txt.join " " ([("owe" : Str), x.d, x.n, keyT x.o] ++ x.r.map pj) = rowZ (oweW x) := join_pre (by simp) x.r
section
variable {P : Program} {w : World} {K : PySem.W.Frag} {mg : Str → Option Value} {base : Heap}
def spLT : Sp := fun vs H Q _ => ∃ (p pk d l : Addr) (f : Fd), vs = [.ref p] ∧ FAd H p pk d l f ∧ FdOk f ∧ ∀ zs : List Str, zs.Perm (f.2.1.map (·.1)) → sortedS zs = true → ∀ (lr : Addr) (H' : Hp), Same H H' → H lr = none → H' lr = some (.lst (((rowsF (f.1, zs.map (fun z => (z, lk f.2.1 z)), f.2.2)).map rowZ).map V.str)) → Q (.ref lr) H'
abbrev s_law_text_rows : Stmt := top 41
theorem sc_law_text_rows : FnScope ["_law_folder_here", "_law_found", "_law_name", "_law_duty", "_law_offer", "_law_road"] ["_law_folder_here"] (defScope s_law_text_rows) := ⟨rfl, rfl, rfl, by decide +kernel, rfl, by decide +kernel, by decide +kernel⟩
theorem ok_lt (T : Txt mg) (F__law_key_text : FnAt P w K mg base "_law_key_text" 1 ["_law_key_here"] spLKT) (F : TopFn K mg "_law_text_rows" s_law_text_rows ["_law_folder_here"]) : FnAt P w K mg base "_law_text_rows" 2 ["_law_folder_here"] spLT := by
  refine F.at sc_law_text_rows (fun vs H Q E h => ?_) (fun f cdv A outer s H vs Q E hr h => ?_)
  · obtain ⟨p, pk, d, l, f, rfl, _⟩ := h
    rfl
  · obtain ⟨p, pk, d, l, ⟨k, c, n⟩, rfl, ⟨hp, hk, ⟨kvs, hd, hc⟩, ps, hl, hn⟩, ok, q⟩ := h
    refine ⟨_, (pss_cons (ps_set (i := 1) sc_law_text_rows.nd rfl (by first | exact Or.inl rfl | exact Or.inr rfl) (pe_lst (pa_cons (pe_op op_add_str pe_str (pe_fn F__law_key_text hr (by decide) rfl (pa_cons (pe_ix ix_tup (pv 0) pe_int (fun _ _ => rfl)) pa_nil))) pa_nil)))
      (pss_cons (ps_for PassesOwn.never rfl (pi_list (pe_callB (call_sortedD hr.hd) rfl T.n_sorted boot_sorted (pa_cons (pe_ix ix_tup (pv 0) pe_int (fun _ _ => rfl)) pa_nil))) (pg_name (i := 2) sc_law_text_rows.nd rfl (by first | exact Or.inl rfl | exact Or.inr rfl)) (pss_one (ps_expr (pe_bm PySem.F.plainAttrs_list PySem.F.slot_list_append PySem.F.type_list_append mt_append (pv 1) (pa_cons (pe_op op_add_str (pe_op op_add_str (pe_op op_add_str pe_str (pv 2)) pe_str) (pe_fn F__law_key_text hr (by decide) rfl (pa_cons (pe_dget (hu1 hr) (pe_ix ix_tup (pv 0) pe_int (fun _ _ => rfl)) (pv 2) (fun _ _ => rfl)) pa_nil))) pa_nil)))))
      (pss_cons (ps_for PassesOwn.never rfl (pi_list (pe_ix ix_tup (pv 0) pe_int (fun _ _ => rfl))) (pg_tup rfl (pgs_cons (pg_name (i := 3) sc_law_text_rows.nd rfl (by first | exact Or.inl rfl | exact Or.inr rfl)) (pgs_cons (pg_name (i := 2) sc_law_text_rows.nd rfl (by first | exact Or.inl rfl | exact Or.inr rfl)) (pgs_cons (pg_name (i := 4) sc_law_text_rows.nd rfl (by first | exact Or.inl rfl | exact Or.inr rfl)) (pgs_cons (pg_name (i := 5) sc_law_text_rows.nd rfl (by first | exact Or.inl rfl | exact Or.inr rfl)) pgs_nil))))) (pss_one (ps_expr (pe_bm PySem.F.plainAttrs_list PySem.F.slot_list_append PySem.F.type_list_append mt_append (pv 1) (pa_cons (pe_bm PySem.F.plainAttrs_str PySem.F.slot_str_join PySem.F.type_str_join mt_join pe_str (pa_cons (pe_op op_cat (pe_lst (pa_cons pe_str (pa_cons (pv 3) (pa_cons (pv 2) (pa_cons (pe_fn F__law_key_text hr (by decide) rfl (pa_cons (pv 4) pa_nil)) pa_nil))))) (pe_comp (sc := defScope s_law_text_rows) (N0 := ["_law_folder_here", "_law_found", "_law_name", "_law_duty", "_law_offer", "_law_road"]) (xs := ["_law_word", "_law_one"]) (ys := []) (js := []) ⟨rfl, by decide +kernel, by decide +kernel, by decide +kernel, by decide +kernel⟩ rfl (pi_tup (pv 5)) (fun _ _ _ _ => (pg_tupK (n := 2) K rfl (pgs_cons (pg_name (i := 0) (show (["_law_word", "_law_one"] : List Str).Nodup by decide +kernel) rfl (by first | exact Or.inl rfl | exact Or.inr rfl)) (pgs_cons (pg_name (i := 1) (show (["_law_word", "_law_one"] : List Str).Nodup by decide +kernel) rfl (by first | exact Or.inl rfl | exact Or.inr rfl)) pgs_nil)))) (fun _ _ _ _ => pq_nil) (fun _ _ _ _ => (pe_op op_add_str (pe_op op_add_str (pv 0) pe_str) (pv 1))))) pa_nil)) pa_nil)))))
      (pss_one (ps_ret (pv 1)))))), ?_⟩
    have hs : sizeLine = 16777216 := sizeLine_eq
    have b1 : ((" " : Str)).length = 1 := by decide +kernel
    have b6 : (("under " : Str)).length = 6 := by decide +kernel
    have b5 : (("take " : Str)).length = 5 := by decide +kernel
    have kl := keyT_len ok.k
    have kl' : (keyT k).length ≤ 11 := kl
    refine ⟨_, rfl, p, _, _, .ref pk, rfl, rfl, SqT.of hp, rfl, pk, k, rfl, hk, ok.k, _, _, rfl, rfl, by omega, (by show 1 ≤ sizeLine; omega), fun lr hlr => ?_⟩
    rw [under_z]
    have s1 := Same.new (o := .lst [.str (rowZ (underW k))]) hlr
    have e1 : upd H lr (.lst [.str (rowZ (underW k))]) lr = some (.lst [.str (rowZ (underW k))]) := upd_same
    generalize upd H lr (.lst [.str (rowZ (underW k))]) = H1 at s1 e1 ⊢
    have hck := cen_keys hc
    have cl' : c.length ≤ 60 := ok.cl
    have nl' : n.length ≤ 100 := ok.nl
    have pl : ps.length = n.length := hn.1
    refine ⟨_, rfl, p, _, _, .ref d, rfl, rfl, SqT.of (s1 _ _ hp), rfl, d, kvs, c.map (·.1), rfl, s1 _ _ hd, hck, (by rw [List.length_map]; omega), fun zs lz hpz hsz hlz => ?_⟩
    have s2 := Same.new (o := .lst (zs.map V.str)) hlz
    have e2 : upd H1 lz (.lst (zs.map V.str)) lz = some (.lst (zs.map V.str)) := upd_same
    generalize upd H1 lz (.lst (zs.map V.str)) = H2 at s2 e2 ⊢
    have S2 := s1.trans s2
    have zl := ok_len hpz
    have nz : lz ≠ lr := fun y => by subst y; rw [e1] at hlz; cases hlz
    have tm : ∀ z ∈ zs, ∃ t ∈ c, t.1 = z := fun z hz => List.mem_map.mp (hpz.mem_iff.mp hz)
    refine ⟨lz, rfl, ⟨_, SqL.of e2⟩, for_list (K := K) (a := lz) (xs := zs.map V.str) (fun i σ H' => ∃ v2 : Option V, σ = [some (.ref p), some (.ref lr), v2, none, none, none] ∧ (∀ a o, H2 a = some o → a ≠ lr → H' a = some o) ∧ H' lr = some (.lst (V.str (rowZ (underW k)) :: ((zs.take i).map fun z => rowZ (takeW (z, lk c z))).map V.str))) ⟨_, rfl, fun _ _ e _ => e, s2 _ _ e1⟩ ?_ ?_ ?_⟩
    · rintro i σ H' _ ⟨_, _, k3, _⟩
      exact SqL.of (k3 _ _ e2 nz)
    · rintro i v σ H3 hv ⟨v2, rfl, k3, r3⟩
      rw [List.getElem?_map] at hv
      obtain ⟨z, hz, rfl⟩ := Option.map_eq_some_iff.mp hv
      have hi := (List.getElem?_eq_some_iff.mp hz).1
      obtain ⟨t, ht, rfl⟩ := tm z (List.mem_of_getElem? hz)
      obtain ⟨pt, hv, hkt⟩ := cen_get hc ok.nd ht
      obtain ⟨w1, w2⟩ := ok.c t ht
      have hlk : lk c t.1 = t.2 := lk_mem ok.nd ht
      have k3' : ∀ a o, H a = some o → H3 a = some o := fun a o e => k3 a o (S2 _ _ e) (ne_of_none e hlr)
      have dg : DGet H3 d (.str t.1) (some (.ref pt)) := by
        have := DGet.k (k := Sum.inr t.1) (k3' _ _ hd)
        rw [hv] at this
        exact this
      have tl := word8 w1
      have kl := keyT_len w2
      have al : (("take " : Str) ++ t.1).length ≤ 13 := by rw [len_app]; omega
      have al2 : (("take " : Str) ++ t.1 ++ " ").length ≤ 14 := by rw [len_app]; omega
      refine ⟨_, rfl, .inl ⟨rfl, _, SqL.of r3⟩, _, rfl, _, _, rfl, rfl, by omega, _, _, rfl, rfl, by omega, _, rfl, p, _, _, .ref d, rfl, rfl, SqT.of (k3' _ _ hp), rfl, _, rfl, d, _, rfl, dg, pt, t.2, rfl, k3' _ _ hkt, w2, _, _, rfl, rfl, by omega, ?_⟩
      rw [take_z]
      refine ⟨lr, _, _, rfl, rfl, r3, (by simp only [List.length_cons, List.length_map, List.length_take]; omega), ?_⟩
      refine ⟨_, rfl, fun a o e y => ?_, ?_⟩
      · rw [upd_ne y]; exact k3 a o e y
      · rw [upd_same, take_snoc hz, List.map_append, List.map_append, List.map_singleton, List.map_singleton, hlk]
        rfl
    · rintro σ H3 ⟨v2, rfl, k3, r3⟩
      rw [List.length_map, List.take_length] at r3
      have k3' : Same H H3 := fun a o e => k3 a o (S2 _ _ e) (ne_of_none e hlr)
      refine ⟨_, rfl, p, _, _, .ref l, rfl, rfl, SqT.of (k3' _ _ hp), rfl, l, rfl, ⟨_, SqL.of (k3' _ _ hl)⟩, for_list (K := K) (a := l) (xs := ps.map V.ref) (fun i σ H' => ∃ v2 v3 v4 v5 : Option V, σ = [some (.ref p), some (.ref lr), v2, v3, v4, v5] ∧ Same H H' ∧ H' lr = some (.lst (V.str (rowZ (underW k)) :: (zs.map fun z => rowZ (takeW (z, lk c z))).map V.str ++ ((n.take i).map fun x => rowZ (oweW x)).map V.str))) ⟨_, _, _, _, rfl, k3', by rw [r3]; simp⟩ ?_ ?_ ?_⟩
      · rintro i σ H' _ ⟨_, _, _, _, _, s', _⟩
        exact SqL.of (s' _ _ hl)
      · rintro i v σ H4 hv ⟨v2, v3, v4, v5, rfl, s4, r4⟩
        rw [List.getElem?_map] at hv
        obtain ⟨pn, hpn, rfl⟩ := Option.map_eq_some_iff.mp hv
        obtain ⟨y, hy, hny⟩ := hn.at hpn
        obtain ⟨po, pr, a1, a2, as, a3, a4⟩ := hny.t (.of s4)
        have hi := (List.getElem?_eq_some_iff.mp hy).1
        obtain ⟨ok1, ok2⟩ := ok.n y (List.mem_of_getElem? hy)
        refine ⟨pn, _, rfl, SqT.of a1, rfl, _, _, rfl, _, _, rfl, _, _, rfl, _, _, rfl, rfl, ?_⟩
        refine ⟨_, rfl, .inl ⟨rfl, _, SqL.of r4⟩, rfl, _, rfl, _, rfl, _, rfl, po, y.o, rfl, a2, ok1.o, (by show 4 ≤ sizeLine; omega), fun la hla => ?_⟩
        have s5 := Same.new (o := .lst [.str "owe", .str y.d, .str y.n, .str (keyT y.o)]) hla
        have e5 : upd H4 la (.lst [.str "owe", .str y.d, .str y.n, .str (keyT y.o)]) la = some (.lst (([("owe" : Str), y.d, y.n, keyT y.o]).map V.str)) := upd_same
        generalize upd H4 la (.lst [.str "owe", .str y.d, .str y.n, .str (keyT y.o)]) = H5 at s5 e5 ⊢
        have al : as.length ≤ 1000 := by rw [a4.1]; exact ok2
        have ws : ∀ p ∈ y.r, p.1.length ≤ 7 ∧ p.2.length ≤ 8 := fun p hp => by
          have := List.all_eq_true.mp ok1.r p hp
          unfold pairOk at this
          rw [Bool.and_eq_true] at this
          exact ⟨jw_len this.1, word8 this.2⟩
        have pjl : ∀ p ∈ y.r, (pj p).length ≤ 16 := fun p hp => by
          have := ws p hp
          unfold pj
          rw [len_app, len_app]
          omega
        refine ⟨_, rfl, pr, rfl, ⟨_, SqT.of (s5 _ _ a3)⟩, comp_tup (K := K) (a := pr) (xs := as.map V.ref) (fun i ys H' => ys = ((y.r.take i).map pj).map V.str ∧ Same H5 H') ⟨rfl, Same.refl _⟩ (by rw [List.length_map]; omega) ?_ ?_ ?_ ?_⟩
        · rintro i ys H' ⟨rfl, _⟩
          rw [List.length_map, List.length_map, List.length_take]; omega
        · rintro i ys H' _ ⟨_, s'⟩
          exact SqT.of (s' _ _ (s5 _ _ a3))
        · rintro j x ys H' hx ⟨rfl, s'⟩
          rw [List.getElem?_map] at hx
          obtain ⟨pp, hpp, rfl⟩ := Option.map_eq_some_iff.mp hx
          obtain ⟨u, hu, hpr⟩ := a4.at hpp
          have wu := ws u (List.mem_of_getElem? hu)
          have ul : (u.1 ++ (" " : Str)).length ≤ 8 := by rw [len_app]; omega
          refine ⟨pp, _, rfl, SqT.of (s' _ _ (s5 _ _ hpr)), rfl, _, _, rfl, _, _, rfl, rfl, ?_⟩
          refine ⟨_, rfl, _, _, rfl, rfl, by omega, _, rfl, _, _, rfl, rfl, by omega, ?_, s'⟩
          rw [take_snoc hu, List.map_append, List.map_append]
          rfl
        · rintro ys H' ⟨rfl, s'⟩ lb hlb
          rw [List.length_map, a4.1, List.take_length]
          have s6 := Same.new (o := .lst ((y.r.map pj).map V.str)) hlb
          have e6 : upd H' lb (.lst ((y.r.map pj).map V.str)) lb = some (.lst ((y.r.map pj).map V.str)) := upd_same
          generalize upd H' lb (.lst ((y.r.map pj).map V.str)) = H6 at s6 e6 ⊢
          have s56 := s'.trans s6
          refine ⟨la, lb, _, _, rfl, rfl, s56 _ _ e5, e6, (by simp only [List.length_map, List.length_cons, List.length_nil]; omega), fun lc hlc => ?_⟩
          rw [← List.map_append]
          have s7 := Same.new (o := .lst (([("owe" : Str), y.d, y.n, keyT y.o] ++ y.r.map pj).map V.str)) hlc
          have e7 : upd H6 lc (.lst (([("owe" : Str), y.d, y.n, keyT y.o] ++ y.r.map pj).map V.str)) lc = some (.lst (([("owe" : Str), y.d, y.n, keyT y.o] ++ y.r.map pj).map V.str)) := upd_same
          generalize upd H6 lc (.lst (([("owe" : Str), y.d, y.n, keyT y.o] ++ y.r.map pj).map V.str)) = H7 at s7 e7 ⊢
          have S47 := (s5.trans s56).trans s7
          refine ⟨_, lc, [("owe" : Str), y.d, y.n, keyT y.o] ++ y.r.map pj, rfl, rfl, SqL.of e7, join_ok (k := 16) (n := 1004) (fun z hz => ?_) (by simp only [List.length_append, List.length_map, List.length_cons, List.length_nil]; omega) (by rw [b1]; decide), ?_⟩
          · rcases List.mem_append.mp hz with hz | hz
            · have : z ∈ oweW y := by
                rw [oweW]
                simp only [List.mem_cons, List.not_mem_nil, or_false] at hz ⊢
                rcases hz with h | h | h | h
                · exact .inl h
                · exact .inr (.inl h)
                · exact .inr (.inr (.inl h))
                · exact .inr (.inr (.inr (.inl h)))
              have := oweW_short ok1 z this
              omega
            · obtain ⟨u, hu, rfl⟩ := List.mem_map.mp hz
              exact pjl u hu
          · rw [owe_z]
            refine ⟨lr, _, _, rfl, rfl, S47 _ _ r4, (by simp only [List.length_cons, List.length_map, List.length_take, List.length_append]; omega), ?_⟩
            refine ⟨_, _, _, _, rfl, fun a o e => ?_, ?_⟩
            · rw [upd_ne (ne_of_none e hlr)]; exact S47 _ _ (s4 _ _ e)
            · rw [upd_same, take_snoc hy, List.map_append, List.map_append, ← List.append_assoc]
              rfl
      · rintro σ H4 ⟨v2, v3, v4, v5, rfl, s4, r4⟩
        rw [List.length_map, pl, List.take_length] at r4
        refine ⟨_, rfl, q zs hpz hsz lr H4 s4 hlr ?_⟩
        rw [r4]
        simp only [rowsF, List.map_cons, List.map_append, List.map_map, List.cons_append]
        rfl
end
end K78
namespace L2
open PySem PySem.Spec PyProof.Rows
theorem FnAt.weak {P : Program} {w : World} {K : PySem.W.Frag} {mg : Str → Option Value} {base : Heap} {x : Str} {k : Nat} {ps : List Str} {sp sp' : Sp} (F : FnAt P w K mg base x k ps sp) (h : ∀ vs H Q E, sp' vs H Q E → sp vs H Q E) : FnAt P w K mg base x k ps sp' := by
  obtain ⟨f, fd, G, a, b, c⟩ := F
  exact ⟨f, fd, ⟨fun vs H Q E z => G.len vs H Q E (h _ _ _ _ z), fun A outer s H args us vs Q E hr e0 hb r z => G.run A outer s H args us vs Q E hr e0 hb r (h _ _ _ _ z)⟩, a, b, c⟩
end L2
namespace K78
open PySem L2 PyProof.Rows
def KN (H : Hp) (v : V) (z : Str) : Prop := (keyP z = none ∧ v = .non) ∨ ∃ k p, keyP z = some k ∧ v = .ref p ∧ KeyR H p k
theorem KN.same {H H' : Hp} {v : V} {z : Str} (h : KN H v z) (s : Same H H') : KN H' v z := h.imp id fun ⟨k, p, h1, h2, h3⟩ => ⟨k, p, h1, h2, s _ _ h3⟩
def owedP : List Str → Option Nt
  | _ :: d :: n :: z :: rest => if isWordZ d = true ∧ isWordZ n = true then (keyP z).bind fun k => (pairsS rest).bind fun ps => if ps.all pairOk = true then some ⟨d, n, k, ps⟩ else none else none
  | _ => none
theorem owedP_4 (u d n z : Str) (rest : List Str) : owedP (u :: d :: n :: z :: rest) = if isWordZ d = true ∧ isWordZ n = true then (keyP z).bind fun k => (pairsS rest).bind fun ps => if ps.all pairOk = true then some ⟨d, n, k, ps⟩ else none else none := rfl
theorem owedP_few {ws : List Str} (h : ws.length < 4) : owedP ws = none := by
  match ws, h with
  | [], _ => rfl
  | [_], _ => rfl
  | [_, _], _ => rfl
  | [_, _, _], _ => rfl
  | _ :: _ :: _ :: _ :: r, h => exact absurd h (by simp only [List.length_cons]; omega)
theorem owedP_odd {ws : List Str} (h : ws.length % 2 = 1) : owedP ws = none := by
  match ws, h with
  | [], _ => rfl
  | [_], _ => rfl
  | [_, _], _ => rfl
  | [_, _, _], _ => rfl
  | u :: d :: n :: z :: r, h =>
    rw [owedP_4, pairsS_odd (ws := r) (by simp only [List.length_cons] at h; omega)]
    cases keyP z <;> simp
theorem owedP_head {u d n z : Str} {rest : List Str} (h : ¬ (isWordZ d = true ∧ isWordZ n = true)) : owedP (u :: d :: n :: z :: rest) = none := by rw [owedP_4, if_neg h]
theorem oweP_owed (ws : List Str) : oweP ws = if ws.head? = some "owe" then owedP ws else none := by
  match ws with
  | [] => rfl
  | [a] => split <;> rfl
  | [a, b] => split <;> rfl
  | [a, b, c] => split <;> rfl
  | u :: d :: n :: z :: r =>
    rw [oweP_4]
    by_cases h : u = "owe"
    · have e : (u :: d :: n :: z :: r).head? = some "owe" := by rw [h]; rfl
      rw [if_pos e, owedP_4]
      by_cases h2 : isWordZ d = true ∧ isWordZ n = true
      · rw [if_pos ⟨h, h2⟩, if_pos h2]
      · rw [if_neg (fun y => h2 y.2), if_neg h2]
    · have e : (u :: d :: n :: z :: r).head? ≠ some "owe" := fun y => h (Option.some.inj y)
      rw [if_neg (fun y => h y.1), if_neg e]
theorem flatS_at {ps : List (Str × Str)} {i : Nat} {p : Str × Str} (h : ps[i]? = some p) : (flatS ps)[2 * i]? = some p.1 ∧ (flatS ps)[2 * i + 1]? = some p.2 := by
  induction ps generalizing i with
  | nil => cases h
  | cons a r ih =>
    cases i with
    | zero => cases h; exact ⟨rfl, rfl⟩
    | succ i =>
      obtain ⟨h1, h2⟩ := ih (i := i) h
      rw [flatS]
      exact ⟨by rw [show 2 * (i + 1) = 2 * i + 1 + 1 by omega, List.getElem?_cons_succ, List.getElem?_cons_succ]; exact h1, by rw [show 2 * (i + 1) + 1 = 2 * i + 1 + 1 + 1 by omega, List.getElem?_cons_succ, List.getElem?_cons_succ]; exact h2⟩
section
variable {P : Program} {w : World} {K : PySem.W.Frag} {mg : Str → Option Value} {base : Heap}
def spKN : Sp := fun vs H Q _ => ∃ z : Str, vs = [.str z] ∧ z.length ≤ 1200 ∧ ∀ (v : V) (H' : Hp), Same H H' → KN H' v z → Q v H'
theorem key_kn (F : FnAt P w K mg base "_law_key" 2 ["_law_text"] spLK) : FnAt P w K mg base "_law_key" 2 ["_law_text"] spKN :=
  F.weak fun vs H Q E ⟨z, e, hz, q⟩ => ⟨z, e, hz, fun hk H' s => q _ H' s (.inl ⟨hk, rfl⟩), fun k hk p H' s h => q _ H' s (.inr ⟨k, p, hk, rfl, h⟩)⟩
def spOD : Sp := fun vs H Q _ => ∃ (l : Addr) (ws : List Str), vs = [.ref l] ∧ WsAt H l ws ∧ (owedP ws = none → ∀ H', Same H H' → Q .non H') ∧ ∀ x, owedP ws = some x → ∀ (p : Addr) (H' : Hp), Same H H' → NAt H' p x → Q (.ref p) H'
abbrev s_law_owed : Stmt := top 46
theorem sc_law_owed : FnScope ["_law_words_here", "_law_offer", "_law_road", "_law_k"] ["_law_words_here"] (defScope s_law_owed) := ⟨rfl, rfl, rfl, by decide +kernel, rfl, by decide +kernel, by decide +kernel⟩
theorem ok_od (T : Txt mg) (F__law_is_word : FnAt P w K mg base "_law_is_word" 1 ["_law_text"] spLW) (F__law_key : FnAt P w K mg base "_law_key" 2 ["_law_text"] spKN) (F : TopFn K mg "_law_owed" s_law_owed ["_law_words_here"]) : FnAt P w K mg base "_law_owed" 3 ["_law_words_here"] spOD := by
  refine F.at sc_law_owed (fun vs H Q E h => ?_) (fun f cdv A outer s H vs Q E hr h => ?_)
  · obtain ⟨l, ws, rfl, _⟩ := h
    rfl
  · obtain ⟨l, ws, rfl, ⟨hl, few, short⟩, no, q⟩ := h
    refine ⟨_, (pss_cons (ps_if (PW.pt (pw_or (pt_cmpR op_lt (pe_callB call_len rfl T.n_len boot_len (pa_cons (pv 0) pa_nil)) pe_int (nomark _)) (pw_or (pt_cmpR op_eq (pe_op op_mod (pe_callB call_len rfl T.n_len boot_len (pa_cons (pv 0) pa_nil)) pe_int) pe_int (nomark _)) (pw_or (pt_not (pt_val (pe_fn F__law_is_word hr (by decide) rfl (pa_cons (pe_ix ix_list (pv 0) pe_int (fun _ _ => rfl)) pa_nil)))) (pw_or1 (pt_not (pt_val (pe_fn F__law_is_word hr (by decide) rfl (pa_cons (pe_ix ix_list (pv 0) pe_int (fun _ _ => rfl)) pa_nil))))))))) (pss_one (ps_ret pe_non)) pss_nil)
      (pss_cons (ps_set (i := 1) sc_law_owed.nd rfl (by first | exact Or.inl rfl | exact Or.inr rfl) (pe_fn F__law_key hr (by decide) rfl (pa_cons (pe_ix ix_list (pv 0) pe_int (fun _ _ => rfl)) pa_nil)))
      (pss_cons (ps_set (i := 2) sc_law_owed.nd rfl (by first | exact Or.inl rfl | exact Or.inr rfl) (pe_lst pa_nil))
      (pss_cons (ps_for PassesOwn.never rfl (pi_range3 rfl T.n_range (pa_cons pe_int (pa_cons (pe_callB call_len rfl T.n_len boot_len (pa_cons (pv 0) pa_nil)) (pa_cons pe_int pa_nil)))) (pg_name (i := 3) sc_law_owed.nd rfl (by first | exact Or.inl rfl | exact Or.inr rfl)) (pss_cons (ps_if (PW.pt (pw_or (pt_cmpR op_notIn_seq (pe_ix ix_list (pv 0) (pv 3) (fun _ _ => rfl)) (pe_tup (pa_cons pe_str (pa_cons pe_str (pa_cons pe_str (pa_cons pe_str pa_nil))))) (by with_unfolding_all rfl)) (pw_or1 (pt_not (pt_val (pe_fn F__law_is_word hr (by decide) rfl (pa_cons (pe_ix ix_list (pv 0) (pe_op op_add (pv 3) pe_int) (fun _ _ => rfl)) pa_nil))))))) (pss_one (ps_ret pe_non)) pss_nil)
      (pss_one (ps_expr (pe_bm PySem.F.plainAttrs_list PySem.F.slot_list_append PySem.F.type_list_append mt_append (pv 2) (pa_cons (pe_tup (pa_cons (pe_ix ix_list (pv 0) (pv 3) (fun _ _ => rfl)) (pa_cons (pe_ix ix_list (pv 0) (pe_op op_add (pv 3) pe_int) (fun _ _ => rfl)) pa_nil))) pa_nil))))))
      (pss_cons (ps_if (pt_cmp (pc_isN (pv 1))) (pss_one (ps_ret pe_non)) pss_nil)
      (pss_one (ps_ret (pe_tup (pa_cons (pe_ix ix_list (pv 0) pe_int (fun _ _ => rfl)) (pa_cons (pe_ix ix_list (pv 0) pe_int (fun _ _ => rfl)) (pa_cons (pv 1) (pa_cons (pe_callTy call_tuple_of rfl T.n_tuple boot_tuple (pa_cons (pv 2) pa_nil)) pa_nil)))))))))))), ?_⟩
    have hs : sizeLine = 16777216 := sizeLine_eq
    refine ⟨_, rfl, _, _, rfl, .inl ⟨_, SqL.of hl, rfl⟩, _, _, rfl, rfl, _, rfl, ?_⟩
    rw [strs_len]
    refine ite2 (fun g1 => iteT (no (owedP_few (by have := of_decide_eq_true g1; omega)) _ (Same.refl _))) (fun g1 => ?_)
    have g1 : 4 ≤ ws.length := by
      by_cases z : ((ws.length : Nat) : Int) < 4
      · exact absurd (decide_eq_true z) g1
      · omega
    refine ⟨_, rfl, _, _, rfl, .inl ⟨_, SqL.of hl, rfl⟩, _, _, rfl, rfl, (show (0 : Int) < 2 by decide), rfl, _, rfl, ?_⟩
    rw [strs_len]
    by_cases g2 : ws.length % 2 = 1
    · refine ite2 (fun _ => iteT (no (owedP_odd g2) _ (Same.refl _))) (fun h => absurd (decide_eq_true (congrArg V.int (show ((ws.length : Nat) : Int) % 2 = 1 by omega))) h)
    refine ite2 (fun h => absurd (V.int.inj (of_decide_eq_true h)) (show ¬ (((ws.length : Nat) : Int) % 2 = 1) by omega)) (fun _ => ?_)
    match ws, hl, few, short, q, no, g1, g2 with
    | u :: d :: n :: z :: rest, hl, few, short, q, no, g1, g2 =>
      have ev : rest.length % 2 = 0 := by simp only [List.length_cons] at g2; omega
      obtain ⟨ps, hp⟩ := pairsS_even ev
      have er := pairsS_some hp
      subst er
      have fl := flatS_len ps
      have pl : ps.length ≤ 1000 := by simp only [List.length_cons] at few; omega
      refine ⟨_, rfl, l, _, _, V.str d, rfl, rfl, SqL.of hl, (atI_nat (j := 1) rfl), d, rfl, short d (by simp), fun H1 s1 => ⟨_, rfl, ?_⟩⟩
      show if (!isWordZ d) = true then _ else _
      cases hd : isWordZ d with
      | false => exact iteT (no (owedP_head fun y => by rw [hd] at y; exact absurd y.1 (by decide)) _ s1)
      | true =>
        refine iteF ?_
        refine ⟨_, rfl, l, _, _, V.str n, rfl, rfl, SqL.of (s1 _ _ hl), (atI_nat (j := 2) rfl), n, rfl, short n (by simp), fun H2 s2 => ⟨_, rfl, ?_⟩⟩
        have s12 := s1.trans s2
        show if (!isWordZ n) = true then _ else _
        cases hn : isWordZ n with
        | false => exact iteT (no (owedP_head fun y => by rw [hn] at y; exact absurd y.2 (by decide)) _ s12)
        | true =>
          refine iteF ?_
          have eO : owedP (u :: d :: n :: z :: flatS ps) = (keyP z).bind fun k => if ps.all pairOk = true then some ⟨d, n, k, ps⟩ else none := by
            rw [owedP_4, if_pos ⟨hd, hn⟩, hp]; rfl
          refine ⟨_, rfl, l, _, _, V.str z, rfl, rfl, SqL.of (s12 _ _ hl), (atI_nat (j := 3) rfl), z, rfl, short z (by simp), fun v1 H3 s3 kn => ?_⟩
          have s13 := s12.trans s3
          refine ⟨(by show 0 ≤ sizeLine; omega), fun lr hlr => ?_⟩
          have s4 := Same.new (o := .lst []) hlr
          have e4 : upd H3 lr (.lst []) lr = some (.lst []) := upd_same
          generalize upd H3 lr (.lst []) = H4 at s4 e4 ⊢
          have s14 := s13.trans s4
          have kn4 := kn.same s4
          have fr : H lr = none := s13.free hlr
          refine ⟨_, rfl, _, _, rfl, .inl ⟨_, SqL.of (s14 _ _ hl), rfl⟩, _, _, rfl, ⟨by decide, by decide, by rw [strs_len]; omega, by rw [strs_len]; omega⟩, for_range2 (fun i σ H' => ∃ (v3 : Option V) (as : List Addr), σ = [some (.ref l), some v1, some (.ref lr), v3] ∧ (∀ a o, H4 a = some o → a ≠ lr → H' a = some o) ∧ H' lr = some (.lst (as.map V.ref)) ∧ A2 (PrR H') as (ps.take i) ∧ (ps.take i).all pairOk = true) ⟨_, [], rfl, fun _ _ e _ => e, e4, A2.nil, rfl⟩ ?_ ?_⟩
          · rintro i σ H5 hi ⟨v3, as, rfl, k5, r5, p5, ok5⟩
            have hi : i < ps.length := by rw [strs_len] at hi; simp only [List.length_cons] at hi; omega
            obtain ⟨y, hy⟩ : ∃ y, ps[i]? = some y := ⟨ps[i], List.getElem?_eq_getElem hi⟩
            obtain ⟨f1, f2⟩ := flatS_at hy
            have S5 : Same H H5 := fun a o e => k5 a o (s14 _ _ e) (ne_of_none e fr)
            have a1 : atI ((u :: d :: n :: z :: flatS ps).map V.str) (4 + (i : Int) * 2) = some (.str y.1) := by
              rw [show (4 : Int) + (i : Int) * 2 = ((2 * i + 4 : Nat) : Int) by omega]
              exact atI_nat (by rw [List.getElem?_map]; show Option.map V.str ((flatS ps)[2 * i]?) = _; rw [f1]; rfl)
            have a2 : atI ((u :: d :: n :: z :: flatS ps).map V.str) (4 + (i : Int) * 2 + 1) = some (.str y.2) := by
              rw [show (4 : Int) + (i : Int) * 2 + 1 = ((2 * i + 1 + 4 : Nat) : Int) by omega]
              exact atI_nat (by rw [List.getElem?_map]; show Option.map V.str ((flatS ps)[2 * i + 1]?) = _; rw [f2]; rfl)
            have bad : pairOk y = false → owedP (u :: d :: n :: z :: flatS ps) = none := fun e => by
              rw [eO]
              have : ps.all pairOk ≠ true := fun h => by
                have := List.all_eq_true.mp h y (List.mem_of_getElem? hy)
                rw [e] at this; cases this
              cases keyP z with
              | none => rfl
              | some k => show (if ps.all pairOk = true then some (⟨d, n, k, ps⟩ : Nt) else none) = none; rw [if_neg this]
            refine ⟨_, rfl, _, rfl, l, _, _, V.str y.1, rfl, rfl, SqL.of (S5 _ _ hl), a1, (by show 4 ≤ sizeLine; omega), fun pt hpt => ?_⟩
            have s6 := Same.new (o := .tup [.str "called", .str "beside", .str "joined", .str "changed"]) hpt
            have e6 : upd H5 pt (.tup [.str "called", .str "beside", .str "joined", .str "changed"]) pt = some (.tup (JW.map V.str)) := upd_same
            generalize upd H5 pt (.tup [.str "called", .str "beside", .str "joined", .str "changed"]) = H6 at s6 e6 ⊢
            have S6 := S5.trans s6
            refine ⟨pt, _, rfl, .inr (SqT.of e6), rfl, flat_strs _, _, rfl, ?_⟩
            show if (!inV (V.str y.1) (JW.map V.str)) = true then _ else _
            rw [jP_in]
            cases hj : (jP y.1).isSome with
            | false => exact iteT (no (bad (by unfold pairOk; rw [hj]; rfl)) _ S6)
            | true =>
              refine iteF ?_
              refine ⟨_, rfl, _, rfl, _, _, rfl, rfl, l, _, _, V.str y.2, rfl, rfl, SqL.of (S6 _ _ hl), a2, y.2, rfl, short y.2 (.tail _ (.tail _ (.tail _ (.tail _ (List.mem_of_getElem? f2))))), fun H7 s7 => ⟨_, rfl, ?_⟩⟩
              have S7 := S6.trans s7
              have s57 := s6.trans s7
              show if (!isWordZ y.2) = true then _ else _
              cases hw : isWordZ y.2 with
              | false => exact iteT (no (bad (by unfold pairOk; rw [hj, hw]; rfl)) _ S7)
              | true =>
                refine iteF ?_
                refine ⟨_, rfl, .inl ⟨rfl, _, SqL.of (s57 _ _ r5)⟩, _, rfl, _, rfl, l, _, _, V.str y.1, rfl, rfl, SqL.of (S7 _ _ hl), a1, _, rfl, _, rfl, _, _, rfl, rfl, l, _, _, V.str y.2, rfl, rfl, SqL.of (S7 _ _ hl), a2, (by show 2 ≤ sizeLine; omega), fun pp hpp => ?_⟩
                have s8 := Same.new (o := .tup [.str y.1, .str y.2]) hpp
                have e8 : upd H7 pp (.tup [.str y.1, .str y.2]) pp = some (.tup [.str y.1, .str y.2]) := upd_same
                generalize upd H7 pp (.tup [.str y.1, .str y.2]) = H8 at s8 e8 ⊢
                have s58 := s57.trans s8
                have al : as.length ≤ 1000 := by rw [p5.1, List.length_take]; omega
                have tu : TpIn H8 (upd H8 lr (.lst (as.map V.ref ++ [.ref pp]))) := TpIn.upd (s58 _ _ r5)
                refine ⟨lr, _, _, rfl, rfl, s58 _ _ r5, by rw [List.length_map]; omega, ?_⟩
                refine ⟨_, as ++ [pp], rfl, fun a o e y => ?_, by rw [List.map_append]; exact upd_same, ?_, ?_⟩
                · rw [upd_ne y]; exact s58 _ _ (k5 a o e y)
                · rw [take_snoc hy]
                  exact (p5.imp fun _ _ e => tu.tup (s58 _ _ e)).app (A2.one (tu.tup e8))
                · rw [take_snoc hy, List.all_append, ok5, List.all_cons]
                  unfold pairOk
                  rw [hj, hw]
                  rfl
          · rintro σ H5 ⟨v3, as, rfl, k5, r5, p5, ok5⟩
            have S5 : Same H H5 := fun a o e => k5 a o (s14 _ _ e) (ne_of_none e fr)
            have ht : ps.take ((((((u :: d :: n :: z :: flatS ps).map V.str).length : Nat) : Int) - 4 + 1) / 2).toNat = ps := List.take_of_length_le (by rw [strs_len]; simp only [List.length_cons]; omega)
            rw [ht] at p5 ok5
            rcases kn4 with ⟨hk, rfl⟩ | ⟨k, pk, hk, rfl, hkr⟩
            · exact ⟨_, rfl, _, rfl, iteT (no (by rw [eO, hk]; rfl) _ S5)⟩
            · refine ⟨_, rfl, _, rfl, iteF ?_⟩
              have hkr5 : KeyR H5 pk k := k5 _ _ hkr (fun y => by subst y; have hkr : H4 pk = some _ := hkr; rw [e4] at hkr; cases hkr)
              refine ⟨_, rfl, l, _, _, V.str d, rfl, rfl, SqL.of (S5 _ _ hl), (atI_nat (j := 1) rfl), _, rfl, l, _, _, V.str n, rfl, rfl, SqL.of (S5 _ _ hl), (atI_nat (j := 2) rfl), _, rfl, _, rfl, lr, _, rfl, .inl ⟨SqL.of r5, fun pr hpr => ?_⟩⟩
              have s6 := Same.new (o := .tup (as.map V.ref)) hpr
              have e6 : upd H5 pr (.tup (as.map V.ref)) pr = some (.tup (as.map V.ref)) := upd_same
              generalize upd H5 pr (.tup (as.map V.ref)) = H6 at s6 e6 ⊢
              refine ⟨(by show 4 ≤ sizeLine; omega), fun pt hpt => ?_⟩
              have s7 := Same.new (o := .tup [.str d, .str n, .ref pk, .ref pr]) hpt
              have s67 := s6.trans s7
              exact q ⟨d, n, k, ps⟩ (by rw [eO, hk]; show (if ps.all pairOk = true then some (⟨d, n, k, ps⟩ : Nt) else none) = _; rw [if_pos ok5]) pt _ (S5.trans s67) ⟨pk, pr, upd_same, s67 _ _ hkr5, as, s7 _ _ e6, p5.imp fun _ _ e => s67 _ _ e⟩
    | [], _, _, _, _, _, g1, _ => exact absurd g1 (by decide)
    | [_], _, _, _, _, _, g1, _ => exact absurd g1 (by simp)
    | [_, _], _, _, _, _, _, g1, _ => exact absurd g1 (by simp)
    | [_, _, _], _, _, _, _, _, g1, _ => exact absurd g1 (by simp)
def spTK : Sp := fun vs H Q _ => ∃ (l : Addr) (ws : List Str) (last : Str), vs = [.ref l, .str last] ∧ WsAt H l ws ∧ ws.head? = some "take" ∧ ((∀ t, takeP ws = some t → ¬ ltZ last t.1) → ∀ H', Same H H' → Q .non H') ∧ ∀ t, takeP ws = some t → ltZ last t.1 → ∀ (p pk : Addr) (H' : Hp), Same H H' → KeyR H' pk t.2 → H' p = some (.tup [.str t.1, .ref pk]) → Q (.ref p) H'
abbrev s_law_taken : Stmt := top 47
theorem sc_law_taken : FnScope ["_law_words_here", "_law_last"] ["_law_words_here", "_law_last"] (defScope s_law_taken) := ⟨rfl, rfl, rfl, by decide +kernel, rfl, by decide +kernel, by decide +kernel⟩
theorem ok_tk (T : Txt mg) (F__law_is_word : FnAt P w K mg base "_law_is_word" 1 ["_law_text"] spLW) (F__law_key : FnAt P w K mg base "_law_key" 2 ["_law_text"] spKN) (F : TopFn K mg "_law_taken" s_law_taken ["_law_words_here", "_law_last"]) : FnAt P w K mg base "_law_taken" 3 ["_law_words_here", "_law_last"] spTK := by
  refine F.at sc_law_taken (fun vs H Q E h => ?_) (fun f cdv A outer s H vs Q E hr h => ?_)
  · obtain ⟨l, ws, last, rfl, _⟩ := h
    rfl
  · obtain ⟨l, ws, last, rfl, ⟨hl, few, short⟩, hd, no', q⟩ := h
    refine ⟨_, (pss_cons (ps_if (PW.pt (pw_or (pt_cmpR op_ne (pe_callB call_len rfl T.n_len boot_len (pa_cons (pv 0) pa_nil)) pe_int (nomark _)) (pw_or (pt_not (pt_val (pe_fn F__law_is_word hr (by decide) rfl (pa_cons (pe_ix ix_list (pv 0) pe_int (fun _ _ => rfl)) pa_nil)))) (pw_or (pt_cmp (pc_isN (pe_fn F__law_key hr (by decide) rfl (pa_cons (pe_ix ix_list (pv 0) pe_int (fun _ _ => rfl)) pa_nil)))) (pw_or1 (pt_cmpR op_le_str (pe_ix ix_list (pv 0) pe_int (fun _ _ => rfl)) (pv 1) (nomark _))))))) (pss_one (ps_ret pe_non)) pss_nil)
      (pss_one (ps_ret (pe_tup (pa_cons (pe_ix ix_list (pv 0) pe_int (fun _ _ => rfl)) (pa_cons (pe_fn F__law_key hr (by decide) rfl (pa_cons (pe_ix ix_list (pv 0) pe_int (fun _ _ => rfl)) pa_nil)) pa_nil)))))), ?_⟩
    have no : takeP ws = none → ∀ H', Same H H' → Q .non H' := fun e => no' fun t ht => by rw [e] at ht; cases ht
    have hs : sizeLine = 16777216 := sizeLine_eq
    refine ⟨_, rfl, _, _, rfl, .inl ⟨_, SqL.of hl, rfl⟩, rfl, _, rfl, ?_⟩
    rw [strs_len]
    refine iteNl (m := 3) (fun h3 => no ?_ _ (Same.refl _)) (fun h3 => ?_)
    · match ws, h3 with
      | [], _ => rfl
      | [_], _ => rfl
      | [_, _], _ => rfl
      | _ :: _ :: _ :: _ :: _, _ => rfl
      | [_, _, _], h => exact absurd rfl h
    · match ws, hl, short, q, no, no', h3, hd with
      | [u, n, z], hl, short, q, no, no', _, hd =>
        have hu : u = "take" := Option.some.inj hd
        refine ⟨_, rfl, l, _, _, V.str n, rfl, rfl, SqL.of hl, (atI_nat (j := 1) rfl), n, rfl, short n (by simp), fun H1 s1 => ⟨_, rfl, ?_⟩⟩
        show if (!isWordZ n) = true then _ else _
        cases hn : isWordZ n with
        | false => exact iteT (no (if_neg fun y => by rw [hn] at y; exact absurd y.2 (by decide)) _ s1)
        | true =>
          refine iteF ?_
          have eT : takeP [u, n, z] = (keyP z).map fun k => (n, k) := if_pos ⟨hu, hn⟩
          refine ⟨_, rfl, l, _, _, V.str z, rfl, rfl, SqL.of (s1 _ _ hl), (atI_nat (j := 2) rfl), z, rfl, short z (by simp), fun v H2 s2 kn => ?_⟩
          have s12 := s1.trans s2
          rcases kn with ⟨hk, rfl⟩ | ⟨k, pk, hk, rfl, hkr⟩
          · exact ⟨_, rfl, iteT (no (by rw [eT, hk]; rfl) _ s12)⟩
          · refine ⟨_, rfl, iteF ?_⟩
            have eT2 : takeP [u, n, z] = some (n, k) := by rw [eT, hk]; rfl
            refine ⟨_, rfl, l, _, _, V.str n, rfl, rfl, SqL.of (s12 _ _ hl), (atI_nat (j := 1) rfl), _, rfl, _, _, rfl, rfl, _, rfl, ?_⟩
            by_cases hlt : last.cps.toList < n.cps.toList
            · rw [decide_eq_true hlt]
              refine iteF ?_
              refine ⟨_, rfl, l, _, _, V.str n, rfl, rfl, SqL.of (s12 _ _ hl), (atI_nat (j := 1) rfl), _, rfl, l, _, _, V.str z, rfl, rfl, SqL.of (s12 _ _ hl), (atI_nat (j := 2) rfl), z, rfl, short z (by simp), fun v H3 s3 kn => ?_⟩
              rcases kn with ⟨hk', rfl⟩ | ⟨k', pk', hk', rfl, hkr'⟩
              · rw [hk] at hk'; cases hk'
              · rw [hk] at hk'
                cases hk'
                refine ⟨(by show 2 ≤ sizeLine; omega), fun p hp => ?_⟩
                have s4 := Same.new (o := .tup [.str n, .ref pk']) hp
                exact q _ eT2 hlt p pk' _ ((s12.trans s3).trans s4) (s4 _ _ hkr') upd_same
            · rw [decide_eq_false hlt]
              exact iteT (no' (fun t ht => by rw [eT2] at ht; cases ht; exact hlt) _ s12)
end
end K78
namespace K78
open PySem L2 PyProof.Rows
section
variable {P : Program} {w : World} {K : PySem.W.Frag} {mg : Str → Option Value} {base : Heap}
theorem split_cons (z y : Str) : ∃ a r, Txt.split z y = a :: r := by
  have := split_pos z y
  cases e : Txt.split z y with
  | nil => rw [e] at this; simp at this
  | cons a r => exact ⟨a, r, rfl⟩
theorem stepP_take {c : List (Str × Ky)} {ws : List Str} (h : ws.head? = some "take") : stepP c [] ws = (takeP ws).bind fun t => if ltZ (lastOf c) t.1 then some (.inl t) else none := if_pos ⟨h, rfl⟩
theorem stepP_owe {c : List (Str × Ky)} {n : List Nt} {ws : List Str} (h : ¬ (ws.head? = some "take" ∧ n.isEmpty = true)) : stepP c n ws = (if ws.head? = some "owe" then owedP ws else none).map .inr := by
  unfold stepP
  rw [if_neg h, oweP_owed]
def spLRd : Sp := fun vs H Q _ => ∃ z : Str, vs = [.str z] ∧ TxOk z ∧ (∀ i, readF (rowsOf z) = .inl i → ∀ H', Same H H' → Q (.int (i : Nat)) H') ∧ ∀ f, readF (rowsOf z) = .inr f → ∀ (p pk d l : Addr) (H' : Hp), Same H H' → H d = none → H l = none → FAd H' p pk d l f → Q (.ref p) H'
abbrev s_law_read : Stmt := top 48
theorem sc_law_read : FnScope ["_law_text", "_law_lines", "_law_words_here", "_law_choice", "_law_rows", "_law_last", "_law_line", "_law_found", "_law_row"] ["_law_text"] (defScope s_law_read) := ⟨rfl, rfl, rfl, by decide +kernel, rfl, by decide +kernel, by decide +kernel⟩
theorem ok_lrd (T : Txt mg) (F__law_key : FnAt P w K mg base "_law_key" 2 ["_law_text"] spKN) (F__law_owed : FnAt P w K mg base "_law_owed" 3 ["_law_words_here"] spOD) (F__law_taken : FnAt P w K mg base "_law_taken" 3 ["_law_words_here", "_law_last"] spTK)
    (F : TopFn K mg "_law_read" s_law_read ["_law_text"]) : FnAt P w K mg base "_law_read" 4 ["_law_text"] spLRd := by
  refine F.at sc_law_read (fun vs H Q E h => ?_) (fun f cdv A outer s H vs Q E hr h => ?_)
  · obtain ⟨z, rfl, _⟩ := h
    rfl
  · obtain ⟨z, rfl, ok, no, q⟩ := h
    refine ⟨_, (pss_cons (ps_set (i := 1) sc_law_read.nd rfl (by first | exact Or.inl rfl | exact Or.inr rfl) (pe_bm PySem.F.plainAttrs_str PySem.F.slot_str_split PySem.F.type_str_split mt_split (pv 0) (pa_cons pe_str pa_nil)))
      (pss_cons (ps_set (i := 2) sc_law_read.nd rfl (by first | exact Or.inl rfl | exact Or.inr rfl) (pe_bm PySem.F.plainAttrs_str PySem.F.slot_str_split PySem.F.type_str_split mt_split (pe_ix ix_list (pv 1) pe_int (fun _ _ => rfl)) (pa_cons pe_str pa_nil)))
      (pss_cons (ps_if (PW.pt (pw_or (pt_cmpR op_ne (pe_ix ix_list (pv 2) pe_int (fun _ _ => rfl)) pe_str (nomark _)) (pw_or (pt_cmpR op_ne (pe_callB call_len rfl T.n_len boot_len (pa_cons (pv 2) pa_nil)) pe_int (nomark _)) (pw_or1 (pt_cmp (pc_isN (pe_fn F__law_key hr (by decide) rfl (pa_cons (pe_ix ix_list (pv 2) pe_int (fun _ _ => rfl)) pa_nil)))))))) (pss_one (ps_ret pe_int)) pss_nil)
      (pss_cons (ps_set (i := 3) sc_law_read.nd rfl (by first | exact Or.inl rfl | exact Or.inr rfl) pe_dnewK)
      (pss_cons (ps_set (i := 4) sc_law_read.nd rfl (by first | exact Or.inl rfl | exact Or.inr rfl) (pe_lst pa_nil))
      (pss_cons (ps_set (i := 5) sc_law_read.nd rfl (by first | exact Or.inl rfl | exact Or.inr rfl) pe_str)
      (pss_cons (ps_for PassesOwn.never rfl (pi_range2 rfl T.n_range (pa_cons pe_int (pa_cons (pe_callB call_len rfl T.n_len boot_len (pa_cons (pv 1) pa_nil)) pa_nil))) (pg_name (i := 6) sc_law_read.nd rfl (by first | exact Or.inl rfl | exact Or.inr rfl)) (pss_cons (ps_set (i := 2) sc_law_read.nd rfl (by first | exact Or.inl rfl | exact Or.inr rfl) (pe_bm PySem.F.plainAttrs_str PySem.F.slot_str_split PySem.F.type_str_split mt_split (pe_ix ix_list (pv 1) (pv 6) (fun _ _ => rfl)) (pa_cons pe_str pa_nil)))
      (pss_one (ps_if (PW.pt (pw_and (pt_cmpR op_eq (pe_ix ix_list (pv 2) pe_int (fun _ _ => rfl)) pe_str (nomark _)) (pw_and1 (pt_cmpR (op_eqNil (hu0 hr)) (pv 4) (pe_lst pa_nil) (nomark _))))) (pss_cons (ps_set (i := 7) sc_law_read.nd rfl (by first | exact Or.inl rfl | exact Or.inr rfl) (pe_fn F__law_taken hr (by decide) rfl (pa_cons (pv 2) (pa_cons (pv 5) pa_nil))))
      (pss_cons (ps_if (pt_cmp (pc_isN (pv 7))) (pss_one (ps_ret (pv 6))) pss_nil)
      (pss_cons (ps_set (i := 5) sc_law_read.nd rfl (by first | exact Or.inl rfl | exact Or.inr rfl) (pe_ix ix_tup (pv 7) pe_int (fun _ _ => rfl)))
      (pss_one (ps_dput (hu1 hr) (pv 3) (pv 5) (pe_ix ix_tup (pv 7) pe_int (fun _ _ => rfl)) rfl))))) (pss_cons (ps_set (i := 8) sc_law_read.nd rfl (by first | exact Or.inl rfl | exact Or.inr rfl) (pe_fn F__law_owed hr (by decide) rfl (pa_cons (pv 2) pa_nil)))
      (pss_cons (ps_if (PW.pt (pw_or (pt_cmpR op_ne (pe_ix ix_list (pv 2) pe_int (fun _ _ => rfl)) pe_str (nomark _)) (pw_or1 (pt_cmp (pc_isN (pv 8)))))) (pss_one (ps_ret (pv 6))) pss_nil)
      (pss_one (ps_expr (pe_bm PySem.F.plainAttrs_list PySem.F.slot_list_append PySem.F.type_list_append mt_append (pv 4) (pa_cons (pv 8) pa_nil))))))))))
      (pss_one (ps_ret (pe_tup (pa_cons (pe_fn F__law_key hr (by decide) rfl (pa_cons (pe_ix ix_list (pe_bm PySem.F.plainAttrs_str PySem.F.slot_str_split PySem.F.type_str_split mt_split (pe_ix ix_list (pv 1) pe_int (fun _ _ => rfl)) (pa_cons pe_str pa_nil)) pe_int (fun _ _ => rfl)) pa_nil)) (pa_cons (pv 3) (pa_cons (pv 4) pa_nil))))))))))))), ?_⟩
    have hs : sizeLine = 16777216 := sizeLine_eq
    have tl := ok.len
    have wl := ok.few
    have short := ok.short
    refine ⟨_, rfl, rfl, z, "\n", rfl, rfl, (by decide +kernel), (by omega), fun l hl => ?_⟩
    have rO : rowsOf z = (Txt.split z "\n").map fun r => Txt.split r " " := rfl
    obtain ⟨r0, Lr, eL⟩ := split_cons z "\n"
    rw [eL] at wl short rO ⊢
    have s1 := Same.new (o := .lst ((r0 :: Lr).map V.str)) hl
    have e1 : upd H l (.lst ((r0 :: Lr).map V.str)) l = some (.lst ((r0 :: Lr).map V.str)) := upd_same
    generalize upd H l (.lst ((r0 :: Lr).map V.str)) = H1 at s1 e1 ⊢
    have r0l := short r0 (by simp)
    refine ⟨_, rfl, l, _, _, V.str r0, rfl, rfl, SqL.of e1, (atI_nat (j := 0) rfl), rfl, r0, " ", rfl, rfl, (by decide +kernel), (by omega), fun l0 hl0 => ?_⟩
    obtain ⟨u0, wr0, e0⟩ := split_cons r0 " "
    have few0 : (u0 :: wr0).length ≤ 2000 := by rw [← e0]; have := split_le r0 " "; omega
    have short0 : ∀ a ∈ u0 :: wr0, a.length ≤ 1200 := fun a ha => by rw [← e0] at ha; have := part_short ha; omega
    rw [e0]
    have s2 := Same.new (o := .lst ((u0 :: wr0).map V.str)) hl0
    have e2 : upd H1 l0 (.lst ((u0 :: wr0).map V.str)) l0 = some (.lst ((u0 :: wr0).map V.str)) := upd_same
    generalize upd H1 l0 (.lst ((u0 :: wr0).map V.str)) = H2 at s2 e2 ⊢
    have S2 := s1.trans s2
    have rows : rowsOf z = (u0 :: wr0) :: Lr.map fun r => Txt.split r " " := by rw [rO, List.map_cons, e0]
    rw [rows] at no q
    generalize hrest : (Lr.map fun r => Txt.split r " ") = rest at no q
    have no0 : underP (u0 :: wr0) = none → ∀ H', Same H H' → Q (.int 0) H' := fun e => no 0 (readF_0 e)
    refine ⟨_, rfl, l0, _, _, V.str u0, rfl, rfl, SqL.of e2, (atI_nat (j := 0) rfl), rfl, _, rfl, iteNs (fun hne => no0 ?_ _ S2) (fun heq => ?_)⟩
    · match wr0 with
      | [] => rfl
      | [y] => exact if_neg hne
      | _ :: _ :: _ => rfl
    refine ⟨_, rfl, _, _, rfl, .inl ⟨_, SqL.of e2, rfl⟩, rfl, _, rfl, ?_⟩
    rw [strs_len]
    refine iteNl (m := 2) (fun h2 => no0 ?_ _ S2) (fun h2 => ?_)
    · match wr0, h2 with
      | [], _ => rfl
      | [_], h => exact absurd rfl h
      | _ :: _ :: _, _ => rfl
    obtain ⟨y0, rfl⟩ : ∃ y0, wr0 = [y0] := by
      match wr0, h2 with
      | [y], _ => exact ⟨y, rfl⟩
      | [], h => exact absurd h (by simp)
      | _ :: _ :: _, h => exact absurd h (by simp)
    have eU : underP [u0, y0] = keyP y0 := if_pos heq
    refine ⟨_, rfl, l0, _, _, V.str y0, rfl, rfl, SqL.of e2, (atI_nat (j := 1) rfl), y0, rfl, short0 y0 (by simp), fun v0 H3 s3 kn => ?_⟩
    have S3 := S2.trans s3
    rcases kn with ⟨hk0, rfl⟩ | ⟨k0, pk0, hk0, rfl, hkr0⟩
    · exact ⟨_, rfl, iteT (no0 (by rw [eU, hk0]) _ S3)⟩
    refine ⟨_, rfl, iteF ?_⟩
    have hu : underP [u0, y0] = some k0 := by rw [eU, hk0]
    refine fun d hd => ?_
    have s4 := Same.new (o := .dK []) hd
    have e4 : upd H3 d (.dK []) d = some (.dK []) := upd_same
    generalize upd H3 d (.dK []) = H4 at s4 e4 ⊢
    refine ⟨(by show 0 ≤ sizeLine; omega), fun ln hln => ?_⟩
    have s5 := Same.new (o := .lst []) hln
    have e5 : upd H4 ln (.lst []) ln = some (.lst []) := upd_same
    generalize upd H4 ln (.lst []) = H5 at s5 e5 ⊢
    have s45 := s4.trans s5
    have S5 := S3.trans s45
    have fd : H d = none := S3.free hd
    have fn : H ln = none := (S3.trans s4).free hln
    have e15 := ((s2.trans s3).trans s45) _ _ e1
    have lne : l ≠ ln := ne_of_none (s4 _ _ ((s2.trans s3) _ _ e1)) hln
    have d5 := s5 _ _ e4
    have ll : ((r0 :: Lr).map V.str).length = Lr.length + 1 := by rw [List.length_map, List.length_cons]
    have Ll : Lr.length ≤ 59 := by simp only [List.length_cons] at wl; omega
    refine ⟨_, rfl, _, _, rfl, .inl ⟨_, SqL.of e15, rfl⟩, _, _, rfl, ⟨by decide, by decide, by rw [ll]; omega, by rw [ll]; omega⟩, for_range (n := _) (fun i σ H' => ∃ (v2 v6 v7 v8 : Option V) (c : List (Str × Ky)) (n : List Nt) (kvs : List (Key × V)) (ns : List Addr), σ = [some (.str z), some (.ref l), v2, some (.ref d), some (.ref ln), some (.str (lastOf c)), v6, v7, v8] ∧ Kd2 d ln H5 H' ∧ H' d = some (.dK kvs) ∧ A2 (CEn H') kvs c ∧ H' ln = some (.lst (ns.map V.ref)) ∧ A2 (NAt H') ns n ∧ goP c n (i + 1) (rest.drop i) = goP [] [] 1 rest ∧ COk c ∧ c.length ≤ i ∧ n.length ≤ i)
      ⟨_, _, _, _, [], [], [], [], rfl, Kd2.of (Same.refl _), d5, A2.nil, e5, A2.nil, rfl, COk.nil, Nat.zero_le _, Nat.zero_le _⟩ ?_ ?_⟩
    · rintro i σ H7 hi ⟨v2, v6, v7, v8, c, n, kvs, ns, rfl, k7, d7, c7, l7, n7, g7, ok7, cl, nl⟩
      have hi : i < Lr.length := by rw [ll] at hi; omega
      obtain ⟨y, hy⟩ : ∃ y, Lr[i]? = some y := ⟨Lr[i], List.getElem?_eq_getElem hi⟩
      have he : rest[i]? = some (Txt.split y " ") := by rw [← hrest, List.getElem?_map, hy]; rfl
      have yl := short y (.tail _ (List.mem_of_getElem? hy))
      have S7 : Same H H7 := fun a o e => k7 a o (S5 a o e) (ne_of_none e fd) (ne_of_none e fn)
      have hl7 := k7.lst d5 lne e15
      have ha : atI ((r0 :: Lr).map V.str) (1 + (i : Int)) = some (.str y) := by
        rw [show (1 : Int) + i = ((i + 1 : Nat) : Int) by omega]
        exact atI_nat (by rw [List.map_cons, List.getElem?_cons_succ, List.getElem?_map, hy]; rfl)
      refine ⟨_, rfl, _, rfl, l, _, _, V.str y, rfl, rfl, SqL.of hl7, ha, rfl, y, " ", rfl, rfl, (by decide +kernel), (by omega), fun lw hlw => ?_⟩
      obtain ⟨u, wr, ew⟩ := split_cons y " "
      have wfew : (u :: wr).length ≤ 2000 := by rw [← ew]; have := split_le y " "; omega
      have wshort : ∀ a ∈ u :: wr, a.length ≤ 1200 := fun a ha => by rw [← ew] at ha; have := part_short ha; omega
      rw [ew] at he ⊢
      have s7a := Same.new (o := .lst ((u :: wr).map V.str)) hlw
      have wa : upd H7 lw (.lst ((u :: wr).map V.str)) lw = some (.lst ((u :: wr).map V.str)) := upd_same
      generalize upd H7 lw (.lst ((u :: wr).map V.str)) = Ha at s7a wa ⊢
      have Sa := S7.trans s7a
      have ed : rest.drop i = (u :: wr) :: rest.drop (i + 1) := by
        obtain ⟨h1, h2⟩ := List.getElem?_eq_some_iff.mp he
        rw [← h2, ← List.drop_eq_getElem_cons h1]
      rw [ed] at g7
      have ret : ∀ H', Same H H' → stepP c n (u :: wr) = none → Q (.int (1 + (i : Int))) H' := fun H' s' e => by
        rw [goP_none e] at g7
        have := no (i + 1) (readF_l hu g7.symm) H' s'
        rwa [show (1 : Int) + i = ((i + 1 : Nat) : Int) by omega]
      refine ⟨_, rfl, lw, _, _, V.str u, rfl, rfl, SqL.of wa, (atI_nat (j := 0) rfl), rfl, _, rfl, iteEs (fun hut => ?_) (fun hut => ?_)⟩
      · refine ⟨_, rfl, (by show 0 ≤ sizeLine; omega), fun lb hlb => ?_⟩
        have sab := Same.new (o := .lst []) hlb
        have eb : upd Ha lb (.lst []) lb = some (.lst []) := upd_same
        generalize upd Ha lb (.lst []) = Hb at sab eb ⊢
        have s7b := s7a.trans sab
        have Sb := Sa.trans sab
        have wb := sab _ _ wa
        have hhd : (u :: wr).head? = some "take" := by rw [hut]; rfl
        refine ⟨ln, lb, _, rfl, rfl, SqL.of (s7b _ _ l7), SqL.of eb, _, rfl, ?_⟩
        have nie : (ns.map V.ref).isEmpty = n.isEmpty := by
          have := n7.1
          cases ns <;> cases n <;> first | rfl | cases this
        rw [nie]
        cases hne : n.isEmpty with
        | false =>
          refine iteF ?_
          have hst : ¬ ((u :: wr).head? = some "take" ∧ n.isEmpty = true) := fun y => by rw [hne] at y; exact absurd y.2 (by decide)
          refine ⟨_, rfl, lw, u :: wr, rfl, ⟨wb, wfew, wshort⟩, fun hno H8 s8 => ?_, fun x hx p H8 s8 na => ?_⟩
          · have S8 := Sb.trans s8
            have bad : stepP c n (u :: wr) = none := by
              rw [stepP_owe hst, hno]
              split <;> rfl
            refine ⟨_, rfl, lw, _, _, V.str u, rfl, rfl, SqL.of (s8 _ _ wb), (atI_nat (j := 0) rfl), rfl, _, rfl, iteNs (fun _ => ⟨_, rfl, ret _ S8 bad⟩) (fun _ => ⟨_, rfl, _, rfl, iteT ⟨_, rfl, ret _ S8 bad⟩⟩)⟩
          · have S8 := Sb.trans s8
            refine ⟨_, rfl, lw, _, _, V.str u, rfl, rfl, SqL.of (s8 _ _ wb), (atI_nat (j := 0) rfl), rfl, _, rfl, iteNs (fun hnq => ⟨_, rfl, ret _ S8 ?_⟩) (fun heq => ⟨_, rfl, _, rfl, iteF ?_⟩)⟩
            · have hh : ¬ ((u :: wr).head? = some "owe") := fun y => hnq (Option.some.inj y)
              rw [stepP_owe hst, if_neg hh]
              rfl
            · have hsp : stepP c n (u :: wr) = some (.inr x) := by
                have hh : (u :: wr).head? = some "owe" := by rw [heq]; rfl
                rw [stepP_owe hst, if_pos hh, hx]
                rfl
              rw [goP_inr hsp] at g7
              have s78 := s7b.trans s8
              have l8 := s78 _ _ l7
              have d8 := s78 _ _ d7
              refine ⟨_, rfl, .inl ⟨rfl, _, SqL.of l8⟩, _, rfl, ln, _, _, rfl, rfl, l8, by rw [List.length_map, n7.1]; omega, ?_⟩
              have u8 : Kd2 d ln H8 (upd H8 ln (.lst (ns.map V.ref ++ [.ref p]))) := Kd2.updL
              have t8 := u8.tp d8 l8
              have t78 : TpIn H7 (upd H8 ln (.lst (ns.map V.ref ++ [.ref p]))) := fun a o e k => t8 a o (s78 a o e) k
              refine ⟨_, _, _, _, c, n ++ [x], kvs, ns ++ [p], rfl, (k7.trans (Kd2.of s78)).trans u8, ?_, c7.imp fun _ _ e => e.t t78, by rw [List.map_append]; exact upd_same, (n7.imp fun _ _ e => e.t t78).app (A2.one (na.t t8)), g7, ok7, by omega, by simp; omega⟩
              rw [upd_ne (fun y => by rw [← y, d8] at l8; cases l8)]
              exact d8
        | true =>
          have hn0 : n = [] := List.isEmpty_iff.mp hne
          subst hn0
          refine iteT ?_
          refine ⟨_, rfl, _, rfl, lw, u :: wr, lastOf c, rfl, ⟨wb, wfew, wshort⟩, hhd, fun hno H8 s8 => ?_, fun t ht hlt p pk H8 s8 hk8 hp8 => ?_⟩
          · have bad : stepP c [] (u :: wr) = none := by
              rw [stepP_take hhd]
              cases e : takeP (u :: wr) with
              | none => rfl
              | some t => show (if ltZ (lastOf c) t.1 then some (Sum.inl t) else none : Option ((Str × Ky) ⊕ Nt)) = none; rw [if_neg (hno t e)]
            exact ⟨_, rfl, _, rfl, iteT ⟨_, rfl, ret _ (Sb.trans s8) bad⟩⟩
          · refine ⟨_, rfl, _, rfl, iteF ?_⟩
            have hsp : stepP c [] (u :: wr) = some (.inl t) := by
              rw [stepP_take hhd, ht]
              show (if ltZ (lastOf c) t.1 then some (Sum.inl t) else none : Option ((Str × Ky) ⊕ Nt)) = _
              rw [if_pos hlt]
            obtain ⟨_, w1, w2⟩ := takeP_some ht
            rw [goP_inl hsp] at g7
            have s78 := s7b.trans s8
            have l8 := s78 _ _ l7
            have d8 := s78 _ _ d7
            have vn : valV kvs (Sum.inr t.1) = none := cen_none c7 (ok7.fresh hlt)
            refine ⟨_, rfl, p, _, _, V.str t.1, rfl, rfl, SqT.of hp8, rfl, _, rfl, p, _, _, V.ref pk, rfl, rfl, SqT.of hp8, rfl, _, rfl, _, rfl, d, _, rfl, DPut.k (k := Sum.inr t.1) d8 (by rw [c7.1]; omega), ?_⟩
            rw [putK_new _ vn]
            have u8 : Kd2 d ln H8 (upd H8 d (.dK (kvs ++ [(Sum.inr t.1, .ref pk)]))) := Kd2.updD
            have t8 := u8.tp d8 l8
            have t78 : TpIn H7 (upd H8 d (.dK (kvs ++ [(Sum.inr t.1, .ref pk)]))) := fun a o e k => t8 a o (s78 a o e) k
            refine ⟨_, _, _, _, c ++ [t], [], kvs ++ [(Sum.inr t.1, .ref pk)], ns, by rw [lastOf_snoc]; rfl, (k7.trans (Kd2.of s78)).trans u8, upd_same, (c7.imp fun _ _ e => e.t t78).app (A2.one ⟨rfl, pk, rfl, t8.tup hk8⟩), ?_, n7.imp fun _ _ e => e.t t78, g7, ok7.snoc w1 w2 hlt, by simp; omega, by simp⟩
            rw [upd_ne (fun y => by rw [y, d8] at l8; cases l8)]
            exact l8
      · refine iteF ?_
        have hst : ¬ ((u :: wr).head? = some "take" ∧ n.isEmpty = true) := fun y => hut (Option.some.inj y.1)
        refine ⟨_, rfl, lw, u :: wr, rfl, ⟨wa, wfew, wshort⟩, fun hno H8 s8 => ?_, fun x hx p H8 s8 na => ?_⟩
        · have S8 := Sa.trans s8
          have bad : stepP c n (u :: wr) = none := by
            rw [stepP_owe hst, hno]
            split <;> rfl
          refine ⟨_, rfl, lw, _, _, V.str u, rfl, rfl, SqL.of (s8 _ _ wa), (atI_nat (j := 0) rfl), rfl, _, rfl, iteNs (fun _ => ⟨_, rfl, ret _ S8 bad⟩) (fun _ => ⟨_, rfl, _, rfl, iteT ⟨_, rfl, ret _ S8 bad⟩⟩)⟩
        · have S8 := Sa.trans s8
          refine ⟨_, rfl, lw, _, _, V.str u, rfl, rfl, SqL.of (s8 _ _ wa), (atI_nat (j := 0) rfl), rfl, _, rfl, iteNs (fun hnq => ⟨_, rfl, ret _ S8 ?_⟩) (fun heq => ⟨_, rfl, _, rfl, iteF ?_⟩)⟩
          · have hh : ¬ ((u :: wr).head? = some "owe") := fun y => hnq (Option.some.inj y)
            rw [stepP_owe hst, if_neg hh]
            rfl
          · have hsp : stepP c n (u :: wr) = some (.inr x) := by
              have hh : (u :: wr).head? = some "owe" := by rw [heq]; rfl
              rw [stepP_owe hst, if_pos hh, hx]
              rfl
            rw [goP_inr hsp] at g7
            have s78 := s7a.trans s8
            have l8 := s78 _ _ l7
            have d8 := s78 _ _ d7
            refine ⟨_, rfl, .inl ⟨rfl, _, SqL.of l8⟩, _, rfl, ln, _, _, rfl, rfl, l8, by rw [List.length_map, n7.1]; omega, ?_⟩
            have u8 : Kd2 d ln H8 (upd H8 ln (.lst (ns.map V.ref ++ [.ref p]))) := Kd2.updL
            have t8 := u8.tp d8 l8
            have t78 : TpIn H7 (upd H8 ln (.lst (ns.map V.ref ++ [.ref p]))) := fun a o e k => t8 a o (s78 a o e) k
            refine ⟨_, _, _, _, c, n ++ [x], kvs, ns ++ [p], rfl, (k7.trans (Kd2.of s78)).trans u8, ?_, c7.imp fun _ _ e => e.t t78, by rw [List.map_append]; exact upd_same, (n7.imp fun _ _ e => e.t t78).app (A2.one (na.t t8)), g7, ok7, by omega, by simp; omega⟩
            rw [upd_ne (fun y => by rw [← y, d8] at l8; cases l8)]
            exact d8
    · rintro σ H7 ⟨v2, v6, v7, v8, c, n, kvs, ns, rfl, k7, d7, c7, l7, n7, g7, ok7, cl, nl⟩
      rw [List.drop_of_length_le (by rw [ll, ← hrest, List.length_map]; omega)] at g7
      have S7 : Same H H7 := fun a o e => k7 a o (S5 a o e) (ne_of_none e fd) (ne_of_none e fn)
      have hl7 := k7.lst d5 lne e15
      refine ⟨_, rfl, l, _, _, V.str r0, rfl, rfl, SqL.of hl7, (atI_nat (j := 0) rfl), rfl, r0, " ", rfl, rfl, (by decide +kernel), (by omega), fun lx hlx => ?_⟩
      rw [e0]
      have s8 := Same.new (o := .lst (([u0, y0]).map V.str)) hlx
      have e8 : upd H7 lx (.lst (([u0, y0]).map V.str)) lx = some (.lst (([u0, y0]).map V.str)) := upd_same
      generalize upd H7 lx (.lst (([u0, y0]).map V.str)) = H8 at s8 e8 ⊢
      refine ⟨lx, _, _, V.str y0, rfl, rfl, SqL.of e8, (atI_nat (j := 1) rfl), y0, rfl, short0 y0 (by simp), fun v9 H9 s9 kn9 => ?_⟩
      rcases kn9 with ⟨hk9, rfl⟩ | ⟨k9, pk9, hk9, rfl, hkr9⟩
      · rw [hk0] at hk9; cases hk9
      · rw [hk0] at hk9
        cases hk9
        refine ⟨_, rfl, _, rfl, (by show 3 ≤ sizeLine; omega), fun pt hpt => ?_⟩
        have s10 := Same.new (o := .tup [.ref pk9, .ref d, .ref ln]) hpt
        have S10 := (s8.trans s9).trans s10
        exact q (k0, c, n) (readF_r hu g7.symm) pt pk9 d ln _ (S7.trans S10) fd fn ⟨upd_same, s10 _ _ hkr9, ⟨kvs, S10 _ _ d7, c7.imp fun _ _ e => e.t (.of S10)⟩, ns, S10 _ _ l7, n7.imp fun _ _ e => e.t (.of S10)⟩
end
end K78
namespace K78
open PySem L2 PyProof.Rows PySem.SeqAt
theorem mro_B {K : PySem.W.Frag} {C G : Addr} (a : MroX K C G) : PySem.W.mroIn K C (.type "BaseException") = some true := by
  obtain ⟨cd, e1, e2⟩ := a.cd
  unfold PySem.W.mroIn
  rw [e1, Option.bind_some, e2]
  simp [bmVE]
theorem mro_X {K : PySem.W.Frag} {C D G : Addr} (a : MroX K C G) (hg : D ≠ G) : PySem.W.mroIn K C (.ref D) = some (decide (C = D)) := by
  obtain ⟨cd, e1, e2⟩ := a.cd
  unfold PySem.W.mroIn
  rw [e1, Option.bind_some, e2]
  by_cases h : C = D
  · subst h
    simp
  · simp [bmVE, Ne.symm hg, h, Ne.symm h, hg]
section
variable {P : Program} {w : World} {K : PySem.W.Frag} {mg : Str → Option Value} {base : Heap}
variable {ct g : Addr}
structure BHas (P : Program) (w : World) (K : PySem.W.Frag) (mg : Str → Option Value) (base : Heap) (ct g : Addr) : Prop where
  xt : XAt P w K mg base "BadText" 1 "line" ct
  mt : MroX K ct g
  ng : ct ≠ g
def spTo (K : PySem.W.Frag) : Sp := fun vs H Q _ => ∃ v : V, vs = [v] ∧ ((∃ z, v = .str z ∧ TxOk z ∧ (∀ i, readF (rowsOf z) = .inl i → ∀ H', Same H H' → Q (.int (i : Nat)) H') ∧
    ∀ f, readF (rowsOf z) = .inr f → ∀ (p pk d l : Addr) (H' : Hp), Same H H' → H d = none → H l = none → FAd H' p pk d l f → Q (.ref p) H') ∨
  ∃ kd, KdOf K H v kd ∧ kd.isA .str = false ∧ ∀ H', Same H H' → Q (.int 0) H')
abbrev s_law_told : Stmt := top 49
theorem sc_law_told : FnScope ["_law_text", "_law_told_here", "e"] ["_law_text"] (defScope s_law_told) := ⟨rfl, rfl, rfl, by decide +kernel, rfl, by decide +kernel, by decide +kernel⟩
theorem ok_told (T : Txt mg) (X : BHas P w K mg base ct g) (F_read_folder : FnAtX P w K mg base "read_folder" 6 ["text"] (spRF ct K)) (F : TopFn K mg "_law_told" s_law_told ["_law_text"]) : FnAt P w K mg base "_law_told" 7 ["_law_text"] (spTo K) := by
  refine F.at sc_law_told (fun vs H Q E h => ?_) (fun f cdv A outer s H vs Q E hr h => ?_)
  · obtain ⟨v, rfl, _⟩ := h
    rfl
  · obtain ⟨v, rfl, h⟩ := h
    refine ⟨_, (pss_cons (ps_set (i := 1) sc_law_told.nd rfl (by first | exact Or.inl rfl | exact Or.inr rfl) pe_non)
      (pss_cons (ps_tryN rfl rfl
        (fun RX pn E' hc => pss_one (ps_set (i := 1) sc_law_told.nd rfl (by first | exact Or.inl rfl | exact Or.inr rfl) (pe_fnT F_read_folder hc hr (by decide) rfl (pa_cons (pv 0) pa_nil))))
        (phs_cons (i := 2) (D := ct) sc_law_told.nd rfl rfl rfl X.xt.df.mg X.mt.ty X.xt.df.ok.cls (mro_B X.mt) (fun a => pss_one (ps_set (i := 1) sc_law_told.nd rfl (by first | exact Or.inl rfl | exact Or.inr rfl) (pe_xfldK K (pv 2)))) phs_nil))
      (pss_one (ps_ret (pv 1))))), ?_⟩
    have yes : PySem.W.mroIn K ct (.ref ct) = some true := by rw [mro_X X.mt X.ng, decide_eq_true rfl]
    have hx : ∀ {H2 : Hp} {a dx' : Addr} {v : V}, H2 a = some (excR a ct (some dx')) → H2 dx' = some (.xd [("line", v)]) → Exc H2 a ct dx' [("line", v)] := fun h1 h2 => ⟨.inr h1, h2⟩
    refine ⟨_, rfl, v, rfl, ?_⟩
    rcases h with ⟨z, rfl, ok, q0, q1⟩ | ⟨kd, hk, hns, q⟩
    · refine .inl ⟨z, rfl, ok, fun f hf p pk d l H1 s1 fd fl hP => ⟨_, rfl, q1 f hf p pk d l H1 s1 fd fl hP⟩, fun i hi => ?_⟩
      exact fun a dx' H2 s2 y1 y2 => ⟨a, rfl, _, _, y1, .inl ⟨yes, ⟨_, rfl, a, ct, dx', _, _, rfl, hx y1 y2, X.xt.df.ok, rfl, ⟨_, rfl, q0 i hi _ s2⟩⟩⟩⟩
    · refine .inr ⟨kd, hk, hns, ?_⟩
      exact fun a dx' H2 s2 y1 y2 => ⟨a, rfl, _, _, y1, .inl ⟨yes, ⟨_, rfl, a, ct, dx', _, _, rfl, hx y1 y2, X.xt.df.ok, rfl, ⟨_, rfl, q _ s2⟩⟩⟩⟩
end
end K78
namespace K78
open PySem L2 PyProof.Rows PySem.SeqAt
def keyD (k : Str × Nat) : PyData := .tuple [.str k.1, .int k.2]
theorem word_ok {z : Str} (h : isWordZ z = true) : PyData.strOk z = true := by
  unfold isWordZ at h
  rw [Bool.and_eq_true] at h
  have h := h.2
  unfold PyData.strOk
  rw [← Array.all_toList, List.all_eq_true]
  intro c hc
  have := List.all_eq_true.mp h c hc
  unfold isLow at this
  simp only [Bool.and_eq_true, decide_eq_true_eq] at this ⊢
  omega
theorem nm_ok {j : Nat} (h : j < 4) : PyData.strOk (nm j) = true := by
  rcases j4 h with rfl | rfl | rfl | rfl <;> decide +kernel
theorem key_shaped {k : Str × Nat} (h : isWordZ k.1 = true ∧ k.2 < 100) : shaped (keyD k) = true := by
  unfold shaped
  rw [Bool.and_eq_true]
  have w := word_ok h.1
  refine ⟨by simp [keyD, PyData.canLay0, PyData.canLayAll0, w], ?_⟩
  simp [keyD, PyData.depth, PyData.depthAll]
theorem key_rd {K : PySem.W.Frag} {H : Hp} {p : Addr} {k : Str × Nat} (h : KeyR H p k) : RdD K H (.ref p) (keyD k) := .tup (SqT.of h) (.cons (.str _) (.cons (.int _) .nil))
def prD (x : Str × Str) : PyData := .tuple [.str x.1, .str x.2]
def rdT (r : List (Str × Str)) : PyData := .tuple (r.map prD)
def ntD (x : Nt) : PyData := .tuple [.str x.d, .str x.n, keyD x.o, rdT x.r]
theorem jw_ok {z : Str} (h : (jP z).isSome = true) : PyData.strOk z = true := by
  obtain ⟨j, hj⟩ := Option.isSome_iff_exists.mp h
  obtain ⟨e, h4⟩ := jP_some hj
  rw [e]; exact nm_ok h4
theorem prs_lay : ∀ {r : List (Str × Str)}, r.all pairOk = true → PyData.canLayAll0 (r.map prD) = true ∧ PyData.depthAll (r.map prD) ≤ 1
  | [], _ => ⟨rfl, by simp [PyData.depthAll]⟩
  | p :: r, h => by
    rw [List.all_cons, Bool.and_eq_true] at h
    have h1 := h.1
    unfold pairOk at h1
    rw [Bool.and_eq_true] at h1
    obtain ⟨a, b⟩ := prs_lay h.2
    rw [List.map_cons]
    refine ⟨?_, ?_⟩
    · rw [PyData.canLayAll0, a]
      simp [prD, PyData.canLay0, PyData.canLayAll0, jw_ok h1.1, word_ok h1.2]
    · rw [PyData.depthAll]
      have : (prD p).depth = 1 := by simp [prD, PyData.depth, PyData.depthAll]
      omega
theorem nt_lay {x : Nt} (h : NtOk x) : (ntD x).canLay0 = true ∧ (ntD x).depth ≤ 3 := by
  obtain ⟨a, b⟩ := prs_lay h.r
  refine ⟨?_, ?_⟩
  · simp [ntD, rdT, keyD, PyData.canLay0, PyData.canLayAll0, a, word_ok h.d, word_ok h.n, word_ok h.o.1]
  · simp only [ntD, rdT, keyD, PyData.depth, PyData.depthAll]
    omega
theorem nts_lay : ∀ {ns : List Nt}, (∀ x ∈ ns, NtOk x) → PyData.canLayAll0 (ns.map ntD) = true ∧ PyData.depthAll (ns.map ntD) ≤ 3
  | [], _ => ⟨rfl, by simp [PyData.depthAll]⟩
  | x :: ns, h => by
    obtain ⟨a, b⟩ := nts_lay fun y hy => h y (List.mem_cons_of_mem _ hy)
    obtain ⟨c, d⟩ := nt_lay (h x List.mem_cons_self)
    rw [List.map_cons]
    refine ⟨?_, ?_⟩
    · rw [PyData.canLayAll0, a, c]; rfl
    · rw [PyData.depthAll]; omega
theorem nts_shaped {ns : List Nt} (h : ∀ x ∈ ns, NtOk x) : shaped (.list (ns.map ntD)) = true := by
  obtain ⟨a, b⟩ := nts_lay h
  unfold shaped
  rw [Bool.and_eq_true, decide_eq_true_eq]
  refine ⟨by simp [PyData.canLay0, a], ?_⟩
  simp only [PyData.depth]
  omega
theorem prs_rd {K : PySem.W.Frag} {H : Hp} : ∀ {as : List Addr} {r : List (Str × Str)}, A2 (PrR H) as r → RdDs K H (as.map V.ref) (r.map prD)
  | [], [], _ => .nil
  | [], _ :: _, h => by cases h.1
  | _ :: _, [], h => by cases h.1
  | a :: as, p :: r, h => by
    obtain ⟨h1, h2⟩ := h.inv
    exact .cons (.tup (SqT.of h1) (.cons (.str _) (.cons (.str _) .nil))) (prs_rd h2)
theorem nt_rd {K : PySem.W.Frag} {H : Hp} {p : Addr} {x : Nt} (h : NAt H p x) : RdD K H (.ref p) (ntD x) := by
  obtain ⟨po, pr, h1, h2, as, h3, h4⟩ := h
  exact .tup (SqT.of h1) (.cons (.str _) (.cons (.str _) (.cons (key_rd h2) (.cons (.tup (SqT.of h3) (prs_rd h4)) .nil))))
theorem nts_rd {K : PySem.W.Frag} {H : Hp} : ∀ {ps : List Addr} {ns : List Nt}, A2 (NAt H) ps ns → RdDs K H (ps.map V.ref) (ns.map ntD)
  | [], [], _ => .nil
  | [], _ :: _, h => by cases h.1
  | _ :: _, [], h => by cases h.1
  | a :: as, p :: r, h => by
    obtain ⟨h1, h2⟩ := h.inv
    exact .cons (nt_rd h1) (nts_rd h2)
theorem cen_like {K : PySem.W.Frag} {H : Hp} {k1 k2 : List (Key × V)} {c1 c2 : List (Str × Ky)} (h1 : A2 (CEn H) k1 c1) (h2 : A2 (CEn H) k2 c2) (nd : (c2.map (·.1)).Nodup) (sub : ∀ t ∈ c1, t ∈ c2) (hl : c1.length = c2.length) (ok : ∀ t ∈ c1, KyOk t.2) : DLike K H k1 k2 := by
  refine ⟨by rw [h1.1, h2.1, hl], fun k v hm => ?_⟩
  obtain ⟨i, hi⟩ := List.getElem?_of_mem hm
  obtain ⟨t, ht, e1, p, e2, hp⟩ := h1.at hi
  dsimp only at e1 e2
  subst e1 e2
  have hm1 := List.mem_of_getElem? ht
  obtain ⟨p', e3, hp'⟩ := cen_get h2 nd (sub t hm1)
  exact ⟨.ref p', e3, keyD t.2, key_rd hp, key_rd hp', key_shaped (ok t hm1)⟩
theorem fad_like {K : PySem.W.Frag} {H : Hp} {p pk d l p' pk' d' l' : Addr} {f : Fd} (h : FAd H p pk d l f) (h' : FAd H p' pk' d' l' f) (ok : FdOk f) : Paired (LikeD K H) [.ref pk, .ref d, .ref l] [.ref pk', .ref d', .ref l'] := by
  obtain ⟨_, h2, ⟨kvs, h3, h4⟩, ps, h5, h6⟩ := h
  obtain ⟨_, g2, ⟨kvs', g3, g4⟩, ps', g5, g6⟩ := h'
  have sh := nts_shaped fun x hx => (ok.n x hx).1
  exact .cons (.dat ⟨keyD f.1, key_rd h2, key_rd g2, key_shaped ok.k⟩) (.cons (.dct h3 g3 (cen_like h4 g4 ok.nd (fun _ h => h) rfl fun t ht => (ok.c t ht).2)) (.cons (.dat ⟨_, .lst (SqL.of h5) (nts_rd h6), .lst (SqL.of g5) (nts_rd g6), sh⟩) .nil))
theorem FAd.kd2 {H H' : Hp} {p pk d l d1 l1 : Addr} {f : Fd} {kvs1 : List (Key × V)} {xs1 : List V} (h : FAd H p pk d l f) (k : Kd2 d1 l1 H H') (hd1 : H d1 = some (.dK kvs1)) (hl1 : H l1 = some (.lst xs1)) (nd : d ≠ d1) (nl : l ≠ l1) : FAd H' p pk d l f := by
  have t := k.tp hd1 hl1
  obtain ⟨h1, h2, ⟨kvs, h3, h4⟩, ps, h5, h6⟩ := h
  exact ⟨t.tup h1, t.tup h2, ⟨kvs, k _ _ h3 nd (fun y => by subst y; rw [hl1] at h3; cases h3), h4.imp fun _ _ e => e.t t⟩, ps, k _ _ h5 (fun y => by subst y; rw [hd1] at h5; cases h5) nl, h6.imp fun _ _ e => e.t t⟩
theorem read_ok {z : Str} {f : Fd} (tx : TxOk z) (h : readF (rowsOf z) = .inr f) : FdOk f ∧ textF f = z ∧ sortedS (f.2.1.map (·.1)) = true := by
  obtain ⟨hr, hk, hc, hn⟩ := readF_some h
  have few := tx.few
  have len : (rowsF f).length ≤ 60 := by rw [← hr]; unfold rowsOf; rw [List.length_map]; exact few
  unfold rowsF at len
  simp only [List.length_cons, List.length_append, List.length_map] at len
  refine ⟨⟨hk, hc.ok, hc.nodup, fun x hx => ⟨hn x hx, ?_⟩, by omega, by omega⟩, ?_, ?_⟩
  · have hm : oweW x ∈ rowsOf z := by
      rw [hr]
      unfold rowsF
      exact .tail _ (List.mem_append.mpr (.inr (List.mem_map.mpr ⟨x, hx, rfl⟩)))
    unfold rowsOf at hm
    obtain ⟨r, hr1, hr2⟩ := List.mem_map.mp hm
    have h1 := tx.short r hr1
    have h2 := split_le r " "
    have h3 := oweW_len x
    rw [← hr2] at h3
    omega
  · have e1 : (rowsF f).map rowZ = Txt.split z "\n" := by
      rw [← hr]
      unfold rowsOf
      rw [List.map_map]
      refine (List.map_congr_left fun r _ => ?_).trans (List.map_id _)
      show Txt.join " " (Txt.split r " ") = r
      rw [tjoin]
      exact StrLaws.join_split r " "
    unfold textF
    rw [e1, tjoin]
    exact StrLaws.join_split z "\n"
  · refine sortedS_of_pairwise _ ?_
    rw [List.pairwise_map]
    refine hc.asc.imp fun {a b} hab => ?_
    rw [ltCps_eq]
    exact decide_eq_false (List.lt_asymm hab)
theorem sort_self {c : List (Str × Ky)} (nd : (c.map (·.1)).Nodup) : (c.map (·.1)).map (fun z => (z, lk c z)) = c := by
  rw [List.map_map]
  refine (List.map_congr_left fun t ht => ?_).trans (List.map_id _)
  show (t.1, lk c t.1) = t
  rw [lk_mem nd ht]
theorem hu68 {A : Around} {k : Nat} (hr : Room k A) : A.units + 68 < cLine := by have := hr.un; omega
section
variable {P : Program} {w : World} {K : PySem.W.Frag} {mg : Str → Option Value} {base : Heap}
def spRt : Sp := fun vs H Q _ => ∃ z : Str, vs = [.str z] ∧ TxOk z ∧ ∀ H', Same H H' → Q (.bl true) H'
abbrev s_law_right : Stmt := top 50
theorem sc_law_right : FnScope ["_law_text", "_law_told_here", "_law_due"] ["_law_text"] (defScope s_law_right) := ⟨rfl, rfl, rfl, by decide +kernel, rfl, by decide +kernel, by decide +kernel⟩
theorem ok_rt (T : Txt mg) (F__law_told : FnAt P w K mg base "_law_told" 7 ["_law_text"] (spTo K)) (F__law_read : FnAt P w K mg base "_law_read" 4 ["_law_text"] spLRd) (F_show_folder : FnAt P w K mg base "show_folder" 3 ["folder"] spSF) (F : TopFn K mg "_law_right" s_law_right ["_law_text"]) : FnAt P w K mg base "_law_right" 8 ["_law_text"] spRt := by
  refine F.at sc_law_right (fun vs H Q E h => ?_) (fun f cdv A outer s H vs Q E hr h => ?_)
  · obtain ⟨z, rfl, _⟩ := h
    rfl
  · obtain ⟨z, rfl, tx, q⟩ := h
    refine ⟨_, (pss_cons (ps_set (i := 1) sc_law_right.nd rfl (by first | exact Or.inl rfl | exact Or.inr rfl) (pe_fn F__law_told hr (by decide) rfl (pa_cons (pv 0) pa_nil)))
      (pss_cons (ps_set (i := 2) sc_law_right.nd rfl (by first | exact Or.inl rfl | exact Or.inr rfl) (pe_fn F__law_read hr (by decide) rfl (pa_cons (pv 0) pa_nil)))
      (pss_cons (ps_if (pt_val (pe_callB (call_isKd .int (by simp)) rfl T.n_isinstance boot_isinstance (pa_cons (pv 2) (pa_cons (pe_bltn (v := .ty "int") rfl T.n_int boot_int rfl) pa_nil)))) (pss_one (ps_ret (pe_and (pe_callB (call_isKd .int (by simp)) rfl T.n_isinstance boot_isinstance (pa_cons (pv 1) (pa_cons (pe_bltn (v := .ty "int") rfl T.n_int boot_int rfl) pa_nil))) (pe_and (pe_not (pe_callB (call_isKd .bl (by simp)) rfl T.n_isinstance boot_isinstance (pa_cons (pv 1) (pa_cons (pe_bltn (v := .ty "bool") rfl T.n_bool boot_bool rfl) pa_nil)))) (pe_one (pe_cmpR op_eq (pv 1) (pv 2) (nomark _))))))) pss_nil)
      (pss_cons (ps_if (PW.pt (pw_or (pt_not (pt_val (pe_callB (call_isKd .tup (by simp)) rfl T.n_isinstance boot_isinstance (pa_cons (pv 1) (pa_cons (pe_bltn (v := .ty "tuple") rfl T.n_tuple boot_tuple rfl) pa_nil))))) (pw_or (pt_cmpR (op_neTupD (hu68 hr)) (pv 1) (pv 2) (nomark _)) (pw_or (pt_not (pt_val (pe_callB call_isinst rfl T.n_isinstance boot_isinstance (pa_cons (pe_ix ix_tup (pv 1) pe_int (fun _ _ => rfl)) (pa_cons (pe_bltn (v := .ty "dict") rfl T.n_dict boot_dict rfl) pa_nil))))) (pw_or1 (pt_not (pt_val (pe_callB call_isinst rfl T.n_isinstance boot_isinstance (pa_cons (pe_ix ix_tup (pv 1) pe_int (fun _ _ => rfl)) (pa_cons (pe_bltn (v := .ty "list") rfl T.n_list boot_list rfl) pa_nil)))))))))) (pss_one (ps_ret pe_bl)) pss_nil)
      (pss_cons (ps_if (pt_cmpR op_ne (pe_fn F_show_folder hr (by decide) rfl (pa_cons (pv 1) pa_nil)) (pv 0) (nomark _)) (pss_one (ps_ret pe_bl)) pss_nil)
      (pss_cons (ps_expr (pe_bm0 PySem.F.plainAttrs_dict PySem.F.slot_dict_clear PySem.F.type_dict_clear mt_dclear (pe_ix ix_tup (pv 1) pe_int (fun _ _ => rfl))))
      (pss_cons (ps_expr (pe_bm0 PySem.F.plainAttrs_list PySem.F.slot_list_clear PySem.F.type_list_clear mt_clear (pe_ix ix_tup (pv 1) pe_int (fun _ _ => rfl))))
      (pss_one (ps_ret (pe_cmpR (op_eqTupD (hu68 hr)) (pe_fn F__law_told hr (by decide) rfl (pa_cons (pv 0) pa_nil)) (pv 2) (nomark _))))))))))), ?_⟩
    have hs : sizeLine = 16777216 := sizeLine_eq
    refine ⟨_, rfl, .str z, rfl, .inl ⟨z, rfl, tx, fun i hi H1 s1 => ?_, fun f hf p pk d l H1 s1 fd fl hP => ?_⟩⟩
    · refine ⟨_, rfl, z, rfl, tx, fun i' hi' H2 s2 => ?_, fun f hf => by rw [hi] at hf; cases hf⟩
      rw [hi] at hi'
      cases hi'
      refine ⟨_, rfl, _, .int, rfl, TyOf.int _, _, rfl, iteT ?_⟩
      refine ⟨_, rfl, _, .int, rfl, TyOf.int _, _, rfl, iteT ?_⟩
      refine ⟨_, rfl, _, .int, rfl, TyOf.int _, _, rfl, _, rfl, iteT ⟨_, rfl, _, rfl, rfl, ?_⟩⟩
      rw [decide_eq_true (rfl : V.int (i : Nat) = V.int (i : Nat))]
      exact q _ (s1.trans s2)
    · refine ⟨_, rfl, z, rfl, tx, (fun i hi => by rw [hf] at hi; cases hi), fun f' hf' p2 pk2 d2 l2 H2 s2 fd2 fl2 hP2 => ?_⟩
      rw [hf] at hf'
      cases hf'
      obtain ⟨ok, et, so⟩ := read_ok tx hf
      have hP1 := hP.same s2
      refine ⟨_, rfl, _, .tup, rfl, TyOf.tup hP2.at_, _, rfl, iteF ?_⟩
      refine ⟨_, rfl, _, .tup, rfl, TyOf.tup hP1.at_, _, rfl, iteF ?_⟩
      refine ⟨_, rfl, _, rfl, p, p2, _, _, rfl, rfl, SqT.of hP1.at_, SqT.of hP2.at_, fad_like hP1 hP2 ok, _, rfl, iteF ?_⟩
      obtain ⟨kvs, hd1, hc1⟩ := hP1.dct
      obtain ⟨ps, hl1, hn1⟩ := hP1.lst
      refine ⟨_, rfl, p, _, _, .ref d, rfl, rfl, SqT.of hP1.at_, rfl, _, _, _, _, true, rfl, rfl, TyOf.dK hd1, kit_same, _, rfl, iteF ?_⟩
      refine ⟨_, rfl, p, _, _, .ref l, rfl, rfl, SqT.of hP1.at_, rfl, _, _, _, _, true, rfl, rfl, TyOf.lst hl1, kit_same, _, rfl, iteF ?_⟩
      refine ⟨_, rfl, p, pk, d, l, f, rfl, hP1, ok, fun zs hpz hsz H3 s3 => ?_⟩
      have ez : zs = f.2.1.map (·.1) := sorted_one hsz so hpz
      have et2 : textF (f.1, zs.map (fun z => (z, lk f.2.1 z)), f.2.2) = z := by
        rw [ez, sort_self ok.nd]
        exact et
      rw [et2]
      refine ⟨_, rfl, rfl, _, rfl, iteNs (fun y => absurd rfl y) (fun _ => ?_)⟩
      have hP3 := hP1.same s3
      have hP23 := hP2.same s3
      have hd3 := s3 _ _ hd1
      have hl3 := s3 _ _ hl1
      have ndl : l ≠ d := fun y => by subst y; rw [hd1] at hl1; cases hl1
      refine ⟨_, rfl, p, _, _, .ref d, rfl, rfl, SqT.of hP3.at_, rfl, .inr (.inr (.inl ⟨rfl, .inl ⟨_, hd3⟩⟩)), d, kvs, rfl, rfl, hd3, ?_⟩
      have k4 : Kd2 d l H3 (upd H3 d (.dK [])) := Kd2.updD
      have p4 : upd H3 d (.dK []) p = some (.tup [.ref pk, .ref d, .ref l]) := (k4.tp hd3 hl3).tup hP3.at_
      have l4 : upd H3 d (.dK []) l = some (.lst (ps.map V.ref)) := by rw [upd_ne ndl]; exact hl3
      generalize upd H3 d (.dK []) = H4 at k4 p4 l4 ⊢
      refine ⟨_, rfl, p, _, _, .ref l, rfl, rfl, SqT.of p4, rfl, .inl ⟨rfl, _, SqL.of l4⟩, l, _, rfl, rfl, l4, ?_⟩
      have k5 : Kd2 d l H3 (upd H4 l (.lst [])) := k4.trans Kd2.updL
      generalize upd H4 l (.lst []) = H5 at k5 ⊢
      have nd2 : d2 ≠ d := fun y => by
        obtain ⟨kv, hd0, _⟩ := hP.dct
        rw [y, hd0] at fd2; cases fd2
      have nl2 : l2 ≠ l := fun y => by
        obtain ⟨p0, hl0, _⟩ := hP.lst
        rw [y, hl0] at fl2; cases fl2
      have hP5 := hP23.kd2 k5 hd3 hl3 nd2 nl2
      have S5 : Same H H5 := fun a o e => k5 a o (s3 _ _ (s2 _ _ (s1 _ _ e))) (ne_of_none e fd) (ne_of_none e fl)
      refine ⟨_, rfl, .str z, rfl, .inl ⟨z, rfl, tx, (fun i hi => by rw [hf] at hi; cases hi), fun f' hf' p6 pk6 d6 l6 H6 s6 _ _ hP6 => ?_⟩⟩
      rw [hf] at hf'
      cases hf'
      exact ⟨_, rfl, p6, p2, _, _, rfl, rfl, SqT.of hP6.at_, SqT.of (s6 _ _ hP5.at_), fad_like hP6 (hP5.same s6) ok, q _ (S5.trans s6)⟩
end
end K78
namespace K78
open PySem L2 PyProof.Rows
def Asc (z : Str) : Prop := ∀ c ∈ z.cps.toList, c < 128 ∧ c ≠ 10
def ascB (z : Str) : Bool := z.cps.toList.all fun c => decide (c < 128 ∧ c ≠ 10)
theorem asc_of {z : Str} (h : ascB z = true) : Asc z := fun c hc => of_decide_eq_true (List.all_eq_true.mp h c hc)
theorem Asc.app {a b : Str} (ha : Asc a) (hb : Asc b) : Asc (a ++ b) := fun c hc => by
  rw [app_toList, List.mem_append] at hc
  exact hc.elim (ha c) (hb c)
theorem asc_word {z : Str} (h : isWordZ z = true) : Asc z := fun c hc => by
  unfold isWordZ at h
  rw [Bool.and_eq_true] at h
  have := List.all_eq_true.mp h.2 c hc
  unfold isLow at this
  have := of_decide_eq_true this
  omega
theorem asc_num {n : Nat} (h : n < 100) : Asc (nT n) := fun c hc => by
  have := List.all_eq_true.mp (num2 h).h4 c hc
  unfold isFig at this
  have := of_decide_eq_true this
  omega
theorem asc_key {k : Str × Nat} (h : isWordZ k.1 = true ∧ k.2 < 100) : Asc (keyT k) := ((asc_word h.1).app (asc_of (by decide +kernel))).app (asc_num h.2)
theorem asc_nm (j : Nat) : Asc (nm j) := by
  match j with
  | 0 => exact asc_of (by decide +kernel)
  | 1 => exact asc_of (by decide +kernel)
  | 2 => exact asc_of (by decide +kernel)
  | n + 3 => exact asc_of (z := "changed") (by decide +kernel)
theorem mem_jl {s c : Nat} : ∀ {xs : List (List Nat)}, c ∈ jl s xs → c = s ∨ ∃ x ∈ xs, c ∈ x
  | [], h => by cases h
  | [x], h => .inr ⟨x, List.mem_cons_self, h⟩
  | x :: y :: r, h => by
    have h : c ∈ x ++ s :: jl s (y :: r) := h
    rcases List.mem_append.mp h with h | h
    · exact .inr ⟨x, List.mem_cons_self, h⟩
    · rcases List.mem_cons.mp h with h | h
      · exact .inl h
      · rcases mem_jl h with h | ⟨z, h1, h2⟩
        · exact .inl h
        · exact .inr ⟨z, List.mem_cons_of_mem _ h1, h2⟩
theorem jl_mem {s c : Nat} : ∀ {xs : List (List Nat)} {x : List Nat}, x ∈ xs → c ∈ x → c ∈ jl s xs
  | [], _, h, _ => by cases h
  | [y], x, h, hc => by
    rw [List.mem_singleton] at h
    subst h
    exact hc
  | y :: z :: r, x, h, hc => by
    show c ∈ y ++ s :: jl s (z :: r)
    rcases List.mem_cons.mp h with rfl | h
    · exact List.mem_append_left _ hc
    · exact List.mem_append_right _ (List.mem_cons_of_mem _ (jl_mem h hc))
theorem sp1 : (" " : Str) = ⟨#[32]⟩ := by decide +kernel
theorem nl1 : ("\n" : Str) = ⟨#[10]⟩ := by decide +kernel
theorem asc_join {ws : List Str} (h : ∀ z ∈ ws, Asc z) : Asc (Txt.join " " ws) := fun c hc => by
  rw [sp1, tjoin, join_toList] at hc
  rcases mem_jl hc with rfl | ⟨x, hx, hc⟩
  · decide
  · obtain ⟨z, hz, rfl⟩ := List.mem_map.mp hx
    exact h z hz c hc
theorem asc_split {z : Str} (h : Asc z) : ∀ x ∈ Txt.split z " ", Asc x := fun x hx c hc => by
  have e := StrLaws.join_split z " "
  refine h c ?_
  rw [← e, sp1, join_toList]
  rw [sp1] at hx
  exact jl_mem (List.mem_map.mpr ⟨x, hx, rfl⟩) hc
structure RowOk (B : Nat) (z : Str) : Prop where
  len : z.length ≤ B
  asc : Asc z
theorem tx_ok {rs : List Str} (h : ∀ z ∈ rs, RowOk 1200 z) (hn : rs.length ≤ 60) : TxOk (Txt.join "\n" rs) := by
  by_cases e : rs = []
  · subst e
    have : Txt.join "\n" [] = Str.empty := rfl
    exact ⟨by decide +kernel, by decide +kernel, by decide +kernel⟩
  · have hs : Txt.split (Txt.join "\n" rs) "\n" = rs := by
      rw [nl1]
      exact split_join e fun z hz m => ((h z hz).asc 10 m).2 rfl
    refine ⟨?_, by rw [hs]; exact hn, fun r hr => (h r (by rw [hs] at hr; exact hr)).len⟩
    have h1 := len_join_le "\n" rs
    have h2 := sum_le fun z hz => (h z hz).len
    have h3 : ("\n" : Str).length = 1 := by decide +kernel
    rw [h3] at h1
    have h4 := Nat.mul_le_mul_right 1200 hn
    omega
theorem atI_get {xs : List V} {r : Int} (h0 : 0 ≤ r) (h1 : r < (xs.length : Int)) : ∃ v, atI xs r = some v ∧ v ∈ xs := by
  obtain ⟨k, rfl, hk⟩ := nat_of h0 h1
  exact ⟨xs[k], atI_nat (List.getElem?_eq_getElem hk), List.getElem_mem hk⟩
structure WdOk (ws : List Str) (B : Nat) : Prop where
  len : (ws.map (·.length)).sum + ws.length ≤ B
  asc : ∀ z ∈ ws, Asc z
theorem WdOk.row {ws : List Str} {B : Nat} (h : WdOk ws B) : RowOk B (Txt.join " " ws) := by
  refine ⟨?_, asc_join h.asc⟩
  have h1 := len_join_le " " ws
  have h2 : (" " : Str).length = 1 := by decide +kernel
  rw [h2] at h1
  have := h.len
  omega
theorem _root_.L2.Oth.add {b p : Addr} {H : Hp} {o : HO} (hb : Box H b) (h : H p = none) : Oth b H (upd H p o) := (Oth.refl hb).new h
theorem up_all : ∀ c : Fin 128, (Unicode.upperOf c.val).all (fun d => decide (d < 128 ∧ (d = 10 → c.val = 10))) = true := by decide +kernel
theorem up_asc {z : Str} (h : Asc z) : Asc (upZ z) := fun d hd => by
  have hd : d ∈ (z.cps.mapIdx fun i c => (Unicode.upperOf c).toArray).flatten := by
    have : d ∈ (upZ z).cps := by simpa using hd
    exact this
  rw [Array.mem_flatten] at hd
  obtain ⟨a, ha, hda⟩ := hd
  rw [Array.mem_mapIdx] at ha
  obtain ⟨i, hi, rfl⟩ := ha
  have hc := h z.cps[i] (by simp)
  have := List.all_eq_true.mp (up_all ⟨z.cps[i], hc.1⟩) d (by simpa using hda)
  have := of_decide_eq_true this
  exact ⟨this.1, fun e => hc.2 (this.2 e)⟩
theorem up_len (z : Str) : (upZ z).length ≤ 3 * z.length := placed_le3 z _ fun _ c => StrLaws.upperOf_le3 c
theorem asc_slice {z : Str} (h : Asc z) (l u : Option Int) : Asc (Txt.slice z l u) := fun c hc => by
  unfold Txt.slice at hc
  split at hc
  · exact h c hc
  · rw [show ∀ l : List Nat, (⟨l.toArray⟩ : Str).cps.toList = l from fun l => rfl] at hc
    obtain ⟨i, _, hi⟩ := List.mem_filterMap.mp hc
    exact h c (by
      have := Array.mem_of_getElem? hi
      simpa using this)
def sumL (ws : List Str) : Nat := (ws.map (·.length)).sum
theorem sum_join (s : Str) : ∀ {ws : List Str}, ws ≠ [] → (Str.join s ws).length + s.length = sumL ws + ws.length * s.length
  | [], h => absurd rfl h
  | [x], _ => by
    show x.length + s.length = (x.length + 0) + 1 * s.length
    omega
  | x :: y :: r, _ => by
    have ih := sum_join s (ws := y :: r) (by simp)
    rw [join_cons s x (by simp), len_app, len_app]
    simp only [sumL, List.map_cons, List.sum_cons, List.length_cons] at ih ⊢
    have e : (r.length + 1 + 1) * s.length = (r.length + 1) * s.length + s.length := by rw [Nat.add_mul (r.length + 1), Nat.one_mul]
    omega
theorem sum_set : ∀ {ws : List Str} {i : Nat} {w w' : Str}, ws[i]? = some w → sumL (ws.set i w') + w.length = sumL ws + w'.length
  | [], i, w, w', h => by simp at h
  | x :: ws, 0, w, w', h => by
    simp only [List.getElem?_cons_zero, Option.some.injEq] at h
    subst h
    simp only [sumL, List.set_cons_zero, List.map_cons, List.sum_cons]
    omega
  | x :: ws, i + 1, w, w', h => by
    rw [List.getElem?_cons_succ] at h
    have := sum_set (w' := w') h
    simp only [sumL, List.set_cons_succ, List.map_cons, List.sum_cons] at this ⊢
    omega
theorem sum_erase : ∀ (ws : List Str) (i : Nat), sumL (ws.eraseIdx i) ≤ sumL ws
  | [], i => by simp [sumL]
  | x :: ws, 0 => by simp [sumL]
  | x :: ws, i + 1 => by
    have := sum_erase ws i
    simp only [sumL, List.eraseIdx_cons_succ, List.map_cons, List.sum_cons] at this ⊢
    omega
theorem wd_split {z : Str} {B : Nat} (h : RowOk B z) : WdOk (Txt.split z " ") (B + 1) := by
  refine ⟨?_, asc_split h.asc⟩
  have e := StrLaws.join_split z " "
  have hp := split_pos z " "
  have h1 := sum_join " " (ws := Txt.split z " ") (fun e => by rw [e] at hp; simp at hp)
  have h2 : (" " : Str).length = 1 := by decide +kernel
  rw [e, h2] at h1
  have := h.len
  show sumL (Txt.split z " ") + _ ≤ _
  omega
theorem WdOk.set {ws : List Str} {B i : Nat} {w w' : Str} (h : WdOk ws (B + 1)) (hi : ws[i]? = some w) (hl : w'.length ≤ 3 * w.length + 7) (ha : Asc w') : WdOk (ws.set i w') (3 * B + 8) := by
  have h1 := sum_set (w' := w') hi
  have h2 := h.len
  have h3 : w.length + ws.length ≤ B + 1 := by
    have : w.length ≤ sumL ws := by
      have := sum_set (w' := "") hi
      have e : ("" : Str).length = 0 := rfl
      omega
    have h2 : sumL ws + ws.length ≤ B + 1 := h2
    omega
  refine ⟨?_, fun y hy => ?_⟩
  · rw [List.length_set]
    show sumL (ws.set i w') + _ ≤ _
    have h2 : sumL ws + ws.length ≤ B + 1 := h2
    have := (List.getElem?_eq_some_iff.mp hi).1
    omega
  · rcases List.mem_or_eq_of_mem_set hy with hy | rfl
    · exact h.asc y hy
    · exact ha
theorem WdOk.erase {ws : List Str} {B : Nat} (h : WdOk ws B) (i : Nat) : WdOk (ws.eraseIdx i) B := by
  refine ⟨?_, fun y hy => h.asc y (List.mem_of_mem_eraseIdx hy)⟩
  have h1 := sum_erase ws i
  have h2 : sumL ws + ws.length ≤ B := h.len
  have h3 := List.length_eraseIdx_le ws i
  show sumL (ws.eraseIdx i) + _ ≤ _
  omega
theorem erase_map : ∀ (ws : List Str) (i : Nat), (ws.map V.str).eraseIdx i = (ws.eraseIdx i).map V.str
  | [], i => by simp
  | x :: ws, 0 => by simp
  | x :: ws, i + 1 => by
    rw [List.map_cons, List.eraseIdx_cons_succ, List.eraseIdx_cons_succ, List.map_cons, erase_map ws i]
theorem ixN_ok {n k : Nat} (h : k < n) : ixN n (k : Int) = some k := by
  unfold ixN
  rw [if_pos (by omega), if_pos (by omega)]
  rfl
def sm1 (z : Str) : List Str := [z ++ "-", Txt.slice z none (some (-1)), z ++ "x", upZ z, "", z ++ " " ++ z, "changed", "a.01", "a.100", "a"]
def sm2 (z : Str) : List Str := ["b.7", "owe", "take", "under", "0", z ++ "."]
theorem sm_ok {z : Str} (h : Asc z) : ∀ y ∈ sm1 z ++ sm2 z, y.length ≤ 3 * z.length + 7 ∧ Asc y := by
  have ul := up_len z
  have sl := Txt.slice_le z none (some (-1))
  have k : ∀ y : Str, (y.length ≤ 7 ∧ ascB y = true) → y.length ≤ 3 * z.length + 7 ∧ Asc y := fun y hy => ⟨by have := hy.1; omega, asc_of hy.2⟩
  have a1 : ∀ y : Str, (y.length ≤ 1 ∧ ascB y = true) → (z ++ y).length ≤ 3 * z.length + 7 ∧ Asc (z ++ y) := fun y hy => ⟨by rw [len_app]; have := hy.1; omega, h.app (asc_of hy.2)⟩
  intro y hy
  simp only [sm1, sm2, List.mem_append, List.mem_cons, List.not_mem_nil, or_false] at hy
  rcases hy with (rfl | rfl | rfl | rfl | rfl | rfl | rfl | rfl | rfl | rfl) | (rfl | rfl | rfl | rfl | rfl | rfl)
  · exact a1 _ (by decide +kernel)
  · exact ⟨by omega, asc_slice h _ _⟩
  · exact a1 _ (by decide +kernel)
  · exact ⟨by omega, up_asc h⟩
  · exact k _ (by decide +kernel)
  · refine ⟨?_, (h.app (asc_of (by decide +kernel))).app h⟩
    rw [len_app, len_app]
    have : (" " : Str).length = 1 := by decide +kernel
    omega
  · exact k _ (by decide +kernel)
  · exact k _ (by decide +kernel)
  · exact k _ (by decide +kernel)
  · exact k _ (by decide +kernel)
  · exact k _ (by decide +kernel)
  · exact k _ (by decide +kernel)
  · exact k _ (by decide +kernel)
  · exact k _ (by decide +kernel)
  · exact k _ (by decide +kernel)
  · exact a1 _ (by decide +kernel)
section
variable {P : Program} {w : World} {K : PySem.W.Frag} {mg : Str → Option Value} {base : Heap}
def spWS : Sp := fun vs H Q _ => ∃ (b : Addr) (z : Str) (B : Nat), vs = [.ref b, .str z] ∧ Box H b ∧ RowOk B z ∧ B ≤ 400 ∧ ∀ (z' : Str) (H' : Hp), RowOk (3 * B + 8) z' → Oth b H H' → Q (.str z') H'
abbrev s_law_word_spoilt : Stmt := top 42
theorem sc_law_word_spoilt : FnScope ["_law_box_here", "_law_row", "_law_words_here", "_law_at", "_law_word", "_law_some"] ["_law_box_here", "_law_row"] (defScope s_law_word_spoilt) := ⟨rfl, rfl, rfl, by decide +kernel, rfl, by decide +kernel, by decide +kernel⟩
theorem ok_ws (T : Txt mg) (F__law_take : FnAt P w K mg base "_law_take" 2 ["_law_box_here", "_law_many"] spTake) (F : TopFn K mg "_law_word_spoilt" s_law_word_spoilt ["_law_box_here", "_law_row"]) : FnAt P w K mg base "_law_word_spoilt" 3 ["_law_box_here", "_law_row"] spWS := by
  refine F.at sc_law_word_spoilt (fun vs H Q E h => ?_) (fun f cdv A outer s H vs Q E hr h => ?_)
  · obtain ⟨b, z, B, rfl, _⟩ := h
    rfl
  · obtain ⟨b, z, B, rfl, hb, ro, hB, q⟩ := h
    refine ⟨_, (pss_cons (ps_set (i := 2) sc_law_word_spoilt.nd rfl (by first | exact Or.inl rfl | exact Or.inr rfl) (pe_bm PySem.F.plainAttrs_str PySem.F.slot_str_split PySem.F.type_str_split mt_split (pv 1) (pa_cons pe_str pa_nil)))
      (pss_cons (ps_set (i := 3) sc_law_word_spoilt.nd rfl (by first | exact Or.inl rfl | exact Or.inr rfl) (pe_fn F__law_take hr (by decide) rfl (pa_cons (pv 0) (pa_cons (pe_callB call_len rfl T.n_len boot_len (pa_cons (pv 2) pa_nil)) pa_nil))))
      (pss_cons (ps_set (i := 4) sc_law_word_spoilt.nd rfl (by first | exact Or.inl rfl | exact Or.inr rfl) (pe_ix ix_list (pv 2) (pv 3) (fun _ _ => rfl)))
      (pss_cons (ps_set (i := 5) sc_law_word_spoilt.nd rfl (by first | exact Or.inl rfl | exact Or.inr rfl) (pe_lst (pa_cons (pe_op op_add_str (pv 4) pe_str) (pa_cons (pe_slice sl_str (pv 4) po_none (po_some (pe_un un_neg pe_int))) (pa_cons (pe_op op_add_str (pv 4) pe_str) (pa_cons (pe_bm0 PySem.F.plainAttrs_str PySem.F.slot_str_upper PySem.F.type_str_upper mt_upper (pv 4)) (pa_cons pe_str (pa_cons (pe_op op_add_str (pe_op op_add_str (pv 4) pe_str) (pv 4)) (pa_cons pe_str (pa_cons pe_str (pa_cons pe_str (pa_cons pe_str pa_nil))))))))))))
      (pss_cons (ps_set (i := 5) sc_law_word_spoilt.nd rfl (by first | exact Or.inl rfl | exact Or.inr rfl) (pe_op op_cat (pv 5) (pe_lst (pa_cons pe_str (pa_cons pe_str (pa_cons pe_str (pa_cons pe_str (pa_cons pe_str (pa_cons (pe_op op_add_str (pv 4) pe_str) pa_nil)))))))))
      (pss_cons (ps_asg (pe_ix ix_list (pv 5) (pe_fn F__law_take hr (by decide) rfl (pa_cons (pv 0) (pa_cons pe_int pa_nil))) (fun _ _ => rfl)) (pg_sub (pv 2) (pv 3) set_list))
      (pss_cons (ps_mid (ps_if (pt_cmpR op_eq (pe_fn F__law_take hr (by decide) rfl (pa_cons (pv 0) (pa_cons pe_int pa_nil))) pe_int (nomark _)) (pss_one (ps_expr (pe_bm PySem.F.plainAttrs_list PySem.F.slot_list_pop PySem.F.type_list_pop mt_popAt (pv 2) (pa_cons (pe_fn F__law_take hr (by decide) rfl (pa_cons (pv 0) (pa_cons (pe_callB call_len rfl T.n_len boot_len (pa_cons (pv 2) pa_nil)) pa_nil))) pa_nil)))) pss_nil))
      (pss_one (ps_ret (pe_bm PySem.F.plainAttrs_str PySem.F.slot_str_join PySem.F.type_str_join mt_join pe_str (pa_cons (pv 2) pa_nil))))))))))), ?_⟩
    have hs : sizeLine = 16777216 := sizeLine_eq
    have zl := ro.len
    refine ⟨_, rfl, rfl, z, " ", rfl, rfl, (by decide +kernel), (by omega), fun lw hlw => ?_⟩
    have wd := wd_split ro
    have wpos := split_pos z " "
    generalize Txt.split z " " = ws at wd wpos ⊢
    have p1 : Oth b H (upd H lw (.lst (ws.map V.str))) := Oth.add hb hlw
    have e1 : upd H lw (.lst (ws.map V.str)) lw = some (.lst (ws.map V.str)) := upd_same
    have nwb : lw ≠ b := Box.ne hb hlw
    generalize upd H lw (.lst (ws.map V.str)) = H1 at p1 e1 ⊢
    have wl : ws.length ≤ 401 := by have := wd.len; omega
    have lm : (((ws.map V.str).length : Nat) : Int) = (ws.length : Int) := by rw [List.length_map]
    refine ⟨_, rfl, _, rfl, _, _, rfl, .inl ⟨_, SqL.of e1, rfl⟩, b, _, rfl, p1.box, (by rw [lm]; omega), (by rw [lm]; show (ws.length : Int) < 10000000000000000000000000000000000000000; omega), fun i H2 i0 i1 o2 => ?_⟩
    rw [lm] at i1
    obtain ⟨i, rfl, hi⟩ := nat_of i0 i1
    have p2 := p1.trans o2
    have e2 := o2.oth _ _ e1 nwb
    obtain ⟨wd0, hwd0⟩ : ∃ x, ws[i]? = some x := ⟨_, List.getElem?_eq_getElem hi⟩
    have aw := wd.asc wd0 (List.mem_of_getElem? hwd0)
    have w300 : wd0.length ≤ 401 := by
      have h1 := sum_set (w' := "") hwd0
      have h2 : sumL ws + ws.length ≤ B + 1 := wd.len
      have e : ("" : Str).length = 0 := rfl
      omega
    refine ⟨_, rfl, _, rfl, lw, _, _, V.str wd0, rfl, rfl, SqL.of e2, (atI_nat (by rw [List.getElem?_map, hwd0]; rfl)), ?_⟩
    have c1 : ∀ y : Str, y.length ≤ 1 → wd0.length + y.length ≤ sizeLine := fun y h => by omega
    have c2 : ∀ y : Str, y.length ≤ 1 → y.length + wd0.length ≤ sizeLine := fun y h => by omega
    have c3 : (wd0 ++ Str.ofString " ").length + wd0.length ≤ sizeLine := by
      have : (Str.ofString " ").length = 1 := by decide +kernel
      rw [len_app]
      omega
    have ul := up_len wd0
    have hup : Builtin.Str.tooLong (upZ wd0).cps.size = false := by
      unfold Builtin.Str.tooLong
      exact decide_eq_false (by show ¬ _ < (upZ wd0).length; omega)
    refine ⟨_, rfl, _, _, rfl, rfl, c1 _ (by decide +kernel), ?_⟩
    refine ⟨_, rfl, _, rfl, _, rfl, wd0, rfl, (by omega), ?_⟩
    refine ⟨_, rfl, _, _, rfl, rfl, c1 _ (by decide +kernel), ?_⟩
    refine ⟨_, rfl, rfl, wd0, rfl, rfl, hup, ?_⟩
    refine ⟨_, rfl, _, _, rfl, rfl, c1 _ (by decide +kernel), _, rfl, _, _, rfl, rfl, c3, (by show 10 ≤ sizeLine; decide), fun l1 hl1 => ?_⟩
    have q3 : Oth b H2 (upd H2 l1 (.lst ((sm1 wd0).map V.str))) := Oth.add p2.box hl1
    have e3 : upd H2 l1 (.lst ((sm1 wd0).map V.str)) l1 = some (.lst ((sm1 wd0).map V.str)) := upd_same
    have n1b : l1 ≠ b := Box.ne p2.box hl1
    show tSeq _ _ _ _ (upd H2 l1 (.lst ((sm1 wd0).map V.str)))
    generalize upd H2 l1 (.lst ((sm1 wd0).map V.str)) = H3 at q3 e3 ⊢
    have p3 := p2.trans q3
    refine ⟨_, rfl, _, rfl, _, _, rfl, rfl, c1 _ (by decide +kernel), (by show 6 ≤ sizeLine; decide), fun l2 hl2 => ?_⟩
    have q4 : Oth b H3 (upd H3 l2 (.lst ((sm2 wd0).map V.str))) := Oth.add p3.box hl2
    have e4 : upd H3 l2 (.lst ((sm2 wd0).map V.str)) l2 = some (.lst ((sm2 wd0).map V.str)) := upd_same
    show rCat _ _ (upd H3 l2 (.lst ((sm2 wd0).map V.str))) _
    generalize upd H3 l2 (.lst ((sm2 wd0).map V.str)) = H4 at q4 e4 ⊢
    have p4 := p3.trans q4
    refine ⟨l1, l2, _, _, rfl, rfl, q4.oth _ _ e3 n1b, e4, (by rw [List.length_map, List.length_map]; show 10 + 6 ≤ sizeLine; omega), fun l3 hl3 => ?_⟩
    rw [← List.map_append]
    have q5 : Oth b H4 (upd H4 l3 (.lst ((sm1 wd0 ++ sm2 wd0).map V.str))) := Oth.add p4.box hl3
    have e5 : upd H4 l3 (.lst ((sm1 wd0 ++ sm2 wd0).map V.str)) l3 = some (.lst ((sm1 wd0 ++ sm2 wd0).map V.str)) := upd_same
    have n3b : l3 ≠ b := Box.ne p4.box hl3
    generalize upd H4 l3 (.lst ((sm1 wd0 ++ sm2 wd0).map V.str)) = H5 at q5 e5 ⊢
    have p5 := p4.trans q5
    refine ⟨_, rfl, _, rfl, b, 16, rfl, p5.box, (by decide), (by decide), fun r H6 r0 r16 o6 => ?_⟩
    have p6 := p5.trans o6
    obtain ⟨v, ev, mv⟩ := atI_get (xs := (sm1 wd0 ++ sm2 wd0).map V.str) r0 r16
    obtain ⟨w', hw', rfl⟩ := List.mem_map.mp mv
    obtain ⟨wl', wa'⟩ := sm_ok aw w' hw'
    refine ⟨l3, _, _, V.str w', rfl, rfl, SqL.of (o6.oth _ _ e5 n3b), ev, ?_⟩
    have e6 : H6 lw = some (.lst (ws.map V.str)) := ((((q3.trans q4).trans q5).trans o6)).oth _ _ e2 nwb
    refine ⟨_, rfl, _, rfl, lw, _, _, i, rfl, rfl, e6, (by rw [List.length_map]; exact ixN_ok hi), ?_⟩
    rw [← List.map_set]
    have wdS := wd.set hwd0 wl' wa'
    have p7 : Oth b H (upd H6 lw (.lst ((ws.set i w').map V.str))) := by
      obtain ⟨x, y, zz, hbx⟩ := p6.box
      refine ⟨⟨x, y, zz, by rw [upd_ne (Ne.symm nwb)]; exact hbx⟩, fun a o e na => ?_⟩
      rw [upd_ne (ne_of_none e hlw)]
      exact p6.oth _ _ e na
    have e7 : upd H6 lw (.lst ((ws.set i w').map V.str)) lw = some (.lst ((ws.set i w').map V.str)) := upd_same
    generalize upd H6 lw (.lst ((ws.set i w').map V.str)) = H7 at p7 e7 ⊢
    have sl : (ws.set i w').length = ws.length := List.length_set ..
    generalize ws.set i w' = ws2 at wdS e7 sl
    refine ⟨fun σ' H' => ∃ (v3 v4 v5 : Option V) (ws3 : List Str), σ' = [some (.ref b), some (.str z), some (.ref lw), v3, v4, v5] ∧ Oth b H H' ∧ H' lw = some (.lst (ws3.map V.str)) ∧ WdOk ws3 (3 * B + 8), ?_, ?_⟩
    · refine ⟨_, rfl, b, 4, rfl, p7.box, (by decide), (by decide), fun u H8 _ _ o8 => ⟨rfl, _, rfl, ite2 (fun _ => ?_) (fun _ => ?_)⟩⟩
      · have e8 := o8.oth _ _ e7 nwb
        have p8 := p7.trans o8
        have lm2 : (((ws2.map V.str).length : Nat) : Int) = (ws.length : Int) := by rw [List.length_map, sl]
        refine ⟨_, rfl, .inl ⟨rfl, _, SqL.of e8⟩, _, rfl, _, rfl, _, _, rfl, .inl ⟨_, SqL.of e8, rfl⟩, b, _, rfl, p8.box, (by rw [lm2]; omega), (by rw [lm2]; show (ws.length : Int) < 10000000000000000000000000000000000000000; omega), fun j H9 j0 j1 o9 => ?_⟩
        rw [lm2] at j1
        obtain ⟨j, rfl, hj⟩ := nat_of j0 j1
        have e9 := o9.oth _ _ e8 nwb
        have p9 := p8.trans o9
        obtain ⟨y, hy⟩ : ∃ y, (ws2.map V.str)[j]? = some y := ⟨_, List.getElem?_eq_getElem (by rw [List.length_map, sl]; exact hj)⟩
        refine ⟨lw, _, _, j, y, rfl, rfl, e9, (by omega), (by omega), (ixN_seq (ixN_ok (by rw [List.length_map, sl]; exact hj))).1, hy, ?_⟩
        refine ⟨_, _, _, ws2.eraseIdx j, rfl, ?_, ?_, wdS.erase j⟩
        · obtain ⟨x, y, zz, hbx⟩ := p9.box
          refine ⟨⟨x, y, zz, by rw [upd_ne (Ne.symm nwb)]; exact hbx⟩, fun a o e na => ?_⟩
          rw [upd_ne (ne_of_none e hlw)]
          exact p9.oth _ _ e na
        · rw [upd_same, erase_map]
      · exact ⟨_, _, _, ws2, rfl, p7.trans o8, o8.oth _ _ e7 nwb, wdS⟩
    · rintro σ' H8 ⟨v3, v4, v5, ws3, rfl, p8, e8, w3⟩
      have b1 : (" " : Str).length = 1 := by decide +kernel
      exact ⟨rfl, _, rfl, _, lw, ws3, rfl, rfl, SqL.of e8, (by have := w3.len; rw [b1]; omega), q _ _ w3.row p8⟩
end
end K78
namespace K78
open PySem L2 PyProof.Rows
theorem cut_upto (zs : List Str) {k : Nat} (h : k ≤ zs.length) : cutV (zs.map V.str) none (some (k : Int)) = (zs.take k).map V.str := by
  unfold cutV
  rw [HT.sIx_nat, HT.sIx_none, Nat.min_eq_left (by rw [List.length_map]; exact h), List.drop_zero, Nat.sub_zero, List.map_take]
theorem RowOk.mono {B C : Nat} {z : Str} (h : RowOk B z) (hc : B ≤ C) : RowOk C z := ⟨Nat.le_trans h.len hc, h.asc⟩
theorem cut_down (zs : List Str) {k : Nat} (h : k + 1 ≤ zs.length) : cutV (zs.map V.str) (some ((k : Int) + 1)) none = (zs.drop (k + 1)).map V.str := by
  unfold cutV
  rw [show (k : Int) + 1 = ((k + 1 : Nat) : Int) by omega, HT.sIx_nat, HT.sIx_none, Nat.min_eq_left (by rw [List.length_map]; exact h), List.map_drop]
  exact List.take_of_length_le (by rw [List.length_drop]; omega)
theorem rows_less {B : Nat} {rs : List Str} (h : ∀ z ∈ rs, RowOk B z) (k : Nat) : ∀ z ∈ rs.take k ++ rs.drop (k + 1), RowOk B z := fun z hz => by
  rcases List.mem_append.mp hz with hz | hz
  · exact h z (List.mem_of_mem_take hz)
  · exact h z (List.mem_of_mem_drop hz)
theorem len_less {rs : List Str} {k : Nat} (h : k < rs.length) : (rs.take k ++ rs.drop (k + 1)).length + 1 = rs.length := by
  rw [List.length_append, List.length_take, List.length_drop]
  omega
section
variable {P : Program} {w : World} {K : PySem.W.Frag} {mg : Str → Option Value} {base : Heap}
def spSp : Sp := fun vs H Q _ => ∃ (b l : Addr) (rs : List Str) (B : Nat), vs = [.ref b, .ref l] ∧ Box H b ∧ H l = some (.lst (rs.map V.str)) ∧ 1 ≤ rs.length ∧ rs.length ≤ 60 ∧ (∀ z ∈ rs, RowOk B z) ∧ B ≤ 400 ∧
  ∀ (l' : Addr) (rs' : List Str) (H' : Hp), Oth b H H' → H' l' = some (.lst (rs'.map V.str)) → rs'.length ≤ rs.length + 1 → (∀ z ∈ rs', RowOk (3 * B + 8) z) → Q (.ref l') H'
abbrev s_law_spoilt : Stmt := top 43
theorem sc_law_spoilt : FnScope ["_law_box_here", "_law_rows", "_law_way", "_law_at", "_law_other", "_law_found"] ["_law_box_here", "_law_rows"] (defScope s_law_spoilt) := ⟨rfl, rfl, rfl, by decide +kernel, rfl, by decide +kernel, by decide +kernel⟩
theorem ok_sp (T : Txt mg) (F__law_take : FnAt P w K mg base "_law_take" 2 ["_law_box_here", "_law_many"] spTake) (F__law_word_spoilt : FnAt P w K mg base "_law_word_spoilt" 3 ["_law_box_here", "_law_row"] spWS) (F : TopFn K mg "_law_spoilt" s_law_spoilt ["_law_box_here", "_law_rows"]) : FnAt P w K mg base "_law_spoilt" 4 ["_law_box_here", "_law_rows"] spSp := by
  refine F.at sc_law_spoilt (fun vs H Q E h => ?_) (fun f cdv A outer s H vs Q E hr h => ?_)
  · obtain ⟨b, l, rs, B, rfl, _⟩ := h
    rfl
  · obtain ⟨b, l, rs, B, rfl, hb, hl, h1, h60, ro, hB, q⟩ := h
    refine ⟨_, (pss_cons (ps_set (i := 2) sc_law_spoilt.nd rfl (by first | exact Or.inl rfl | exact Or.inr rfl) (pe_fn F__law_take hr (by decide) rfl (pa_cons (pv 0) (pa_cons pe_int pa_nil))))
      (pss_cons (ps_set (i := 3) sc_law_spoilt.nd rfl (by first | exact Or.inl rfl | exact Or.inr rfl) (pe_fn F__law_take hr (by decide) rfl (pa_cons (pv 0) (pa_cons (pe_callB call_len rfl T.n_len boot_len (pa_cons (pv 1) pa_nil)) pa_nil))))
      (pss_cons (ps_set (i := 4) sc_law_spoilt.nd rfl (by first | exact Or.inl rfl | exact Or.inr rfl) (pe_fn F__law_take hr (by decide) rfl (pa_cons (pv 0) (pa_cons (pe_callB call_len rfl T.n_len boot_len (pa_cons (pv 1) pa_nil)) pa_nil))))
      (pss_cons (ps_if (pt_cmpR op_lt (pv 2) pe_int (nomark _)) (pss_one (ps_ret (pe_op op_cat (pe_op op_cat (pe_slice sl_list (pv 1) po_none (po_some (pv 3))) (pe_lst (pa_cons (pe_fn F__law_word_spoilt hr (by decide) rfl (pa_cons (pv 0) (pa_cons (pe_ix ix_list (pv 1) (pv 3) (fun _ _ => rfl)) pa_nil))) pa_nil))) (pe_slice sl_list (pv 1) (po_some (pe_op op_add (pv 3) pe_int)) po_none)))) pss_nil)
      (pss_cons (ps_if (pt_cmpR op_eq (pv 2) pe_int (nomark _)) (pss_one (ps_ret (pe_op op_cat (pe_slice sl_list (pv 1) po_none (po_some (pv 3))) (pe_slice sl_list (pv 1) (po_some (pe_op op_add (pv 3) pe_int)) po_none)))) pss_nil)
      (pss_cons (ps_if (pt_cmpR op_eq (pv 2) pe_int (nomark _)) (pss_one (ps_ret (pe_op op_cat (pe_op op_cat (pe_slice sl_list (pv 1) po_none (po_some (pv 3))) (pe_slice sl_list (pv 1) (po_some (pe_op op_add (pv 3) pe_int)) po_none)) (pe_lst (pa_cons (pe_ix ix_list (pv 1) (pv 3) (fun _ _ => rfl)) pa_nil))))) pss_nil)
      (pss_cons (ps_if (pt_cmpR op_eq (pv 2) pe_int (nomark _)) (pss_one (ps_ret (pe_op op_cat (pv 1) (pe_lst (pa_cons (pe_ix ix_list (pe_lst (pa_cons pe_str (pa_cons pe_str (pa_cons (pe_ix ix_list (pv 1) (pv 4) (fun _ _ => rfl)) pa_nil)))) (pe_fn F__law_take hr (by decide) rfl (pa_cons (pv 0) (pa_cons pe_int pa_nil))) (fun _ _ => rfl)) pa_nil))))) pss_nil)
      (pss_cons (ps_set (i := 5) sc_law_spoilt.nd rfl (by first | exact Or.inl rfl | exact Or.inr rfl) (pe_callTy call_list_of rfl T.n_list boot_list (pa_cons (pv 1) pa_nil)))
      (pss_cons (ps_asg (pe_ix ix_list (pv 1) (pv 4) (fun _ _ => rfl)) (pg_sub (pv 5) (pv 3) set_list))
      (pss_cons (ps_asg (pe_ix ix_list (pv 1) (pv 3) (fun _ _ => rfl)) (pg_sub (pv 5) (pv 4) set_list))
      (pss_one (ps_ret (pv 5))))))))))))), ?_⟩
    have hs : sizeLine = 16777216 := sizeLine_eq
    have nlb := strs_ne_box hb hl
    have lm : (((rs.map V.str).length : Nat) : Int) = (rs.length : Int) := by rw [List.length_map]
    have big : (rs.length : Int) < 10000000000000000000000000000000000000000 := by omega
    refine ⟨_, rfl, b, 8, rfl, hb, (by decide), (by decide), fun way H1 w0 w8 o1 => ?_⟩
    refine ⟨_, rfl, _, rfl, _, _, rfl, .inl ⟨_, SqL.of (o1.oth _ _ hl nlb), rfl⟩, b, _, rfl, o1.box, (by rw [lm]; omega), (by rw [lm]; exact big), fun at_ H2 a0 a1 o2 => ?_⟩
    rw [lm] at a1
    obtain ⟨at_, rfl, ha⟩ := nat_of a0 a1
    have p2 := o1.trans o2
    refine ⟨_, rfl, _, rfl, _, _, rfl, .inl ⟨_, SqL.of (p2.oth _ _ hl nlb), rfl⟩, b, _, rfl, p2.box, (by rw [lm]; omega), (by rw [lm]; exact big), fun ot H3 t0 t1 o3 => ?_⟩
    rw [lm] at t1
    obtain ⟨ot, rfl, ht⟩ := nat_of t0 t1
    have p3 := p2.trans o3
    have e3 := p3.oth _ _ hl nlb
    obtain ⟨za, hza⟩ : ∃ x, rs[at_]? = some x := ⟨_, List.getElem?_eq_getElem ha⟩
    obtain ⟨zo, hzo⟩ : ∃ x, rs[ot]? = some x := ⟨_, List.getElem?_eq_getElem ht⟩
    have aza : atI (rs.map V.str) (at_ : Int) = some (.str za) := atI_nat (by rw [List.getElem?_map, hza]; rfl)
    have azo : atI (rs.map V.str) (ot : Int) = some (.str zo) := atI_nat (by rw [List.getElem?_map, hzo]; rfl)
    have ra := ro za (List.mem_of_getElem? hza)
    have rz := ro zo (List.mem_of_getElem? hzo)
    have c1 := cut_upto rs (k := at_) (by omega)
    have c2 := cut_down rs (k := at_) (by omega)
    have less := rows_less ro at_
    have lless := len_less ha
    have tl : (rs.take at_).length ≤ 60 := by rw [List.length_take]; omega
    have dl : (rs.drop (at_ + 1)).length ≤ 60 := by rw [List.length_drop]; omega
    refine ⟨_, rfl, _, _, rfl, rfl, _, rfl, ite2 (fun _ => ?_) (fun _ => ?_)⟩
    · refine ⟨_, rfl, _, rfl, _, rfl, l, _, rfl, SqL.of e3, fun l1 hl1 => ?_⟩
      rw [c1]
      have q4 : Oth b H3 (upd H3 l1 (.lst ((rs.take at_).map V.str))) := Oth.add p3.box hl1
      have e4 : upd H3 l1 (.lst ((rs.take at_).map V.str)) l1 = some (.lst ((rs.take at_).map V.str)) := upd_same
      have n1 : l1 ≠ b := Box.ne p3.box hl1
      generalize upd H3 l1 (.lst ((rs.take at_).map V.str)) = H4 at q4 e4 ⊢
      refine ⟨_, rfl, _, rfl, _, rfl, l, _, _, V.str za, rfl, rfl, SqL.of (q4.oth _ _ e3 nlb), aza, b, za, B, rfl, q4.box, ra, hB, fun z' H5 rz' o5 => ⟨(by show 1 ≤ sizeLine; decide), fun l2 hl2 => ?_⟩⟩
      have q6 : Oth b H5 (upd H5 l2 (.lst [.str z'])) := Oth.add o5.box hl2
      have e6 : upd H5 l2 (.lst [.str z']) l2 = some (.lst (([z'] : List Str).map V.str)) := upd_same
      have n2 : l2 ≠ b := Box.ne o5.box hl2
      generalize upd H5 l2 (.lst [.str z']) = H6 at q6 e6 ⊢
      have q46 := o5.trans q6
      refine ⟨l1, l2, _, _, rfl, rfl, q46.oth _ _ e4 n1, e6, (by rw [List.length_map]; show _ + 1 ≤ sizeLine; omega), fun l3 hl3 => ?_⟩
      rw [← List.map_append]
      have q7 : Oth b H6 (upd H6 l3 (.lst ((rs.take at_ ++ [z']).map V.str))) := Oth.add q6.box hl3
      have e7 : upd H6 l3 (.lst ((rs.take at_ ++ [z']).map V.str)) l3 = some (.lst ((rs.take at_ ++ [z']).map V.str)) := upd_same
      have n3 : l3 ≠ b := Box.ne q6.box hl3
      generalize upd H6 l3 (.lst ((rs.take at_ ++ [z']).map V.str)) = H7 at q7 e7 ⊢
      have p7 := ((p3.trans q4).trans q46).trans q7
      refine ⟨_, rfl, _, rfl, _, _, rfl, rfl, _, rfl, l, _, rfl, SqL.of (p7.oth _ _ hl nlb), fun l4 hl4 => ?_⟩
      rw [c2]
      have q8 : Oth b H7 (upd H7 l4 (.lst ((rs.drop (at_ + 1)).map V.str))) := Oth.add p7.box hl4
      have e8 : upd H7 l4 (.lst ((rs.drop (at_ + 1)).map V.str)) l4 = some (.lst ((rs.drop (at_ + 1)).map V.str)) := upd_same
      generalize upd H7 l4 (.lst ((rs.drop (at_ + 1)).map V.str)) = H8 at q8 e8 ⊢
      refine ⟨l3, l4, _, _, rfl, rfl, q8.oth _ _ e7 n3, e8, (by rw [List.length_map, List.length_map, List.length_append]; show _ + 1 + _ ≤ sizeLine; omega), fun l5 hl5 => ?_⟩
      rw [← List.map_append]
      refine q l5 (rs.take at_ ++ [z'] ++ rs.drop (at_ + 1)) _ ((p7.trans q8).trans (Oth.add q8.box hl5)) upd_same ?_ fun z hz => ?_
      · rw [List.length_append, List.length_append, List.length_take, List.length_drop, List.length_singleton]
        omega
      · rcases List.mem_append.mp hz with hz | hz
        · rcases List.mem_append.mp hz with hz | hz
          · exact (ro z (List.mem_of_mem_take hz)).mono (by omega)
          · rw [List.mem_singleton] at hz; rw [hz]; exact rz'
        · exact (ro z (List.mem_of_mem_drop hz)).mono (by omega)
    refine ⟨_, rfl, rfl, _, rfl, ite2 (fun _ => ?_) (fun _ => ?_)⟩
    · refine ⟨_, rfl, _, rfl, _, rfl, l, _, rfl, SqL.of e3, fun l1 hl1 => ?_⟩
      rw [c1]
      have q4 : Oth b H3 (upd H3 l1 (.lst ((rs.take at_).map V.str))) := Oth.add p3.box hl1
      have e4 : upd H3 l1 (.lst ((rs.take at_).map V.str)) l1 = some (.lst ((rs.take at_).map V.str)) := upd_same
      have n1 : l1 ≠ b := Box.ne p3.box hl1
      generalize upd H3 l1 (.lst ((rs.take at_).map V.str)) = H4 at q4 e4 ⊢
      have p4 := p3.trans q4
      refine ⟨_, rfl, _, rfl, _, _, rfl, rfl, _, rfl, l, _, rfl, SqL.of (p4.oth _ _ hl nlb), fun l4 hl4 => ?_⟩
      rw [c2]
      have q8 : Oth b H4 (upd H4 l4 (.lst ((rs.drop (at_ + 1)).map V.str))) := Oth.add p4.box hl4
      have e8 : upd H4 l4 (.lst ((rs.drop (at_ + 1)).map V.str)) l4 = some (.lst ((rs.drop (at_ + 1)).map V.str)) := upd_same
      generalize upd H4 l4 (.lst ((rs.drop (at_ + 1)).map V.str)) = H8 at q8 e8 ⊢
      refine ⟨l1, l4, _, _, rfl, rfl, q8.oth _ _ e4 n1, e8, (by rw [List.length_map, List.length_map]; omega), fun l5 hl5 => ?_⟩
      rw [← List.map_append]
      exact q l5 (rs.take at_ ++ rs.drop (at_ + 1)) _ ((p4.trans q8).trans (Oth.add q8.box hl5)) upd_same (by omega) fun z hz => (less z hz).mono (by omega)
    refine ⟨_, rfl, rfl, _, rfl, ite2 (fun _ => ?_) (fun _ => ?_)⟩
    · refine ⟨_, rfl, _, rfl, _, rfl, l, _, rfl, SqL.of e3, fun l1 hl1 => ?_⟩
      rw [c1]
      have q4 : Oth b H3 (upd H3 l1 (.lst ((rs.take at_).map V.str))) := Oth.add p3.box hl1
      have e4 : upd H3 l1 (.lst ((rs.take at_).map V.str)) l1 = some (.lst ((rs.take at_).map V.str)) := upd_same
      have n1 : l1 ≠ b := Box.ne p3.box hl1
      generalize upd H3 l1 (.lst ((rs.take at_).map V.str)) = H4 at q4 e4 ⊢
      have p4 := p3.trans q4
      refine ⟨_, rfl, _, rfl, _, _, rfl, rfl, _, rfl, l, _, rfl, SqL.of (p4.oth _ _ hl nlb), fun l4 hl4 => ?_⟩
      rw [c2]
      have q8 : Oth b H4 (upd H4 l4 (.lst ((rs.drop (at_ + 1)).map V.str))) := Oth.add p4.box hl4
      have e8 : upd H4 l4 (.lst ((rs.drop (at_ + 1)).map V.str)) l4 = some (.lst ((rs.drop (at_ + 1)).map V.str)) := upd_same
      generalize upd H4 l4 (.lst ((rs.drop (at_ + 1)).map V.str)) = H8 at q8 e8 ⊢
      refine ⟨l1, l4, _, _, rfl, rfl, q8.oth _ _ e4 n1, e8, (by rw [List.length_map, List.length_map]; omega), fun l5 hl5 => ?_⟩
      rw [← List.map_append]
      have p8 := p4.trans q8
      have q9 : Oth b H8 (upd H8 l5 (.lst ((rs.take at_ ++ rs.drop (at_ + 1)).map V.str))) := Oth.add q8.box hl5
      have e9 : upd H8 l5 (.lst ((rs.take at_ ++ rs.drop (at_ + 1)).map V.str)) l5 = some (.lst ((rs.take at_ ++ rs.drop (at_ + 1)).map V.str)) := upd_same
      have n5 : l5 ≠ b := Box.ne q8.box hl5
      generalize upd H8 l5 (.lst ((rs.take at_ ++ rs.drop (at_ + 1)).map V.str)) = H9 at q9 e9 ⊢
      have p9 := p8.trans q9
      refine ⟨_, rfl, _, rfl, l, _, _, V.str za, rfl, rfl, SqL.of (p9.oth _ _ hl nlb), aza, (by show 1 ≤ sizeLine; decide), fun l6 hl6 => ?_⟩
      have q10 : Oth b H9 (upd H9 l6 (.lst [.str za])) := Oth.add q9.box hl6
      have e10 : upd H9 l6 (.lst [.str za]) l6 = some (.lst (([za] : List Str).map V.str)) := upd_same
      generalize upd H9 l6 (.lst [.str za]) = H10 at q10 e10 ⊢
      refine ⟨l5, l6, _, _, rfl, rfl, q10.oth _ _ e9 n5, e10, (by rw [List.length_map]; show _ + 1 ≤ sizeLine; omega), fun l7 hl7 => ?_⟩
      rw [← List.map_append]
      refine q l7 (rs.take at_ ++ rs.drop (at_ + 1) ++ [za]) _ ((p9.trans q10).trans (Oth.add q10.box hl7)) upd_same (by rw [List.length_append, List.length_singleton]; omega) fun z hz => ?_
      rcases List.mem_append.mp hz with hz | hz
      · exact (less z hz).mono (by omega)
      · rw [List.mem_singleton] at hz; rw [hz]; exact ra.mono (by omega)
    refine ⟨_, rfl, rfl, _, rfl, ite2 (fun _ => ?_) (fun _ => ?_)⟩
    · refine ⟨_, rfl, _, rfl, _, rfl, l, _, _, V.str zo, rfl, rfl, SqL.of e3, azo, (by show 3 ≤ sizeLine; decide), fun l1 hl1 => ?_⟩
      have q4 : Oth b H3 (upd H3 l1 (.lst (([Str.ofString "", Str.ofString " ", zo] : List Str).map V.str))) := Oth.add p3.box hl1
      have e4 : upd H3 l1 (.lst (([Str.ofString "", Str.ofString " ", zo] : List Str).map V.str)) l1 = some (.lst (([Str.ofString "", Str.ofString " ", zo] : List Str).map V.str)) := upd_same
      have n1 : l1 ≠ b := Box.ne p3.box hl1
      show tCall _ _ _ _ _ (upd H3 l1 (.lst (([Str.ofString "", Str.ofString " ", zo] : List Str).map V.str))) _
      generalize upd H3 l1 (.lst (([Str.ofString "", Str.ofString " ", zo] : List Str).map V.str)) = H4 at q4 e4 ⊢
      refine ⟨_, rfl, b, 3, rfl, q4.box, (by decide), (by decide), fun r H5 r0 r3 o5 => ?_⟩
      obtain ⟨v, ev, mv⟩ := atI_get (xs := ([Str.ofString "", Str.ofString " ", zo] : List Str).map V.str) r0 r3
      obtain ⟨y, hy, rfl⟩ := List.mem_map.mp mv
      have ry : RowOk (3 * B + 8) y := by
        simp only [List.mem_cons, List.not_mem_nil, or_false] at hy
        rcases hy with rfl | rfl | rfl
        · exact ⟨by show 0 ≤ _; omega, asc_of (by decide +kernel)⟩
        · exact ⟨by show 1 ≤ _; omega, asc_of (by decide +kernel)⟩
        · exact rz.mono (by omega)
      refine ⟨l1, _, _, V.str y, rfl, rfl, SqL.of (o5.oth _ _ e4 n1), ev, (by show 1 ≤ sizeLine; decide), fun l2 hl2 => ?_⟩
      have p5 := (p3.trans q4).trans o5
      have q6 : Oth b H5 (upd H5 l2 (.lst [.str y])) := Oth.add o5.box hl2
      have e6 : upd H5 l2 (.lst [.str y]) l2 = some (.lst (([y] : List Str).map V.str)) := upd_same
      generalize upd H5 l2 (.lst [.str y]) = H6 at q6 e6 ⊢
      have p6 := p5.trans q6
      refine ⟨l, l2, _, _, rfl, rfl, p6.oth _ _ hl nlb, e6, (by rw [List.length_map]; show _ + 1 ≤ sizeLine; omega), fun l3 hl3 => ?_⟩
      rw [← List.map_append]
      refine q l3 (rs ++ [y]) _ (p6.trans (Oth.add q6.box hl3)) upd_same (by rw [List.length_append]; exact Nat.le_refl _) fun z hz => ?_
      rcases List.mem_append.mp hz with hz | hz
      · exact (ro z hz).mono (by omega)
      · rw [List.mem_singleton] at hz; rw [hz]; exact ry
    refine ⟨_, rfl, l, _, rfl, .inl (SqL.of e3), fun lf hlf => ?_⟩
    have q4 : Oth b H3 (upd H3 lf (.lst (rs.map V.str))) := Oth.add p3.box hlf
    have e4 : upd H3 lf (.lst (rs.map V.str)) lf = some (.lst (rs.map V.str)) := upd_same
    have e4l : upd H3 lf (.lst (rs.map V.str)) l = some (.lst (rs.map V.str)) := by rw [upd_ne (ne_of_none e3 hlf)]; exact e3
    have nf : lf ≠ b := Box.ne p3.box hlf
    have nfl : l ≠ lf := ne_of_none e3 hlf
    have fH : H lf = none := p3.free hlf
    generalize upd H3 lf (.lst (rs.map V.str)) = H4 at q4 e4 e4l ⊢
    have p4 := p3.trans q4
    have step : ∀ {H' : Hp} {o : HO}, Oth b H H' → Oth b H (upd H' lf o) := fun {H' o} p => by
      obtain ⟨x, y, zz, hbx⟩ := p.box
      refine ⟨⟨x, y, zz, by rw [upd_ne (Ne.symm nf)]; exact hbx⟩, fun a o e na => ?_⟩
      rw [upd_ne (ne_of_none e fH)]
      exact p.oth _ _ e na
    refine ⟨_, rfl, _, rfl, l, _, _, V.str zo, rfl, rfl, SqL.of e4l, azo, _, rfl, _, rfl, lf, _, _, at_, rfl, rfl, e4, (by rw [List.length_map]; exact ixN_ok ha), ?_⟩
    rw [← List.map_set]
    have p5 := step (o := .lst ((rs.set at_ zo).map V.str)) p4
    have e5 : upd H4 lf (.lst ((rs.set at_ zo).map V.str)) lf = some (.lst ((rs.set at_ zo).map V.str)) := upd_same
    have e5l : upd H4 lf (.lst ((rs.set at_ zo).map V.str)) l = some (.lst (rs.map V.str)) := by rw [upd_ne nfl]; exact e4l
    generalize upd H4 lf (.lst ((rs.set at_ zo).map V.str)) = H5 at p5 e5 e5l ⊢
    refine ⟨_, rfl, _, rfl, l, _, _, V.str za, rfl, rfl, SqL.of e5l, aza, _, rfl, _, rfl, lf, _, _, ot, rfl, rfl, e5, (by rw [List.length_map, List.length_set]; exact ixN_ok ht), ?_⟩
    rw [← List.map_set]
    refine ⟨_, rfl, q lf ((rs.set at_ zo).set ot za) _ (step p5) upd_same (by rw [List.length_set, List.length_set]; omega) fun z hz => ?_⟩
    rcases List.mem_or_eq_of_mem_set hz with hz | rfl
    · rcases List.mem_or_eq_of_mem_set hz with hz | rfl
      · exact (ro z hz).mono (by omega)
      · exact rz.mono (by omega)
    · exact ra.mono (by omega)
end
end K78
namespace K78
open PySem L2 PyProof.Rows PySem.SeqAt
theorem WdOk.cons {z : Str} {ws : List Str} {B k : Nat} (h : WdOk ws B) (ha : Asc z) (hz : z.length ≤ k) : WdOk (z :: ws) (B + k + 1) := by
  refine ⟨?_, fun y hy => ?_⟩
  · have := h.len
    simp only [List.map_cons, List.sum_cons, List.length_cons]
    omega
  · rcases List.mem_cons.mp hy with rfl | hy
    · exact ha
    · exact h.asc y hy
theorem join_fit {rs : List Str} (h : ∀ z ∈ rs, RowOk 1200 z) (hn : rs.length ≤ 100) : (rs.map (·.length)).sum + rs.length * (("\n" : Str)).length ≤ 16777216 := by
  have h2 := sum_le fun z hz => (h z hz).len
  have h3 : ("\n" : Str).length = 1 := by decide +kernel
  rw [h3]
  have h4 := Nat.mul_le_mul_right 1200 hn
  omega
def bj : Nat → Nat
  | 0 => 120
  | 1 => 368
  | _ => 1112
theorem hu66 {A : Around} {k : Nat} (hr : Room k A) : A.units + 66 < cLine := by have := hr.un; omega
theorem wd_nil : WdOk [] 0 := ⟨by simp, fun z hz => by cases hz⟩
theorem wd_mono {ws : List Str} {B C : Nat} (h : WdOk ws B) (hc : B ≤ C) : WdOk ws C := ⟨Nat.le_trans h.len hc, h.asc⟩
theorem asc_jw {z : Str} (h : (jP z).isSome = true) : Asc z := by
  obtain ⟨j, hj⟩ := Option.isSome_iff_exists.mp h
  rw [(jP_some hj).1]; exact asc_nm j
theorem wd_flat : ∀ {r : List (Str × Str)}, r.all pairOk = true → WdOk (flatS r) (17 * r.length)
  | [], _ => wd_nil
  | p :: r, h => by
    rw [List.all_cons, Bool.and_eq_true] at h
    have h1 := h.1
    unfold pairOk at h1
    rw [Bool.and_eq_true] at h1
    have := ((wd_flat h.2).cons (k := 8) (asc_word h1.2) (word8 h1.2)).cons (k := 7) (asc_jw h1.1) (jw_len h1.1)
    exact wd_mono this (by rw [List.length_cons]; omega)
theorem wd_owe {x : Nt} (h : NtOk x) (h5 : x.r.length ≤ 5) : WdOk (oweW x) 120 := by
  have := ((((wd_flat h.r).cons (k := 11) (asc_key h.o) (keyT_len h.o)).cons (k := 8) (asc_word h.n) (word8 h.n)).cons (k := 8) (asc_word h.d) (word8 h.d)).cons (z := "owe") (k := 3) (asc_of (by decide +kernel)) (by decide +kernel)
  exact wd_mono this (by omega)
theorem wd_take {t : Str × Ky} (h1 : isWordZ t.1 = true) (h2 : KyOk t.2) : WdOk (takeW t) 120 := by
  have := ((wd_nil.cons (k := 11) (asc_key h2) (keyT_len h2)).cons (k := 8) (asc_word h1) (word8 h1)).cons (z := "take") (k := 4) (asc_of (by decide +kernel)) (by decide +kernel)
  exact wd_mono this (by omega)
theorem wd_under {k : Ky} (h2 : KyOk k) : WdOk (underW k) 120 := by
  have := (wd_nil.cons (k := 11) (asc_key h2) (keyT_len h2)).cons (z := "under") (k := 5) (asc_of (by decide +kernel)) (by decide +kernel)
  exact wd_mono this (by omega)
theorem rows_ok {f : Fd} (sm : FdSm f) {zs : List Str} (hp : zs.Perm (f.2.1.map (·.1))) : (∀ z ∈ (rowsF (f.1, zs.map (fun z => (z, lk f.2.1 z)), f.2.2)).map rowZ, RowOk 120 z) ∧ ((rowsF (f.1, zs.map (fun z => (z, lk f.2.1 z)), f.2.2)).map rowZ).length ≤ 49 ∧ 1 ≤ ((rowsF (f.1, zs.map (fun z => (z, lk f.2.1 z)), f.2.2)).map rowZ).length := by
  have c8 := sm.c8
  have n40 := sm.n40
  have zl := ok_len hp
  refine ⟨fun z hz => ?_, ?_, ?_⟩
  · obtain ⟨ws, hws, rfl⟩ := List.mem_map.mp hz
    suffices h : WdOk ws 120 from h.row
    unfold rowsF at hws
    rcases List.mem_cons.mp hws with rfl | hws
    · exact wd_under sm.ok.k
    · rcases List.mem_append.mp hws with hws | hws
      · obtain ⟨t', ht', rfl⟩ := List.mem_map.mp hws
        obtain ⟨z', hz', rfl⟩ := List.mem_map.mp ht'
        obtain ⟨t, ht, rfl⟩ := List.mem_map.mp (hp.mem_iff.mp hz')
        obtain ⟨w1, w2⟩ := sm.ok.c t ht
        have hlk : lk f.2.1 t.1 = t.2 := lk_mem sm.ok.nd ht
        rw [hlk]
        exact wd_take w1 w2
      · obtain ⟨x, hx, rfl⟩ := List.mem_map.mp hws
        exact wd_owe (sm.ok.n x hx).1 (sm.r5 x hx)
  · simp only [rowsF, List.length_map, List.length_cons, List.length_append]
    omega
  · simp only [rowsF, List.length_map, List.length_cons]
    omega
theorem rev_ok {f : Fd} (ok : FdOk f) : FdOk (f.1, f.2.1.reverse, f.2.2) := by
  refine ⟨ok.k, fun t ht => ok.c t (List.mem_reverse.mp ht), ?_, ok.n, by show f.2.1.reverse.length ≤ 60; rw [List.length_reverse]; exact ok.cl, ok.nl⟩
  show (f.2.1.reverse.map (·.1)).Nodup
  rw [List.map_reverse]
  exact (List.reverse_perm _).symm.nodup ok.nd
theorem rev_text {f : Fd} (ok : FdOk f) {zs : List Str} (hp : zs.Perm (f.2.1.map (·.1))) : (zs.map fun z => (z, lk f.2.1.reverse z)) = zs.map fun z => (z, lk f.2.1 z) := by
  refine List.map_congr_left fun z hz => ?_
  obtain ⟨t, ht, rfl⟩ := List.mem_map.mp (hp.mem_iff.mp hz)
  rw [lk_mem ok.nd ht, lk_mem (rev_ok ok).nd (List.mem_reverse.mpr ht)]
theorem cen_rev {H : Hp} {kvs : List (Key × V)} {c : List (Str × Ky)} (h : A2 (CEn H) kvs c) : A2 (CEn H) kvs.reverse c.reverse := by
  refine ⟨by rw [List.length_reverse, List.length_reverse, h.1], fun i x y h1 h2 => ?_⟩
  have hi := (List.getElem?_eq_some_iff.mp h1).1
  rw [List.length_reverse] at hi
  rw [List.getElem?_reverse hi] at h1
  rw [List.getElem?_reverse (by rw [← h.1]; exact hi), ← h.1] at h2
  exact h.2 _ _ _ h1 h2
section
variable {P : Program} {w : World} {K : PySem.W.Frag} {mg : Str → Option Value} {base : Heap}
abbrev slaw : Stmt := top 51
abbrev nLaw : List Str := ["_law_script", "_law_words_here", "_law_k", "_law_box_here", "_law_folder_here", "_law_rows", "_law_turned", "_law_j", "_law_thing", "_law_told_here"]
theorem sclaw : FnScope nLaw ["_law_script"] (defScope slaw) := ⟨rfl, rfl, rfl, by decide +kernel, rfl, by decide +kernel, by decide +kernel⟩
theorem law_body (T : Txt mg) (F__law_cell : FnAt P w K mg base "_law_cell" 1 ["_law_script", "_law_k"] (spCell K)) (F__law_box : FnAt P w K mg base "_law_box" 1 ["_law_cell_here"] spBox) (F__law_take : FnAt P w K mg base "_law_take" 2 ["_law_box_here", "_law_many"] spTake) (F__law_words : FnAt P w K mg base "_law_words" 3 ["_law_cell_here", "_law_many"] spWords)
    (F__law_folder : FnAt P w K mg base "_law_folder" 4 ["_law_box_here", "_law_words_here"] spLF) (F__law_text_rows : FnAt P w K mg base "_law_text_rows" 2 ["_law_folder_here"] spLT) (F_show_folder : FnAt P w K mg base "show_folder" 3 ["folder"] spSF) (F__law_spoilt : FnAt P w K mg base "_law_spoilt" 4 ["_law_box_here", "_law_rows"] spSp) (F__law_right : FnAt P w K mg base "_law_right" 8 ["_law_text"] spRt) (F__law_told : FnAt P w K mg base "_law_told" 7 ["_law_text"] (spTo K))
    (f : Addr) (cdv : Value) (A : Around) (outer : List Env) (s : Shared) (H : Hp) (vs : List V) (Q : VK) (E : XK) (hr : Room 8 (A.deeper (envOfC "law" (defScope slaw) s.heap.objs.size f cdv))) (h : spLaw K vs H Q E) :
    ∃ t, PSs (cxOf CX0 P w K mg base nLaw "law" (defScope slaw) f cdv A outer s H E).nox (defBody slaw) t ∧ t { nx := fun _ H' => Q .non H', rt := Q } (start nLaw vs) H := by
    obtain ⟨a, ns, rfl, hS, hl63, q⟩ := h
    refine ⟨_, (pss_cons (ps_set (i := 1) sclaw.nd rfl (by first | exact Or.inl rfl | exact Or.inr rfl) (pe_fn F__law_words hr (by decide) rfl (pa_cons (pe_fn F__law_cell hr (by decide) rfl (pa_cons (pv 0) (pa_cons pe_int pa_nil))) (pa_cons pe_int pa_nil))))
      (pss_cons (ps_for PassesOwn.never rfl (pi_range1 rfl T.n_range (pa_cons (pe_callB (call_max2 rfl) rfl T.n_max boot_max (pa_cons pe_int (pa_cons (pe_callB (call_min2 rfl) rfl T.n_min boot_min (pa_cons (pe_callB call_len rfl T.n_len boot_len (pa_cons (pv 0) pa_nil)) (pa_cons pe_int pa_nil))) pa_nil))) pa_nil)) (pg_name (i := 2) sclaw.nd rfl (by first | exact Or.inl rfl | exact Or.inr rfl)) (pss_cons (ps_set (i := 3) sclaw.nd rfl (by first | exact Or.inl rfl | exact Or.inr rfl) (pe_fn F__law_box hr (by decide) rfl (pa_cons (pe_fn F__law_cell hr (by decide) rfl (pa_cons (pv 0) (pa_cons (pv 2) pa_nil))) pa_nil)))
      (pss_cons (ps_set (i := 4) sclaw.nd rfl (by first | exact Or.inl rfl | exact Or.inr rfl) (pe_fn F__law_folder hr (by decide) rfl (pa_cons (pv 3) (pa_cons (pv 1) pa_nil))))
      (pss_cons (ps_set (i := 5) sclaw.nd rfl (by first | exact Or.inl rfl | exact Or.inr rfl) (pe_fn F__law_text_rows hr (by decide) rfl (pa_cons (pv 4) pa_nil)))
      (pss_cons (ps_set (i := 6) sclaw.nd rfl (by first | exact Or.inl rfl | exact Or.inr rfl) (pe_tup (pa_cons (pe_ix ix_tup (pv 4) pe_int (fun _ _ => rfl)) (pa_cons (pe_revD hr.hd rfl T.n_dict rfl T.n_reversed rfl T.n_list (pe_ix ix_tup (pv 4) pe_int (fun _ _ => rfl))) (pa_cons (pe_callTy call_list_of rfl T.n_list boot_list (pa_cons (pe_ix ix_tup (pv 4) pe_int (fun _ _ => rfl)) pa_nil)) pa_nil)))))
      (pss_cons (ps_if (PW.pt (pw_or (pt_cmpR op_ne (pe_fn F_show_folder hr (by decide) rfl (pa_cons (pv 4) pa_nil)) (pe_bm PySem.F.plainAttrs_str PySem.F.slot_str_join PySem.F.type_str_join mt_join pe_str (pa_cons (pv 5) pa_nil)) (nomark _)) (pw_or1 (pt_cmpR op_ne (pe_fn F_show_folder hr (by decide) rfl (pa_cons (pv 6) pa_nil)) (pe_bm PySem.F.plainAttrs_str PySem.F.slot_str_join PySem.F.type_str_join mt_join pe_str (pa_cons (pv 5) pa_nil)) (nomark _))))) (pss_one (ps_ret pe_bl)) pss_nil)
      (pss_cons (ps_if (PW.pt (pw_or (pt_cmpR (op_neDct (hu66 hr)) (pe_ix ix_tup (pv 6) pe_int (fun _ _ => rfl)) (pe_ix ix_tup (pv 4) pe_int (fun _ _ => rfl)) (nomark _)) (pw_or (pt_cmpR (op_neSD (hu64 hr)) (pe_ix ix_tup (pv 6) pe_int (fun _ _ => rfl)) (pe_ix ix_tup (pv 4) pe_int (fun _ _ => rfl)) (nomark _)) (pw_or1 (pt_not (pt_val (pe_fn F__law_right hr (by decide) rfl (pa_cons (pe_bm PySem.F.plainAttrs_str PySem.F.slot_str_join PySem.F.type_str_join mt_join pe_str (pa_cons (pv 5) pa_nil)) pa_nil)))))))) (pss_one (ps_ret pe_bl)) pss_nil)
      (pss_cons (ps_for PassesOwn.never rfl (pi_range1 rfl T.n_range (pa_cons (pe_ix ix_list (pe_lst (pa_cons pe_int (pa_cons pe_int (pa_cons pe_int (pa_cons pe_int pa_nil))))) (pe_fn F__law_take hr (by decide) rfl (pa_cons (pv 3) (pa_cons pe_int pa_nil))) (fun _ _ => rfl)) pa_nil)) (pg_name (i := 7) sclaw.nd rfl (by first | exact Or.inl rfl | exact Or.inr rfl)) (pss_one (ps_if (pt_cmpR (op_neNil (hu0 hr)) (pv 5) (pe_lst pa_nil) (nomark _)) (pss_one (ps_set (i := 5) sclaw.nd rfl (by first | exact Or.inl rfl | exact Or.inr rfl) (pe_fn F__law_spoilt hr (by decide) rfl (pa_cons (pv 3) (pa_cons (pv 5) pa_nil))))) pss_nil)))
      (pss_cons (ps_if (pt_not (pt_val (pe_fn F__law_right hr (by decide) rfl (pa_cons (pe_bm PySem.F.plainAttrs_str PySem.F.slot_str_join PySem.F.type_str_join mt_join pe_str (pa_cons (pv 5) pa_nil)) pa_nil)))) (pss_one (ps_ret pe_bl)) pss_nil)
      (pss_cons (ps_set (i := 8) sclaw.nd rfl (by first | exact Or.inl rfl | exact Or.inr rfl) (pe_ix ix_list (pe_lst (pa_cons pe_non (pa_cons pe_int (pa_cons (pv 5) (pa_cons pe_bl (pa_cons (pv 4) (pa_cons pe_dnewK pa_nil))))))) (pe_fn F__law_take hr (by decide) rfl (pa_cons (pv 3) (pa_cons pe_int pa_nil))) (fun _ _ => rfl)))
      (pss_cons (ps_set (i := 9) sclaw.nd rfl (by first | exact Or.inl rfl | exact Or.inr rfl) (pe_fn F__law_told hr (by decide) rfl (pa_cons (pv 8) pa_nil)))
      (pss_one (ps_if (PW.pt (pw_or (pt_not (pt_val (pe_callB (call_isKd .int (by simp)) rfl T.n_isinstance boot_isinstance (pa_cons (pv 9) (pa_cons (pe_bltn (v := .ty "int") rfl T.n_int boot_int rfl) pa_nil))))) (pw_or (pt_val (pe_callB (call_isKd .bl (by simp)) rfl T.n_isinstance boot_isinstance (pa_cons (pv 9) (pa_cons (pe_bltn (v := .ty "bool") rfl T.n_bool boot_bool rfl) pa_nil)))) (pw_or1 (pt_cmpR op_ne (pv 9) pe_int (nomark _)))))) (pss_one (ps_ret pe_bl)) pss_nil)))))))))))))
      (pss_one (ps_ret pe_bl)))), ?_⟩
    have hs : sizeLine = 16777216 := sizeLine_eq
    refine ⟨_, rfl, a, ns, 0, rfl, hS, fun c0 => ⟨c0, 12, (by decide), rfl, fun ln zs H1 s1 e1 z12 zw znd _ => ?_⟩⟩
    have wo : WsOk zs := ⟨z12, zw⟩
    refine ⟨_, rfl, _, _, rfl, .inl ⟨_, s1.seq hS, rfl⟩, _, _, rfl, _, _, rfl, ?_⟩
    generalize hL : (((ns.map V.int).length : Nat) : Int) = L
    obtain ⟨N, eN, h8⟩ : ∃ N : Nat, (if (if (6 : Int) < L then (6 : Int) else L) > (3 : Int) then (if (6 : Int) < L then (6 : Int) else L) else (3 : Int)) = (N : Int) ∧ N ≤ 6 := by
      refine ⟨(if (if (6 : Int) < L then (6 : Int) else L) > (3 : Int) then (if (6 : Int) < L then (6 : Int) else L) else (3 : Int)).toNat, ?_, ?_⟩ <;> split <;> split <;> omega
    rw [eN]
    refine ⟨N, rfl, (by omega), (by omega), for_range (n := N) (fun i σ H' => ∃ v2 v3 v4 v5 v6 v7 v8 v9 : Option V, σ = [some (.ref a), some (.ref ln), v2, v3, v4, v5, v6, v7, v8, v9] ∧ Same H1 H') ⟨_, _, _, _, _, _, _, _, rfl, Same.refl _⟩ ?_ ?_⟩
    rotate_left
    · rintro σ H2 ⟨v2, v3, v4, v5, v6, v7, v8, v9, rfl, s2⟩
      exact q _
    rintro i σ H2 hi ⟨v2, v3, v4, v5, v6, v7, v8, v9, rfl, s2⟩
    refine ⟨_, rfl, _, rfl, a, ns, i, (by show [V.ref a, V.int (0 + (i : Int))] = _; rw [Int.zero_add]), (s1.trans s2).seq hS, fun ci => ⟨ci, rfl, fun b x y z hb => ?_⟩⟩
    have O1 : Oth b (upd H2 b (.lst [.int x, .int y, .int z])) (upd H2 b (.lst [.int x, .int y, .int z])) := Oth.refl ⟨x, y, z, upd_same⟩
    have S0 : ∀ {H' : Hp}, Oth b (upd H2 b (.lst [.int x, .int y, .int z])) H' → Same H2 H' := fun {H'} o d u e => o.oth d u (by rw [upd_ne (ne_of_none e hb)]; exact e) (ne_of_none e hb)
    generalize upd H2 b (.lst [.int x, .int y, .int z]) = H3 at O1 S0 ⊢
    refine ⟨_, rfl, _, rfl, b, ln, zs, rfl, O1.box, S0 O1 _ _ (s2 _ _ e1), wo, fun fo p pk d l H4 sm o4 _ _ hF => ?_⟩
    have ok := sm.ok
    refine ⟨_, rfl, p, pk, d, l, fo, rfl, hF, ok, fun zs1 hp1 hs1 lr H5 s5 _ e5 => ?_⟩
    obtain ⟨rok, rl, rp⟩ := rows_ok sm hp1
    have et : Txt.join "\n" ((rowsF (fo.1, zs1.map (fun z => (z, lk fo.2.1 z)), fo.2.2)).map rowZ) = textF (fo.1, zs1.map (fun z => (z, lk fo.2.1 z)), fo.2.2) := rfl
    generalize hrs : (rowsF (fo.1, zs1.map (fun z => (z, lk fo.2.1 z)), fo.2.2)).map rowZ = rs at rok rl rp e5 et
    have o5 := o4.same s5
    have hF5 := hF.same s5
    obtain ⟨kvs, hd5, hc5⟩ := hF5.dct
    obtain ⟨ps, hl5, hn5⟩ := hF5.lst
    have rok1 : ∀ z ∈ rs, RowOk 1200 z := fun z hz => (rok z hz).mono (by decide)
    refine ⟨_, rfl, p, _, _, .ref pk, rfl, rfl, SqT.of hF5.at_, rfl, _, rfl, p, _, _, .ref d, rfl, rfl, SqT.of hF5.at_, rfl, d, kvs, rfl, hd5, fun d' hd' => ?_⟩
    have s6 := Same.new (o := .dK kvs.reverse) hd'
    have e6 : upd H5 d' (.dK kvs.reverse) d' = some (.dK kvs.reverse) := upd_same
    generalize upd H5 d' (.dK kvs.reverse) = H6 at s6 e6 ⊢
    refine ⟨_, rfl, p, _, _, .ref l, rfl, rfl, SqT.of (s6 _ _ hF5.at_), rfl, l, _, rfl, .inl (SqL.of (s6 _ _ hl5)), fun l' hl' => ?_⟩
    have s7 := Same.new (o := .lst (ps.map V.ref)) hl'
    have e7 : upd H6 l' (.lst (ps.map V.ref)) l' = some (.lst (ps.map V.ref)) := upd_same
    generalize upd H6 l' (.lst (ps.map V.ref)) = H7 at s7 e7 ⊢
    refine ⟨(by show 3 ≤ sizeLine; omega), fun p' hp' => ?_⟩
    have s8 := Same.new (o := .tup [.ref pk, .ref d', .ref l']) hp'
    have e8 : upd H7 p' (.tup [.ref pk, .ref d', .ref l']) p' = some (.tup [.ref pk, .ref d', .ref l']) := upd_same
    generalize upd H7 p' (.tup [.ref pk, .ref d', .ref l']) = H8 at s8 e8 ⊢
    have s58 := (s6.trans s7).trans s8
    have hF8 := hF5.same s58
    have hT8 : FAd H8 p' pk d' l' (fo.1, fo.2.1.reverse, fo.2.2) := ⟨e8, hF8.key, ⟨_, (s7.trans s8) _ _ e6, cen_rev (hc5.imp fun _ _ e => e.t (.of s58))⟩, ps, s8 _ _ e7, hn5.imp fun _ _ e => e.t (.of s58)⟩
    have er8 := s58 _ _ e5
    have hR := rev_ok ok
    refine ⟨_, rfl, p, pk, d, l, fo, rfl, hF8, ok, fun zs2 hp2 hs2 H9 s9 => ?_⟩
    have z21 : zs2 = zs1 := sorted_one hs2 hs1 (hp2.trans hp1.symm)
    subst z21
    refine ⟨rfl, _, rfl, _, lr, rs, rfl, rfl, SqL.of (s9 _ _ er8), join_fit rok1 (by omega), rfl, _, rfl, iteNs (fun y => absurd et.symm y) (fun _ => ?_)⟩
    refine ⟨_, rfl, p', pk, d', l', _, rfl, hT8.same s9, hR, fun zs3 hp3 hs3 H10 s10 => ?_⟩
    have hp3' : zs3.Perm (fo.2.1.map (·.1)) := by
      refine hp3.trans ?_
      show (fo.2.1.reverse.map (·.1)).Perm _
      rw [List.map_reverse]
      exact List.reverse_perm _
    have z31 : zs3 = zs2 := sorted_one hs3 hs2 (hp3'.trans hp2.symm)
    subst z31
    have s810 := s9.trans s10
    have eR : textF (fo.1, zs3.map (fun z => (z, lk fo.2.1.reverse z)), fo.2.2) = textF (fo.1, zs3.map (fun z => (z, lk fo.2.1 z)), fo.2.2) := by rw [rev_text ok hp3']
    refine ⟨rfl, _, rfl, _, lr, rs, rfl, rfl, SqL.of (s810 _ _ er8), join_fit rok1 (by omega), rfl, _, rfl, iteNs (fun y => absurd (eR.trans et.symm) y) (fun _ => ?_)⟩
    have hF10 := hF8.same s810
    have hT10 := hT8.same s810
    obtain ⟨kv1, ka1, ka2⟩ := hF10.dct
    obtain ⟨kv2, kb1, kb2⟩ := hT10.dct
    obtain ⟨pa, pa1, pa2⟩ := hF10.lst
    obtain ⟨pb, pb1, pb2⟩ := hT10.lst
    refine ⟨_, rfl, p', _, _, .ref d', rfl, rfl, SqT.of hT10.at_, rfl, _, rfl, p, _, _, .ref d, rfl, rfl, SqT.of hF10.at_, rfl, d', d, kv2, kv1, rfl, rfl, kb1, ka1, cen_like kb2 ka2 ok.nd (fun t ht => List.mem_reverse.mp ht) (List.length_reverse ..) (fun t ht => (hR.c t ht).2), _, rfl, iteF ?_⟩
    refine ⟨_, rfl, p', _, _, .ref l', rfl, rfl, SqT.of hT10.at_, rfl, _, rfl, p, _, _, .ref l, rfl, rfl, SqT.of hF10.at_, rfl, .list (fo.2.2.map ntD), .lst (SqL.of pb1) (nts_rd pb2), .lst (SqL.of pa1) (nts_rd pa2), nts_shaped (fun x hx => (ok.n x hx).1), _, rfl, iteF ?_⟩
    have er10 := s810 _ _ er8
    refine ⟨rfl, _, rfl, _, lr, rs, rfl, rfl, SqL.of er10, join_fit rok1 (by omega), _, rfl, tx_ok rok1 (by omega), fun H11 s11 => ⟨_, rfl, iteF ?_⟩⟩
    have o11 := (o5.same (s58.trans s810)).same s11
    have hF11 := hF10.same s11
    have er11 := s11 _ _ er10
    have nlb := strs_ne_box o11.box er11
    clear er10 hF10 hT10 hT8 hF8 er8 e8 e7 e6 hF5 hd5 hc5 hl5 hn5 ka1 ka2 kb1 kb2 pa1 pa2 pb1 pb2 et eR
    refine ⟨(by show 4 ≤ sizeLine; decide), fun lx hlx => ?_⟩
    have q6 : Oth b H11 (upd H11 lx (.lst [.int 0, .int 1, .int 1, .int 2])) := Oth.add o11.box hlx
    have ex : upd H11 lx (.lst [.int 0, .int 1, .int 1, .int 2]) lx = some (.lst [.int 0, .int 1, .int 1, .int 2]) := upd_same
    have nxb : lx ≠ b := Box.ne o11.box hlx
    generalize upd H11 lx (.lst [.int 0, .int 1, .int 1, .int 2]) = H12 at q6 ex ⊢
    refine ⟨_, rfl, b, 4, rfl, q6.box, (by decide), (by decide), fun r H13 r0 r4 o13 => ?_⟩
    obtain ⟨v, ev, mv⟩ := atI_get (xs := ([.int 0, .int 1, .int 1, .int 2] : List V)) r0 r4
    obtain ⟨g, hg2, rfl⟩ : ∃ g : Nat, g ≤ 2 ∧ v = V.int g := by
      simp only [List.mem_cons, List.not_mem_nil, or_false] at mv
      rcases mv with rfl | rfl | rfl | rfl
      · exact ⟨0, by decide, rfl⟩
      · exact ⟨1, by decide, rfl⟩
      · exact ⟨1, by decide, rfl⟩
      · exact ⟨2, by decide, rfl⟩
    have q13 := q6.trans o13
    have p13 := o11.trans q13
    have hF13 := hF11.oth o11.box q13
    have er13 : H13 lr = some (.lst (rs.map V.str)) := q13.oth _ _ er11 nlb
    refine ⟨lx, _, _, V.int g, rfl, rfl, SqL.of (o13.oth _ _ ex nxb), ev, g, rfl, (by omega), (by omega), for_range (n := g) (fun j σ H' => ∃ (v7 : Option V) (l5 : Addr) (rs : List Str), σ = [some (.ref a), some (.ref ln), some (.int (0 + (i : Int))), some (.ref b), some (.ref p), some (.ref l5), some (.ref p'), v7, v8, v9] ∧ Oth b H3 H' ∧ FAd H' p pk d l fo ∧ H' l5 = some (.lst (rs.map V.str)) ∧ rs.length ≤ 49 + j ∧ ∀ z ∈ rs, RowOk (bj j) z) ⟨_, lr, rs, rfl, p13, hF13, er13, by omega, rok⟩ ?_ ?_⟩
    · rintro j σ H14 hj ⟨v7, l5, rs, rfl, p14, hF14, e14, rl14, ro14⟩
      have hj : j < g := hj
      refine ⟨_, rfl, (by show 0 ≤ sizeLine; decide), fun le hle => ?_⟩
      have q15 : Oth b H14 (upd H14 le (.lst [])) := Oth.add p14.box hle
      have e15 : upd H14 le (.lst []) le = some (.lst []) := upd_same
      generalize upd H14 le (.lst []) = H15 at q15 e15 ⊢
      have nl14 := strs_ne_box p14.box e14
      have e15l := q15.oth _ _ e14 nl14
      have p15 := p14.trans q15
      have hF15 := hF14.oth p14.box q15
      have bm : bj j ≤ 368 ∧ 3 * bj j + 8 ≤ bj (j + 1) := by
        match j, (show j < 2 by omega) with
        | 0, _ => decide
        | 1, _ => decide
      refine ⟨l5, le, _, rfl, rfl, SqL.of e15l, SqL.of e15, _, rfl, ?_⟩
      cases rs with
      | nil => exact ⟨_, l5, [], rfl, p15, hF15, e15l, by simp, fun z hz => by cases hz⟩
      | cons z0 rs =>
        refine iteT ⟨_, rfl, _, rfl, b, l5, z0 :: rs, bj j, rfl, p15.box, e15l, by simp, by omega, ro14, by omega, fun l6 rs' H16 o16 e16 rl16 ro16 => ?_⟩
        exact ⟨_, l6, rs', rfl, p15.trans o16, hF15.oth p15.box o16, e16, by omega, fun z hz => (ro16 z hz).mono bm.2⟩
    rintro σ H14 ⟨v7, l5, rs, rfl, p14, hF14, e14, rl14, ro14⟩
    have bg : bj g ≤ 1200 := by
      match g, hg2 with
      | 0, _ => decide
      | 1, _ => decide
      | 2, _ => decide
    have rok14 : ∀ z ∈ rs, RowOk 1200 z := fun z hz => (ro14 z hz).mono bg
    refine ⟨rfl, _, rfl, _, l5, rs, rfl, rfl, SqL.of e14, join_fit rok14 (by omega), _, rfl, tx_ok rok14 (by omega), fun H15 s15 => ⟨_, rfl, iteF ?_⟩⟩
    have p15 := p14.same s15
    have e15 := s15 _ _ e14
    have hF15 := hF14.same s15
    refine ⟨_, rfl, _, rfl, fun ld hld => ?_⟩
    have q16 : Oth b H15 (upd H15 ld (.dK [])) := Oth.add p15.box hld
    have e16 : upd H15 ld (.dK []) ld = some (.dK []) := upd_same
    have ndb : ld ≠ b := Box.ne p15.box hld
    generalize upd H15 ld (.dK []) = H16 at q16 e16 ⊢
    have p16 := p15.trans q16
    refine ⟨(by show 6 ≤ sizeLine; decide), fun lt hlt => ?_⟩
    have q17 : Oth b H16 (upd H16 lt (.lst [.non, .int 7, .ref l5, .bl true, .ref p, .ref ld])) := Oth.add p16.box hlt
    have e17 : upd H16 lt (.lst [.non, .int 7, .ref l5, .bl true, .ref p, .ref ld]) lt = some (.lst [.non, .int 7, .ref l5, .bl true, .ref p, .ref ld]) := upd_same
    have nltb : lt ≠ b := Box.ne p16.box hlt
    generalize upd H16 lt (.lst [.non, .int 7, .ref l5, .bl true, .ref p, .ref ld]) = H17 at q17 e17 ⊢
    have p17 := p16.trans q17
    refine ⟨_, rfl, b, 6, rfl, p17.box, (by decide), (by decide), fun r2 H18 r20 r26 o18 => ?_⟩
    have p18 := p17.trans o18
    obtain ⟨v, ev2, mv2⟩ := atI_get (xs := ([.non, .int 7, .ref l5, .bl true, .ref p, .ref ld] : List V)) r20 r26
    have nl15 := strs_ne_box p15.box e15
    obtain ⟨kd, hkd, hns⟩ : ∃ kd : Kd, KdOf K H18 v kd ∧ kd.isA .str = false := by
      simp only [List.mem_cons, List.not_mem_nil, or_false] at mv2
      rcases mv2 with rfl | rfl | rfl | rfl | rfl | rfl
      · exact ⟨.non, TyOf.non, rfl⟩
      · exact ⟨.int, TyOf.int _, rfl⟩
      · exact ⟨.lst, TyOf.lst (((q16.trans q17).trans o18).oth _ _ e15 nl15), rfl⟩
      · exact ⟨.bl, TyOf.bl _, rfl⟩
      · exact ⟨.tup, TyOf.tup (((q16.trans q17).trans o18).oth _ _ hF15.at_ (tup_ne_box p15.box hF15.at_)), rfl⟩
      · exact ⟨.dct, TyOf.dK ((q17.trans o18).oth _ _ e16 ndb), rfl⟩
    refine ⟨lt, _, _, v, rfl, rfl, SqL.of (o18.oth _ _ e17 nltb), ev2, ?_⟩
    refine ⟨_, rfl, v, rfl, .inr ⟨kd, hkd, hns, fun H19 s19 => ?_⟩⟩
    refine ⟨_, rfl, _, .int, rfl, TyOf.int _, _, rfl, iteF ?_⟩
    refine ⟨_, rfl, _, .int, rfl, TyOf.int _, _, rfl, iteF ?_⟩
    refine ⟨_, rfl, rfl, _, rfl, iteF ?_⟩
    exact ⟨_, _, _, _, _, _, _, _, rfl, s2.trans ((S0 p18).trans s19)⟩
end
end K78
namespace K78
open PySem L2 PyProof.Rows
theorem ikt_weak : ∀ vs H Q E, spIKT vs H Q E → spIKTA vs H Q E := fun vs H Q E ⟨a, n, e, ha, hn, q⟩ => ⟨textZ a n, e, (by have := text_len ha (n := (n : Int)) (by omega) (by omega); omega), fun H' s' => by
  have hk : keyP (textZ a n) = some (a, n) := keyP_text (k := (a, n)) ⟨ha, hn⟩
  rw [keyP_is, hk]
  exact q H' s'⟩
def jOk (K : PySem.W.Frag) (C : Addr) : Bool := PySem.W.plainGet K C Str.empty && PySem.W.hasDictIn K C && PySem.W.plainOver K C && PySem.W.findIn K (.ref C) "__setattr__" == some (some (.builtin "object.__setattr__")) && PySem.W.makesIn K C && PySem.W.findIn K (.ref C) "__init__" == some (some (.builtin "object.__init__")) && PySem.W.keepIn K (.ref C)
theorem jOk_of {K : PySem.W.Frag} {C : Addr} (h : jOk K C = true) : Cls K C ∧ PySem.W.makesIn K C = true ∧ PySem.W.findIn K (.ref C) "__init__" = some (some (.builtin "object.__init__")) ∧ PySem.W.keepIn K (.ref C) = true := by
  unfold jOk at h
  simp only [Bool.and_eq_true, beq_iff_eq] at h
  obtain ⟨⟨⟨⟨⟨⟨a, b⟩, c⟩, d⟩, e⟩, f⟩, g⟩ := h
  exact ⟨⟨a, b, c, d⟩, e, f, g⟩
structure KTop (K : PySem.W.Frag) (mg : Str → Option Value) (ct g c0 c1 c2 c3 : Addr) : Prop where
  gb : GBase K mg "GrantError" g
  xt : XTop K mg "BadText" "line" sBadText ct g
  gc : (PySem.W.clsIn K g).isSome = true
  gt : PySem.W.typeIn K (.ref g) = some (.type "type")
  ge : PySem.W.mroIn K g (.type "BaseException") = some true
  ng : ct ≠ g
  m0 : mg "Called" = some (.ref c0)
  m1 : mg "Beside" = some (.ref c1)
  m2 : mg "Joined" = some (.ref c2)
  m3 : mg "Changed" = some (.ref c3)
  o0 : jOk K c0 = true
  o1 : jOk K c1 = true
  o2 : jOk K c2 = true
  o3 : jOk K c3 = true
  w0 : MTop K c0 "word" "Called.word" sCalled_word ["self"]
  w1 : MTop K c1 "word" "Beside.word" sBeside_word ["self"]
  w2 : MTop K c2 "word" "Joined.word" sJoined_word ["self"]
  w3 : MTop K c3 "word" "Changed.word" sChanged_word ["self"]
theorem ktop_mk {K : PySem.W.Frag} {mg : Str → Option Value} {ct g c0 c1 c2 c3 : Addr} (gb : GBase K mg "GrantError" g) (xt : XTop K mg "BadText" "line" sBadText ct g) (gc : (PySem.W.clsIn K g).isSome = true) (gt : PySem.W.typeIn K (.ref g) = some (.type "type")) (ge : PySem.W.mroIn K g (.type "BaseException") = some true) (ng : ct ≠ g) (m0 : mg "Called" = some (.ref c0)) (m1 : mg "Beside" = some (.ref c1)) (m2 : mg "Joined" = some (.ref c2)) (m3 : mg "Changed" = some (.ref c3)) (o0 : jOk K c0 = true) (o1 : jOk K c1 = true) (o2 : jOk K c2 = true) (o3 : jOk K c3 = true) (w0 : MTop K c0 "word" "Called.word" sCalled_word ["self"]) (w1 : MTop K c1 "word" "Beside.word" sBeside_word ["self"]) (w2 : MTop K c2 "word" "Joined.word" sJoined_word ["self"]) (w3 : MTop K c3 "word" "Changed.word" sChanged_word ["self"]) : ∃ ct g c0 c1 c2 c3, KTop K mg ct g c0 c1 c2 c3 := ⟨ct, g, c0, c1, c2, c3, gb, xt, gc, gt, ge, ng, m0, m1, m2, m3, o0, o1, o2, o3, w0, w1, w2, w3⟩
section
variable {P : Program} {w : World} {K : PySem.W.Frag} {mg : Str → Option Value} {base : Heap} {ct g c0 c1 c2 c3 : Addr}
theorem jhas_of (h : KTop K mg ct g c0 c1 c2 c3) : JHas P w K mg base ⟨c0, c1, c2, c3⟩ := by
  have q0 := jOk_of h.o0
  have q1 := jOk_of h.o1
  have q2 := jOk_of h.o2
  have q3 := jOk_of h.o3
  refine ⟨⟨h.m0, q0.2.1, q0.2.2.1, q0.2.2.2⟩, ⟨h.m1, q1.2.1, q1.2.2.1, q1.2.2.2⟩, ⟨h.m2, q2.2.1, q2.2.2.1, q2.2.2.2⟩, ⟨h.m3, q3.2.1, q3.2.2.1, q3.2.2.2⟩, fun j hj => ?_⟩
  · rcases j4 hj with rfl | rfl | rfl | rfl
    · exact methD_of q0.1 h.w0 fun f fd F => ok_Called_word F
    · exact methD_of q1.1 h.w1 fun f fd F => ok_Beside_word F
    · exact methD_of q2.1 h.w2 fun f fd F => ok_Joined_word F
    · exact methD_of q3.1 h.w3 fun f fd F => ok_Changed_word F
end
theorem law_fn2 {P : Program} {w : World} {K : PySem.W.Frag} {mg : Str → Option Value} {fa : Addr} (hfa : mg "law" = some (.ref fa)) (T : Txt mg) (N : Tx2 mg)
    (tis_word : TopFn K mg "is_word" sis_word ["thing"]) (tkey_text : TopFn K mg "key_text" skey_text ["key"]) (tis_number_text : TopFn K mg "is_number_text" sis_number_text ["text", "longest"]) (tis_key_text : TopFn K mg "is_key_text" sis_key_text ["text"]) (tkey_of : TopFn K mg "key_of" skey_of ["text"]) (tall_joins : TopFn K mg "all_joins" sall_joins []) (tjoin_words : TopFn K mg "join_words" sjoin_words []) (towe_row : TopFn K mg "owe_row" sowe_row ["duty", "name", "offer", "road"]) (tshow_folder : TopFn K mg "show_folder" sshow_folder ["folder"]) (tis_under_row : TopFn K mg "is_under_row" sis_under_row ["words"]) (tis_take_row : TopFn K mg "is_take_row" sis_take_row ["words", "ahead"]) (tis_owe_row : TopFn K mg "is_owe_row" sis_owe_row ["words"]) (troad_of : TopFn K mg "road_of" sroad_of ["words"]) (tneed_forms : TopFn K mg "need_forms" sneed_forms ["rows"]) (tread_folder : TopFn K mg "read_folder" sread_folder ["text"]) (t_law_cell : TopFn K mg "_law_cell" s_law_cell ["_law_script", "_law_k"]) (t_law_mixed : TopFn K mg "_law_mixed" s_law_mixed ["_law_cell_here", "_law_k"]) (t_law_box : TopFn K mg "_law_box" s_law_box ["_law_cell_here"]) (t_law_take : TopFn K mg "_law_take" s_law_take ["_law_box_here", "_law_many"]) (t_law_words : TopFn K mg "_law_words" s_law_words ["_law_cell_here", "_law_many"]) (t_law_key_drawn : TopFn K mg "_law_key_drawn" s_law_key_drawn ["_law_box_here", "_law_words_here"]) (t_law_folder : TopFn K mg "_law_folder" s_law_folder ["_law_box_here", "_law_words_here"]) (t_law_key_text : TopFn K mg "_law_key_text" s_law_key_text ["_law_key_here"]) (t_law_text_rows : TopFn K mg "_law_text_rows" s_law_text_rows ["_law_folder_here"]) (t_law_word_spoilt : TopFn K mg "_law_word_spoilt" s_law_word_spoilt ["_law_box_here", "_law_row"]) (t_law_spoilt : TopFn K mg "_law_spoilt" s_law_spoilt ["_law_box_here", "_law_rows"]) (t_law_is_word : TopFn K mg "_law_is_word" s_law_is_word ["_law_text"]) (t_law_key : TopFn K mg "_law_key" s_law_key ["_law_text"]) (t_law_owed : TopFn K mg "_law_owed" s_law_owed ["_law_words_here"]) (t_law_taken : TopFn K mg "_law_taken" s_law_taken ["_law_words_here", "_law_last"]) (t_law_read : TopFn K mg "_law_read" s_law_read ["_law_text"]) (t_law_told : TopFn K mg "_law_told" s_law_told ["_law_text"]) (t_law_right : TopFn K mg "_law_right" s_law_right ["_law_text"]) (tlaw : TopFn K mg "law" slaw ["_law_script"]) (hk : ∃ ct g c0 c1 c2 c3, KTop K mg ct g c0 c1 c2 c3) :
    ∃ fd : FuncData, (∀ (s : Shared) (v : Value), BindsTo s fd ⟨[v], []⟩ [("_law_script", v)]) ∧ ∀ base : Heap, K.In base → base.Ns mainGlobals mg → FnOk P w K mg base CX0 9 fa fd ["_law_script"] (spLaw K) := by
  obtain ⟨ct, g, c0, c1, c2, c3, k⟩ := hk
  exact law_mk tlaw hfa sclaw fun base _ _ f cdv A outer s H vs Q E hr h =>
    have Fwo := ok_word T tis_word
    have JD : JHas P w K mg base ⟨c0, c1, c2, c3⟩ := jhas_of k
    have Faj := ok_all JD tall_joins
    have XT : XAt P w K mg base "BadText" 1 "line" ct := ok_BadText k.gb k.xt
    have XH : BHas P w K mg base ct g := ⟨XT, k.xt.mro, k.ng⟩
    have Fkt := ok_key_text tkey_text
    have Fnu := ok_numA T N tis_number_text
    have Fik := ok_iktA T Fwo Fnu tis_key_text
    have Fke' := ok_keo T (Fik.weak ikt_weak) tkey_of
    have Fjw := ok_jw JD Faj tjoin_words
    have Fro := ok_ro T troad_of
    have Fur := ok_ur T Fik tis_under_row
    have Ftr := ok_tr T Fwo Fik tis_take_row
    have For := ok_or T Fwo Fik Fjw Fro tis_owe_row
    have Fnf := ok_nf T XT Fur Ftr For tneed_forms
    have Frf := ok_rf T XT Fnf Fke' Fro tread_folder
    have Fow := ok_ow T Fkt towe_row
    have Fsf := ok_sf T Fkt Fow tshow_folder
    have Fc := ok_cell T t_law_cell
    have Fx := ok_mixed t_law_mixed
    have Fbx := ok_box t_law_box
    have Ft := ok_take Fx t_law_take
    have Fwd := ok_words T Fbx Ft t_law_words
    have Fkd := ok_kd T Ft t_law_key_drawn
    have Flf := ok_lf T Ft Fkd t_law_folder
    have Flkt := ok_lkt T t_law_key_text
    have Flt := ok_lt T Flkt t_law_text_rows
    have Fws := ok_ws T Ft t_law_word_spoilt
    have Fsp := ok_sp T Ft Fws t_law_spoilt
    have Flw := ok_lw T t_law_is_word
    have Flk := key_kn (ok_lk T Flw t_law_key)
    have Fod := ok_od T Flw Flk t_law_owed
    have Ftk := ok_tk T Flw Flk t_law_taken
    have Frd := ok_lrd T Flk Fod Ftk t_law_read
    have Fto := ok_told T XH Frf t_law_told
    have Frt := ok_rt T Fto Frd Fsf t_law_right
    law_body T Fc Fbx Ft Fwd Flf Flt Fsf Fsp Frt Fto f cdv A outer s H vs Q E hr h
end K78
namespace PySem.W.Fast
def tw1153214618553377905:=0
def tw6897524303355155541:=0
def tw1483153918844150413:=0
def tw7226635490412033038:=0
def tw8588016971874075568:=0
def tw7988382234229483355:=0
def tw10003863396707080326:=0
def tw14810421026093794594:=0
def tw24659565812031897:=0
def tw17806816591429214025:=0
def tw3170230247598808079:=0
def tw14920781705997168722:=0
def tw5281644200793368617:=0
def tw9939856559940945407:=0
def tw9585989732381171237:=0
def tw9355775718815830611:=0
def tw10503894398855682368:=0
def tw2364412389184354369:=0
def tw6049321867977482627:=0
def tw4780100860910125882:=0
def tw15205838690970969755:=0
def tw13032927073335696554:=0
def tw2124425439515463959:=0
def tw10231888708974123041:=0
def tw2670230759545568435:=0
def tw4645666704248163470:=0
def tw4229560649031511811:=0
def tw8844037182174720:=0
def tw6598294385984938580:=0
def tw15222985520852299192:=0
def tw6105537789691009646:=0
def tw4296440683020884580:=0
def tw9234487464748747938:=0
def tw1174530389050606080:=0
def tw2740746594684949177:=0
def tw10134672183400930741:=0
def tw9187644465928109576:=0
def tw14881526929013023936:=0
def tw11186984178733762588:=0
def tw13587996132762180392:=0
def tw16324044861968703040:=0
def tw1245697188756303994:=0
def tw4558224293141249590:=0
def tw14850127062186719612:=0
def tw14256794719943306282:=0
def tw10924865912831277922:=0
def tw3608596218365054027:=0
def tw15913943207178822171:=0
def tw7643762574973960583:=0
def tw15547537374381680919:=0
def tw5758006210367550985:=0
def tw17175540183700765319:=0
def tw15022370477680522727:=0
def tw7801693500225861261:=0
def tw10347884366441269230:=0
def tw4733318715213974484:=0
def tw12293344119911570147:=0
def tw3448401169796512008:=0
def tw6050574884198621426:=0
def tw8317447994190612634:=0
def tw14806948294059043086:=0
def tw5390148092097620077:=0
def tw5493689225810993243:=0
def tw3309656890882326593:=0
def tw17088832624546498067:=0
def tw5158858729011572253:=0
def tw3009112172535477838:=0
def tw17651988345151291897:=0
def tw18156976582127546821:=0
def tw13102322069106582699:=0
def tw15597772823087159476:=0
def tw17448286327266459287:=0
def tw5499514147076932032:=0
def tw10723511043902620534:=0
def tw15282528107933971255:=0
def tw9991161654903615609:=0
def tw18393462279624024352:=0
def tw1873501287250177270:=0
def tw4999398049778027561:=0
def tw374134210155162697:=0
def tw12642413779333311346:=0
def tw12128962333551998782:=0
def tw1149466117751496433:=0
def tw18344902642444956120:=0
def tw14883918619216130274:=0
def tw5863011718634792085:=0
def tw670441407513303656:=0
def tw4200681100701234956:=0
def tw12747389039083878867:=0
def tw4708090925726559310:=0
def tw743306097762423033:=0
def tw14412156445744350308:=0
def tw6030191230877728086:=0
def tw4729269465172733633:=0
def tw4577361993923691340:=0
def tw12432877187030607533:=0
def tw5380857794536519224:=0
def tw12838194194518448908:=0
def tw18261422307852396728:=0
def tw5134888023343442244:=0
def tw646629113545443470:=0
def tw14792591483671347675:=0
def tw15254110820250298520:=0
def tw3368174080459482552:=0
def tw11222306795419701347:=0
def tw4931486381565299424:=0
def tw2229333659153484362:=0
def tw13216580782086013561:=0
def tw5509767820742809210:=0
def tw9607100079628620320:=0
def tw3353769856180513711:=0
def tw3093078857078666576:=0
def tw12553900771389781850:=0
def tw11780055784715760335:=0
def tw1158157345623236597:=0
def tw11433846629030528265:=0
def tw16619112347185983269:=0
def tw2813144919314185163:=0
def tw17779368088679565156:=0
def tw352148169497865013:=0
def tw4398557521475988000:=0
def tw10150514612463652846:=0
def tw5578544057276254227:=0
def tw16084045281020040687:=0
def tw10273032110218643819:=0
def tw16861948907117383239:=0
def tw14978000380134860433:=0
def tw8343672116112359444:=0
def tw3166826594471646224:=0
def tw3011710107089644542:=0
def tw18138048252961854451:=0
def tw6979302634657050382:=0
def tw12692416045733557567:=0
def tw11687168557392937886:=0
def tw2798751375508332865:=0
def tw14565998751467703058:=0
def tw9163853105034778737:=0
def tw2592849756015704656:=0
def tw7240094042917005274:=0
def tw10019811735350398350:=0
def tw12043074728399926880:=0
def tw6125165181598986727:=0
def tw9297554503933973182:=0
def tw8256064813035489728:=0
def tw14197050050224519718:=0
def tw5565592163492120042:=0
def tw936465716018698377:=0
def tw12177932243210067665:=0
def tw4001294530472391320:=0
def tw16144249679619355161:=0
def tw15545413838843572425:=0
def tw5686421348151197889:=0
def tw7647459090380615820:=0
def tw7780606327709128452:=0
def tw17932831117697698040:=0
def tw4289804966044587594:=0
def tw11863188623605221600:=0
def tw17181819101234066549:=0
def tw13222214598416569762:=0
def tw6220216769098552239:=0
def tw10616970488403937171:=0
def tw2265514556776654057:=0
def tw6438449077035708450:=0
def tw13100743733580960306:=0
def tw11989543832976639124:=0
def tw6556426473540442909:=0
def tw7867430716075568320:=0
def tw2544512030490329494:=0
def tw283877093703044422:=0
def tw10622640330181201964:=0
def tw10014664751347056066:=0
def tw16879188370732386822:=0
def tw1470288651996752921:=0
def tw15234656531777784450:=0
def tw731017773514545088:=0
def tw2662283354097486200:=0
def tw17350678834369171872:=0
def tw178438251075001491:=0
def tw10837111273969346310:=0
def tw10421315183666253017:=0
def tw11732429864614417380:=0
def tw2393962818690377792:=0
def tw14385762396082382575:=0
def tw4265147186112995000:=0
def tw13810567512613417907:=0
def tw17399339669608060416:=0
def tw7507553676013065692:=0
def tw7490756901052057300:=0
def tw15916717581389551493:=0
def tw4597220227704820308:=0
def tw15718515628088546511:=0
def tw16956184942844946026:=0
def tw16027723631089863212:=0
def tw10543398341466967405:=0
def tw3497072535163557208:=0
def tw1921143983868261443:=0
def tw7306120037442591122:=0
def tw7760470667028838301:=0
def tw15570096553256004797:=0
def tw7828320861378327047:=0
def tw10796481076880051202:=0
def tw9912248288398896362:=0
def tw7755584422295757583:=0
def tw5327318925962001807:=0
def tw10882513505289375746:=0
def tw21024703661497147:=0
def tw5322787105701799508:=0
def tw8526065477120211738:=0
def tw1188079041760442299:=0
def tw8941710587717294272:=0
def tw11302222230137868307:=0
def tw1637494112008756673:=0
def tw12449242826399860302:=0
def tw4856814291900449733:=0
def tw6608125943994223194:=0
def tw639595630764915593:=0
def tw8324746270207214181:=0
def tw8887603373443456168:=0
def tw14036531164005154016:=0
def tw10016541297006020340:=0
def tw14173645385041786035:=0
def tw6468603566784781758:=0
def tw715701242762684412:=0
def tw9397814748008005639:=0
def tw5283885641706430141:=0
def tw10914462265140998808:=0
def tw10069193885640601357:=0
def tw1599997288672443309:=0
def tw3865435830765985899:=0
def tw18016381690471182286:=0
def tw6805463353649143151:=0
def tw261859751371418710:=0
def tw4544434847503345728:=0
def tw14195767245216226259:=0
def tw13775287020862251251:=0
def tw14619786322370456551:=0
def tw453971047639144593:=0
def tw16749381672639573873:=0
def tw7556456957079740622:=0
def tw6876655774534055381:=0
def tw11911565861939221018:=0
def tw7263837440650293193:=0
def tw8237012570787555304:=0
def tw3400448700773813650:=0
def tw15700076158805375747:=0
def tw14771630456399826672:=0
def tw11176960500578771963:=0
def tw3543535257675941902:=0
def tw5484207323206884730:=0
def tw4288290950590485781:=0
def tw5655738957051749291:=0
def tw5670562725291134549:=0
def tw807634063459075679:=0
def tw199258890233335222:=0
def tw2352062515297621632:=0
def tw17161311970014341320:=0
def tw10904217499868655804:=0
def tw1083635351517579569:=0
def tw13238882153415673915:=0
def tw1204672387468158577:=0
def tw6692541434459347041:=0
def tw9143939109791861839:=0
def tw2935909488890576928:=0
def tw12532804168689546225:=0
def tw15907151408544157414:=0
def tw13662425857747838249:=0
def tw13362902651413212699:=0
def tw2235701288535244622:=0
def tw9499741150756581752:=0
def tw6072330628720291475:=0
def tw5677859231066768781:=0
def tw1776207322736158259:=0
def tw7203951160117628470:=0
def tw12072407573028390388:=0
def tw6330726792839802024:=0
def tw592594355127651021:=0
def tw6540385098829622028:=0
def tw5430818744991199667:=0
def tw16057663089733620576:=0
def tw18413317554993098905:=0
def tw4982228662733565369:=0
def tw17525763630829064404:=0
def tw14062327040891494689:=0
def tw4523849346414678229:=0
def tw16547722810886022328:=0
def tw12762510585125549884:=0
def tw10901878725786779143:=0
def tw2765362830788176251:=0
def tw11873128594480972056:=0
def tw17346268569542630853:=0
def tw14477375077722280863:=0
def tw11310744039851820433:=0
def tw8002635687332929758:=0
def tw15273215498083011750:=0
def tw10965152420152251787:=0
def tw9514325725142455465:=0
def tw6649483967639531150:=0
def tw2242483566144493981:=0
def tw7212192772190574123:=0
def tw17396962039051893573:=0
def tw7308176466548318091:=0
def tw1695235558318191442:=0
def tw3909501672251302635:=0
def tw14529220112715464880:=0
def tw9739313990501686263:=0
def tw12316749649808283015:=0
def tw3248168893095258070:=0
def tw18155267280745570765:=0
def tw5349480950420631326:=0
def tw10858429627322651282:=0
def tw12555556195397197773:=0
def tw11783275178352965289:=0
def tw8361032970399776137:=0
def tw8347551420402294359:=0
def tw17491806687118599712:=0
def tw4639988740837716871:=0
def tw10510486184403852707:=0
def tw15311884603226892855:=0
def tw12508219478881868766:=0
def tw368631404996326832:=0
def tw12424283669640619180:=0
def tw9425424658708650025:=0
def tw14182265496072077584:=0
def tw13097717733664857605:=0
def tw10551444956398375628:=0
def tw12492252935917055810:=0
def tw8604251547757726474:=0
def tw4861976356189124667:=0
def tw3441362660990963715:=0
def tw9140672971471776305:=0
def tw13119840767628288913:=0
def tw2352565975568194249:=0
def tw13435374455276553581:=0
def tw8134467715596270408:=0
def tw17941054677746703180:=0
def tw2735557479960125014:=0
def tw5179909267327040100:=0
def tw11908890187186800286:=0
def tw31779607993509693:=0
def tw6216488350677133012:=0
def tw12544888582343205556:=0
def tw14033782092445361648:=0
def tw12753517281140335490:=0
def tw2105143449320550771:=0
def tw1438567530210397077:=0
def tw724203388365935383:=0
def tw11642421599301735067:=0
def tw5084366541447747233:=0
def tw4529809514913274543:=0
def tw707163057721424238:=0
def tw2796643655238564253:=0
def tw8288521981202535269:=0
def tw12604061128315547728:=0
def tw13448385452088307950:=0
def tw6173164469919742402:=0
def tw4046361940645496039:=0
def tw16446618887708443381:=0
def tw18418099586522015354:=0
def tw16742117888141972815:=0
def tw7605875652022333736:=0
def tw12408601612278508169:=0
def tw10002785935343153206:=0
def tw17946412529308785764:=0
def tw326891553928444101:=0
def tw5998027442508515348:=0
def tw13206728257671153402:=0
def tw11957267995079024702:=0
def tw2856538579170424919:=0
def tw9286301700351457998:=0
def tw13923595133909233394:=0
def tw9030257878314900990:=0
def tw12793280911694735497:=0
def tw8652615289261314224:=0
def tw232448501608059962:=0
def tw9603544261613247457:=0
def tw15842147455386527664:=0
def tw10245332890397578917:=0
def tw5821363024342789944:=0
def tw2879478653040486583:=0
def tw6484586652677499961:=0
def tw15312795260555505590:=0
def tw569084245586418823:=0
def tw16501461614714332860:=0
def tw3487146569499696321:=0
def tw16350071118440672678:=0
def tw769708951626719685:=0
def tw3924020270386551333:=0
def tw3097928726415098559:=0
def tw8219596595781511633:=0
def tw1339845924025431238:=0
def tw4159003622685626614:=0
def tw439370241882403784:=0
def tw10682202121374580830:=0
def tw9343871186504832848:=0
def tw1576140832630133821:=0
def tw8346414838492545166:=0
def tw8863266222120957523:=0
end PySem.W.Fast
open PySem PySem.W PyProof.Rows
set_option maxRecDepth 100000 in
set_option maxHeartbeats 0 in
theorem PySem.Challenge.cw_grantweave_k78_whole_any_folder_text_holds : PySem.Challenge.rw_grantweave_k78_whole_any_folder_text.Holds := by
  w_on; o_law; k_head; (case hw => w_witness2)
  k_fill
  refine L2.law_walk (l := PySem.Challenge.rw_grantweave_k78_whole_any_folder_text) (x := "_law_script") (k := 9) rfl rfl ⟨rfl, by decide, by decide, rfl⟩ (fun w h Y => PySem.W.kIn_of Y) ?F
  case F =>
    intro w mg fa h KX G hmg
    have t_is_word : L2.TopFn (L2.KOf KX) mg "is_word" K78.sis_word ["thing"] := by
      refine' L2.topFn_of KX G (fun _ _ _ _ _ _ us hl => match us, hl with | [_], _ => rfl) ?a ?l ?c ?k
      (case a => k_is); (case l => k_is); (case c => k_is); (case k => k_is)
    have t_key_text : L2.TopFn (L2.KOf KX) mg "key_text" K78.skey_text ["key"] := by
      refine' L2.topFn_of KX G (fun _ _ _ _ _ _ us hl => match us, hl with | [_], _ => rfl) ?a ?l ?c ?k
      (case a => k_is); (case l => k_is); (case c => k_is); (case k => k_is)
    have t_is_number_text : L2.TopFn (L2.KOf KX) mg "is_number_text" K78.sis_number_text ["text", "longest"] := by
      refine' L2.topFn_of KX G (fun _ _ _ _ _ _ us hl => match us, hl with | [_, _], _ => rfl) ?a ?l ?c ?k
      (case a => k_is); (case l => k_is); (case c => k_is); (case k => k_is)
    have t_is_key_text : L2.TopFn (L2.KOf KX) mg "is_key_text" K78.sis_key_text ["text"] := by
      refine' L2.topFn_of KX G (fun _ _ _ _ _ _ us hl => match us, hl with | [_], _ => rfl) ?a ?l ?c ?k
      (case a => k_is); (case l => k_is); (case c => k_is); (case k => k_is)
    have t_key_of : L2.TopFn (L2.KOf KX) mg "key_of" K78.skey_of ["text"] := by
      refine' L2.topFn_of KX G (fun _ _ _ _ _ _ us hl => match us, hl with | [_], _ => rfl) ?a ?l ?c ?k
      (case a => k_is); (case l => k_is); (case c => k_is); (case k => k_is)
    have t_all_joins : L2.TopFn (L2.KOf KX) mg "all_joins" K78.sall_joins [] := by
      refine' L2.topFn_of KX G (fun _ _ _ _ _ _ us hl => match us, hl with | [], _ => rfl) ?a ?l ?c ?k
      (case a => k_is); (case l => k_is); (case c => k_is); (case k => k_is)
    have t_join_words : L2.TopFn (L2.KOf KX) mg "join_words" K78.sjoin_words [] := by
      refine' L2.topFn_of KX G (fun _ _ _ _ _ _ us hl => match us, hl with | [], _ => rfl) ?a ?l ?c ?k
      (case a => k_is); (case l => k_is); (case c => k_is); (case k => k_is)
    have t_owe_row : L2.TopFn (L2.KOf KX) mg "owe_row" K78.sowe_row ["duty", "name", "offer", "road"] := by
      refine' L2.topFn_of KX G (fun _ _ _ _ _ _ us hl => match us, hl with | [_, _, _, _], _ => rfl) ?a ?l ?c ?k
      (case a => k_is); (case l => k_is); (case c => k_is); (case k => k_is)
    have t_show_folder : L2.TopFn (L2.KOf KX) mg "show_folder" K78.sshow_folder ["folder"] := by
      refine' L2.topFn_of KX G (fun _ _ _ _ _ _ us hl => match us, hl with | [_], _ => rfl) ?a ?l ?c ?k
      (case a => k_is); (case l => k_is); (case c => k_is); (case k => k_is)
    have t_is_under_row : L2.TopFn (L2.KOf KX) mg "is_under_row" K78.sis_under_row ["words"] := by
      refine' L2.topFn_of KX G (fun _ _ _ _ _ _ us hl => match us, hl with | [_], _ => rfl) ?a ?l ?c ?k
      (case a => k_is); (case l => k_is); (case c => k_is); (case k => k_is)
    have t_is_take_row : L2.TopFn (L2.KOf KX) mg "is_take_row" K78.sis_take_row ["words", "ahead"] := by
      refine' L2.topFn_of KX G (fun _ _ _ _ _ _ us hl => match us, hl with | [_, _], _ => rfl) ?a ?l ?c ?k
      (case a => k_is); (case l => k_is); (case c => k_is); (case k => k_is)
    have t_is_owe_row : L2.TopFn (L2.KOf KX) mg "is_owe_row" K78.sis_owe_row ["words"] := by
      refine' L2.topFn_of KX G (fun _ _ _ _ _ _ us hl => match us, hl with | [_], _ => rfl) ?a ?l ?c ?k
      (case a => k_is); (case l => k_is); (case c => k_is); (case k => k_is)
    have t_road_of : L2.TopFn (L2.KOf KX) mg "road_of" K78.sroad_of ["words"] := by
      refine' L2.topFn_of KX G (fun _ _ _ _ _ _ us hl => match us, hl with | [_], _ => rfl) ?a ?l ?c ?k
      (case a => k_is); (case l => k_is); (case c => k_is); (case k => k_is)
    have t_need_forms : L2.TopFn (L2.KOf KX) mg "need_forms" K78.sneed_forms ["rows"] := by
      refine' L2.topFn_of KX G (fun _ _ _ _ _ _ us hl => match us, hl with | [_], _ => rfl) ?a ?l ?c ?k
      (case a => k_is); (case l => k_is); (case c => k_is); (case k => k_is)
    have t_read_folder : L2.TopFn (L2.KOf KX) mg "read_folder" K78.sread_folder ["text"] := by
      refine' L2.topFn_of KX G (fun _ _ _ _ _ _ us hl => match us, hl with | [_], _ => rfl) ?a ?l ?c ?k
      (case a => k_is); (case l => k_is); (case c => k_is); (case k => k_is)
    have t__law_cell : L2.TopFn (L2.KOf KX) mg "_law_cell" K78.s_law_cell ["_law_script", "_law_k"] := by
      refine' L2.topFn_of KX G (fun _ _ _ _ _ _ us hl => match us, hl with | [_, _], _ => rfl) ?a ?l ?c ?k
      (case a => k_is); (case l => k_is); (case c => k_is); (case k => k_is)
    have t__law_mixed : L2.TopFn (L2.KOf KX) mg "_law_mixed" K78.s_law_mixed ["_law_cell_here", "_law_k"] := by
      refine' L2.topFn_of KX G (fun _ _ _ _ _ _ us hl => match us, hl with | [_, _], _ => rfl) ?a ?l ?c ?k
      (case a => k_is); (case l => k_is); (case c => k_is); (case k => k_is)
    have t__law_box : L2.TopFn (L2.KOf KX) mg "_law_box" K78.s_law_box ["_law_cell_here"] := by
      refine' L2.topFn_of KX G (fun _ _ _ _ _ _ us hl => match us, hl with | [_], _ => rfl) ?a ?l ?c ?k
      (case a => k_is); (case l => k_is); (case c => k_is); (case k => k_is)
    have t__law_take : L2.TopFn (L2.KOf KX) mg "_law_take" K78.s_law_take ["_law_box_here", "_law_many"] := by
      refine' L2.topFn_of KX G (fun _ _ _ _ _ _ us hl => match us, hl with | [_, _], _ => rfl) ?a ?l ?c ?k
      (case a => k_is); (case l => k_is); (case c => k_is); (case k => k_is)
    have t__law_words : L2.TopFn (L2.KOf KX) mg "_law_words" K78.s_law_words ["_law_cell_here", "_law_many"] := by
      refine' L2.topFn_of KX G (fun _ _ _ _ _ _ us hl => match us, hl with | [_, _], _ => rfl) ?a ?l ?c ?k
      (case a => k_is); (case l => k_is); (case c => k_is); (case k => k_is)
    have t__law_key_drawn : L2.TopFn (L2.KOf KX) mg "_law_key_drawn" K78.s_law_key_drawn ["_law_box_here", "_law_words_here"] := by
      refine' L2.topFn_of KX G (fun _ _ _ _ _ _ us hl => match us, hl with | [_, _], _ => rfl) ?a ?l ?c ?k
      (case a => k_is); (case l => k_is); (case c => k_is); (case k => k_is)
    have t__law_folder : L2.TopFn (L2.KOf KX) mg "_law_folder" K78.s_law_folder ["_law_box_here", "_law_words_here"] := by
      refine' L2.topFn_of KX G (fun _ _ _ _ _ _ us hl => match us, hl with | [_, _], _ => rfl) ?a ?l ?c ?k
      (case a => k_is); (case l => k_is); (case c => k_is); (case k => k_is)
    have t__law_key_text : L2.TopFn (L2.KOf KX) mg "_law_key_text" K78.s_law_key_text ["_law_key_here"] := by
      refine' L2.topFn_of KX G (fun _ _ _ _ _ _ us hl => match us, hl with | [_], _ => rfl) ?a ?l ?c ?k
      (case a => k_is); (case l => k_is); (case c => k_is); (case k => k_is)
    have t__law_text_rows : L2.TopFn (L2.KOf KX) mg "_law_text_rows" K78.s_law_text_rows ["_law_folder_here"] := by
      refine' L2.topFn_of KX G (fun _ _ _ _ _ _ us hl => match us, hl with | [_], _ => rfl) ?a ?l ?c ?k
      (case a => k_is); (case l => k_is); (case c => k_is); (case k => k_is)
    have t__law_word_spoilt : L2.TopFn (L2.KOf KX) mg "_law_word_spoilt" K78.s_law_word_spoilt ["_law_box_here", "_law_row"] := by
      refine' L2.topFn_of KX G (fun _ _ _ _ _ _ us hl => match us, hl with | [_, _], _ => rfl) ?a ?l ?c ?k
      (case a => k_is); (case l => k_is); (case c => k_is); (case k => k_is)
    have t__law_spoilt : L2.TopFn (L2.KOf KX) mg "_law_spoilt" K78.s_law_spoilt ["_law_box_here", "_law_rows"] := by
      refine' L2.topFn_of KX G (fun _ _ _ _ _ _ us hl => match us, hl with | [_, _], _ => rfl) ?a ?l ?c ?k
      (case a => k_is); (case l => k_is); (case c => k_is); (case k => k_is)
    have t__law_is_word : L2.TopFn (L2.KOf KX) mg "_law_is_word" K78.s_law_is_word ["_law_text"] := by
      refine' L2.topFn_of KX G (fun _ _ _ _ _ _ us hl => match us, hl with | [_], _ => rfl) ?a ?l ?c ?k
      (case a => k_is); (case l => k_is); (case c => k_is); (case k => k_is)
    have t__law_key : L2.TopFn (L2.KOf KX) mg "_law_key" K78.s_law_key ["_law_text"] := by
      refine' L2.topFn_of KX G (fun _ _ _ _ _ _ us hl => match us, hl with | [_], _ => rfl) ?a ?l ?c ?k
      (case a => k_is); (case l => k_is); (case c => k_is); (case k => k_is)
    have t__law_owed : L2.TopFn (L2.KOf KX) mg "_law_owed" K78.s_law_owed ["_law_words_here"] := by
      refine' L2.topFn_of KX G (fun _ _ _ _ _ _ us hl => match us, hl with | [_], _ => rfl) ?a ?l ?c ?k
      (case a => k_is); (case l => k_is); (case c => k_is); (case k => k_is)
    have t__law_taken : L2.TopFn (L2.KOf KX) mg "_law_taken" K78.s_law_taken ["_law_words_here", "_law_last"] := by
      refine' L2.topFn_of KX G (fun _ _ _ _ _ _ us hl => match us, hl with | [_, _], _ => rfl) ?a ?l ?c ?k
      (case a => k_is); (case l => k_is); (case c => k_is); (case k => k_is)
    have t__law_read : L2.TopFn (L2.KOf KX) mg "_law_read" K78.s_law_read ["_law_text"] := by
      refine' L2.topFn_of KX G (fun _ _ _ _ _ _ us hl => match us, hl with | [_], _ => rfl) ?a ?l ?c ?k
      (case a => k_is); (case l => k_is); (case c => k_is); (case k => k_is)
    have t__law_told : L2.TopFn (L2.KOf KX) mg "_law_told" K78.s_law_told ["_law_text"] := by
      refine' L2.topFn_of KX G (fun _ _ _ _ _ _ us hl => match us, hl with | [_], _ => rfl) ?a ?l ?c ?k
      (case a => k_is); (case l => k_is); (case c => k_is); (case k => k_is)
    have t__law_right : L2.TopFn (L2.KOf KX) mg "_law_right" K78.s_law_right ["_law_text"] := by
      refine' L2.topFn_of KX G (fun _ _ _ _ _ _ us hl => match us, hl with | [_], _ => rfl) ?a ?l ?c ?k
      (case a => k_is); (case l => k_is); (case c => k_is); (case k => k_is)
    have t_law : L2.TopFn (L2.KOf KX) mg "law" K78.slaw ["_law_script"] := by
      refine' L2.topFn_of KX G (fun _ _ _ _ _ _ us hl => match us, hl with | [_], _ => rfl) ?a ?l ?c ?k
      (case a => k_is); (case l => k_is); (case c => k_is); (case k => k_is)
    have n_len : mg "len" = none := by
      refine' PySem.W.mg_none_of KX G ?a
      (case a => k_is)
    have n_isinstance : mg "isinstance" = none := by
      refine' PySem.W.mg_none_of KX G ?a
      (case a => k_is)
    have n_range : mg "range" = none := by
      refine' PySem.W.mg_none_of KX G ?a
      (case a => k_is)
    have n_int : mg "int" = none := by
      refine' PySem.W.mg_none_of KX G ?a
      (case a => k_is)
    have n_bool : mg "bool" = none := by
      refine' PySem.W.mg_none_of KX G ?a
      (case a => k_is)
    have n_str : mg "str" = none := by
      refine' PySem.W.mg_none_of KX G ?a
      (case a => k_is)
    have n_tuple : mg "tuple" = none := by
      refine' PySem.W.mg_none_of KX G ?a
      (case a => k_is)
    have n_list : mg "list" = none := by
      refine' PySem.W.mg_none_of KX G ?a
      (case a => k_is)
    have n_all : mg "all" = none := by
      refine' PySem.W.mg_none_of KX G ?a
      (case a => k_is)
    have n_zip : mg "zip" = none := by
      refine' PySem.W.mg_none_of KX G ?a
      (case a => k_is)
    have n_min : mg "min" = none := by
      refine' PySem.W.mg_none_of KX G ?a
      (case a => k_is)
    have n_max : mg "max" = none := by
      refine' PySem.W.mg_none_of KX G ?a
      (case a => k_is)
    have n_dict : mg "dict" = none := by
      refine' PySem.W.mg_none_of KX G ?a
      (case a => k_is)
    have n_reversed : mg "reversed" = none := by
      refine' PySem.W.mg_none_of KX G ?a
      (case a => k_is)
    have n_sorted : mg "sorted" = none := by
      refine' PySem.W.mg_none_of KX G ?a
      (case a => k_is)
    have g_LETTERS : ∃ t, mg "LETTERS" = some (.str "abcdefghijklmnopqrstuvwxyz" t) := by
      refine' L2.glob_S KX G ?a ?b
      (case a => k_is)
      (case b => decide +kernel)
    have g_LONGEST_WORD : ∃ t, mg "LONGEST_WORD" = some (.int 8 t) := by
      refine' L2.glob_I KX G ?a ?b
      (case a => k_is)
      (case b => exact ⟨_, rfl⟩)
    have g_FIRST_JOIN_WORD : ∃ t, mg "FIRST_JOIN_WORD" = some (.int 4 t) := by
      refine' L2.glob_I KX G ?a ?b
      (case a => k_is)
      (case b => exact ⟨_, rfl⟩)
    have g_FIGURES : ∃ t, mg "FIGURES" = some (.str "0123456789" t) := by
      refine' L2.glob_S KX G ?a ?b
      (case a => k_is)
      (case b => decide +kernel)
    have hk : ∃ ct g c0 c1 c2 c3, K78.KTop (L2.KOf KX) mg ct g c0 c1 c2 c3 := by
      refine' K78.ktop_mk ?gb ?xt ?gc ?gt ?ge ?ng ?m0 ?m1 ?m2 ?m3 ?o0 ?o1 ?o2 ?o3 ?w0 ?w1 ?w2 ?w3
      case gb =>
        refine' L2.gbase_of KX G ?a ?b ?c ?d
        (case a => k_is); (case b => k_is); (case c => k_is); (case d => k_is)
      case xt =>
        refine' L2.xtop_of KX G (fun _ _ _ _ _ _ us hl => match us, hl with | [_, _], _ => rfl) ?a ?kp ?i ?l ?c ?k ?fn ?o ?m
        (case a => k_is); (case kp => k_is); (case i => k_is); (case l => k_is); (case c => k_is); (case k => k_is); (case fn => k_is); (case o => kernel_rfl); (case m => kernel_rfl)
      case m0 =>
        refine' PySem.W.mg_of KX G ?a
        (case a => k_is)
      case m1 =>
        refine' PySem.W.mg_of KX G ?a
        (case a => k_is)
      case m2 =>
        refine' PySem.W.mg_of KX G ?a
        (case a => k_is)
      case m3 =>
        refine' PySem.W.mg_of KX G ?a
        (case a => k_is)
      case w0 =>
        refine' L2.mtop_of KX (fun _ _ _ _ _ _ us hl => match us, hl with | [_], _ => rfl) ?a ?i ?l ?c ?k
        (case a => k_is); (case i => k_is); (case l => k_is); (case c => k_is); (case k => k_is)
      case w1 =>
        refine' L2.mtop_of KX (fun _ _ _ _ _ _ us hl => match us, hl with | [_], _ => rfl) ?a ?i ?l ?c ?k
        (case a => k_is); (case i => k_is); (case l => k_is); (case c => k_is); (case k => k_is)
      case w2 =>
        refine' L2.mtop_of KX (fun _ _ _ _ _ _ us hl => match us, hl with | [_], _ => rfl) ?a ?i ?l ?c ?k
        (case a => k_is); (case i => k_is); (case l => k_is); (case c => k_is); (case k => k_is)
      case w3 =>
        refine' L2.mtop_of KX (fun _ _ _ _ _ _ us hl => match us, hl with | [_], _ => rfl) ?a ?i ?l ?c ?k
        (case a => k_is); (case i => k_is); (case l => k_is); (case c => k_is); (case k => k_is)
      case ng => decide
      case gc => kernel_rfl
      case gt => kernel_rfl
      case ge => kernel_rfl
      case o0 => kernel_rfl
      case o1 => kernel_rfl
      case o2 => kernel_rfl
      case o3 => kernel_rfl
    exact K78.law_fn2 hmg ⟨n_len, n_isinstance, n_range, n_int, n_bool, n_str, n_tuple, n_list, n_all, n_zip, n_min, n_max, n_dict, n_reversed, n_sorted, g_LETTERS, g_LONGEST_WORD, g_FIRST_JOIN_WORD⟩ ⟨g_FIGURES, n_reversed⟩ t_is_word t_key_text t_is_number_text t_is_key_text t_key_of t_all_joins t_join_words t_owe_row t_show_folder t_is_under_row t_is_take_row t_is_owe_row t_road_of t_need_forms t_read_folder t__law_cell t__law_mixed t__law_box t__law_take t__law_words t__law_key_drawn t__law_folder t__law_key_text t__law_text_rows t__law_word_spoilt t__law_spoilt t__law_is_word t__law_key t__law_owed t__law_taken t__law_read t__law_told t__law_right t_law hk
