import PyProof.Rows.All
import Wide.All
import OpenK.AllK
import Wide.FinOn
import Lean
import PyProof.EqAt
import PyProof.EqKinds
import PyProof.TupleCall
import KE.KUnpack
import KE.KDictList
import KE.KIntText
import PyProof.ListMulAny
import KE.KEqDict
import PyProof.InstEq
import KE.KRevIter
import PyProof.Rows.SetFrom
import PyProof.DictWalks
import PyProof.CollectWalk
import PyProof.Rows.SortShell
import PySem.Challenge.RW_grantweave_k02_bits_of_masks
set_option Elab.async false
set_option linter.all false
set_option maxRecDepth 100000
set_option maxHeartbeats 4000000
namespace L2
open PySem PyProof.Rows
abbrev Rs (l : List Nat) : Prop := l.Pairwise (· < ·)
theorem below_go {xs : Array Nat} {j : Nat} (ri : Rs xs.toList) : ∀ (fuel lo hi : Nat), hi ≤ xs.size → lo ≤ hi → hi - lo ≤ fuel → (∀ i, i < lo → xs.getD i 0 < j) → (∀ i, hi ≤ i → i < xs.size → j ≤ xs.getD i 0) →
    SetTable.below.go xs j fuel lo hi ≤ xs.size ∧ (∀ i, i < SetTable.below.go xs j fuel lo hi → xs.getD i 0 < j) ∧ ∀ i, SetTable.below.go xs j fuel lo hi ≤ i → i < xs.size → j ≤ xs.getD i 0
  | 0, lo, hi, h1, h2, h3, h4, h5 => by
    rw [SetTable.below.go.eq_def]
    obtain rfl : lo = hi := by omega
    exact ⟨h1, h4, h5⟩
  | fuel + 1, lo, hi, h1, h2, h3, h4, h5 => by
    rw [SetTable.below.go.eq_def]
    dsimp only
    have mono : ∀ a b, a < b → b < xs.size → xs.getD a 0 < xs.getD b 0 := fun a b hab hb => by
      have ha : a < xs.size := by omega
      have := List.pairwise_iff_getElem.mp ri a b (by simpa using ha) (by simpa using hb) hab
      simpa [Array.getD, ha, hb] using this
    by_cases c : lo < hi
    · rw [if_pos c]
      have hm : (lo + hi) / 2 < xs.size := by omega
      have e : xs.getD ((lo + hi) / 2) j = xs.getD ((lo + hi) / 2) 0 := by simp [Array.getD, hm]
      rw [e]
      by_cases d : xs.getD ((lo + hi) / 2) 0 < j
      · rw [if_pos d]
        refine below_go ri fuel _ _ h1 (by omega) (by omega) (fun i hi' => ?_) h5
        by_cases f : i = (lo + hi) / 2
        · rw [f]; exact d
        · exact Nat.lt_trans (mono i _ (by omega) hm) d
      · rw [if_neg d]
        refine below_go ri fuel _ _ (by omega) (by omega) (by omega) h4 (fun i hi' hn => ?_)
        by_cases f : i = (lo + hi) / 2
        · rw [f]; omega
        · have := mono ((lo + hi) / 2) i (by omega) hn; omega
    · rw [if_neg c]
      obtain rfl : lo = hi := by omega
      exact ⟨h1, h4, h5⟩
theorem below_ok {xs : Array Nat} (ri : Rs xs.toList) (j : Nat) : SetTable.below xs j ≤ xs.size ∧ (∀ x ∈ xs.toList.take (SetTable.below xs j), x < j) ∧ ∀ x ∈ xs.toList.drop (SetTable.below xs j), j ≤ x := by
  obtain ⟨a, b, c⟩ := below_go (j := j) ri xs.size 0 xs.size (Nat.le_refl _) (Nat.zero_le _) (by omega) (fun i h => by omega) (fun i h1 h2 => by omega)
  refine ⟨a, fun x hx => ?_, fun x hx => ?_⟩
  · obtain ⟨i, hi⟩ := List.mem_iff_getElem?.mp hx
    have hl := (List.getElem?_eq_some_iff.mp hi).1
    rw [List.length_take] at hl
    have hlt : i < SetTable.below xs j := by omega
    rw [List.getElem?_take_of_lt hlt] at hi
    have := b i hlt
    have hs : i < xs.size := by have := a; show i < xs.size; exact Nat.lt_of_lt_of_le hlt a
    have e : xs.getD i 0 = x := by
      rw [Array.getElem?_toList, getElem?_pos xs i hs] at hi
      simp [Array.getD, hs]; exact Option.some.inj hi
    rw [e] at this; exact this
  · obtain ⟨i, hi⟩ := List.mem_iff_getElem?.mp hx
    rw [List.getElem?_drop, Array.getElem?_toList] at hi
    have hs := (Array.getElem?_eq_some_iff.mp hi).1
    have := c (SetTable.below xs j + i) (by show SetTable.below xs j ≤ _; omega) hs
    have e : xs.getD (SetTable.below xs j + i) 0 = x := by
      rw [getElem?_pos xs _ hs] at hi
      simp [Array.getD, hs]; exact Option.some.inj hi
    rw [e] at this; exact this
structure Tk (t : SetTable) : Prop where
  ri : Rs t.place.toList
  dm : t.dummies = #[]
theorem slot_free {t : SetTable} (T : Tk t) {j : Nat} (h : t.slot j = .empty) : j ∉ t.place.toList := fun hj => by
  obtain ⟨a, b, c⟩ := below_ok T.ri j
  have hd : j ∈ t.place.toList.drop (SetTable.below t.place j) := by
    rw [← List.take_append_drop (SetTable.below t.place j) t.place.toList] at hj
    rcases List.mem_append.mp hj with hj | hj
    · exact absurd (b j hj) (Nat.lt_irrefl _)
    · exact hj
  have rd : Rs (t.place.toList.drop (SetTable.below t.place j)) := T.ri.sublist (List.drop_sublist _ _)
  cases e : t.place.toList.drop (SetTable.below t.place j) with
  | nil => rw [e] at hd; cases hd
  | cons y r =>
    rw [e] at hd rd c
    have hy : y = j := by
      rcases List.mem_cons.mp hd with h1 | h1
      · exact h1.symm
      · have h2 := c y List.mem_cons_self
        have h3 := (List.pairwise_cons.mp rd).1 j h1
        omega
    have g : t.place[SetTable.below t.place j]? = some j := by
      rw [← Array.getElem?_toList, ← Nat.add_zero (SetTable.below t.place j), ← List.getElem?_drop, e, hy]; rfl
    unfold SetTable.slot at h
    dsimp only at h
    rw [g] at h
    simp at h
theorem put_ri {t : SetTable} (T : Tk t) {j : Nat} (h : t.slot j = .empty) : Tk (t.put j).1 := by
  obtain ⟨a, b, c⟩ := below_ok T.ri j
  have hj := slot_free T h
  have hh : SetTable.has t.dummies j = false := by rw [T.dm]; unfold SetTable.has SetTable.below; rfl
  refine ⟨?_, ?_⟩
  · show Rs (SetTable.insertAt t.place (SetTable.below t.place j) j).toList
    rw [SetTable.toList_insertAt]
    refine List.pairwise_append.mpr ⟨T.ri.sublist (List.take_sublist _ _), List.pairwise_cons.mpr ⟨fun x hx => ?_, T.ri.sublist (List.drop_sublist _ _)⟩, fun x hx y hy => ?_⟩
    · have h1 := c x hx
      have h2 : x ≠ j := fun e => hj (by rw [← e]; exact List.mem_of_mem_drop hx)
      omega
    · have h1 := b x hx
      rcases List.mem_cons.mp hy with rfl | hy
      · exact h1
      · have h2 := c y hy; omega
  · show (if SetTable.has t.dummies j then _ else t.dummies) = #[]
    rw [hh, T.dm]; rfl
theorem standIn_ri (t : SetTable) (n : Nat) : Tk (t.standIn n) := ⟨by
  show Rs (Array.range n).toList
  rw [Array.toList_range]; exact List.pairwise_lt_range, rfl⟩
theorem probe_empty {t : SetTable} (dm : t.dummies = #[]) {f : Nat → Int} {h : Int} : ∀ (fuel : Nat) (p : SetTable.Probe) (j : Nat) (d : Option Nat), p.dummy = none → SetTable.probe.go t f h fuel p = some (.empty j d) → t.slot j = .empty ∧ d = none
  | 0, p, j, d, _, e => by rw [SetTable.probe.go.eq_def] at e; cases e
  | fuel + 1, p, j, d, hp, e => by
    have ha : (t.advance p).dummy = none := by
      unfold SetTable.advance
      split
      · exact hp
      · exact hp
    rw [SetTable.probe.go.eq_def] at e
    dsimp only at e
    cases hs : t.slot p.j with
    | empty =>
      rw [hs] at e
      dsimp only at e
      cases e
      exact ⟨hs, hp⟩
    | dummy =>
      exfalso
      unfold SetTable.slot at hs
      have hh : SetTable.has t.dummies p.j = false := by rw [dm]; unfold SetTable.has SetTable.below; rfl
      dsimp only at hs
      rw [hh] at hs
      split at hs <;> simp at hs
    | live i =>
      rw [hs] at e
      dsimp only at e
      split at e
      · cases e
      · exact probe_empty dm fuel _ j d ha e
theorem layNew_ok {t : SetTable} (T : Tk t) (es : Array (Int × Value)) (h : Int) (x : Value) : Tk (layNew t es h x).2.1 ∧ (layNew t es h x).2.1.led = t.led := by
  unfold layNew
  cases e : t.freeSlot h with
  | none => exact ⟨standIn_ri _ _, rfl⟩
  | some q =>
    obtain ⟨slot, wd⟩ := q
    have hs : t.slot slot = .empty := by
      unfold SetTable.freeSlot at e
      cases pr : t.probe (fun _ => h + 1) h (t.probeStart h) with
      | none => rw [pr] at e; cases e
      | some m =>
        rw [pr] at e
        cases m with
        | candidate a b c => cases e
        | empty j d =>
          obtain ⟨h1, rfl⟩ := probe_empty T.dm _ _ j d rfl pr
          cases e
          exact h1
    dsimp only
    have P := put_ri T hs
    unfold SetTable.orStandIn
    split
    · exact ⟨P, rfl⟩
    · exact ⟨standIn_ri _ _, rfl⟩
theorem laid_ri {mask finger moves : Nat} {led plain : Bool} {hs : Array Int} {t : SetTable} {o : Array Nat} (h : SetTable.laid mask finger moves led plain hs = some (t, o)) : Tk t ∧ t.led = led := by
  unfold SetTable.laid at h
  simp only [bind, Option.bind] at h
  cases e : SetTable.layClean mask hs with
  | none => rw [e] at h; cases h
  | some ow =>
    rw [e] at h
    dsimp only at h
    cases h
    refine ⟨⟨?_, rfl⟩, rfl⟩
    show Rs ((List.range (mask + 1)).filterMap (fun j => (ow.getD j none).map (j, ·)) |>.map (·.1)).toArray.toList
    rw [List.toList_toArray]
    have : ∀ l : List Nat, ((l.filterMap fun j => (ow.getD j none).map (j, ·)).map (·.1)).Sublist l := fun l => by
      induction l with
      | nil => exact List.Sublist.refl _
      | cons a r ih =>
        rw [List.filterMap_cons]
        cases ow.getD a none with
        | none => exact ih.cons _
        | some k => exact ih.cons_cons _
    exact List.pairwise_lt_range.sublist (this _)
theorem relayAll_ok {t : SetTable} (T : Tk t) (es : Array (Int × Value)) (wanted : Nat) : Tk (relayAll t es wanted).2.1 ∧ (relayAll t es wanted).2.1.led = t.led := by
  unfold relayAll
  cases e : t.relaid (es.map (·.1)) wanted with
  | none => exact ⟨standIn_ri _ _, rfl⟩
  | some q =>
    obtain ⟨t', o⟩ := q
    dsimp only
    split
    · exact laid_ri e
    · exact ⟨standIn_ri _ _, rfl⟩
open PySem PySem.Spec PyProof.Rows

abbrev Key := Sum Int Str
def keyIs : Key → Value → Bool
  | .inl k, v => Value.isInt k v
  | .inr x, v => Value.isStrOf x v
def keyH (w : World) : Key → Int
  | .inl k => hashInt k
  | .inr x => hashStr w x
theorem keyIs_shape : ∀ {k : Key} {v : Value}, keyIs k v = true → (∃ i t, k = Sum.inl i ∧ v = Value.int i t) ∨ (∃ x t, k = Sum.inr x ∧ v = Value.str x t)
  | .inl i, v, h => by
    obtain ⟨t, e⟩ := Value.isInt_shape (k := i) (v := v) h
    exact .inl ⟨i, t, rfl, e⟩
  | .inr x, v, h => by
    obtain ⟨t, e⟩ := Value.isStrOf_shape (x := x) (v := v) h
    exact .inr ⟨x, t, rfl, e⟩
theorem key_ll (a b : Int) : decide ((Sum.inl a : Key) = Sum.inl b) = (a == b) := by
  by_cases e : a = b
  · subst e; simp
  · have h : ¬ (Sum.inl a : Key) = Sum.inl b := fun q => e (Sum.inl.inj q)
    rw [decide_eq_false h]
    exact (beq_eq_false_iff_ne.mpr e).symm
theorem key_rr (a b : Str) : decide ((Sum.inr a : Key) = Sum.inr b) = decide (a = b) := by
  by_cases e : a = b
  · subst e; simp
  · have h : ¬ (Sum.inr a : Key) = Sum.inr b := fun q => e (Sum.inr.inj q)
    rw [decide_eq_false h, decide_eq_false e]
theorem key_lr (a : Int) (b : Str) : decide ((Sum.inl a : Key) = Sum.inr b) = false := decide_eq_false (fun q => nomatch q)
theorem key_rl (a : Str) (b : Int) : decide ((Sum.inr a : Key) = Sum.inl b) = false := decide_eq_false (fun q => nomatch q)

def mixKind (prog : Program) (w : World) : PySem.KeyKind prog w Key where
  is := keyIs
  hash := keyH w
  inj := fun v a b ha hb => by
    rcases keyIs_shape ha with ⟨i, t, rfl, rfl⟩ | ⟨x, t, rfl, rfl⟩
    · rcases keyIs_shape hb with ⟨j, u, rfl, e⟩ | ⟨y, u, rfl, e⟩
      · injection e with e1 _; rw [e1]
      · exact nomatch e
    · rcases keyIs_shape hb with ⟨j, u, rfl, e⟩ | ⟨y, u, rfl, e⟩
      · exact nomatch e
      · injection e with e1 _; rw [e1]
  byValue := fun k v h => by
    rcases keyIs_shape h with ⟨i, t, rfl, rfl⟩ | ⟨x, t, rfl, rfl⟩ <;> rfl
  pyHash := fun hv h => by
    rcases keyIs_shape hv with ⟨i, t, rfl, rfl⟩ | ⟨x, t, rfl, rfl⟩
    · exact wpAny_pyHash_int h
    · exact wpAny_pyHash_str h
  eqBool := fun hu hv h => by
    rcases keyIs_shape hu with ⟨i, t, rfl, rfl⟩ | ⟨x, t, rfl, rfl⟩
    · rcases keyIs_shape hv with ⟨j, u, rfl, rfl⟩ | ⟨y, u, rfl, rfl⟩
      · rw [key_ll] at h; exact wpAny_eqBool_int h
      · rw [key_lr] at h; exact SeqAt.EqAt.int_str i t y u _ _ _ _ h
    · rcases keyIs_shape hv with ⟨j, u, rfl, rfl⟩ | ⟨y, u, rfl, rfl⟩
      · rw [key_rl] at h; exact SeqAt.EqAt.str_int x t j u _ _ _ _ h
      · rw [key_rr] at h; exact wpAny_eqBool_str h
  «strs» := fun k x t v h => by
    rcases keyIs_shape h with ⟨i, u, rfl, e⟩ | ⟨y, u, rfl, e⟩
    · exact nomatch e
    · injection e with e1 _
      subst e1
      cases v <;> rfl

end L2

namespace L2
open PySem PySem.Spec PyProof.Rows

inductive V where
  | non | bl (b : Bool) | int (i : Int) | str (x : Str) | byt (b : Array UInt8) | flt (b : UInt64) | ref (a : Addr) | ty (n : String)
  deriving DecidableEq

def RelV : V → Value → Prop
  | .non, u => u = Value.none
  | .bl b, u => u = Value.bool b
  | .int i, u => ∃ t, u = Value.int i t
  | .str x, u => ∃ t, u = Value.str x t
  | .byt b, u => ∃ t, u = Value.bytes b t
  | .flt b, u => ∃ t, u = Value.float b t
  | .ref a, u => u = Value.ref a
  | .ty n, u => u = Value.type n

abbrev Vals : List V → List Value → Prop := Paired RelV
theorem Vals.length {xs : List V} {us : List Value} (r : Vals xs us) : xs.length = us.length := Paired.length r
theorem Vals.get : ∀ {xs : List V} {us : List Value} {i : Nat} {x : V}, Vals xs us → xs[i]? = some x → ∃ u, us[i]? = some u ∧ RelV x u
  | _, _, _, _, .nil, e => by simp at e
  | _, _, 0, _, .cons r _, e => by simp at e; subst e; exact ⟨_, rfl, r⟩
  | _, _, i + 1, x, .cons _ t, e => by
    obtain ⟨u, h1, h2⟩ := Vals.get (i := i) (x := x) t (by simpa using e)
    exact ⟨u, by simpa using h1, h2⟩
theorem Vals.set {x : V} {u : Value} (r : RelV x u) : ∀ {xs : List V} {us : List Value} (i : Nat), Vals xs us → Vals (xs.set i x) (us.set i u)
  | _, _, _, .nil => .nil
  | _, _, 0, .cons _ t => .cons r t
  | _, _, i + 1, .cons q t => .cons q (Vals.set r i t)
theorem Vals.append : ∀ {xs ys : List V} {us ws : List Value}, Vals xs us → Vals ys ws → Vals (xs ++ ys) (us ++ ws)
  | _, _, _, _, .nil, s => s
  | _, _, _, _, .cons r t, s => .cons r (Vals.append t s)
def RelO : Option V → Option Value → Prop
  | some v, some u => RelV v u
  | none, none => True
  | _, _ => False
def KV {κ : Type} : List (κ × V) → List (κ × Value) → Prop := Paired fun (p : κ × V) (q : κ × Value) => p.1 = q.1 ∧ RelV p.2 q.2

def kV : Key → V
  | .inl i => .int i
  | .inr x => .str x

inductive HO where
    | lst (xs : List V)
    | tup (xs : List V)
    | dK (kvs : List (Key × V)) | dT (kvs : List (List Key × V))
    | set (S : Int → Bool) (n : Nat)
    | ins (C dx : Addr) (fs : List (Str × V))
    | own (x : Addr)
    | xd (fs : List (Str × V))
    | met (f x : Addr)
    | rng (lo hi : Int)
    | frz (o : Obj) (u : HO)
    | tbl (ps : Array Value)
    | ext (φ : Heap → Prop)

abbrev Hp := Addr → Option HO
def upd (H : Hp) (a : Addr) (o : HO) : Hp := fun b => if b = a then some o else H b
theorem upd_same {H : Hp} {a : Addr} {o : HO} : upd H a o a = some o := by unfold upd; rw [if_pos rfl]
theorem upd_ne {H : Hp} {a b : Addr} {o : HO} (h : b ≠ a) : upd H a o b = H b := by unfold upd; rw [if_neg h]
theorem ne_of_none {H : Hp} {a b : Addr} {o : HO} (h : H a = some o) (h' : H b = none) : a ≠ b := by
  intro e; subst e; rw [h] at h'; cases h'

section
variable (P : Program) (w : World)
def ObjOk (H : Hp) (h : Heap) (a : Addr) : HO → Prop
  | .lst xs => xs.length ≤ sizeLine ∧ ∃ (its : List Value) (n : Nat), Vals xs its ∧ h.get? a = some { cls := .type "list", data := .seq its.toArray n }
  | .tup xs => xs.length ≤ sizeLine ∧ ∃ its : List Value, Vals xs its ∧ IsTup h a its.toArray
  | .dK kvs => kvs.length ≤ sizeLine ∧ (a == sysModules) = false ∧ ∃ vs, KV kvs vs ∧ h.DictOf (mixKind P w) a vs
  | .dT kvs => kvs.length ≤ sizeLine ∧ (a == sysModules) = false ∧ ∃ xs : List (List Key × Addr × Value),
      Paired (fun (p : List Key × V) (q : List Key × Addr × Value) => p.1 = q.1 ∧ H q.2.1 = some (.tup (p.1.map kV)) ∧ RelV p.2 q.2.2) kvs xs ∧
      ∃ o es ep, h.get? a = some o ∧ o.ExactDict ∧ o.data = .dict es ep ∧ es.toList = xs.map (entryOfKey (tupleKind (mixKind P w))) ∧ (xs.map (·.1)).Nodup
  | .set S n => h.SetOf (intKind P w) a S n
  | .ins C dx fs => H dx = some (.own a) ∧ fs.length ≤ 1000 ∧ dx ≠ a ∧ h.get? a = some (PySem.W.instObj C dx) ∧
      ∃ mA, h.Ns1 dx mA ∧ (∀ f, RelO (fs.lookup f) (mA f)) ∧ PySem.Within mA (fs.map (·.1))
  | .own _ => ∃ o, h.get? a = some o
  | .xd fs => ∃ mA, h.Ns1 a mA ∧ ∀ f, RelO (fs.lookup f) (mA f)
  | .rng lo hi => ∃ t u v, h.get? a = some { cls := .type "range", data := .fields #[.int lo t, .int hi u, .int 1 v] }
  | .frz o u => h.get? a = some o ∧ ObjOk H h a u
  | .tbl ps => h.get? a = some { cls := .none, data := .fields ps }
  | .met f x => h.get? a = some (PySem.W.methodObj (.ref f) (.ref x))
  | .ext φ => φ h ∧ (∃ o, h.get? a = some o) ∧ ∀ h1 h2 : Heap, φ h1 → (∀ o, h1.get? a = some o → h2.get? a = some o) → φ h2
def HOk (H : Hp) (h : Heap) : Prop := ∀ a o, H a = some o → ObjOk P w H h a o
end

section
variable {P : Program} {w : World} {H H' : Hp} {h h' : Heap} {a : Addr} {o : HO}
theorem ObjOk.lt (x : ObjOk P w H h a o) : a < h.objs.size := by
  cases o with
  | lst xs => obtain ⟨_, _, _, _, e⟩ := x; exact Heap.lt_size e
  | tup xs => obtain ⟨_, _, _, p⟩ := x; exact p.lt
  | dK kvs => obtain ⟨_, _, _, _, o, _, _, e, _⟩ := x; exact Heap.lt_size e
  | dT kvs => obtain ⟨_, _, _, _, o, _, _, e, _⟩ := x; exact Heap.lt_size e
  | set S n => obtain ⟨o, _, _, _, e, _⟩ := x; exact Heap.lt_size e
  | ins C dx fs => obtain ⟨_, _, _, e, _⟩ := x; exact Heap.lt_size e
  | own y => obtain ⟨_, e⟩ := x; exact Heap.lt_size e
  | xd fs => obtain ⟨_, ⟨_, _, _, e, _⟩, _⟩ := x; exact Heap.lt_size e
  | rng lo hi => obtain ⟨_, _, _, e⟩ := x; exact Heap.lt_size e
  | frz ob u => obtain ⟨e, _⟩ := x; exact Heap.lt_size e
  | tbl ps => exact Heap.lt_size (show h.get? a = some _ from x)
  | met f y => exact Heap.lt_size (show h.get? a = some _ from x)
  | ext φ => obtain ⟨_, ⟨_, e⟩, _⟩ := x; exact Heap.lt_size e
theorem Paired.mapP {α β : Type} {F G : α → β → Prop} : ∀ {l₁ : List α} {l₂ : List β}, Paired F l₁ l₂ → (∀ a b, F a b → G a b) → Paired G l₁ l₂
  | _, _, .nil, _ => .nil
  | _, _, .cons r t, f => .cons (f _ _ r) (Paired.mapP t f)
theorem ObjOk.stay (x : ObjOk P w H h a o) (k : ∀ b u, (b = a ∨ H b = some (.own a)) → h.get? b = some u → h'.get? b = some u)
    (ho : ∀ b, H b = some (.own a) → H' b = some (.own a)) (ht : ∀ b xs, H b = some (.tup xs) → H' b = some (.tup xs)) : ObjOk P w H' h' a o := by
  induction o with
  | lst xs => obtain ⟨z, its, n, r, e⟩ := x; exact ⟨z, its, n, r, k _ _ (.inl rfl) e⟩
  | tup xs => obtain ⟨z, its, r, ob, e, c⟩ := x; exact ⟨z, its, r, ob, k _ _ (.inl rfl) e, c⟩
  | dK kvs => obtain ⟨z, y, vs, r, ob, es, ep, e, c⟩ := x; exact ⟨z, y, vs, r, ob, es, ep, k _ _ (.inl rfl) e, c⟩
  | dT kvs =>
    obtain ⟨z, y, xs, r, ob, es, ep, e, c⟩ := x
    exact ⟨z, y, xs, Paired.mapP r fun p q z => ⟨z.1, ht _ _ z.2.1, z.2.2⟩, ob, es, ep, k _ _ (.inl rfl) e, c⟩
  | set S n => obtain ⟨ob, es, ep, t, e, c⟩ := x; exact ⟨ob, es, ep, t, k _ _ (.inl rfl) e, c⟩
  | ins C dx fs =>
    obtain ⟨d, z, ne, e, mA, ⟨od, es, ep, e2, c⟩, r⟩ := x
    exact ⟨ho _ d, z, ne, k _ _ (.inl rfl) e, mA, ⟨od, es, ep, k _ _ (.inr d) e2, c⟩, r⟩
  | own y => obtain ⟨ob, e⟩ := x; exact ⟨ob, k _ _ (.inl rfl) e⟩
  | xd fs => obtain ⟨mA, ⟨od, es, ep, e, c⟩, r⟩ := x; exact ⟨mA, ⟨od, es, ep, k _ _ (.inl rfl) e, c⟩, r⟩
  | rng lo hi => obtain ⟨t, u, v, e⟩ := x; exact ⟨t, u, v, k _ _ (.inl rfl) e⟩
  | frz ob u ih => obtain ⟨e, q⟩ := x; exact ⟨k _ _ (.inl rfl) e, ih q⟩
  | tbl ps =>
    have e : h.get? a = some { cls := .none, data := .fields ps } := x
    show h'.get? a = some { cls := .none, data := .fields ps }
    exact k a _ (.inl rfl) e
  | met f y =>
    have e : h.get? a = some (PySem.W.methodObj (.ref f) (.ref y)) := x
    show h'.get? a = some (PySem.W.methodObj (.ref f) (.ref y))
    exact k a _ (.inl rfl) e
  | ext φ => obtain ⟨p, ⟨o, e⟩, st⟩ := x; exact ⟨st _ _ p fun o q => k _ _ (.inl rfl) q, ⟨o, k _ _ (.inl rfl) e⟩, st⟩
theorem HOk.lt (x : HOk P w H h) (e : H a = some o) : a < h.objs.size := (x a o e).lt
theorem HOk.fresh (x : HOk P w H h) (e : h.objs.size ≤ a) : H a = none := by
  cases q : H a with
  | none => rfl
  | some u => exact absurd (Nat.lt_of_lt_of_le (x.lt q) e) (Nat.lt_irrefl _)
theorem HOk.kept (x : HOk P w H h) (k : ∀ b u, h.get? b = some u → h'.get? b = some u) : HOk P w H h' := fun a o e =>
  (x a o e).stay (fun b u _ q => k b u q) (fun _ q => q) fun _ _ q => q
theorem HOk.laid (x : HOk P w H h) (k : ∀ b u, h.get? b = some u → h'.get? b = some u) (hp : h.objs.size ≤ a) (new : ObjOk P w (upd H a o) h' a o) : HOk P w (upd H a o) h' := fun b u e => by
  have hn := x.fresh hp
  by_cases hb : b = a
  · subst hb; rw [upd_same] at e; cases e; exact new
  · rw [upd_ne hb] at e
    exact (x b u e).stay (fun c v _ q => k c v q) (fun c q => by rw [upd_ne (ne_of_none q hn)]; exact q) fun c xs q => by rw [upd_ne (ne_of_none q hn)]; exact q
end

def Rd (H : Hp) (a : Addr) (u : HO) : Prop := H a = some u ∨ ∃ o, H a = some (.frz o u)
theorem Rd.ok {P : Program} {w : World} {H : Hp} {h : Heap} {a : Addr} {u : HO} (r : Rd H a u) (x : HOk P w H h) : ObjOk P w H h a u := by
  rcases r with r | ⟨o, r⟩
  · exact x a u r
  · obtain ⟨_, q⟩ := x a _ r
    exact q
def Mut : Option HO → Prop
  | some (.lst _) => True
  | some (.dK _) => True
  | some (.dT _) => True
  | some (.set _ _) => True
  | some (.ins _ _ _) => True
  | some (.ext _) => True
  | _ => False
section
variable {P : Program} {w : World} {H : Hp} {h h' : Heap} {x e : Addr} {o' : HO}
theorem HOk.write (ok : HOk P w H h) (mu : Mut (H x)) (he : e = x ∨ H e = some (.own x)) (k : ∀ b u, b ≠ e → h.get? b = some u → h'.get? b = some u) (heo : ∃ u, h'.get? e = some u)
    (new : ObjOk P w (upd H x o') h' x o') : HOk P w (upd H x o') h' := fun b u q => by
  have nown : ∀ c y, H c = some (.own y) → c ≠ x := fun c y r z => by subst z; rw [r] at mu; exact mu
  have ntup : ∀ c xs, H c = some (.tup xs) → c ≠ x := fun c xs r z => by subst z; rw [r] at mu; exact mu
  by_cases hb : b = x
  · subst hb; rw [upd_same] at q; cases q; exact new
  · rw [upd_ne hb] at q
    by_cases hbe : b = e
    · have q' : H b = some (.own x) := by
        rcases he with z | z
        · exact absurd (hbe.trans z) hb
        · rw [hbe]; exact z
      rw [q] at q'; cases q'
      obtain ⟨v, hv⟩ := heo
      exact ⟨v, by rw [hbe]; exact hv⟩
    · refine (ok b u q).stay (fun c v hc r => k c v ?_ r) (fun c r => by rw [upd_ne (nown c b r)]; exact r) fun c xs r => by rw [upd_ne (ntup c xs r)]; exact r
      rcases hc with rfl | hc
      · exact hbe
      · rintro rfl
        rcases he with z | z
        · exact nown c b hc z
        · rw [hc] at z; cases z; exact hb rfl
end

structure Un (fs ex : List Addr) (H H' : Hp) (h h' : Heap) : Prop where
  keep : ∀ b o, h.get? b = some o → H b = none → b ∉ fs → b ∉ ex → h'.get? b = some o
  slot : ∀ b o, h.get? b = some o → H b = none → b ∈ fs → b ∉ ex → ∃ sl, h'.get? b = some { o with slots := sl }
  free : ∀ b o, h.get? b = some o → H b = none → b ∉ ex → H' b = none
  there : ∀ b o, h.get? b = some o → b ∉ ex → ∃ o', h'.get? b = some o'
  tups : ∀ b xs, H b = some (.tup xs) → H' b = some (.tup xs)
  frzs : ∀ b o u, H b = some (.frz o u) → H' b = some (.frz o u)
  tbls : ∀ b ps, H b = some (.tbl ps) → ∃ more, H' b = some (.tbl (ps ++ more))
section
variable {fs fs' ex ex' : List Addr} {H H1 H2 : Hp} {h h1 h2 h' : Heap} {a x e : Addr} {o : HO}
theorem Un.any (u : Un fs ex H H1 h h1) {b : Addr} {ob : Obj} (q : h.get? b = some ob) (n : H b = none) (hx : b ∉ ex) : ∃ sl, h1.get? b = some { ob with slots := sl } := by
  by_cases hb : b ∈ fs
  · exact u.slot b ob q n hb hx
  · exact ⟨ob.slots, u.keep b ob q n hb hx⟩
theorem Un.kept (k : ∀ b u, h.get? b = some u → h'.get? b = some u) : Un fs ex H H h h' :=
  ⟨fun b ob q _ _ _ => k b ob q, fun b ob q _ _ _ => ⟨ob.slots, k b ob q⟩, fun _ _ _ n _ => n, fun b ob q _ => ⟨ob, k b ob q⟩, fun _ _ q => q, fun _ _ _ q => q, fun _ ps q => ⟨#[], by rw [q]; simp⟩⟩
theorem Un.refl : Un fs ex H H h h := Un.kept fun _ _ q => q
theorem Un.laid (k : ∀ b u, h.get? b = some u → h'.get? b = some u) (hp : h.objs.size ≤ a) (hn : H a = none) : Un fs ex H (upd H a o) h h' where
  keep := fun b u q _ _ _ => k b u q
  slot := fun b u q _ _ _ => ⟨u.slots, k b u q⟩
  free := fun b u q n _ => by rw [upd_ne (Nat.ne_of_lt (Nat.lt_of_lt_of_le (Heap.lt_size q) hp))]; exact n
  there := fun b u q _ => ⟨u, k b u q⟩
  tups := fun b xs q => by rw [upd_ne (ne_of_none q hn)]; exact q
  frzs := fun b u xs q => by rw [upd_ne (ne_of_none q hn)]; exact q
  tbls := fun b ps q => ⟨#[], by rw [upd_ne (ne_of_none q hn), q]; simp⟩
theorem Un.write (mu : Mut (H x)) (he : e = x ∨ H e = some (.own x)) (k : ∀ b u, b ≠ e → h.get? b = some u → h'.get? b = some u) (heo : ∃ u, h'.get? e = some u) : Un fs ex H (upd H x o) h h' := by
  have hx : ∀ b, H b = none → b ≠ x := fun b n z => by subst z; rw [n] at mu; exact mu
  have hb : ∀ b, H b = none → b ≠ e := fun b n z => by
    subst z
    rcases he with r | r
    · exact hx b n r
    · rw [n] at r; cases r
  have hm : ∀ b u, H b = some u → ¬ Mut (some u) → b ≠ x := fun b u q nm z => by subst z; rw [q] at mu; exact nm mu
  refine ⟨fun b u q n _ _ => k b u (hb b n) q, fun b u q n _ _ => ⟨u.slots, k b u (hb b n) q⟩, fun b u q n _ => by rw [upd_ne (hx b n)]; exact n, fun b u q _ => ?_,
    fun b xs q => by rw [upd_ne (hm b _ q fun z => z)]; exact q, fun b u xs q => by rw [upd_ne (hm b _ q fun z => z)]; exact q, fun b ps q => ⟨#[], by rw [upd_ne (hm b _ q fun z => z), q]; simp⟩⟩
  by_cases hbe : b = e
  · subst hbe; exact heo
  · exact ⟨u, k b u hbe q⟩
end

def trk (h : Heap) (H : Hp) : List Addr := (List.range h.objs.size).filter fun a => (H a).isSome
def hidT (h : Heap) (H : Hp) : Heap := PySem.W.hideAll h (trk h H)
theorem hidT_size (h : Heap) (H : Hp) : (hidT h H).objs.size = h.objs.size := PySem.W.hideAll_size _ _
theorem hidT_get {h : Heap} {H : Hp} {b : Addr} {o : Obj} (e : h.get? b = some o) (n : H b = none) : (hidT h H).get? b = some o :=
  PySem.W.hideAll_get _ e fun hm => by
    have q : (H b).isSome = true := (List.mem_filter.mp hm).2
    rw [n] at q; simp at q
theorem of_hidT {h : Heap} {H : Hp} {b : Addr} {o : Obj} (e : (hidT h H).get? b = some o) : h.get? b = some o ∧ H b = none := by
  have e' : h.get? b = some o := PySem.W.of_hideAll (trk h H) e
  refine ⟨e', ?_⟩
  cases q : H b with
  | none => rfl
  | some x =>
    have hm : b ∈ trk h H := List.mem_filter.mpr ⟨List.mem_range.mpr (Heap.lt_size e'), by simp [q]⟩
    have z : (hidT h H).get? b = none := PySem.W.hideAll_none (trk h H) hm
    rw [z] at e; cases e

def allNews (g h : Heap) (L : Addr) : List (Addr × Obj) := (List.range h.objs.size).filterMap fun a => if a = L ∨ (g.get? a).isSome = true then none else (h.get? a).map fun o => (a, o)
def rest (g h : Heap) (L d : Addr) : List (Addr × Obj) := (allNews g h L).filter fun p => decide (p.1 ≠ d)
end L2

namespace L2
open PySem PySem.Spec PyProof.Rows

structure Mod (K : PySem.W.Frag) (mg : Str → Option Value) (base : Heap) : Prop where
  kin : K.In base
  glob : base.Ns mainGlobals mg
  blt : ∃ mb, base.Ns builtinsNs mb ∧ ∀ x : Str, x ≠ "__name__" → mb x = bootBuiltins x
  nolimit : base.NoLimit

structure Cx where
  prog : Program
  w : World
  K : PySem.W.Frag
  mg : Str → Option Value
  base : Heap
  A : Around
  N : List Str
  s₀ : Shared
  H₀ : Hp
  env : Env
  outer : List Env
  stack : List Env
  ex : List Addr
  fn : Str → Bool
  calm : Bool
  pn : List (Addr × Obj)
  xe : Value → Shared → Prop
def frs (l : List Env) : List Addr := l.filterMap (·.frame)
abbrev Cx.fs (X : Cx) : List Addr := frs X.outer

def Vis (sc : Scope) (x : Str) : Prop := sc.names.lookup x = some .local ∨ sc.names.lookup x = some .cell ∨ sc.names.lookup x = some .free
def Loc (sc : Scope) (x : Str) : Prop := sc.names.lookup x = some .local ∨ sc.names.lookup x = some .cell
def Look (env : Env) (h : Heap) (m : Str → Option Value) (x : Str) (u : Value) : Prop :=
  (env.kindOf x = some .local ∧ m x = some u) ∨ ((env.kindOf x = some .cell ∨ env.kindOf x = some .free) ∧ ∃ c, env.cells.lookup x = some c ∧ h.IsCell c (some u))

structure Cx.Ok (X : Cx) : Prop where
  mod : Mod X.K X.mg X.base
  kind : X.env.scope.kind = .function
  glob : X.env.globals = mainGlobals
  blt : X.env.builtins = builtinsNs
  above : X.s₀.heap.objs.size ≤ X.env.locals
  inj : ∀ x y c, X.env.cells.lookup x = some c → X.env.cells.lookup y = some c → x = y
  has : ∀ x, (X.env.kindOf x = some .cell ∨ X.env.kindOf x = some .free) → ∃ c, X.env.cells.lookup x = some c
  cab : ∀ x c, X.fn x = true → X.env.cells.lookup x = some c → X.s₀.heap.objs.size ≤ c
  hd : X.calm = true → X.A.handled = none
  frames : X.A.frames = some X.stack
  stk : X.stack = X.outer ∨ (X.stack = X.env :: X.outer ∧ X.env.frame = some X.env.locals)
  exf : ∀ b ∈ X.ex, b ≠ X.env.locals ∧ ∀ x c, X.env.cells.lookup x = some c → c ≠ b
  bs : ∀ b o, X.base.get? b = some o → X.s₀.heap.get? b = some o ∧ X.H₀ b = none
  bsz : X.base.objs.size ≤ X.s₀.heap.objs.size
  noex : ∀ b o, X.base.get? b = some o → b ∉ X.ex
  exfs : ∀ b ∈ X.ex, b ∉ X.fs
  funs : X.s₀.heap.FunFrames X.base X.outer
  frf : ∀ b ∈ X.fs, X.H₀ b = none

structure Inv (X : Cx) (pins : List (Addr × Obj)) (σ : List (Option V)) (H : Hp) (s : Shared) : Prop where
  ok : X.Ok
  os : s.os = X.s₀.os
  bare : AllBare s.gens
  base : Un X.fs X.ex X.H₀ H X.s₀.heap s.heap
  loc : ∃ m, s.heap.Ns X.env.locals m ∧ ∀ (i : Nat) (x : Str) (v : V), X.N[i]? = some x → σ[i]? = some (some v) → Vis X.env.scope x → ∃ u, RelV v u ∧ Look X.env s.heap m x u
  cell : ∀ x c, X.env.cells.lookup x = some c → ∃ v, s.heap.IsCell c v
  free : H X.env.locals = none
  freeC : ∀ x c, X.env.cells.lookup x = some c → H c = none
  pin : ∀ p ∈ X.pn ++ pins, s.heap.get? p.1 = some p.2 ∧ H p.1 = none ∧ p.1 ≠ X.env.locals ∧ p.1 ∉ X.fs ∧ ∀ v, p.2.data ≠ .cell v
  hok : HOk X.prog X.w H s.heap
  len : σ.length = X.N.length

section
variable {X : Cx} {pins : List (Addr × Obj)} {σ : List (Option V)} {H H' : Hp} {s : Shared} {h' : Heap}

theorem Cx.Ok.nofr (ok : X.Ok) {b : Addr} {o : Obj} (e : X.base.get? b = some o) : b ∉ X.fs := fun hb => by
  have := (ok.funs.mem hb).1
  rw [e] at this; cases this
theorem Inv.bs (I : Inv X pins σ H s) : ∀ b o, X.base.get? b = some o → s.heap.get? b = some o ∧ H b = none := fun b o e =>
  ⟨I.base.keep b o (I.ok.bs b o e).1 (I.ok.bs b o e).2 (I.ok.nofr e) (I.ok.noex b o e), I.base.free b o (I.ok.bs b o e).1 (I.ok.bs b o e).2 (I.ok.noex b o e)⟩
theorem Inv.bk (I : Inv X pins σ H s) : ∀ b o, X.base.get? b = some o → s.heap.get? b = some o := fun b o e => (I.bs b o e).1
theorem Inv.mod (I : Inv X pins σ H s) : Mod X.K X.mg X.base := I.ok.mod
theorem Inv.kIn (I : Inv X pins σ H s) : X.K.In s.heap := I.ok.mod.kin.keeps I.bk
theorem Inv.lt (I : Inv X pins σ H s) : X.env.locals < s.heap.objs.size := let ⟨_, hn, _⟩ := I.loc; hn.lt
theorem Inv.sz (I : Inv X pins σ H s) : X.s₀.heap.objs.size ≤ s.heap.objs.size := Nat.le_trans I.ok.above (Nat.le_of_lt I.lt)
theorem Inv.nofs (I : Inv X pins σ H s) {a : Addr} (h : s.heap.objs.size ≤ a) : a ∉ X.fs := fun hb => by
  obtain ⟨_, o, ho, _⟩ := I.ok.funs.mem hb
  exact absurd (Nat.lt_of_lt_of_le (Heap.lt_size ho) (Nat.le_trans I.sz h)) (Nat.lt_irrefl _)
theorem Inv.cne (I : Inv X pins σ H s) : ∀ x c, X.env.cells.lookup x = some c → c ≠ X.env.locals := fun x c e z => by
  obtain ⟨v, o, ho, hd⟩ := I.cell x c e
  obtain ⟨m, ⟨o', es, ep, ho', hd', _⟩, _⟩ := I.loc
  rw [z, ho'] at ho; cases ho; rw [hd'] at hd; cases hd
theorem Inv.funs (I : Inv X pins σ H s) : s.heap.FunFrames X.base X.outer := by
  have all : ∀ (l : List Env), (∀ b ∈ frs l, b ∈ X.fs) → X.s₀.heap.FunFrames X.base l → s.heap.FunFrames X.base l := by
    intro l
    induction l with
    | nil => intro _ _; trivial
    | cons env r ih =>
      intro hs hl
      obtain ⟨hk, ⟨L, o, hf, hn, ho, hd⟩, hr⟩ := hl
      have hL : L ∈ X.fs := hs L (by unfold frs; rw [List.filterMap_cons, hf]; exact List.mem_cons_self)
      obtain ⟨sl, e⟩ := I.base.slot L o ho (I.ok.frf L hL) hL fun z => I.ok.exfs L z hL
      exact ⟨hk, ⟨L, _, hf, hn, e, hd⟩, ih (fun b hb => hs b (by unfold frs; rw [List.filterMap_cons, hf]; exact List.mem_cons_of_mem _ hb)) hr⟩
  exact all X.outer (fun _ hb => hb) I.ok.funs

theorem Inv.stack (I : Inv X pins σ H s) : s.heap.FunFrames X.base X.stack := by
  rcases I.ok.stk with e | ⟨e, hf⟩
  · rw [e]; exact I.funs
  · rw [e]
    obtain ⟨m, hn, _⟩ := I.loc
    refine .cons (by rw [I.ok.kind]; decide) hf hn ?_ I.funs
    exact Heap.get?_none_of_le (Nat.le_trans I.ok.bsz I.ok.above)
theorem Inv.stkSub (I : Inv X pins σ H s) : ∀ b ∈ frs X.stack, b ∈ X.env.locals :: X.fs := fun b hb => by
  rcases I.ok.stk with e | ⟨e, hf⟩
  · rw [e] at hb; exact List.mem_cons_of_mem _ hb
  · rw [e] at hb
    unfold frs at hb
    rw [List.filterMap_cons, hf] at hb
    exact hb
theorem Inv.stkFree (I : Inv X pins σ H s) : ∀ b ∈ frs X.stack, H b = none := fun b hb => by
  rcases List.mem_cons.mp (I.stkSub b hb) with e | hb
  · rw [e]; exact I.free
  · obtain ⟨_, o, ho, _⟩ := I.ok.funs.mem hb
    exact I.base.free b o ho (I.ok.frf b hb) fun z => I.ok.exfs b z hb

theorem Inv.step {g' : Array GenState} {t' : Nat} {d' : Drawn} {ch : List Addr} (I : Inv X pins σ H s)
    (hch : ∀ b ∈ ch, (b ∈ X.ex ∨ X.s₀.heap.objs.size ≤ b) ∧ b ≠ X.env.locals ∧ (∀ x c, X.env.cells.lookup x = some c → c ≠ b) ∧ ∀ p ∈ X.pn ++ pins, p.1 ≠ b)
    (keep : ∀ b o, b ≠ X.env.locals → b ∉ X.fs → b ∉ ch → s.heap.get? b = some o → H b = none → h'.get? b = some o)
    (slot : ∀ b o, b ≠ X.env.locals → b ∈ X.fs → b ∉ ch → s.heap.get? b = some o → H b = none → ∃ sl, h'.get? b = some { o with slots := sl }) (free : ∀ b o, b ∉ ch → s.heap.get? b = some o → H b = none → H' b = none)
    (there : ∀ b o, b ∉ ch → s.heap.get? b = some o → ∃ o', h'.get? b = some o')
    (tups : ∀ b xs, H b = some (.tup xs) → H' b = some (.tup xs)) (frzs : ∀ b o u, H b = some (.frz o u) → H' b = some (.frz o u)) (tbls : ∀ b ps, H b = some (.tbl ps) → ∃ more, H' b = some (.tbl (ps ++ more)))
    (ns : ∀ m, s.heap.Ns X.env.locals m → h'.Ns X.env.locals m) (hok : HOk X.prog X.w H' h') (hg : AllBare g') :
    Inv X pins σ H' { s with heap := h', gens := g', drawn := d', toks := t' } := by
  have neL : ∀ b o, X.s₀.heap.get? b = some o → b ≠ X.env.locals := fun b o e => Nat.ne_of_lt (Nat.lt_of_lt_of_le (Heap.lt_size e) I.ok.above)
  have neC : ∀ b o, X.s₀.heap.get? b = some o → b ∉ X.ex → b ∉ ch := fun b o e hx hb => by
    rcases (hch b hb).1 with z | z
    · exact hx z
    · exact absurd (Nat.lt_of_lt_of_le (Heap.lt_size e) z) (Nat.lt_irrefl _)
  have cellK : ∀ x c, X.env.cells.lookup x = some c → ∀ v, s.heap.IsCell c v → h'.IsCell c v := fun x c e v ⟨o, ho, hd⟩ => by
    have nch : c ∉ ch := fun z => (hch c z).2.2.1 x c e rfl
    by_cases hc : c ∈ X.fs
    · obtain ⟨sl, q⟩ := slot c o (I.cne x c e) hc nch ho (I.freeC x c e)
      exact ⟨_, q, hd⟩
    · exact ⟨o, keep c o (I.cne x c e) hc nch ho (I.freeC x c e), hd⟩
  refine ⟨I.ok, I.os, hg, ⟨fun b o e n hb hx => ?_, fun b o e n hb hx => ?_, fun b o e n hx => ?_, fun b o e hx => ?_, fun b xs e => tups b xs (I.base.tups b xs e), fun b o xs e => frzs b o xs (I.base.frzs b o xs e), fun b ps e => ?_⟩, ?_, fun x c e => ?_, ?_, fun x c e => ?_, fun p hp => ?_, hok, I.len⟩
  · exact keep b o (neL b o e) hb (neC b o e hx) (I.base.keep b o e n hb hx) (I.base.free b o e n hx)
  · obtain ⟨sl, e1⟩ := I.base.slot b o e n hb hx
    obtain ⟨sl', e2⟩ := slot b _ (neL b o e) hb (neC b o e hx) e1 (I.base.free b o e n hx)
    exact ⟨sl', e2⟩
  · obtain ⟨o', e1⟩ := I.base.there b o e hx
    exact free b o' (neC b o e hx) e1 (I.base.free b o e n hx)
  · obtain ⟨o', e1⟩ := I.base.there b o e hx
    exact there b o' (neC b o e hx) e1
  · obtain ⟨m1, e1⟩ := I.base.tbls b ps e
    obtain ⟨m2, e2⟩ := tbls b _ e1
    exact ⟨m1 ++ m2, by rw [e2, Array.append_assoc]⟩
  · obtain ⟨m, hn, hl⟩ := I.loc
    refine ⟨m, ns m hn, fun i x v e1 e2 e3 => ?_⟩
    obtain ⟨u, r, l⟩ := hl i x v e1 e2 e3
    refine ⟨u, r, ?_⟩
    rcases l with l | ⟨k, c, e, z⟩
    · exact .inl l
    · exact .inr ⟨k, c, e, cellK x c e _ z⟩
  · obtain ⟨v, z⟩ := I.cell x c e
    exact ⟨v, cellK x c e v z⟩
  · obtain ⟨m, ⟨o, _, _, ho, _⟩, _⟩ := I.loc
    exact free _ o (fun z => (hch _ z).2.1 rfl) ho I.free
  · obtain ⟨v, o, ho, hd⟩ := I.cell x c e
    exact free c o (fun z => (hch c z).2.2.1 x c e rfl) ho (I.freeC x c e)
  · obtain ⟨e, n, ne, nf, d⟩ := I.pin p hp
    have nch : p.1 ∉ ch := fun z => (hch p.1 z).2.2.2 p hp rfl
    exact ⟨keep p.1 p.2 ne nf nch e n, free p.1 p.2 nch e n, ne, nf, d⟩
theorem Inv.un {t' : Nat} (I : Inv X pins σ H s) (u : Un X.fs [] H H' s.heap h') (hok : HOk X.prog X.w H' h') : Inv X pins σ H' { s with heap := h', toks := t' } := by
  obtain ⟨m, ⟨o, es, ep, ho, r⟩, _⟩ := id I.loc
  obtain ⟨sl, hL⟩ := u.any ho I.free (by simp)
  exact I.step (g' := s.gens) (d' := s.drawn) (ch := []) (fun _ z => nomatch z) (fun b o _ hb _ e n => u.keep b o e n hb (by simp)) (fun b o _ hb _ e n => u.slot b o e n hb (by simp)) (fun b o _ e n => u.free b o e n (by simp)) (fun b o _ e => u.there b o e (by simp)) u.tups u.frzs u.tbls (fun m' hm => by
    obtain ⟨o', es', ep', ho', r'⟩ := hm
    rw [ho] at ho'; cases ho'
    exact ⟨_, es', ep', hL, r'⟩) hok I.bare
theorem Inv.call {g' : Array GenState} {t' : Nat} {d' : Drawn} {ch : List Addr} (I : Inv X pins σ H s) (u : Un (frs X.stack) ch H H' s.heap h') (hok : HOk X.prog X.w H' h') (hg : AllBare g')
    (hch : ∀ b ∈ ch, (b ∈ X.ex ∨ X.s₀.heap.objs.size ≤ b) ∧ b ≠ X.env.locals ∧ (∀ x c, X.env.cells.lookup x = some c → c ≠ b) ∧ ∀ p ∈ X.pn ++ pins, p.1 ≠ b) :
    Inv X pins σ H' { s with heap := h', gens := g', drawn := d', toks := t' } := by
  obtain ⟨m, ⟨o, es, ep, ho, r⟩, _⟩ := id I.loc
  obtain ⟨sl, hL⟩ := u.any ho I.free fun z => (hch _ z).2.1 rfl
  exact I.step (ch := ch) hch (fun b o hL hb hc e n => u.keep b o e n (fun z => (List.mem_cons.mp (I.stkSub b z)).elim hL hb) hc) (fun b o _ _ hc e n => u.any e n hc) (fun b o hc e n => u.free b o e n hc) (fun b o hc e => u.there b o e hc) u.tups u.frzs u.tbls (fun m' hm => by
    obtain ⟨o', es', ep', ho', r'⟩ := hm
    rw [ho] at ho'; cases ho'
    exact ⟨_, es', ep', hL, r'⟩) hok hg
theorem Inv.turned {t' : Nat} {it : Addr} (I : Inv X pins σ H s) (k : ∀ b o, b ≠ it → s.heap.get? b = some o → h'.get? b = some o) (hn : H it = none) (hL : it ≠ X.env.locals)
    (h1 : it ∈ X.ex ∨ X.s₀.heap.objs.size ≤ it) (h2 : ∀ x c, X.env.cells.lookup x = some c → c ≠ it) (h3 : ∀ p ∈ X.pn ++ pins, p.1 ≠ it) : Inv X pins σ H { s with heap := h', toks := t' } := by
  have nit : ∀ b u, H b = some u → b ≠ it := fun b u e z => by rw [z, hn] at e; cases e
  refine I.step (g' := s.gens) (d' := s.drawn) (ch := [it]) (fun b hb => ?_) (fun b o _ _ hc e _ => k b o (fun z => hc (by simp [z])) e) (fun b o _ _ hc e _ => ⟨o.slots, k b o (fun z => hc (by simp [z])) e⟩) (fun _ _ _ _ n => n)
    (fun b o hc e => ⟨o, k b o (fun z => hc (by simp [z])) e⟩) (fun _ _ e => e) (fun _ _ _ e => e) (fun b ps e => ⟨#[], by rw [e]; simp⟩) (fun m hm => ?_) (fun b u e => ?_) I.bare
  · have e : b = it := by simpa using hb
    subst e
    exact ⟨h1, hL, h2, h3⟩
  · obtain ⟨o, es, ep, ho, r⟩ := hm
    exact ⟨o, es, ep, k _ o (Ne.symm hL) ho, r⟩
  · refine (I.hok b u e).stay (fun c v hc q => k c v ?_ q) (fun _ q => q) fun _ _ q => q
    rcases hc with z | z
    · rw [z]; exact nit b u e
    · exact nit c _ z
theorem Inv.tok (I : Inv X pins σ H s) (t : Nat) : Inv X pins σ H { s with toks := t } := I.un (h' := s.heap) (t' := t) Un.refl I.hok
theorem Inv.kept {t' : Nat} (I : Inv X pins σ H s) (k : ∀ b u, s.heap.get? b = some u → h'.get? b = some u) : Inv X pins σ H { s with heap := h', toks := t' } := I.un (Un.kept k) (I.hok.kept k)
theorem Inv.laid {a : Addr} {o : HO} {t' : Nat} (I : Inv X pins σ H s) (k : ∀ b u, s.heap.get? b = some u → h'.get? b = some u) (hp : s.heap.objs.size ≤ a) (new : ObjOk X.prog X.w (upd H a o) h' a o) :
    Inv X pins σ (upd H a o) { s with heap := h', toks := t' } := I.un (Un.laid k hp (I.hok.fresh hp)) (I.hok.laid k hp new)
theorem Inv.write {x e : Addr} {o : HO} {t' : Nat} (I : Inv X pins σ H s) (mu : Mut (H x)) (he : e = x ∨ H e = some (.own x)) (k : ∀ b u, b ≠ e → s.heap.get? b = some u → h'.get? b = some u) (heo : ∃ u, h'.get? e = some u)
    (new : ObjOk X.prog X.w (upd H x o) h' x o) : Inv X pins σ (upd H x o) { s with heap := h', toks := t' } := I.un (Un.write mu he k heo) (I.hok.write mu he k heo new)
theorem Inv.pins_of {pins' : List (Addr × Obj)} (I : Inv X pins σ H s) (h : ∀ p ∈ pins', s.heap.get? p.1 = some p.2 ∧ H p.1 = none ∧ p.1 ≠ X.env.locals ∧ p.1 ∉ X.fs ∧ ∀ v, p.2.data ≠ .cell v) : Inv X pins' σ H s :=
  ⟨I.ok, I.os, I.bare, I.base, I.loc, I.cell, I.free, I.freeC, fun p hp => (List.mem_append.mp hp).elim (fun z => I.pin p (List.mem_append_left _ z)) (h p), I.hok, I.len⟩

theorem nodup_ix {N : List Str} (hN : N.Nodup) {i j : Nat} {x : Str} (a : N[i]? = some x) (b : N[j]? = some x) : i = j := by
  obtain ⟨h1, e1⟩ := List.getElem?_eq_some_iff.mp a
  obtain ⟨h2, e2⟩ := List.getElem?_eq_some_iff.mp b
  exact (List.getElem_inj hN).mp (e1.trans e2.symm)

theorem store_ok2 {M : Model} {A : Around} {E : Value → Shared → Prop} {i : Nat} {x : Str} {v : V} {u : Value} {Q : Unit → Shared → Prop} (I : Inv X pins σ H s) (hN : X.N.Nodup) (hi : X.N[i]? = some x) (hx : Loc X.env.scope x) (r : RelV v u)
    (h : ∀ s', Inv X pins (σ.set i (some v)) H s' → (∃ a, Heap.SameBut a s.heap s'.heap ∧ (a = X.env.locals ∨ X.env.cells.lookup x = some a)) → Q () s') (hf : X.fn x = true ∨ X.env.scope.names.lookup x = some .local := by first | exact .inl rfl | exact .inr rfl | assumption) : wpAny M A (storeName X.env x u) Q E s := by
  obtain ⟨m, hn, hl⟩ := id I.loc
  have hcls : (X.env.scope.kind == .class || (X.env.scope.kind == .module && X.env.locals != X.env.globals)) = false := by rw [I.ok.kind]; rfl
  have hiσ : i < σ.length := by rw [I.len]; exact (List.getElem?_eq_some_iff.mp hi).1
  have cne := I.cne
  have tracked : ∀ {a : Addr} {h' : Heap}, (∃ o, s.heap.get? a = some o ∧ H a = none) → Heap.SameBut a s.heap h' → HOk X.prog X.w H h' := fun {a h'} ha hs b ob e => by
    obtain ⟨_, _, hfree⟩ := ha
    refine (I.hok b ob e).stay (fun c w' hc q => (hs.2 c ?_).trans q) (fun _ q => q) fun _ _ q => q
    rintro rfl
    rcases hc with rfl | hc
    · rw [hfree] at e; cases e
    · rw [hfree] at hc; cases hc
  rcases hx with hk | hk
  · refine wpAny_storeName_local hk hn (fun h' hn' hs => ?_) hcls
    obtain ⟨oL, _, _, hoL, _⟩ := id hn
    refine h _ ⟨I.ok, I.os, I.bare, ⟨fun b o e n hb hx => ?_, fun b o e n hb hx => ?_, I.base.free, fun b o e hx => ?_, I.base.tups, I.base.frzs, I.base.tbls⟩, ⟨_, hn', fun j y v' e1 e2 e3 => ?_⟩, fun y c e => ?_, I.free, I.freeC, fun p hp => ?_, tracked ⟨oL, hoL, I.free⟩ hs, by simpa using I.len⟩ ⟨_, hs, .inl rfl⟩
    · exact (hs.2 b (Nat.ne_of_lt (Nat.lt_of_lt_of_le (Heap.lt_size e) I.ok.above))).trans (I.base.keep b o e n hb hx)
    · obtain ⟨sl, e1⟩ := I.base.slot b o e n hb hx
      exact ⟨sl, (hs.2 b (Nat.ne_of_lt (Nat.lt_of_lt_of_le (Heap.lt_size e) I.ok.above))).trans e1⟩
    · obtain ⟨o', e1⟩ := I.base.there b o e hx
      exact ⟨o', (hs.2 b (Nat.ne_of_lt (Nat.lt_of_lt_of_le (Heap.lt_size e) I.ok.above))).trans e1⟩
    · by_cases hj : j = i
      · subst hj
        rw [hi] at e1; cases e1
        rw [List.getElem?_set_self hiσ] at e2
        cases e2
        exact ⟨u, r, .inl ⟨hk, by simp⟩⟩
      · rw [List.getElem?_set_ne (Ne.symm hj)] at e2
        obtain ⟨u', r', q⟩ := hl j y v' e1 e2 e3
        refine ⟨u', r', ?_⟩
        rcases q with ⟨k, e⟩ | ⟨k, c, e, z⟩
        · refine .inl ⟨k, ?_⟩
          have : y ≠ x := fun e => hj (nodup_ix hN e1 (e ▸ hi))
          simp [this, e]
        · exact .inr ⟨k, c, e, z.sameBut hs (cne y c e)⟩
    · obtain ⟨w', z⟩ := I.cell y c e
      exact ⟨w', z.sameBut hs (cne y c e)⟩
    · obtain ⟨e, n, ne, nf, d⟩ := I.pin p hp
      exact ⟨(hs.2 p.1 ne).trans e, n, ne, nf, d⟩
  · have hfn : X.fn x = true := by
      rcases hf with z | z
      · exact z
      · rw [z] at hk; cases hk
    obtain ⟨c, hc⟩ := I.ok.has x (.inl hk)
    obtain ⟨w', z⟩ := I.cell x c hc
    refine wpAny_storeName_cell I.ok.kind hk hc z (fun h' hc' hs => ?_)
    obtain ⟨oc, hoc, hocd⟩ := id z
    refine h { s with heap := h' } ⟨I.ok, I.os, I.bare, ⟨fun b o e n hb hx => ?_, fun b o e n hb hx => ?_, I.base.free, fun b o e hx => ?_, I.base.tups, I.base.frzs, I.base.tbls⟩, ⟨m, hn.sameBut hs (Ne.symm (cne x c hc)), fun j y v' e1 e2 e3 => ?_⟩, fun y c' e => ?_, I.free, I.freeC, fun p hp => ?_, tracked ⟨oc, hoc, I.freeC x c hc⟩ hs, by simpa using I.len⟩ ⟨c, hs, .inr hc⟩
    · exact (hs.2 b (Nat.ne_of_lt (Nat.lt_of_lt_of_le (Heap.lt_size e) (I.ok.cab x c hfn hc)))).trans (I.base.keep b o e n hb hx)
    · obtain ⟨sl, e1⟩ := I.base.slot b o e n hb hx
      exact ⟨sl, (hs.2 b (Nat.ne_of_lt (Nat.lt_of_lt_of_le (Heap.lt_size e) (I.ok.cab x c hfn hc)))).trans e1⟩
    · obtain ⟨o', e1⟩ := I.base.there b o e hx
      exact ⟨o', (hs.2 b (Nat.ne_of_lt (Nat.lt_of_lt_of_le (Heap.lt_size e) (I.ok.cab x c hfn hc)))).trans e1⟩
    · by_cases hj : j = i
      · subst hj
        rw [hi] at e1; cases e1
        rw [List.getElem?_set_self hiσ] at e2
        cases e2
        exact ⟨u, r, .inr ⟨.inl hk, c, hc, hc'⟩⟩
      · rw [List.getElem?_set_ne (Ne.symm hj)] at e2
        obtain ⟨u', r', q⟩ := hl j y v' e1 e2 e3
        refine ⟨u', r', ?_⟩
        rcases q with q | ⟨k, c', e, z'⟩
        · exact .inl q
        · refine .inr ⟨k, c', e, z'.sameBut hs ?_⟩
          rintro rfl
          exact hj (nodup_ix hN e1 (I.ok.inj _ _ _ e hc ▸ hi))
    · by_cases hcc : c' = c
      · subst hcc; exact ⟨_, hc'⟩
      · obtain ⟨w2, z2⟩ := I.cell y c' e
        exact ⟨w2, z2.sameBut hs hcc⟩
    · obtain ⟨e, n, ne, nf, d⟩ := I.pin p hp
      refine ⟨(hs.2 p.1 ?_).trans e, n, ne, nf, d⟩
      intro q
      rw [q, hoc] at e
      have q' : oc = p.2 := Option.some.inj e
      exact d w' (by rw [← q']; exact hocd)
theorem store_ok {M : Model} {A : Around} {E : Value → Shared → Prop} {i : Nat} {x : Str} {v : V} {u : Value} {Q : Unit → Shared → Prop} (I : Inv X pins σ H s) (hN : X.N.Nodup) (hi : X.N[i]? = some x) (hx : Loc X.env.scope x) (r : RelV v u)
    (h : ∀ s', Inv X pins (σ.set i (some v)) H s' → Q () s') (hf : X.fn x = true ∨ X.env.scope.names.lookup x = some .local := by first | exact .inl rfl | exact .inr rfl | assumption) : wpAny M A (storeName X.env x u) Q E s :=
  store_ok2 I hN hi hx r (fun s' I' _ => h s' I') hf
theorem Inv.call' {s' : Shared} {ch : List Addr} (I : Inv X pins σ H s) (ho : s'.os = s.os) (u : Un (frs X.stack) ch H H' s.heap s'.heap) (hok : HOk X.prog X.w H' s'.heap) (hg : AllBare s'.gens)
    (hch : ∀ b ∈ ch, (b ∈ X.ex ∨ X.s₀.heap.objs.size ≤ b) ∧ b ≠ X.env.locals ∧ (∀ x c, X.env.cells.lookup x = some c → c ≠ b) ∧ ∀ p ∈ X.pn ++ pins, p.1 ≠ b) : Inv X pins σ H' s' := by
  obtain ⟨h', g', d', t', o'⟩ := s'
  have e : o' = s.os := ho
  subst e
  exact I.call (g' := g') (t' := t') (d' := d') u hok hg hch
end

abbrev XK := Value → Option Addr → Hp → Prop
abbrev St := List (Option V)
abbrev VK := V → Hp → Prop
abbrev TE := St → Hp → VK → Prop
abbrev TT := St → Hp → (Bool → Hp → Prop) → Prop
abbrev TA := St → Hp → (List V → Hp → Prop) → Prop
structure Ends where
  nx : St → Hp → Prop
  rt : VK
  bk : St → Hp → Prop := fun _ _ => False
  ct : St → Hp → Prop := fun _ _ => False
abbrev TS := Ends → St → Hp → Prop

def EP (X : Cx) (pins : List (Addr × Obj)) (σ : St) (Q : VK) (u : Value) (s' : Shared) : Prop := ∃ v H', Inv X pins σ H' s' ∧ RelV v u ∧ Q v H'
def TP (X : Cx) (pins : List (Addr × Obj)) (σ : St) (Q : Bool → Hp → Prop) (b : Bool) (s' : Shared) : Prop := ∃ H', Inv X pins σ H' s' ∧ Q b H'
def AP (X : Cx) (pins : List (Addr × Obj)) (σ : St) (Q : List V → Hp → Prop) (us : List Value) (s' : Shared) : Prop := ∃ vs H', Inv X pins σ H' s' ∧ Vals vs us ∧ Q vs H'
def SP (X : Cx) (pins : List (Addr × Obj)) (D : Ends) (f : Flow) (s' : Shared) : Prop :=
  match f with
  | .next => ∃ σ' H', Inv X pins σ' H' s' ∧ D.nx σ' H'
  | .brk => ∃ σ' H', Inv X pins σ' H' s' ∧ D.bk σ' H'
  | .cont => ∃ σ' H', Inv X pins σ' H' s' ∧ D.ct σ' H'
  | .ret u => ∃ v σ' H', Inv X pins σ' H' s' ∧ RelV v u ∧ D.rt v H'

def PE (X : Cx) (e : Expr) (t : TE) : Prop :=
  ∀ (pins : List (Addr × Obj)) (s : Shared) (σ : St) (H : Hp) (Q : VK), Inv X pins σ H s → t σ H Q → wpAny (model X.prog X.w) X.A (eval e X.env) (EP X pins σ Q) X.xe s
def PT (X : Cx) (e : Expr) (t : TT) : Prop :=
  ∀ (pins : List (Addr × Obj)) (s : Shared) (σ : St) (H : Hp) (Q : Bool → Hp → Prop), Inv X pins σ H s → t σ H Q → wpAny (model X.prog X.w) X.A (isTrue e X.env (eval e X.env)) (TP X pins σ Q) X.xe s
def PW (X : Cx) (e : Expr) (t : TT) : Prop :=
  ∀ (whole : Sem Value) (pins : List (Addr × Obj)) (s : Shared) (σ : St) (H : Hp) (Q : Bool → Hp → Prop), Inv X pins σ H s → t σ H Q → wpAny (model X.prog X.w) X.A (isTrue e X.env whole) (TP X pins σ Q) X.xe s
theorem PW.pt {X : Cx} {e : Expr} {t : TT} (h : PW X e t) : PT X e t := h _
def PA (X : Cx) (es : List Expr) (t : TA) : Prop :=
  ∀ (pos : Pos) (pins : List (Addr × Obj)) (s : Shared) (σ : St) (H : Hp) (Q : List V → Hp → Prop), Inv X pins σ H s → t σ H Q → wpAny (model X.prog X.w) X.A (spliced (backTo pos (starEach es X.env))) (AP X pins σ Q) X.xe s
def PS (X : Cx) (st : Stmt) (t : TS) : Prop :=
  ∀ (pins : List (Addr × Obj)) (s : Shared) (σ : St) (H : Hp) (D : Ends), Inv X pins σ H s → t D σ H → wpAny (model X.prog X.w) X.A (exec st X.env) (SP X pins D) X.xe s
def PSs (X : Cx) (st : List Stmt) (t : TS) : Prop :=
  ∀ (pins : List (Addr × Obj)) (s : Shared) (σ : St) (H : Hp) (D : Ends), Inv X pins σ H s → t D σ H → wpAny (model X.prog X.w) X.A (execs st X.env) (SP X pins D) X.xe s
theorem thn {α : Type} {t : Sem α} {Q Q' : α → Shared → Prop} {M : Model} {A : Around} {E : Value → Shared → Prop} {s : Shared} (h : wpAny M A t Q E s) (hQ : ∀ a s, Q a s → Q' a s) : wpAny M A t Q' E s := wpAny_mono h hQ fun _ _ x => x
end L2

namespace L2
open PySem PySem.Spec PyProof.Rows
section
variable {X : Cx}

def tVar (i : Nat) : TE := fun σ H Q => ∃ v, σ[i]? = some (some v) ∧ Q v H
def tC (v : V) : TE := fun _ H Q => Q v H
theorem pe_var {i : Nat} {x : Str} {pos : Pos} (hN : X.N[i]? = some x) (hv : Vis X.env.scope x) (hd : (x == ("__debug__" : Str)) = false := by decide) (hcd : (x == ("__classdict__" : Str)) = false := by decide) : PE X (.Name x pos) (tVar i) := by
  intro pins s σ H Q I h
  obtain ⟨v, e, h⟩ := h
  obtain ⟨m, hn, hl⟩ := I.loc
  obtain ⟨u, r, l⟩ := hl i x v hN e hv
  have fin : EP X pins σ Q u s := ⟨v, H, I, r, h⟩
  rcases l with ⟨hk, hm⟩ | ⟨hk, c, hc, hcell⟩
  · exact wpAny_Name (wpAny_loadName_local I.ok.kind hk hn hm fin) hd
  · rcases hk with hk | hk
    · exact wpAny_Name (wpAny_loadName_cell I.ok.kind hk hc hcell fin) hd
    · exact wpAny_Name (wpAny_loadName_free I.ok.kind hk hc hcell fin hcd) hd
theorem pe_int {i j pos} : PE X (.Constant (.int i) j pos) (tC (.int i)) := fun _ _ _ H _ I h => wpAny_Constant_int ⟨.int i, H, I.tok _, ⟨_, rfl⟩, h⟩
theorem pe_bl {b j pos} : PE X (.Constant (.bool b) j pos) (tC (.bl b)) := fun _ _ _ H _ I h => Constant_bool ⟨.bl b, H, I, rfl, h⟩
theorem pe_non {j pos} : PE X (.Constant .none j pos) (tC .non) := fun _ _ _ H _ I h => Constant_none ⟨.non, H, I, rfl, h⟩
def Gl (X : Cx) (x : Str) : Prop := X.env.kindOf x = some .globalImplicit
theorem ld_glob {E : Value → Shared → Prop} {pins : List (Addr × Obj)} {s : Shared} {σ : St} {H : Hp} {x : Str} {u : Value} {pos : Pos} {Q : Value → Shared → Prop} (I : Inv X pins σ H s) (hg : Gl X x) (hm : X.mg x = some u) (h : Q u s)
    (hd : (x == ("__debug__" : Str)) = false := by decide) : wpAny (model X.prog X.w) X.A (eval (.Name x pos) X.env) Q E s :=
  Calls.Name_function_global I.ok.kind hg (Calls.loadGlobal_global (by rw [I.ok.glob]; exact I.mod.glob.keeps I.bk) hm h) hd
theorem ld_blt {E : Value → Shared → Prop} {pins : List (Addr × Obj)} {s : Shared} {σ : St} {H : Hp} {x : Str} {u : Value} {pos : Pos} {Q : Value → Shared → Prop} (I : Inv X pins σ H s) (hg : Gl X x) (hm : X.mg x = none) (hv : bootBuiltins x = some u) (h : Q u s)
    (hn : x ≠ "__name__" := by decide) (hd : (x == ("__debug__" : Str)) = false := by decide) : wpAny (model X.prog X.w) X.A (eval (.Name x pos) X.env) Q E s := by
  obtain ⟨mb, h1, h2⟩ := I.mod.blt
  exact Calls.Name_function_global I.ok.kind hg (Calls.loadGlobal_builtin (by rw [I.ok.glob]; exact I.mod.glob.keeps I.bk) hm (by rw [I.ok.blt]; exact h1.keeps I.bk) ((h2 x hn).trans hv) h) hd
theorem pe_bltn {x : Str} {v : V} {u : Value} {pos : Pos} (hg : Gl X x) (hm : X.mg x = none) (hv : bootBuiltins x = some u) (r : RelV v u) (hn : x ≠ "__name__" := by decide) (hd : (x == ("__debug__" : Str)) = false := by decide) : PE X (.Name x pos) (tC v) :=
  fun _ _ _ H _ I h => ld_blt I hg hm hv ⟨v, H, I, r, h⟩ hn hd

variable {a b : Expr} {ta tb : TE} {pos : Pos}
def PC (X : Cx) (op : CmpOp) (a b : Expr) (t : TE) : Prop :=
  ∀ (pins : List (Addr × Obj)) (s : Shared) (σ : St) (H : Hp) (Q : VK), Inv X pins σ H s → t σ H Q →
    wpAny (model X.prog X.w) X.A (eval a X.env) (fun v s₁ => wpAny (model X.prog X.w) X.A (eval b X.env) (fun u s₂ => wpAny (model X.prog X.w) X.A (compareOp op v u) (EP X pins σ Q) X.xe s₂) X.xe s₁) X.xe s
theorem nobehind (b : Expr) {op : CmpOp} (h : op ≠ .In) (h2 : op ≠ .NotIn) : behindInMarks op b = false := by
  have e1 : (op == CmpOp.In) = false := by cases op <;> first | rfl | exact absurd rfl h
  have e2 : (op == CmpOp.NotIn) = false := by cases op <;> first | rfl | exact absurd rfl h2
  cases b <;> simp [behindInMarks, e1, e2]
def tIsN (ta : TE) : TE := fun σ H Q => ta σ H fun x H1 => Q (.bl (decide (x = .non))) H1
def tNotN (ta : TE) : TE := fun σ H Q => ta σ H fun x H1 => Q (.bl (!decide (x = .non))) H1
theorem RelV.none_iff {x : V} {v : Value} (r : RelV x v) : (v == Value.none) = decide (x = .non) := by
  cases x with
  | non => cases r; rfl
  | bl _ => cases r; rfl
  | int _ => obtain ⟨t, rfl⟩ := r; rfl
  | str _ => obtain ⟨t, rfl⟩ := r; rfl
  | byt _ => obtain ⟨t, rfl⟩ := r; rfl
  | flt _ => obtain ⟨t, rfl⟩ := r; rfl
  | ref _ => cases r; rfl
  | ty _ => cases r; rfl
theorem pc_isN {j pos'} (ha : PE X a ta) : PC X .Is a (.Constant .none j pos') (tIsN ta) := by
  intro pins s σ H Q I h
  refine thn (ha pins s σ H _ I h) fun v s1 ⟨x, H1, I1, r1, q1⟩ => ?_
  exact Constant_none (is_none_gen ⟨.bl _, H1, I1, by rw [r1.none_iff]; rfl, q1⟩)
theorem pc_notN {j pos'} (ha : PE X a ta) : PC X .IsNot a (.Constant .none j pos') (tNotN ta) := by
  intro pins s σ H Q I h
  refine thn (ha pins s σ H _ I h) fun v s1 ⟨x, H1, I1, r1, q1⟩ => ?_
  exact Constant_none (isnot_none_gen ⟨.bl _, H1, I1, by rw [r1.none_iff]; rfl, q1⟩)
def tB (t : TE) : TT := fun σ H Q => t σ H fun x H1 => ∃ c, x = .bl c ∧ Q c H1
theorem pe_cmp {op : CmpOp} {t : TE} (h : PC X op a b t) (h1 : behindInMarks op b = false := by first | exact nobehind _ (by decide) (by decide) | rfl) : PE X (.Compare a [op] [b] pos) t := fun pins s σ H Q I hw => wpAny_Compare1 (h pins s σ H Q I hw) h1
theorem pt_cmp {op : CmpOp} {t : TE} (h : PC X op a b t) (h1 : behindInMarks op b = false := by first | exact nobehind _ (by decide) (by decide) | rfl) : PT X (.Compare a [op] [b] pos) (tB t) := by
  intro pins s σ H Q I hw
  refine wpAny_isTrue_Compare1 (thn (h pins s σ H _ I hw) fun v s1 h1 => thn h1 fun u s2 h2 => thn h2 fun c s3 ⟨x, H1, I1, r1, q1⟩ => ?_) h1
  obtain ⟨d, rfl, q⟩ := q1
  cases r1
  exact wpAny_truthy_bool ⟨H1, I1, q⟩
theorem pt_val {e : Expr} {t : TE} (h : PE X e t) (he : ∀ whole, isTrue e X.env whole = (do let v ← whole; standAt e.pos; holding [v] (truthy v)) := by intro _; rfl) : PT X e (tB t) := by
  intro pins s σ H Q I hw
  refine isTrue_plain (thn (h pins s σ H _ I hw) fun v s1 ⟨x, H1, I1, r1, q1⟩ => ?_) (he _)
  obtain ⟨d, rfl, q⟩ := q1
  cases r1
  exact wpAny_truthy_bool ⟨H1, I1, q⟩

variable {tA tB' : TT} {rest : List Expr}
def tAnd (t u : TT) : TT := fun σ H Q => t σ H fun c H1 => if c = true then u σ H1 Q else Q false H1
def tOr (t u : TT) : TT := fun σ H Q => t σ H fun c H1 => if c = true then Q true H1 else u σ H1 Q
def tNot (t : TT) : TT := fun σ H Q => t σ H fun c H1 => Q (!c) H1
theorem pw_and1 (ha : PT X a tA) : PW X (.BoolOp .And [a] pos) tA := by
  intro wh pins s σ H Q I h
  refine isTrue_and (thn (ha pins s σ H Q I h) fun c s1 e => ?_)
  cases c with
  | true => exact isTrue_and_nil e
  | false => exact e
theorem pw_or1 (ha : PT X a tA) : PW X (.BoolOp .Or [a] pos) tA := by
  intro wh pins s σ H Q I h
  refine isTrue_or (thn (ha pins s σ H Q I h) fun c s1 e => ?_)
  cases c with
  | false => exact isTrue_or_nil e
  | true => exact e
theorem pw_and (ha : PT X a tA) (hb : PW X (.BoolOp .And (b :: rest) pos) tB') : PW X (.BoolOp .And (a :: b :: rest) pos) (tAnd tA tB') := by
  intro wh pins s σ H Q I h
  refine isTrue_and (thn (ha pins s σ H _ I h) fun c s1 ⟨H1, I1, q1⟩ => ?_)
  cases c with
  | true => exact hb wh pins s1 σ H1 Q I1 q1
  | false => exact ⟨H1, I1, q1⟩
theorem pw_or (ha : PT X a tA) (hb : PW X (.BoolOp .Or (b :: rest) pos) tB') : PW X (.BoolOp .Or (a :: b :: rest) pos) (tOr tA tB') := by
  intro wh pins s σ H Q I h
  refine isTrue_or (thn (ha pins s σ H _ I h) fun c s1 ⟨H1, I1, q1⟩ => ?_)
  cases c with
  | true => exact ⟨H1, I1, q1⟩
  | false => exact hb wh pins s1 σ H1 Q I1 q1
theorem pt_not (ha : PT X a tA) : PT X (.UnaryOp .Not a pos) (tNot tA) := by
  intro pins s σ H Q I h
  exact isTrue_not (ha pins s σ H (fun c H1 => Q (!c) H1) I h)
def tAndV (ta tb : TE) : TE := fun σ H Q => ta σ H fun x H1 => ∃ c, x = .bl c ∧ if c = true then tb σ H1 Q else Q (.bl false) H1
def tNotV (ta : TE) : TE := fun σ H Q => ta σ H fun x H1 => ∃ c, x = .bl c ∧ Q (.bl (!c)) H1
theorem pe_one {op} {t : TE} (h : PE X a t) : PE X (.BoolOp op [a] pos) t := fun pins s σ H Q I hw => BoolOp_one (h pins s σ H Q I hw)
theorem pe_and (ha : PE X a ta) (hb : PE X (.BoolOp .And (b :: rest) pos) tb) : PE X (.BoolOp .And (a :: b :: rest) pos) (tAndV ta tb) := by
  intro pins s σ H Q I h
  refine BoolOp_and (thn (ha pins s σ H _ I h) fun v s1 ⟨x, H1, I1, r1, q1⟩ => ?_)
  obtain ⟨c, rfl, q1⟩ := q1
  cases r1
  refine wpAny_truthy_bool ?_
  cases c with
  | true => exact hb pins s1 σ H1 Q I1 q1
  | false => exact ⟨.bl false, H1, I1, rfl, q1⟩
theorem pe_not (ha : PE X a ta) : PE X (.UnaryOp .Not a pos) (tNotV ta) := by
  intro pins s σ H Q I h
  refine UnaryOp_ (thn (ha pins s σ H _ I h) fun v s1 ⟨x, H1, I1, r1, q1⟩ => ?_)
  obtain ⟨c, rfl, q1⟩ := q1
  cases r1
  exact not_of (wpAny_truthy_bool ⟨.bl (!c), H1, I1, rfl, q1⟩)
def tIf (t : TT) (ta tb : TE) : TE := fun σ H Q => t σ H fun c H1 => if c = true then ta σ H1 Q else tb σ H1 Q
theorem pe_ifExp {c : Expr} (hc : PT X c tA) (ha : PE X a ta) (hb : PE X b tb) : PE X (.IfExp c a b pos) (tIf tA ta tb) := by
  intro pins s σ H Q I h
  refine wpAny_IfExp (thn (hc pins s σ H _ I h) fun d s1 ⟨H1, I1, q1⟩ => ?_)
  cases d with
  | true => exact ha pins s1 σ H1 Q I1 q1
  | false => exact hb pins s1 σ H1 Q I1 q1
end
end L2

namespace L2
open PySem PySem.Spec PyProof.Rows

def SqL (K : PySem.W.Frag) (H : Hp) (a : Addr) (xs : List V) : Prop :=
  Rd H a (.lst xs) ∨
    ∃ (o : Obj) (its : Array Value) (n : Nat), K.lookup a = some o ∧ o.cls = .type "list" ∧ o.dict = none ∧ o.data = .seq its n ∧ its.size ≤ sizeLine ∧ Vals xs its.toList
def SqT (K : PySem.W.Frag) (H : Hp) (a : Addr) (xs : List V) : Prop :=
  Rd H a (.tup xs) ∨
    ∃ (o : Obj) (its : Array Value) (n : Nat), K.lookup a = some o ∧ o.cls = .type "tuple" ∧ o.data = .seq its n ∧ its.size ≤ sizeLine ∧ Vals xs its.toList
def absV : Value → Option V
  | .none => some .non
  | .bool b => some (.bl b)
  | .int i _ => some (.int i)
  | .str x _ => some (.str x)
  | .bytes b _ => some (.byt b)
  | .float b _ => some (.flt b)
  | .ref a => some (.ref a)
  | .type n => some (.ty n)
  | _ => none
theorem RelV.abs {x : V} {u : Value} (r : RelV x u) : absV u = some x := by
  cases x with
  | non => cases r; rfl
  | bl _ => cases r; rfl
  | int _ => obtain ⟨t, rfl⟩ := r; rfl
  | str _ => obtain ⟨t, rfl⟩ := r; rfl
  | byt _ => obtain ⟨t, rfl⟩ := r; rfl
  | flt _ => obtain ⟨t, rfl⟩ := r; rfl
  | ref _ => cases r; rfl
  | ty _ => cases r; rfl
theorem RelV.inj {x y : V} {u : Value} (r : RelV x u) (q : RelV y u) : x = y := Option.some.inj (r.abs.symm.trans q.abs)
theorem Vals.inj : ∀ {xs ys : List V} {us : List Value}, Vals xs us → Vals ys us → xs = ys
  | _, _, _, .nil, .nil => rfl
  | _, _, _, .cons r t, .cons r' t' => by rw [r.inj r', Vals.inj t t']
section
variable {X : Cx} {pins : List (Addr × Obj)} {σ : St} {H : Hp} {s : Shared} {a : Addr} {xs ys : List V}
theorem SqL.of {K : PySem.W.Frag} (h : H a = some (.lst xs)) : SqL K H a xs := .inl (.inl h)
theorem Inv.list (I : Inv X pins σ H s) (h : SqL X.K H a xs) : ∃ its : List Value, Vals xs its ∧ PlainL s.heap a its.toArray ∧ xs.length ≤ sizeLine := by
  rcases h with h | ⟨o, its, n, hk, hc, hd, hs, hz, r⟩
  · obtain ⟨z, its, n, r, e⟩ := h.ok I.hok
    exact ⟨its, r, ⟨_, n, e, rfl, rfl, rfl⟩, z⟩
  · refine ⟨its.toList, r, ⟨o, n, I.kIn a o hk, hc, hd, by simpa using hs⟩, ?_⟩
    have e := r.length
    simp only [Array.length_toList] at e
    omega
theorem Inv.tuple (I : Inv X pins σ H s) (h : SqT X.K H a xs) : ∃ its : List Value, Vals xs its ∧ IsTup s.heap a its.toArray ∧ xs.length ≤ sizeLine := by
  rcases h with h | ⟨o, its, n, hk, hc, hs, hz, r⟩
  · obtain ⟨z, its, r, p⟩ := h.ok I.hok
    exact ⟨its, r, p, z⟩
  · refine ⟨its.toList, r, ⟨o, I.kIn a o hk, hc, n, by simpa using hs⟩, ?_⟩
    have e := r.length
    simp only [Array.length_toList] at e
    omega
theorem Inv.list_inj (I : Inv X pins σ H s) (h : SqL X.K H a xs) (h' : SqL X.K H a ys) : xs = ys := by
  obtain ⟨its, r, ⟨o, n, e, _, _, d⟩, _⟩ := I.list h
  obtain ⟨its', r', ⟨o', n', e', _, _, d'⟩, _⟩ := I.list h'
  rw [e] at e'; cases e'
  rw [d] at d'
  injection d' with d1 _
  have : its = its' := by simpa using congrArg Array.toList d1
  subst this
  exact r.inj r'
end

abbrev Cx.wish (X : Cx) (E : Value → Shared → Prop) : Cx := { X with xe := E }
abbrev Cx.nox (X : Cx) : Cx := X.wish fun _ _ => False
theorem Cx.Ok.wish {X : Cx} (ok : X.Ok) (E : Value → Shared → Prop) : (X.wish E).Ok :=
  ⟨ok.mod, ok.kind, ok.glob, ok.blt, ok.above, ok.inj, ok.has, ok.cab, ok.hd, ok.frames, ok.stk, ok.exf, ok.bs, ok.bsz, ok.noex, ok.exfs, ok.funs, ok.frf⟩
theorem Cx.Ok.unwish {X : Cx} {E : Value → Shared → Prop} (ok : (X.wish E).Ok) : X.Ok :=
  ⟨ok.mod, ok.kind, ok.glob, ok.blt, ok.above, ok.inj, ok.has, ok.cab, ok.hd, ok.frames, ok.stk, ok.exf, ok.bs, ok.bsz, ok.noex, ok.exfs, ok.funs, ok.frf⟩
section
variable {X : Cx} {pins : List (Addr × Obj)} {σ : St} {H : Hp} {s : Shared} {E : Value → Shared → Prop}
theorem Inv.wish (I : Inv X pins σ H s) (E : Value → Shared → Prop) : Inv (X.wish E) pins σ H s := ⟨I.ok.wish E, I.os, I.bare, I.base, I.loc, I.cell, I.free, I.freeC, I.pin, I.hok, I.len⟩
theorem Inv.unwish (I : Inv (X.wish E) pins σ H s) : Inv X pins σ H s := ⟨I.ok.unwish, I.os, I.bare, I.base, I.loc, I.cell, I.free, I.freeC, I.pin, I.hok, I.len⟩
theorem SP.unwish {D : Ends} {f : Flow} {s' : Shared} (h : SP (X.wish E) pins D f s') : SP X pins D f s' := by
  cases f with
  | next => obtain ⟨σ', H', I, q⟩ := h; exact ⟨σ', H', I.unwish, q⟩
  | brk => obtain ⟨σ', H', I, q⟩ := h; exact ⟨σ', H', I.unwish, q⟩
  | cont => obtain ⟨σ', H', I, q⟩ := h; exact ⟨σ', H', I.unwish, q⟩
  | ret u => obtain ⟨v, σ', H', I, r, q⟩ := h; exact ⟨v, σ', H', I.unwish, r, q⟩
theorem PSs.nox {st : List Stmt} {t : TS} (h : PSs X.nox st t) : PSs X st t := fun pins s σ H D I hw =>
  wpAny_mono (h pins s σ H D (I.wish _) hw) (fun _ _ q => q.unwish) fun _ _ z => False.elim z
end

section
variable {X : Cx} {st : Stmt} {rest : List Stmt} {t u : TS} {e : Expr} {te : TE} {pos : Pos}
def tNext : TS := fun D σ H => D.nx σ H
def tSeq (t u : TS) : TS := fun D σ H => t { D with nx := u D } σ H
theorem pss_nil : PSs X [] tNext := fun _ _ σ H _ I h => wpAny_execs_nil ⟨σ, H, I, h⟩
theorem pss_cons (h1 : PS X st t) (h2 : PSs X rest u) : PSs X (st :: rest) (tSeq t u) := by
  intro pins s σ H D I h
  refine wpAny_execs_cons (thn (h1 pins s σ H { D with nx := u D } I h) fun f s1 q => ?_)
  cases f with
  | next =>
    obtain ⟨σ', H', I', q⟩ := q
    exact h2 pins s1 σ' H' D I' q
  | ret v => exact q
  | brk => exact q
  | cont => exact q
theorem pss_one (h1 : PS X st t) : PSs X [st] t := by
  intro pins s σ H D I h
  refine wpAny_execs_cons (thn (h1 pins s σ H D I h) fun f s1 q => ?_)
  cases f with
  | next => exact wpAny_execs_nil q
  | ret v => exact q
  | brk => exact q
  | cont => exact q
theorem Inv.quiet {pins : List (Addr × Obj)} {σ : St} {H : Hp} {s : Shared} (I : Inv X pins σ H s) : interactive X.env = false := by simp [interactive, I.ok.kind]
def tDrop (te : TE) : TS := fun D σ H => te σ H fun _ H1 => D.nx σ H1
theorem ps_expr (he : PE X e te) (hs : swapsWith e none pos.line X.env = pure false := by rfl) : PS X (.Expr e pos) (tDrop te) := by
  intro pins s σ H D I h
  exact wpAny_Expr_any (thn (he pins s σ H _ I h) fun v s1 ⟨x, H1, I1, r1, q1⟩ => ⟨σ, H1, I1, q1⟩) I.quiet hs
def tRet (te : TE) : TS := fun D σ H => te σ H D.rt
theorem ps_ret (he : PE X e te) : PS X (.Return (some e) pos) (tRet te) := by
  intro pins s σ H D I h
  exact wpAny_Return_some (thn (he pins s σ H _ I h) fun v s1 ⟨x, H1, I1, r1, q1⟩ => ⟨x, σ, H1, I1, r1, q1⟩)
def tIfS (c : TT) (t u : TS) : TS := fun D σ H => c σ H fun b H1 => if b = true then t D σ H1 else u D σ H1
theorem ps_if {c : Expr} {a b : List Stmt} {tc : TT} (hc : PT X c tc) (ha : PSs X a t) (hb : PSs X b u) : PS X (.If c a b pos) (tIfS tc t u) := by
  intro pins s σ H D I h
  refine wpAny_If (thn (hc pins s σ H _ I h) fun d s1 ⟨H1, I1, q1⟩ => ?_)
  cases d with
  | true => exact ha pins s1 σ H1 D I1 q1
  | false => exact hb pins s1 σ H1 D I1 q1
end

abbrev TG := V → St → Hp → (St → Hp → Prop) → Prop
def PG (X : Cx) (target : Expr) (t : TG) : Prop :=
  ∀ (pins : List (Addr × Obj)) (s : Shared) (σ : St) (H : Hp) (v : V) (u : Value) (Q : St → Hp → Prop), Inv X pins σ H s → RelV v u → t v σ H Q →
    wpAny (model X.prog X.w) X.A (assign target X.env u) (fun _ s' => ∃ σ' H', Inv X pins σ' H' s' ∧ Q σ' H') X.xe s
abbrev TSet := V → V → V → Hp → (Hp → Prop) → Prop
def PSet (X : Cx) (t : TSet) : Prop :=
  ∀ (pins : List (Addr × Obj)) (s : Shared) (σ : St) (H : Hp) (o i v : V) (ov iv u : Value) (Q : Hp → Prop), Inv X pins σ H s → RelV o ov → RelV i iv → RelV v u → t o i v H Q →
    wpAny (model X.prog X.w) X.A (setItem ov iv u) (fun _ s' => ∃ H', Inv X pins σ H' s' ∧ Q H') X.xe s
section
variable {X : Cx} {pos : Pos}
def gName (i : Nat) : TG := fun v σ H Q => Q (σ.set i (some v)) H
theorem pg_name {i : Nat} {x : Str} (hN : X.N.Nodup) (hi : X.N[i]? = some x) (hx : Loc X.env.scope x) (hf : X.fn x = true ∨ X.env.scope.names.lookup x = some .local := by first | exact .inl rfl | exact .inr rfl | assumption) : PG X (.Name x pos) (gName i) := by
  intro pins s σ H v u Q I r h
  exact wpAny_assign_Name (store_ok I hN hi hx r (fun s' I' => ⟨_, H, I', h⟩) hf)
def gSub (to ti : TE) (t : TSet) : TG := fun v σ H Q => to σ H fun o H1 => ti σ H1 fun i H2 => t o i v H2 fun H3 => Q σ H3
theorem pg_sub {o i : Expr} {to ti : TE} {t : TSet} (ho : PE X o to) (hi : PE X i ti) (hs : PSet X t)
    (ha : ∀ v, assign (.Subscript o i pos) X.env v = (do
      let ov ← holding [v] (eval o X.env)
      let iv ← holding [v, ov] (eval i X.env)
      standAt pos
      holding [v, ov, iv] (setItem ov iv v)
      release [v, ov, iv] []) := by intro _; rfl) : PG X (.Subscript o i pos) (gSub to ti t) := by
  intro pins s σ H v u Q I r h
  rw [ha]
  refine wpAny_bind (wpAny_holding (thn (ho pins s σ H _ I h) fun ov s1 ⟨x, H1, I1, r1, q1⟩ => ?_))
  refine wpAny_bind (wpAny_holding (thn (hi pins s1 σ H1 _ I1 q1) fun iv s2 ⟨y, H2, I2, r2, q2⟩ => ?_))
  refine wpAny_bind (wpAny_standAt (wpAny_bind (wpAny_holding (thn (hs pins s2 σ H2 x y v ov iv u _ I2 r1 r2 r q2) fun _ s3 ⟨H3, I3, q3⟩ => ?_))))
  exact wpAny_release ⟨σ, H3, I3, q3⟩
def tAsg (te : TE) (g : TG) : TS := fun D σ H => te σ H fun x H1 => g x σ H1 D.nx
theorem ps_asg {tg e : Expr} {te : TE} {g : TG} (he : PE X e te) (hg : PG X tg g) (hs : swapsWithSole [tg] e pos.line X.env = pure false := by rfl) (hw : swappedStores [tg] e X.env = pure none := by rfl)
    (h1 : (assignEach [tg] X.env).map (·.2) = [assign tg X.env] := by rfl) : PS X (.Assign [tg] e pos) (tAsg te g) := by
  intro pins s σ H D I h
  refine wpAny_Assign_stores (thn (he pins s σ H _ I h) fun v s1 ⟨x, H1, I1, r1, q1⟩ => ?_) hs hw
  rw [h1]
  exact thn (hg pins s1 σ H1 x v _ I1 r1 q1) fun _ s2 q => q
theorem ps_set {i : Nat} {x : Str} {e : Expr} {te : TE} {pos' : Pos} (hN : X.N.Nodup) (hi : X.N[i]? = some x) (hx : Loc X.env.scope x) (he : PE X e te) (hs : swapsWith e (some (.Name x pos')) pos.line X.env = pure false := by rfl) (hf : X.fn x = true ∨ X.env.scope.names.lookup x = some .local := by first | exact .inl rfl | exact .inr rfl | assumption) :
    PS X (.Assign [.Name x pos'] e pos) (tAsg te (gName i)) := by
  intro pins s σ H D I h
  refine wpAny_Assign_Name (thn (he pins s σ H _ I h) fun v s1 ⟨y, H1, I1, r1, q1⟩ => ?_) hs
  exact store_ok I1 hN hi hx r1 (fun s2 I2 => ⟨_, H1, I2, q1⟩) hf
end

section
variable {X : Cx} {pos : Pos}
def tWhile (c : TT) (tb : TS) : TS := fun D σ H => ∃ W : Nat → St → Hp → Prop, (∃ m, W m σ H) ∧ ∀ m σ H, W m σ H →
  c σ H fun b H1 => if b = true then ∃ N : St → Hp → Prop, (∀ σ' H', N σ' H' → ∃ m', m' < m ∧ W m' σ' H') ∧ tb { D with nx := N, ct := N, bk := D.nx } σ H1 else D.nx σ H1
theorem ps_while {c : Expr} {body : List Stmt} {tc : TT} {tb : TS} (hp : PassesOwn (model X.prog X.w) X.A X.env X.xe) (hc : PT X c tc) (hb : PSs X body tb) : PS X (.While c body [] pos) (tWhile tc tb) := by
  intro pins s σ H D I h
  obtain ⟨W, ⟨m0, w0⟩, turn⟩ := h
  refine wpAny_While (codeAny_whileLoop (fun n s' => ∃ σ' H', Inv X pins σ' H' s' ∧ W n σ' H') ?_ m0 ⟨σ, H, I, w0⟩)
  rintro n s1 ⟨σ1, H1, I1, w1⟩
  refine wpAny_passesOwn hp (thn (hc pins s1 σ1 H1 _ I1 (turn n σ1 H1 w1)) fun b s2 ⟨H2, I2, q2⟩ => ?_)
  cases b with
  | true =>
    obtain ⟨N, hN, q2⟩ := q2
    rw [if_pos rfl]
    refine wpAny_passesOwn hp (thn (hb pins s2 σ1 H2 _ I2 q2) fun f s3 q3 => ?_)
    cases f with
    | next =>
      obtain ⟨σ3, H3, I3, n3⟩ := q3
      obtain ⟨m', hm, w3⟩ := hN σ3 H3 n3
      exact ⟨m', hm, σ3, H3, I3, w3⟩
    | cont =>
      obtain ⟨σ3, H3, I3, n3⟩ := q3
      obtain ⟨m', hm, w3⟩ := hN σ3 H3 n3
      exact ⟨m', hm, σ3, H3, I3, w3⟩
    | brk => exact q3
    | ret v => exact q3
  | false =>
    rw [if_neg Bool.false_ne_true]
    exact wpAny_execs_nil ⟨σ1, H2, I2, q2⟩
end

structure It where
  go : Nat → Hp → Prop
  yld : Nat → Hp → V → Hp → Prop
  stop : Nat → Hp → Prop
def FpOk (X : Cx) (pins : List (Addr × Obj)) (H : Hp) (b : Addr) : Prop :=
  H b = none ∧ b ≠ X.env.locals ∧ b ∉ X.fs ∧ (b ∈ X.ex ∨ X.s₀.heap.objs.size ≤ b) ∧ (∀ x c, X.env.cells.lookup x = some c → c ≠ b) ∧ ∀ p ∈ X.pn ++ pins, p.1 ≠ b
theorem Inv.fpOk {X : Cx} {pins : List (Addr × Obj)} {σ : St} {H H' : Hp} {s : Shared} {b : Addr} (I : Inv X pins σ H s) (hb : s.heap.objs.size ≤ b) (hn : H' b = none) : FpOk X pins H' b := by
  refine ⟨hn, Nat.ne_of_gt (Nat.lt_of_lt_of_le I.lt hb), I.nofs hb, .inr (Nat.le_trans I.sz hb), fun x c e z => ?_, fun p hp z => ?_⟩
  · obtain ⟨v, q⟩ := I.cell x c e
    exact absurd (Nat.lt_of_lt_of_le q.lt (by rw [z]; exact hb)) (Nat.lt_irrefl _)
  · exact absurd (Nat.lt_of_lt_of_le (Heap.lt_size (I.pin p hp).1) (by rw [z]; exact hb)) (Nat.lt_irrefl _)
structure Turn (P : Program) (w : World) (K : PySem.W.Frag) (tg : Expr) (J : It) (fp : List Addr) (it : Addr) (tn : Nat → Heap → Prop) : Prop where
  mem : it ∈ fp
  obj : ∀ i h, tn i h → ∀ b ∈ fp, ∃ o, h.get? b = some o ∧ ∀ v, o.data ≠ .cell v
  keep : ∀ i h h', tn i h → (∀ b ∈ fp, ∀ o, h.get? b = some o → h'.get? b = some o) → tn i h'
  item : ∀ (X : Cx), X.prog = P → X.w = w → X.K = K → X.calm = true → ∀ (i : Nat) (pins : List (Addr × Obj)) (s : Shared) (σ : St) (H : Hp) (E : Value → Shared → Prop), Inv X pins σ H s → (∀ b ∈ fp, FpOk X pins H b) → tn i s.heap → J.go i H →
    wpAny (model P w) X.A (pyNext (.ref it)) (fun r s1 => ∃ u, r = some u ∧
      wpAny (model P w) X.A (letOwnedTupleGo tg (.ref it) u) (fun _ s2 => ∃ x H', Inv X pins σ H' s2 ∧ RelV x u ∧ J.yld i H x H' ∧ tn (i + 1) s2.heap ∧ ∀ b ∈ fp, H' b = none) E s1) E s
  done : ∀ (X : Cx), X.prog = P → X.w = w → X.K = K → X.calm = true → ∀ (i : Nat) (pins : List (Addr × Obj)) (s : Shared) (σ : St) (H : Hp) (E : Value → Shared → Prop), Inv X pins σ H s → (∀ b ∈ fp, FpOk X pins H b) → tn i s.heap → J.stop i H →
    wpAny (model P w) X.A (pyNext (.ref it)) (fun r s1 => r = none ∧ Inv X pins σ H s1) E s
  self : ∀ (A : Around) (i : Nat) (s : Shared) (Q : Value → Shared → Prop) (E : Value → Shared → Prop), tn i s.heap → Q (.ref it) s → wpAny (model P w) A (pyIter (.ref it)) Q E s
abbrev TI := St → Hp → (It → Hp → Prop) → Prop
def PIE (X : Cx) (pins : List (Addr × Obj)) (σ : St) (tg : Expr) (R : It → Hp → Prop) (itv : Value) (s2 : Shared) : Prop :=
  ∃ (it : Addr) (fp : List Addr) (tn : Nat → Heap → Prop) (J : It) (H' : Hp), itv = .ref it ∧ Inv X pins σ H' s2 ∧ Turn X.prog X.w X.K tg J fp it tn ∧ tn 0 s2.heap ∧ (∀ b ∈ fp, FpOk X pins H' b) ∧ R J H'
def PI (X : Cx) (tg iter : Expr) (wi : TI) : Prop :=
  ∀ (pins : List (Addr × Obj)) (s : Shared) (σ : St) (H : Hp) (R : It → Hp → Prop), Inv X pins σ H s → wi σ H R →
    wpAny (model X.prog X.w) X.A (eval iter X.env) (fun v s1 => wpAny (model X.prog X.w) X.A (pyIter v) (PIE X pins σ tg R) X.xe s1) X.xe s

theorem go_of {M : Model} {A : Around} {E : Value → Shared → Prop} {s : Shared} {tg : Expr} {it : Addr} {u : Value} {o : Obj} {n : String} {vs : Array Value} {Q : Unit → Shared → Prop} (ho : s.heap.get? it = some o) (hc : o.cls = .type n) (hd : o.data = .fields vs)
    (hn : ["enumerate", "zip", "dict_itemiterator", "dict_reverseitemiterator", "odict_iterator", "itertools.zip_longest", "itertools.pairwise"].contains n = false) (hQ : Q () s) : wpAny M A (letOwnedTupleGo tg (.ref it) u) Q E s := by
  unfold letOwnedTupleGo
  cases tg <;> first
    | exact wpAny_pure hQ
    | (cases u <;> first
        | exact wpAny_pure hQ
        | (refine wpAny_bind (wpAny_load ho ?_)
           rw [hc, hd]
           show wpAny M A (if (["enumerate", "zip", "dict_itemiterator", "dict_reverseitemiterator", "odict_iterator", "itertools.zip_longest", "itertools.pairwise"].contains n && vs[0]? == some (rawInt _)) = true then _ else _) Q E s
           rw [if_neg (by intro h; rw [hn, Bool.false_and] at h; cases h)]
           exact wpAny_pure hQ))

def Itl (K : PySem.W.Frag) (a : Addr) : It :=
  ⟨fun i H => ∃ xs x, SqL K H a xs ∧ xs[i]? = some x, fun i H x H' => H' = H ∧ ∀ xs, SqL K H a xs → xs[i]? = some x, fun i H => ∃ xs, SqL K H a xs ∧ xs.length ≤ i⟩
def Itr (lo : Int) (n : Nat) : It := ⟨fun i _ => i < n, fun i H x H' => H' = H ∧ x = .int (lo + i), fun i _ => n ≤ i⟩
theorem turn_list {P : Program} {w : World} {K : PySem.W.Frag} {tg : Expr} (a it : Addr) : Turn P w K tg (Itl K a) [it] it (fun i h => h.IsListIter it a i) where
  mem := by simp
  obj := fun i h st b hb => by
    have e : b = it := by simpa using hb
    subst e
    obtain ⟨o, e, c, d⟩ := st
    exact ⟨o, e, fun v z => by rw [d] at z; cases z⟩
  keep := fun i h h' st k => st.at fun o e => k it (by simp) o e
  item := by
    intro X hP hw hK hc i pins s σ H E I hf st hg
    subst hP hw hK
    obtain ⟨xs, x, hq, hx⟩ := hg
    obtain ⟨its, rv, p, hz⟩ := I.list hq
    obtain ⟨u, hu, ru⟩ := rv.get hx
    obtain ⟨f0, f1, f2, f3, f4, f5⟩ := hf it (by simp)
    refine wpAny_pyNext_list_item st p.isList (x := u) (by simpa using hu) fun h' st' sb => ?_
    have I1 : Inv X pins σ H { s with heap := h' } := I.turned (t' := s.toks) (fun b o hb e => (sb.2 b hb).trans e) f0 f1 f3 f4 f5
    obtain ⟨o, e, c, d⟩ := id st'
    exact ⟨u, rfl, go_of (s := { s with heap := h' }) e c d (by decide) ⟨x, H, I1, ru, ⟨rfl, fun ys hy => by rw [I.list_inj hy hq]; exact hx⟩, st', fun b hb => (hf b hb).1⟩⟩
  done := by
    intro X hP hw hK hc i pins s σ H E I hf st hg
    subst hP hw hK
    obtain ⟨xs, hq, hx⟩ := hg
    obtain ⟨its, rv, p, hz⟩ := I.list hq
    obtain ⟨f0, f1, f2, f3, f4, f5⟩ := hf it (by simp)
    have hl := rv.length
    exact wpAny_pyNext_list_end (I.ok.hd hc) st p.isList (by simp; omega) fun h' eb => ⟨rfl, I.turned (t' := s.toks) (fun b o hb e => eb b o hb e) f0 f1 f3 f4 f5⟩
  self := fun _ _ _ _ _ st h => wpAny_pyIter_listiter st h
theorem turn_range {P : Program} {w : World} {K : PySem.W.Frag} {tg : Expr} (it : Addr) (lo : Int) (n : Nat) : Turn P w K tg (Itr lo n) [it] it (fun i h => IsRangeIter h it (lo + (i : Nat) * 1) ((n : Int) - (i : Nat)) 1) where
  mem := by simp
  obj := fun i h st b hb => by
    have e : b = it := by simpa using hb
    subst e
    exact ⟨_, st, fun v z => by
      have z' : Data.fields _ = Data.cell v := z
      cases z'⟩
  keep := fun i h h' st k => k it (by simp) _ st
  item := by
    intro X hP hw hK hc i pins s σ H E I hf st hg
    subst hP hw hK
    obtain ⟨f0, f1, f2, f3, f4, f5⟩ := hf it (by simp)
    have W := Walks.range (prog := X.prog) (w := X.w) (I.ok.hd hc) it lo 1 n
    refine W.item i s _ _ hg st fun v h' tk hv st' kk => ?_
    obtain ⟨t, rfl⟩ := hv
    have I1 : Inv X pins σ H { s with heap := h', toks := tk } := I.turned (fun b o hb e => kk b o (by simpa using hb) e) f0 f1 f3 f4 f5
    refine ⟨_, rfl, go_of (s := { s with heap := h', toks := tk }) (n := "range_iterator") st' rfl rfl (by decide) ⟨.int (lo + i), H, I1, ⟨t, ?_⟩, ⟨rfl, rfl⟩, st', fun b hb => (hf b hb).1⟩⟩
    rw [Int.mul_one]
  done := by
    intro X hP hw hK hc i pins s σ H E I hf st hg
    subst hP hw hK
    obtain ⟨f0, f1, f2, f3, f4, f5⟩ := hf it (by simp)
    exact wpAny_pyNext_range_end (I.ok.hd hc) st (by have : n ≤ i := hg; omega) fun h' eb => ⟨rfl, I.turned (t' := s.toks) (fun b o hb e => eb b o hb e) f0 f1 f3 f4 f5⟩
  self := fun _ _ _ _ _ st h => wpAny_pyIter_rangeiter st h
end L2

namespace L2
open PySem PySem.Spec PyProof.Rows
section
variable {X : Cx} {tg : Expr}
def iList (K : PySem.W.Frag) (tl : TE) : TI := fun σ H R => tl σ H fun x H1 => ∃ a, x = .ref a ∧ (∃ xs, SqL K H1 a xs) ∧ R (Itl K a) H1
theorem pi_list {l : Expr} {tl : TE} (hl : PE X l tl) : PI X tg l (iList X.K tl) := by
  intro pins s σ H R I h
  refine thn (hl pins s σ H _ I h) fun v s1 ⟨x, H1, I1, r1, q1⟩ => ?_
  obtain ⟨a, e, ⟨xs, hq⟩, q⟩ := q1
  subst e
  cases r1
  obtain ⟨its, rv, p, hz⟩ := I1.list hq
  refine wpAny_pyIter_list p.isList ?_
  refine ⟨s1.heap.objs.size, [s1.heap.objs.size], _, _, H1, rfl, I1.kept (t' := s1.toks) fun b o e => Heap.get?_push_of_some _ e, turn_list a _, ⟨_, Heap.get?_push_size _ rfl, rfl, rfl⟩, fun b hb => ?_, q⟩
  have e : b = s1.heap.objs.size := by simpa using hb
  subst e
  exact I1.fpOk (Nat.le_refl _) (I1.hok.fresh (Nat.le_refl _))
theorem range_it {pins : List (Addr × Obj)} {σ : St} {H : Hp} {s : Shared} {R : It → Hp → Prop} {E : Value → Shared → Prop} {lo hi : Int} {t u v : Tok} {tk : Nat} (I : Inv X pins σ H s) (h1 : -(2 ^ 62) ≤ lo) (h2 : lo < 2 ^ 62) (h3 : -(2 ^ 62) ≤ hi) (h4 : hi < 2 ^ 62)
    (q : R (Itr lo (hi - lo).toNat) H) : wpAny (model X.prog X.w) X.A (pyIter (.ref s.heap.objs.size)) (PIE X pins σ tg R) E { s with heap := s.heap.push { cls := .type "range", data := .fields #[.int lo t, .int hi u, .int 1 v] }, toks := tk } := by
  refine wpAny_pyIter_range (IsRange.new ..) (small_one h1 h2 h3 h4) ?_
  have I1 : Inv X pins σ H { s with heap := s.heap.push { cls := .type "range", data := .fields #[.int lo t, .int hi u, .int 1 v] }, toks := tk } := I.kept fun b o e => Heap.get?_push_of_some _ e
  refine ⟨(s.heap.push { cls := .type "range", data := .fields #[.int lo t, .int hi u, .int 1 v] }).objs.size, [(s.heap.push { cls := .type "range", data := .fields #[.int lo t, .int hi u, .int 1 v] }).objs.size], _, _, H, rfl,
    I1.kept (t' := tk) fun b o e => Heap.get?_push_of_some _ e, turn_range _ lo (hi - lo).toNat, ?_, fun b hb => ?_, q⟩
  · have e1 : lo + ((0 : Nat) : Int) * 1 = lo := by simp
    have e2 : (((hi - lo).toNat : Nat) : Int) - ((0 : Nat) : Int) = Builtin.Range.rangeSize lo hi 1 := by rw [rangeSize_one]; split <;> omega
    show IsRangeIter _ _ (lo + ((0 : Nat) : Int) * 1) ((((hi - lo).toNat : Nat) : Int) - ((0 : Nat) : Int)) 1
    rw [e1, e2]
    exact Heap.get?_push_size _ rfl
  · have e : b = (s.heap.push { cls := .type "range", data := .fields #[.int lo t, .int hi u, .int 1 v] }).objs.size := by simpa using hb
    subst e
    exact I1.fpOk (Nat.le_refl _) (I1.hok.fresh (Nat.le_refl _))
def iRng1 (ta : TA) : TI := fun σ H R => ta σ H fun vs H1 => ∃ j : Int, vs = [.int j] ∧ -(2 ^ 62) ≤ j ∧ j < 2 ^ 62 ∧ R (Itr 0 j.toNat) H1
theorem pi_range1 {a : Expr} {ta : TA} {p pos : Pos} (hg : Gl X "range") (hm : X.mg "range" = none) (ha : PA X [a] ta) (hs : starEach [a] X.env = [(false, eval a X.env)] := by rfl) : PI X tg (.Call (.Name "range" p) [a] [] pos) (iRng1 ta) := by
  intro pins s σ H R I h
  refine Call_ (ld_blt I hg hm boot_range (PyProof.Rows.callWith_type1 (thn (ha pos pins s σ H _ I h) fun us s1 ⟨vs, H1, I1, r1, q1⟩ => ?_) hs rfl))
  obtain ⟨j, e, q1, q2, q⟩ := q1
  subst e
  cases r1 with
  | cons r rr =>
    cases rr
    obtain ⟨t, rfl⟩ := r
    exact call_range_1 (range_it I1 (by omega) (by omega) q1 q2 (by simpa using q))
def tFor (wi : TI) (g : TG) (tb : TS) : TS := fun D σ H => wi σ H fun J H1 => ∃ W : Nat → Nat → St → Hp → Prop, (∃ m, W 0 m σ H1) ∧ ∀ i m σ H, W i m σ H →
  (J.stop i H ∧ D.nx σ H) ∨ (J.go i H ∧ ∃ N : St → Hp → Prop, (∀ σ' H', N σ' H' → ∃ m', m' < m ∧ W (i + 1) m' σ' H') ∧ ∀ x H', J.yld i H x H' → g x σ H' fun σ2 H2 => tb { D with nx := N, ct := N, bk := D.nx } σ2 H2)
def pinsAt (fp : List Addr) (h : Heap) : List (Addr × Obj) := fp.filterMap fun b => (h.get? b).map fun o => (b, o)
theorem mem_pinsAt {fp : List Addr} {h : Heap} {b : Addr} {o : Obj} (hb : b ∈ fp) (e : h.get? b = some o) : (b, o) ∈ pinsAt fp h := List.mem_filterMap.mpr ⟨b, hb, by rw [e]; rfl⟩
theorem of_pinsAt {fp : List Addr} {h : Heap} {p : Addr × Obj} (hp : p ∈ pinsAt fp h) : p.1 ∈ fp ∧ h.get? p.1 = some p.2 := by
  obtain ⟨b, hb, e⟩ := List.mem_filterMap.mp hp
  cases q : h.get? b with
  | none => rw [q] at e; cases e
  | some o =>
    rw [q] at e
    have e' : (b, o) = p := Option.some.inj e
    subst e'
    exact ⟨hb, q⟩
theorem Inv.pinned {pins : List (Addr × Obj)} {σ : St} {H : Hp} {s : Shared} {fp : List Addr} (I : Inv X pins σ H s) (hf : ∀ b ∈ fp, FpOk X pins H b) (ho : ∀ b ∈ fp, ∃ o, s.heap.get? b = some o ∧ ∀ v, o.data ≠ .cell v) : Inv X (pins ++ pinsAt fp s.heap) σ H s :=
  I.pins_of fun p hp => (List.mem_append.mp hp).elim (fun z => I.pin p (List.mem_append_right _ z)) fun z => by
    obtain ⟨hb, e⟩ := of_pinsAt z
    obtain ⟨f0, f1, f2, _⟩ := hf p.1 hb
    obtain ⟨o, e', d⟩ := ho p.1 hb
    rw [e] at e'; cases e'
    exact ⟨e, f0, f1, f2, d⟩
theorem Inv.unpinned {pins pl : List (Addr × Obj)} {σ : St} {H : Hp} {s : Shared} (I : Inv X (pins ++ pl) σ H s) : Inv X pins σ H s := I.pins_of fun p hp => I.pin p (List.mem_append_right _ (List.mem_append_left _ hp))
theorem ps_for {iter : Expr} {body : List Stmt} {wi : TI} {g : TG} {tb : TS} {pos : Pos} (hp : PassesOwn (model X.prog X.w) X.A X.env X.xe) (hc : X.calm = true) (hi : PI X tg iter wi) (hg : PG X tg g) (hb : PSs X body tb)
    (hs : ∀ x, foldedSetIterable iter X.env x = pure x := by intro _; rfl) : PS X (.For tg iter body [] pos) (tFor wi g tb) := by
  intro pins s σ H D I h
  refine wpAny_For (thn (hi pins s σ H _ I h) fun v s1 h1 => thn h1 fun itv s2 h2 => ?_) hs
  obtain ⟨it, fp, tn, J, H2, e, I2, T, st2, f2, W, ⟨m0, w0⟩, turn⟩ := h2
  subst e
  -- what stays true of the iterator's objects through the loop
  have stat : ∀ {H' : Hp}, (∀ b ∈ fp, H' b = none) → ∀ b ∈ fp, FpOk X pins H' b := fun hn b hb => ⟨hn b hb, (f2 b hb).2⟩
  refine codeAny_forLoop_any (fun n s' => ∃ i σ' H', Inv X pins σ' H' s' ∧ tn i s'.heap ∧ (∀ b ∈ fp, H' b = none) ∧ W i n σ' H') ?_ m0 ⟨0, σ, H2, I2, st2, fun b hb => (f2 b hb).1, w0⟩
  rintro n s3 ⟨i, σ3, H3, I3, st3, fr3, w3⟩
  rcases turn i n σ3 H3 w3 with ⟨stop, qn⟩ | ⟨go, N, hN, step⟩
  · refine wpAny_passesOwn hp (thn (T.done X rfl rfl rfl hc i pins s3 σ3 H3 X.xe I3 (stat fr3) st3 stop) fun r s4 ⟨hr, I4⟩ => ?_)
    subst hr
    exact wpAny_execs_nil ⟨σ3, H3, I4, qn⟩
  · refine wpAny_passesOwn hp (thn (T.item X rfl rfl rfl hc i pins s3 σ3 H3 X.xe I3 (stat fr3) st3 go) fun r s4 ⟨u, hr, h4⟩ => ?_)
    subst hr
    refine wpAny_passesOwn hp (thn h4 fun _ s5 ⟨x, H5, I5, r5, y5, st5, fr5⟩ => ?_)
    have I5' := I5.pinned (stat fr5) (T.obj _ _ st5)
    refine wpAny_passesOwn hp (thn (hg _ s5 σ3 H5 x u _ I5' r5 (step x H5 y5)) fun _ s6 ⟨σ6, H6, I6, q6⟩ => ?_)
    refine wpAny_passesOwn hp (thn (hb _ s6 σ6 H6 _ I6 q6) fun f s7 q7 => ?_)
    have again : ∀ {σ7 : St} {H7 : Hp}, Inv X (pins ++ pinsAt fp s5.heap) σ7 H7 s7 → N σ7 H7 → ∃ m, m < n ∧ ∃ i σ' H', Inv X pins σ' H' s7 ∧ tn i s7.heap ∧ (∀ b ∈ fp, H' b = none) ∧ W i m σ' H' := fun {σ7 H7} I7 n7 => by
      obtain ⟨m', hm, w7⟩ := hN σ7 H7 n7
      refine ⟨m', hm, i + 1, σ7, H7, I7.unpinned, T.keep _ _ _ st5 fun b hb o e => (I7.pin (b, o) (List.mem_append_right _ (List.mem_append_right _ (mem_pinsAt hb e)))).1, fun b hb => ?_, w7⟩
      obtain ⟨o, e, d⟩ := T.obj _ _ st5 b hb
      exact (I7.pin (b, o) (List.mem_append_right _ (List.mem_append_right _ (mem_pinsAt hb e)))).2.1
    cases f with
    | next => obtain ⟨σ7, H7, I7, n7⟩ := q7; exact again I7 n7
    | cont => obtain ⟨σ7, H7, I7, n7⟩ := q7; exact again I7 n7
    | brk => obtain ⟨σ7, H7, I7, q7⟩ := q7; exact ⟨σ7, H7, I7.unpinned, q7⟩
    | ret v => obtain ⟨x7, σ7, H7, I7, r7, q7⟩ := q7; exact ⟨x7, σ7, H7, I7.unpinned, r7, q7⟩
end

theorem for_list {K : PySem.W.Frag} {a : Addr} {xs : List V} {g : TG} {tb : TS} {D : Ends} {σ : St} {H : Hp} (Pv : Nat → St → Hp → Prop) (h0 : Pv 0 σ H) (hl : ∀ i σ H, i ≤ xs.length → Pv i σ H → SqL K H a xs)
    (hs : ∀ i x σ H, xs[i]? = some x → Pv i σ H → g x σ H fun σ2 H2 => tb { D with nx := Pv (i + 1), ct := Pv (i + 1), bk := D.nx } σ2 H2) (hd : ∀ σ H, Pv xs.length σ H → D.nx σ H) :
    ∃ W : Nat → Nat → St → Hp → Prop, (∃ m, W 0 m σ H) ∧ ∀ i m σ H, W i m σ H →
      ((Itl K a).stop i H ∧ D.nx σ H) ∨ ((Itl K a).go i H ∧ ∃ N : St → Hp → Prop, (∀ σ' H', N σ' H' → ∃ m', m' < m ∧ W (i + 1) m' σ' H') ∧ ∀ x H', (Itl K a).yld i H x H' → g x σ H' fun σ2 H2 => tb { D with nx := N, ct := N, bk := D.nx } σ2 H2) := by
  refine ⟨fun i m σ H => m = xs.length - i ∧ i ≤ xs.length ∧ Pv i σ H, ⟨xs.length, by simp, Nat.zero_le _, h0⟩, ?_⟩
  rintro i m σ H ⟨rfl, hi, p⟩
  have q := hl i σ H hi p
  by_cases hlt : i < xs.length
  · refine .inr ⟨⟨xs, xs[i], q, by simp [hlt]⟩, Pv (i + 1), fun σ' H' p' => ⟨xs.length - (i + 1), by omega, rfl, hlt, p'⟩, fun x H' y => ?_⟩
    obtain ⟨e, y⟩ := y
    subst e
    exact hs i x σ _ (y xs q) p
  · have e : i = xs.length := by omega
    subst e
    exact .inl ⟨⟨xs, q, Nat.le_refl _⟩, hd σ H p⟩
theorem for_range {lo : Int} {n : Nat} {g : TG} {tb : TS} {D : Ends} {σ : St} {H : Hp} (Pv : Nat → St → Hp → Prop) (h0 : Pv 0 σ H)
    (hs : ∀ i σ H, i < n → Pv i σ H → g (.int (lo + i)) σ H fun σ2 H2 => tb { D with nx := Pv (i + 1), ct := Pv (i + 1), bk := D.nx } σ2 H2) (hd : ∀ σ H, Pv n σ H → D.nx σ H) :
    ∃ W : Nat → Nat → St → Hp → Prop, (∃ m, W 0 m σ H) ∧ ∀ i m σ H, W i m σ H →
      ((Itr lo n).stop i H ∧ D.nx σ H) ∨ ((Itr lo n).go i H ∧ ∃ N : St → Hp → Prop, (∀ σ' H', N σ' H' → ∃ m', m' < m ∧ W (i + 1) m' σ' H') ∧ ∀ x H', (Itr lo n).yld i H x H' → g x σ H' fun σ2 H2 => tb { D with nx := N, ct := N, bk := D.nx } σ2 H2) := by
  refine ⟨fun i m σ H => m = n - i ∧ i ≤ n ∧ Pv i σ H, ⟨n, by simp, Nat.zero_le _, h0⟩, ?_⟩
  rintro i m σ H ⟨rfl, hi, p⟩
  by_cases hlt : i < n
  · refine .inr ⟨hlt, Pv (i + 1), fun σ' H' p' => ⟨n - (i + 1), by omega, rfl, hlt, p'⟩, fun x H' y => ?_⟩
    obtain ⟨e, y⟩ := y
    subst e y
    exact hs i σ _ hlt p
  · have e : i = n := by omega
    subst e
    exact .inl ⟨Nat.le_refl _, hd σ H p⟩
theorem while_by {c : TT} {tb : TS} {D : Ends} {σ : St} {H : Hp} (Pv : St → Hp → Prop) (μ : St → Hp → Nat) (h0 : Pv σ H)
    (hs : ∀ σ H, Pv σ H → c σ H fun b H1 => if b = true then tb { D with nx := fun σ' H' => Pv σ' H' ∧ μ σ' H' < μ σ H, ct := fun σ' H' => Pv σ' H' ∧ μ σ' H' < μ σ H, bk := D.nx } σ H1 else D.nx σ H1)
    (mono : ∀ σ H Q Q', (∀ b H1, Q b H1 → Q' b H1) → c σ H Q → c σ H Q') : tWhile c tb D σ H := by
  refine ⟨fun m σ H => m = μ σ H ∧ Pv σ H, ⟨_, rfl, h0⟩, ?_⟩
  rintro m σ H ⟨rfl, p⟩
  refine mono σ H _ _ (fun b H1 q => ?_) (hs σ H p)
  cases b with
  | true => exact ⟨_, fun σ' H' ⟨p', l⟩ => ⟨_, l, rfl, p'⟩, q⟩
  | false => exact q
end L2

namespace L2
open PySem PySem.Spec PyProof.Rows

abbrev R2 := V → V → Hp → VK → Prop
def OpR (X : Cx) (f : Value → Value → Sem Value) (r : R2) : Prop :=
  ∀ (pins : List (Addr × Obj)) (s : Shared) (σ : St) (H : Hp) (x y : V) (v u : Value) (Q : VK), Inv X pins σ H s → RelV x v → RelV y u → r x y H Q →
    wpAny (model X.prog X.w) X.A (f v u) (EP X pins σ Q) X.xe s
def CallR (X : Cx) (f : Value) (r : List V → Hp → VK → Prop) : Prop :=
  ∀ (pins : List (Addr × Obj)) (s : Shared) (σ : St) (H : Hp) (xs : List V) (us : List Value) (Q : VK), Inv X pins σ H s → Vals xs us → r xs H Q →
    wpAny (model X.prog X.w) X.A (call f us) (EP X pins σ Q) X.xe s
def TruR (X : Cx) (r : V → Hp → (Bool → Hp → Prop) → Prop) : Prop :=
  ∀ (pins : List (Addr × Obj)) (s : Shared) (σ : St) (H : Hp) (x : V) (v : Value) (Q : Bool → Hp → Prop), Inv X pins σ H s → RelV x v → r x H Q →
    wpAny (model X.prog X.w) X.A (truthy v) (TP X pins σ Q) X.xe s

def tOp (r : R2) (ta tb : TE) : TE := fun σ H Q => ta σ H fun x H1 => tb σ H1 fun y H2 => r x y H2 Q
def rI (C : Int → Int → Prop) (g : Int → Int → V) : R2 := fun x y H Q => ∃ i j, x = .int i ∧ y = .int j ∧ C i j ∧ Q (g i j) H
def rI0 (g : Int → Int → V) : R2 := fun x y H Q => ∃ i j, x = .int i ∧ y = .int j ∧ Q (g i j) H
section
variable {X : Cx} {a b c : Expr} {ta tb tc : TE} {pos : Pos}

theorem binT (ha : PE X a ta) (hb : PE X b tb) {pins : List (Addr × Obj)} {s : Shared} {σ : St} {H : Hp} {R : V → V → Hp → Prop} (I : Inv X pins σ H s)
    (h : ta σ H fun x H1 => tb σ H1 fun y H2 => R x y H2) {Q : Value → Shared → Prop} {f : Value → Value → Sem Value}
    (hf : ∀ v u s2 x y H2, Inv X pins σ H2 s2 → RelV x v → RelV y u → R x y H2 → wpAny (model X.prog X.w) X.A (f v u) Q X.xe s2) :
    wpAny (model X.prog X.w) X.A (eval a X.env) (fun v s₁ => wpAny (model X.prog X.w) X.A (eval b X.env) (fun u s₂ => wpAny (model X.prog X.w) X.A (f v u) Q X.xe s₂) X.xe s₁) X.xe s := by
  refine thn (ha pins s σ H _ I h) fun v s1 ⟨x, H1, I1, r1, q1⟩ => ?_
  refine thn (hb pins s1 σ H1 _ I1 q1) fun u s2 ⟨y, H2, I2, r2, q2⟩ => ?_
  exact hf v u s2 x y H2 I2 r1 r2 q2

theorem pe_op {op : Operator} {r : R2} (ho : OpR X (binaryOp op) r) (ha : PE X a ta) (hb : PE X b tb) : PE X (.BinOp a op b pos) (tOp r ta tb) := by
  intro pins s σ H Q I h
  exact wpAny_BinOp (binT ha hb I h fun v u s2 x y H2 I2 rx ry q => ho pins s2 σ H2 x y v u Q I2 rx ry q)
theorem opI {f : Value → Value → Sem Value} {C : Int → Int → Prop} {g : Int → Int → Int}
    (rule : ∀ (i j : Int) (t u : Tok) (s : Shared) (Q : Value → Shared → Prop) (E : Value → Shared → Prop), C i j → Q (.int (g i j) s.toks) { s with toks := s.toks + 1 } → wpAny (model X.prog X.w) X.A (f (.int i t) (.int j u)) Q E s) :
    OpR X f (rI C fun i j => .int (g i j)) := by
  intro pins s σ H x y v u Q I rx ry h
  obtain ⟨i, j, rfl, rfl, hc, q⟩ := h
  obtain ⟨t, rfl⟩ := rx
  obtain ⟨t', rfl⟩ := ry
  exact rule i j t t' s _ _ hc ⟨.int (g i j), H, I.tok _, ⟨_, rfl⟩, q⟩
theorem opI0 {f : Value → Value → Sem Value} {g : Int → Int → Int}
    (rule : ∀ (i j : Int) (t u : Tok) (s : Shared) (Q : Value → Shared → Prop) (E : Value → Shared → Prop), Q (.int (g i j) s.toks) { s with toks := s.toks + 1 } → wpAny (model X.prog X.w) X.A (f (.int i t) (.int j u)) Q E s) :
    OpR X f (rI0 fun i j => .int (g i j)) := by
  intro pins s σ H x y v u Q I rx ry h
  obtain ⟨i, j, rfl, rfl, q⟩ := h
  obtain ⟨t, rfl⟩ := rx
  obtain ⟨t', rfl⟩ := ry
  exact rule i j t t' s _ _ ⟨.int (g i j), H, I.tok _, ⟨_, rfl⟩, q⟩
theorem opB0 {f : Value → Value → Sem Value} {g : Int → Int → Bool}
    (rule : ∀ (i j : Int) (t u : Tok) (s : Shared) (Q : Value → Shared → Prop) (E : Value → Shared → Prop), Q (.bool (g i j)) s → wpAny (model X.prog X.w) X.A (f (.int i t) (.int j u)) Q E s) :
    OpR X f (rI0 fun i j => .bl (g i j)) := by
  intro pins s σ H x y v u Q I rx ry h
  obtain ⟨i, j, rfl, rfl, q⟩ := h
  obtain ⟨t, rfl⟩ := rx
  obtain ⟨t', rfl⟩ := ry
  exact rule i j t t' s _ _ ⟨.bl (g i j), H, I, rfl, q⟩

def CPow (i j : Int) : Prop := 0 ≤ j ∧ j ≤ 1000000 ∧ i.natAbs < 2 ^ 64
def CMul (i j : Int) : Prop := (-(2 ^ 64) < i ∧ i < 2 ^ 64) ∨ (-(2 ^ 64) < j ∧ j < 2 ^ 64)
theorem CMul.ok {i j : Int} (h : CMul i j) : IntMulOk i j := by
  rcases h with ⟨h1, h2⟩ | ⟨h1, h2⟩
  · exact .of_left (intBits_le_64 h1 h2)
  · exact .of_right (intBits_le_64 h1 h2)
theorem op_add : OpR X (binaryOp .Add) (rI0 fun i j => .int (i + j)) := opI0 fun _ _ _ _ _ _ _ q => add_int q
theorem op_sub : OpR X (binaryOp .Sub) (rI0 fun i j => .int (i - j)) := opI0 fun _ _ _ _ _ _ _ q => sub_int q
theorem op_mul : OpR X (binaryOp .Mult) (rI CMul fun i j => .int (i * j)) := opI fun _ _ _ _ _ _ _ hc q => mul_int q hc.ok
theorem op_mod : OpR X (binaryOp .Mod) (rI (fun _ j => 0 < j) fun i j => .int (i % j)) := opI fun i j _ _ _ _ _ hc q => by
  have h1 : (0 : Int) < j := hc
  exact mod_int' (by omega) (by rw [Int.fmod_eq_emod_of_nonneg i (by omega)]; exact q)
theorem op_pow : OpR X (binaryOp .Pow) (rI CPow fun i j => .int (i ^ j.toNat)) := opI fun _ _ _ _ _ _ _ hc q => pow_int_small hc.1 hc.2.1 hc.2.2 q
theorem op_shl : OpR X (binaryOp .LShift) (rI CPow fun i j => .int (i * 2 ^ j.toNat)) := opI fun _ _ _ _ _ _ _ hc q => lshift_int_small hc.1 hc.2.1 hc.2.2 q
theorem op_or : OpR X (binaryOp .BitOr) (rI0 fun i j => .int (Builtin.bitOr i j)) := opI0 fun _ _ _ _ _ _ _ q => or_int q
end

def scal : V → V → Bool
  | .non, .non => true | .non, .int _ => true | .int _, .non => true | .non, .bl _ => true | .bl _, .non => true | .non, .str _ => true | .str _, .non => true
  | .int _, .int _ => true | .bl _, .bl _ => true | .str _, .str _ => true | .byt _, .byt _ => true
  | .int _, .str _ => true | .str _, .int _ => true | .bl _, .str _ => true | .str _, .bl _ => true
  | _, _ => false
def rEq : R2 := fun x y H Q => scal x y = true ∧ Q (.bl (decide (x = y))) H
theorem dec_int {i j : Int} : decide (V.int i = V.int j) = (i == j) := by
  rw [Bool.eq_iff_iff]
  simp
theorem dec_bl {i j : Bool} : decide (V.bl i = V.bl j) = (i == j) := by
  rw [Bool.eq_iff_iff]
  simp
theorem dec_str {i j : Str} : decide (V.str i = V.str j) = (i == j) := by
  rw [Bool.eq_iff_iff]
  simp
theorem dec_byt {i j : Array UInt8} : decide (V.byt i = V.byt j) = (i.toList == j.toList) := by
  rw [Bool.eq_iff_iff]
  cases i
  cases j
  simp

section
variable {X : Cx} {a b c : Expr} {ta tb tc : TE} {pos : Pos}
theorem fin_bl {pins : List (Addr × Obj)} {σ : St} {H : Hp} {s : Shared} {Q : VK} {k k' : Bool} (I : Inv X pins σ H s) (q : Q (.bl k) H) (e : k = k') : EP X pins σ Q (.bool k') s := by
  subst e
  exact ⟨.bl k, H, I, rfl, q⟩
theorem op_eq : OpR X (compareOp .Eq) rEq := by
  intro pins s σ H x y v u Q I rx ry h
  obtain ⟨hs, q⟩ := h
  cases x with
  | non =>
    cases rx
    cases y with
    | non => cases ry; exact PySem.EqNone.eq_none_none (fin_bl I q (by simp))
    | bl j => cases ry; exact PySem.EqNone.eq_none_bool (fin_bl I q (by simp))
    | int j => obtain ⟨t', rfl⟩ := ry; exact PySem.EqNone.eq_none_int (fin_bl I q (by simp))
    | str j => obtain ⟨t', rfl⟩ := ry; exact PySem.EqNone.eq_none_str (fin_bl I q (by simp))
    | _ => exact absurd (show false = true from hs) Bool.false_ne_true
  | bl i =>
    cases rx
    cases y with
    | non => cases ry; exact PySem.EqNone.eq_bool_none (fin_bl I q (by simp))
    | bl j => cases ry; exact eq_bool (fin_bl I q dec_bl)
    | str j => obtain ⟨t', rfl⟩ := ry; exact PySem.EqMixed.eq_bool_str (fin_bl I q (by simp))
    | _ => exact absurd (show false = true from hs) Bool.false_ne_true
  | int i =>
    obtain ⟨t, rfl⟩ := rx
    cases y with
    | non => cases ry; exact PySem.EqNone.eq_int_none (fin_bl I q (by simp))
    | int j => obtain ⟨t', rfl⟩ := ry; exact eq_int (fin_bl I q dec_int)
    | str j => obtain ⟨t', rfl⟩ := ry; exact PySem.EqMixed.eq_int_str (fin_bl I q (by simp))
    | _ => exact absurd (show false = true from hs) Bool.false_ne_true
  | str i =>
    obtain ⟨t, rfl⟩ := rx
    cases y with
    | non => cases ry; exact PySem.EqNone.eq_str_none (fin_bl I q (by simp))
    | bl j => cases ry; exact PySem.EqMixed.eq_str_bool (fin_bl I q (by simp))
    | int j => obtain ⟨t', rfl⟩ := ry; exact PySem.EqMixed.eq_str_int (fin_bl I q (by simp))
    | str j => obtain ⟨t', rfl⟩ := ry; exact eq_str (fin_bl I q dec_str)
    | _ => exact absurd (show false = true from hs) Bool.false_ne_true
  | byt i =>
    obtain ⟨t, rfl⟩ := rx
    cases y with
    | byt j => obtain ⟨t', rfl⟩ := ry; exact PySem.W.eq_bytes (fin_bl I q dec_byt)
    | _ => exact absurd (show false = true from hs) Bool.false_ne_true
  | _ => cases y <;> exact absurd (show false = true from hs) Bool.false_ne_true
theorem op_lt : OpR X (compareOp .Lt) (rI0 fun i j => .bl (decide (i < j))) := opB0 fun _ _ _ _ _ _ _ q => lt_int q
theorem op_gt : OpR X (compareOp .Gt) (rI0 fun i j => .bl (decide (j < i))) := opB0 fun _ _ _ _ _ _ _ q => gt_int q
theorem op_ge : OpR X (compareOp .GtE) (rI0 fun i j => .bl (decide (j ≤ i))) := opB0 fun _ _ _ _ _ _ _ q => ge_int q
theorem nomark (b : Expr) {op : CmpOp} (h : op ≠ .In := by decide) (h2 : op ≠ .NotIn := by decide) : behindInMarks op b = false := by
  have e1 : (op == CmpOp.In) = false := by cases op <;> first | rfl | exact absurd rfl h
  have e2 : (op == CmpOp.NotIn) = false := by cases op <;> first | rfl | exact absurd rfl h2
  cases b <;> simp [behindInMarks, e1, e2]
theorem pe_cmpR {op : CmpOp} {r : R2} (ho : OpR X (compareOp op) r) (ha : PE X a ta) (hb : PE X b tb) (hm : behindInMarks op b = false) : PE X (.Compare a [op] [b] pos) (tOp r ta tb) := by
  intro pins s σ H Q I h
  exact wpAny_Compare1 (binT ha hb I h fun v u s2 x y H2 I2 rx ry q => ho pins s2 σ H2 x y v u Q I2 rx ry q) hm
def tTest (t : TE) : TT := fun σ H Q => t σ H fun x H' => ∃ k, x = .bl k ∧ Q k H'
theorem pt_cmpR {op : CmpOp} {r : R2} (ho : OpR X (compareOp op) r) (ha : PE X a ta) (hb : PE X b tb) (hm : behindInMarks op b = false) : PT X (.Compare a [op] [b] pos) (tTest (tOp r ta tb)) := by
  intro pins s σ H Q I h
  refine wpAny_isTrue_Compare1 (thn (ha pins s σ H _ I h) fun v s1 ⟨x, H1, I1, r1, q1⟩ => thn (hb pins s1 σ H1 _ I1 q1) fun u s2 ⟨y, H2, I2, r2, q2⟩ =>
    thn (ho pins s2 σ H2 x y v u _ I2 r1 r2 q2) fun c s3 ⟨z, H3, I3, r3, k, e, q3⟩ => ?_) hm
  subst e
  cases r3
  exact wpAny_truthy_bool ⟨H3, I3, q3⟩
def TruV (K : PySem.W.Frag) (x : V) (H : Hp) (k : Bool) : Prop :=
  match x with
  | .non => k = false
  | .bl b => k = b
  | .int i => k = (i != 0)
  | .str y => y.length ≤ sizeLine ∧ k = ((y.length : Int) != 0)
  | .byt y => y.size ≤ sizeLine ∧ k = ((y.size : Int) != 0)
  | .ref p => (∃ xs, SqL K H p xs ∧ k = !xs.isEmpty) ∨ (∃ xs, SqT K H p xs ∧ k = !xs.isEmpty) ∨ ∃ kvs, H p = some (.dK kvs) ∧ k = !kvs.isEmpty
  | _ => False
theorem isEmpty_kv {κ : Type} {kvs : List (κ × V)} {vs : List (κ × Value)} (r : KV kvs vs) : (!vs.isEmpty) = !kvs.isEmpty := by
  cases r <;> rfl
theorem isEmpty_of {xs : List V} {its : List Value} (r : Vals xs its) : (!its.toArray.isEmpty) = !xs.isEmpty := by
  cases r <;> simp
theorem line63 : (sizeLine : Nat) < 2 ^ 63 := by rw [sizeLine_eq]; decide
theorem tru_ok : TruR X (fun x H Q => ∃ k, TruV X.K x H k ∧ Q k H) := by
  intro pins s σ H x v Q I rx h
  obtain ⟨k, e, q⟩ := h
  have hl := line63
  have hs : sizeLine = 16777216 := sizeLine_eq
  cases x with
  | non =>
    cases rx
    have e' : k = false := e
    subst e'
    exact truthy_none ⟨H, I, q⟩
  | bl b =>
    cases rx
    have e' : k = b := e
    subst e'
    exact wpAny_truthy_bool ⟨H, I, q⟩
  | int i =>
    obtain ⟨t, rfl⟩ := rx
    have e' : k = (i != 0) := e
    subst e'
    exact PySem.P.truthy_int ⟨H, I, q⟩
  | str y =>
    obtain ⟨t, rfl⟩ := rx
    obtain ⟨hy, e'⟩ : y.length ≤ sizeLine ∧ k = ((y.length : Int) != 0) := e
    subst e'
    exact PySem.P.truthy_str (by omega) ⟨H, I.tok _, q⟩
  | byt y =>
    obtain ⟨t, rfl⟩ := rx
    obtain ⟨hy, e'⟩ : y.size ≤ sizeLine ∧ k = ((y.size : Int) != 0) := e
    subst e'
    exact PySem.W.truthy_bytes (by omega) ⟨H, I.tok _, q⟩
  | ref p =>
    cases rx
    have e' : (∃ xs, SqL X.K H p xs ∧ k = !xs.isEmpty) ∨ (∃ xs, SqT X.K H p xs ∧ k = !xs.isEmpty) ∨ ∃ kvs, H p = some (.dK kvs) ∧ k = !kvs.isEmpty := e
    rcases e' with ⟨xs, hx, e'⟩ | ⟨xs, hx, e'⟩ | ⟨kvs, hx, e'⟩
    · subst e'
      obtain ⟨its, r, pl, hz⟩ := I.list hx
      have hlen := r.length
      exact wpAny_truthy_list pl.isList (by simp only [List.size_toArray]; omega) ⟨H, I.tok _, by rw [isEmpty_of r]; exact q⟩
    · subst e'
      obtain ⟨its, r, pl, hz⟩ := I.tuple hx
      have hlen := r.length
      exact truthy_tuple pl (by simp only [List.size_toArray]; omega) ⟨H, I.tok _, by rw [isEmpty_of r]; exact q⟩
    · subst e'
      obtain ⟨hz, hS, vs, r, m⟩ : kvs.length ≤ sizeLine ∧ (p == sysModules) = false ∧ ∃ vs, KV kvs vs ∧ s.heap.DictOf (mixKind X.prog X.w) p vs := I.hok p _ hx
      have hlen : kvs.length = vs.length := Paired.length r
      exact wpAny_truthy_dict hS m (by omega) ⟨H, I.tok _, by rw [isEmpty_kv r]; exact q⟩
  | _ => exact (show False from e).elim
theorem pt_truth (ha : PE X a ta) (he : ∀ whole, isTrue a X.env whole = (do let v ← whole; standAt a.pos; holding [v] (truthy v))) :
    PT X a (fun σ H Q => ta σ H fun x H' => ∃ k, TruV X.K x H' k ∧ Q k H') := by
  intro pins s σ H Q I h
  exact isTrue_plain (thn (ha pins s σ H _ I h) fun v s1 ⟨x, H1, I1, r1, q1⟩ => tru_ok pins s1 σ H1 x v Q I1 r1 q1) (he _)

theorem vals1 {x : V} {us : List Value} (r : Vals [x] us) : ∃ u, us = [u] ∧ RelV x u := by
  cases r with
  | cons r1 r2 => cases r2; exact ⟨_, rfl, r1⟩
theorem vals2 {x y : V} {us : List Value} (r : Vals [x, y] us) : ∃ u w', us = [u, w'] ∧ RelV x u ∧ RelV y w' := by
  cases r with
  | cons r1 r2 =>
    cases r2 with
    | cons r3 r4 => cases r4; exact ⟨_, _, rfl, r1, r3⟩
theorem call_max2 (hc : X.calm = true) : CallR X (.builtin "max") (fun xs H Q => ∃ i j, xs = [.int i, .int j] ∧ Q (.int (if j > i then j else i)) H) := by
  intro pins s σ H xs us Q I r h
  obtain ⟨i, j, rfl, q⟩ := h
  obtain ⟨u, w', rfl, ⟨t, rfl⟩, ⟨t', rfl⟩⟩ := vals2 r
  refine max_two_ints (I.ok.hd hc) fun h' tk k => ⟨_, H, I.kept k, ?_, q⟩
  by_cases hj : j > i
  · rw [if_pos hj, if_pos hj]; exact ⟨_, rfl⟩
  · rw [if_neg hj, if_neg hj]; exact ⟨_, rfl⟩
theorem call_min2 (hc : X.calm = true) : CallR X (.builtin "min") (fun xs H Q => ∃ i j, xs = [.int i, .int j] ∧ Q (.int (if j < i then j else i)) H) := by
  intro pins s σ H xs us Q I r h
  obtain ⟨i, j, rfl, q⟩ := h
  obtain ⟨u, w', rfl, ⟨t, rfl⟩, ⟨t', rfl⟩⟩ := vals2 r
  refine min_two_ints (I.ok.hd hc) fun h' tk k => ⟨_, H, I.kept k, ?_, q⟩
  by_cases hj : j < i
  · rw [if_pos hj, if_pos hj]; exact ⟨_, rfl⟩
  · rw [if_neg hj, if_neg hj]; exact ⟨_, rfl⟩
def LenV (K : PySem.W.Frag) (x : V) (H : Hp) (n : Nat) : Prop :=
  match x with
  | .str y => y.length ≤ sizeLine ∧ n = y.length
  | .byt y => y.size ≤ sizeLine ∧ n = y.size
  | .ref p => (∃ xs, SqL K H p xs ∧ n = xs.length) ∨ ∃ xs, SqT K H p xs ∧ n = xs.length
  | _ => False
theorem call_len : CallR X (.builtin "len") (fun xs H Q => ∃ x n, xs = [x] ∧ LenV X.K x H n ∧ Q (.int n) H) := by
  intro pins s σ H xs us Q I r h
  obtain ⟨x, n, rfl, e, q⟩ := h
  obtain ⟨u, rfl, rx⟩ := vals1 r
  have hl := line63
  have hs : sizeLine = 16777216 := sizeLine_eq
  cases x with
  | str y =>
    obtain ⟨t, rfl⟩ := rx
    obtain ⟨hy, e'⟩ : y.length ≤ sizeLine ∧ n = y.length := e
    subst e'
    exact len_str (by omega) ⟨.int _, H, I.tok _, ⟨_, rfl⟩, q⟩
  | byt y =>
    obtain ⟨t, rfl⟩ := rx
    obtain ⟨hy, e'⟩ : y.size ≤ sizeLine ∧ n = y.size := e
    subst e'
    exact PySem.W.len_bytes (by omega) ⟨.int _, H, I.tok _, ⟨_, rfl⟩, q⟩
  | ref p =>
    cases rx
    have e' : (∃ xs, SqL X.K H p xs ∧ n = xs.length) ∨ ∃ xs, SqT X.K H p xs ∧ n = xs.length := e
    rcases e' with ⟨xs, hx, e'⟩ | ⟨xs, hx, e'⟩
    · subst e'
      obtain ⟨its, r', pl, hz⟩ := I.list hx
      have hlen := r'.length
      exact Calls.call_len_list pl.isList (by simp only [List.size_toArray]; omega) ⟨.int xs.length, H, I.tok _, ⟨_, by simp only [List.size_toArray]; rw [hlen]⟩, q⟩
    · subst e'
      obtain ⟨its, r', pl, hz⟩ := I.tuple hx
      have hlen := r'.length
      exact len_tuple pl (by simp only [List.size_toArray]; omega) ⟨.int xs.length, H, I.tok _, ⟨_, by simp only [List.size_toArray]; rw [hlen]⟩, q⟩
  | _ => exact (show False from e).elim
end
end L2

namespace L2
open PySem PySem.Spec PyProof.Rows

structure ObjM (h : Heap) (x dx C : Addr) (mA : Str → Option Value) : Prop where
  obj : h.get? x = some (PySem.W.instObj C dx)
  ns : h.Ns1 dx mA
  ne : dx ≠ x

theorem lookIn_ns {h : Heap} {dx : Addr} {mA : Str → Option Value} (n : h.Ns1 dx mA) : ∃ od, h.get? dx = some od ∧ ∀ name, PySem.W.lookIn name od = some (mA name) := by
  obtain ⟨o, es, ep, ho, hd, hk, _, hm⟩ := n
  refine ⟨o, ho, fun name => ?_⟩
  have e := hm name
  unfold nsFind findBy at e
  rw [← Array.find?_toList] at e
  unfold PySem.W.lookIn
  rw [hd]
  dsimp only
  split
  · rename_i y q
    rw [q] at e
    exact congrArg some e
  · rename_i q
    rw [q] at e
    have a : es.toList.any (·.refKey) = false := by
      rw [List.any_eq_false]
      intro y hy
      obtain ⟨z, t, hkey⟩ := hk y (Array.mem_toList_iff.mp hy)
      simp [DictEntry.refKey, hkey]
    have a' : ¬ es.toList.any (·.refKey) = true := by rw [a]; exact Bool.false_ne_true
    rw [if_neg a']
    exact congrArg some e

theorem ObjM.look {h : Heap} {x dx C : Addr} {mA : Str → Option Value} (I : ObjM h x dx C mA) : ∃ od, PySem.W.InstAt h x (PySem.W.instObj C dx) C (some od) ∧ ∀ name, PySem.W.lookIn name od = some (mA name) :=
  let ⟨od, ho, hl⟩ := lookIn_ns I.ns
  ⟨od, ⟨I.obj, rfl, rfl, ho⟩, hl⟩

section
variable {prog : Program} {w : World} {A : Around} {E : Value → Shared → Prop} {s : Shared} {K : PySem.W.Frag} {x dx C f : Addr} {mA : Str → Option Value} {name : Str} {v : Value}

end

section
variable {P : Program} {w : World} {H H' : Hp} {h h' : Heap} {a C dx : Addr} {fs fs' : List (Str × V)}
theorem ins_get (hok : HOk P w H h) (e : H a = some (.ins C dx fs)) : ∃ mA, ObjM h a dx C mA ∧ (∀ f, RelO (fs.lookup f) (mA f)) ∧ PySem.Within mA (fs.map (·.1)) ∧ fs.length ≤ 1000 ∧ H dx = some (.own a) := by
  obtain ⟨d, z, ne, ob, mA, n, r, q⟩ := (show ObjOk P w H h a (.ins C dx fs) from hok a _ e)
  exact ⟨mA, ⟨ob, n, ne⟩, r, q, z, d⟩
end

structure Cls (K : PySem.W.Frag) (C : Addr) : Prop where
  pg : PySem.W.plainGet K C Str.empty = true
  hd : PySem.W.hasDictIn K C = true
  po : PySem.W.plainOver K C = true
  sa : PySem.W.findIn K (.ref C) "__setattr__" = some (some (.builtin "object.__setattr__"))
theorem Cls.get {K : PySem.W.Frag} {C : Addr} (c : Cls K C) (f : Str) : PySem.W.plainGet K C f = true := c.pg
section
variable {X : Cx} {pins : List (Addr × Obj)} {σ : St} {H : Hp} {s : Shared} {a C dx : Addr} {fs : List (Str × V)} {f : Str} {v : V} {A : Around} {E : Value → Shared → Prop}

end

section
variable {X : Cx} {o e value : Expr} {f : Str} {pos pos' tpos : Pos} {ta tv : TE}
end

section
variable {X : Cx} {pins : List (Addr × Obj)} {σ : St} {H : Hp} {s : Shared} {A : Around} {E : Value → Shared → Prop} {Q : Value → Shared → Prop} {c : Value} {b : Bool}
inductive TyOf (K : PySem.W.Frag) (H : Hp) : V → Value → Prop where
  | non : TyOf K H .non (.type "NoneType")
  | bl (x : Bool) : TyOf K H (.bl x) (.type "bool")
  | int (i : Int) : TyOf K H (.int i) (.type "int")
  | str (x : Str) : TyOf K H (.str x) (.type "str")
  | flt (x : UInt64) : TyOf K H (.flt x) (.type "float")
  | lst {a : Addr} {xs : List V} (e : H a = some (.lst xs)) : TyOf K H (.ref a) (.type "list")
  | frz {a : Addr} {o : Obj} {xs : List V} (e : H a = some (.frz o (.lst xs))) : TyOf K H (.ref a) (.type "list")
  | tup {a : Addr} {xs : List V} (e : H a = some (.tup xs)) : TyOf K H (.ref a) (.type "tuple")
  | dK {a : Addr} {kvs : List (Key × V)} (e : H a = some (.dK kvs)) : TyOf K H (.ref a) (.type "dict")
  | dT {a : Addr} {kvs : List (List Key × V)} (e : H a = some (.dT kvs)) : TyOf K H (.ref a) (.type "dict")
  | ins {a C dx : Addr} {fs : List (Str × V)} (e : H a = some (.ins C dx fs)) (cl : Cls K C) (ha : PySem.W.findIn K (.ref C) "__class__" = some (some (.builtin "object.__class__")))
      (hn : PySem.W.specialIn K (.builtin "object.__class__") "__get__" = some (some (.builtin "getset_descriptor.__get__"))) (htk : PySem.W.takesIn K (.builtin "object.__class__") = some true)
      (hm : PySem.W.mroIn K C (.type "object") = some true) : TyOf K H (.ref a) (.ref C)
theorem isinst_ok {x : V} {u t : Value} (I : Inv X pins σ H s) (rx : RelV x u) (ty : TyOf X.K H x t) (e : PySem.W.kitOne X.K t c = some b) (h : ∀ tk, Q (.bool b) { s with toks := tk }) :
    wpAny (model X.prog X.w) A (call (.builtin "isinstance") [u, c]) Q E s := by
  cases ty with
  | non => cases (show u = Value.none from rx); exact PySem.W.kia_one PySem.W.kitx_none I.kIn True.intro e (fun z => nomatch z) h
  | bl y => cases (show u = Value.bool y from rx); exact PySem.W.kia_one PySem.W.kitx_bool I.kIn True.intro e (fun z => nomatch z) h
  | int i => obtain ⟨t, q⟩ := (show ∃ t, u = Value.int i t from rx); cases q; exact PySem.W.kia_one PySem.W.kitx_int I.kIn True.intro e (fun z => nomatch z) h
  | str y => obtain ⟨t, q⟩ := (show ∃ t, u = Value.str y t from rx); cases q; exact PySem.W.kia_one PySem.W.kitx_str I.kIn True.intro e (fun z => nomatch z) h
  | flt y => obtain ⟨t, q⟩ := (show ∃ t, u = Value.float y t from rx); cases q; exact PySem.W.kia_one PySem.W.kitx_float I.kIn True.intro e (fun z => nomatch z) h
  | @lst a xs ea =>
    cases (show u = Value.ref a from rx)
    obtain ⟨_, _, n, _, h1⟩ := (show ObjOk X.prog X.w H s.heap a (.lst xs) from I.hok a _ ea)
    exact PySem.W.kia_one PySem.W.kitx_list I.kIn ⟨_, h1, rfl⟩ e (fun z => nomatch z) h
  | @frz a ob xs ea =>
    cases (show u = Value.ref a from rx)
    obtain ⟨_, _, _, n, _, h1⟩ := (show ObjOk X.prog X.w H s.heap a (.frz ob (.lst xs)) from I.hok a _ ea)
    exact PySem.W.kia_one PySem.W.kitx_list I.kIn ⟨_, h1, rfl⟩ e (fun z => nomatch z) h
  | @tup a xs ea =>
    cases (show u = Value.ref a from rx)
    obtain ⟨_, _, _, p⟩ := (show ObjOk X.prog X.w H s.heap a (.tup xs) from I.hok a _ ea)
    obtain ⟨o, h1, h2, _⟩ := p
    exact PySem.W.kia_one PySem.W.kitx_tuple I.kIn ⟨o, h1, h2⟩ e (fun z => nomatch z) h
  | @dK a kvs ea =>
    cases (show u = Value.ref a from rx)
    obtain ⟨_, _, vs, _, p⟩ := (show ObjOk X.prog X.w H s.heap a (.dK kvs) from I.hok a _ ea)
    obtain ⟨o, es, ep, h1, h2, _⟩ := p
    exact PySem.W.kia_one PySem.W.kitx_dict I.kIn ⟨o, h1, h2.1⟩ e (fun z => nomatch z) h
  | @dT a kvs ea =>
    cases (show u = Value.ref a from rx)
    obtain ⟨_, _, xs, _, o, es, ep, h1, h2, _⟩ := (show ObjOk X.prog X.w H s.heap a (.dT kvs) from I.hok a _ ea)
    exact PySem.W.kia_one PySem.W.kitx_dict I.kIn ⟨o, h1, h2.1⟩ e (fun z => nomatch z) h
  | @ins a C dx fs ea cl ha hn htk hm =>
    cases (show u = Value.ref a from rx)
    obtain ⟨mA, O, _⟩ := ins_get I.hok ea
    obtain ⟨od, J, _⟩ := O.look
    exact PySem.W.kia_one (PySem.W.kitx_own (cl.get _) cl.hd ha hn htk hm) I.kIn J e (fun z => nomatch z) h
end
end L2

namespace L2
open PySem PySem.Spec PyProof.Rows

structure Room (k : Nat) (A : Around) : Prop where
  hd : A.handled = none
  dp : A.depth + 3 * k + 5 < recursionLimit
  un : A.units + 16 * k + 200 < cLine
  gd : A.guards = some []
theorem Room.mono {j k : Nat} {A : Around} (r : Room k A) (h : j ≤ k) : Room j A := ⟨r.hd, by have := r.dp; omega, by have := r.un; omega, r.gd⟩
theorem Room.deeper {k : Nat} {A : Around} (r : Room (k + 1) A) (env : Env) : Room k (A.deeper env) :=
  ⟨r.hd, by have := r.dp; show A.depth + 1 + 3 * k + 5 < _; omega, by have := r.un; show A.units + 3 + 16 * k + 200 < _; omega, by have := r.gd; first | exact this | simpa [Around.deeper] using this⟩
theorem Room.depth {k : Nat} {A : Around} (r : Room k A) : A.depth < recursionLimit := by have := r.dp; omega
theorem Room.units {k : Nat} {A : Around} (r : Room k A) : A.units + 64 < cLine := by have := r.un; omega
def tNil : TA := fun _ H Q => Q [] H
def tCons (ta : TE) (tr : TA) : TA := fun σ H Q => ta σ H fun x H1 => tr σ H1 fun xs H2 => Q (x :: xs) H2
section
variable {X : Cx} {e : Expr} {es : List Expr} {te : TE} {t : TA} {pos : Pos}
theorem pa_nil : PA X [] tNil := fun _ _ _ _ H Q I h => Calls.spliced_nil ⟨[], H, I, .nil, h⟩
theorem pa_cons (ha : PE X e te) (hr : PA X es t) (hs : starEach (e :: es) X.env = (false, eval e X.env) :: starEach es X.env := by rfl) : PA X (e :: es) (tCons te t) := by
  intro pos pins s σ H Q I h
  rw [hs]
  show wpAny _ _ (spliced ((false, eval e X.env) :: backTo pos (starEach es X.env))) _ _ s
  refine Calls.spliced_cons (thn (ha pins s σ H _ I h) fun u s1 ⟨x, H1, I1, r1, q1⟩ => ?_)
  exact thn (hr pos pins s1 σ H1 _ I1 q1) fun us s2 ⟨xs, H2, I2, r2, q2⟩ => ⟨x :: xs, H2, I2, .cons r1 r2, q2⟩

def tLst (t : TA) : TE := fun σ H Q => t σ H fun xs H1 => xs.length ≤ sizeLine ∧ ∀ p, H1 p = none → Q (.ref p) (upd H1 p (.lst xs))
theorem pe_lst (h : PA X es t) : PE X (.List es pos) (tLst t) := by
  intro pins s σ H Q I hq
  refine wpAny_List_spliced (thn (h pos pins s σ H _ I hq) fun us s1 ⟨xs, H1, I1, r, z, q⟩ => ⟨by rw [← r.length]; exact z, ?_⟩)
  have hf : H1 s1.heap.objs.size = none := I1.hok.fresh (Nat.le_refl _)
  refine ⟨.ref s1.heap.objs.size, upd H1 s1.heap.objs.size (.lst xs), I1.laid (t' := s1.toks) (fun b u e => Heap.get?_push_of_some _ e) (Nat.le_refl _) ?_, rfl, q _ hf⟩
  exact ⟨z, us, 0, r, Heap.get?_push_size _ rfl⟩
end

abbrev Sp := List V → Hp → VK → XK → Prop
abbrev CXT := List Env → Hp → Shared → XK → Value → Shared → Prop

structure Env0 (P : Program) (w : World) (K : PySem.W.Frag) (mg : Str → Option Value) (base : Heap) (A : Around) (outer : List Env) (s : Shared) (H : Hp) : Prop where
  frames : A.frames = some outer
  mod : Mod K mg base
  bs : ∀ b o, base.get? b = some o → s.heap.get? b = some o ∧ H b = none
  bsz : base.objs.size ≤ s.heap.objs.size
  funs : s.heap.FunFrames base outer
  frf : ∀ b ∈ frs outer, H b = none
  hok : HOk P w H s.heap
  bare : AllBare s.gens
def CE (outer : List Env) (P : Program) (w : World) (H : Hp) (s : Shared) (Q : VK) (u : Value) (s' : Shared) : Prop :=
  ∃ v H', s'.os = s.os ∧ AllBare s'.gens ∧ Un (frs outer) [] H H' s.heap s'.heap ∧ HOk P w H' s'.heap ∧ RelV v u ∧ Q v H'
def CR (CX : CXT) (outer : List Env) (P : Program) (w : World) (H : Hp) (s : Shared) (Q : VK) (E : XK) (r : Result) (s' : Shared) : Prop :=
  match r with
  | .ok (.ret u) => CE outer P w H s Q u s'
  | .ok _ => False
  | .error e => CX outer H s E e s'
structure FnOk (P : Program) (w : World) (K : PySem.W.Frag) (mg : Str → Option Value) (base : Heap) (CX : CXT) (k : Nat) (f : Addr) (fd : FuncData) (ps : List Str) (sp : Sp) : Prop where
  len : ∀ vs H Q E, sp vs H Q E → vs.length = ps.length
  run : ∀ (A : Around) (outer : List Env) (s : Shared) (H : Hp) (args : Args) (us : List Value) (vs : List V) (Q : VK) (E : XK), Room k A → Env0 P w K mg base A outer s H → BindsTo s fd args (ps.zip us) → Vals vs us → sp vs H Q E →
    codeAny (model P w) A (.call (.ref f) args) (CR CX outer P w H s Q E) s
section
variable {X : Cx} {pins : List (Addr × Obj)} {σ : St} {H : Hp} {s s' : Shared}
theorem Inv.env0 (I : Inv X pins σ H s) : Env0 X.prog X.w X.K X.mg X.base X.A X.stack s H :=
  ⟨I.ok.frames, I.ok.mod, I.bs, Nat.le_trans I.ok.bsz I.sz, I.stack, I.stkFree, I.hok, I.bare⟩
theorem Inv.after {Q : VK} {u : Value} (I : Inv X pins σ H s) (h : CE X.stack X.prog X.w H s Q u s') : EP X pins σ Q u s' := by
  obtain ⟨v, H', os, bare, un, hok, r, q⟩ := h
  obtain ⟨hh, g, d, t, os'⟩ := s'
  obtain rfl : os' = s.os := os
  exact ⟨v, H', I.call (h' := hh) (g' := g) (d' := d) (t' := t) (ch := []) un hok bare (fun b z => absurd z (by simp)), r, q⟩
end

def tCall (sp : Sp) (dvs : List V) (E : XK) (t : TA) : TE := fun σ H Q => t σ H fun vs H1 => sp (vs ++ dvs) H1 Q E
def Binds (K : PySem.W.Frag) (fd : FuncData) (ps : List Str) (ds : List Value) : Prop :=
  ∀ (s : Shared) (us : List Value), K.In s.heap → (us ++ ds).length = ps.length → BindsTo s fd ⟨us, []⟩ (ps.zip (us ++ ds))
theorem Binds.all {K : PySem.W.Frag} {fd : FuncData} {ps : List Str} (h : ∀ us : List Value, us.length = ps.length → bindArgs fd ⟨us, []⟩ = pure (ps.zip us)) : Binds K fd ps [] := fun s us _ hl => by
  rw [List.append_nil] at hl ⊢
  exact .of_eq (h us hl)

def Passes (CX : CXT) (X : Cx) (E : XK) : Prop := ∀ (pins : List (Addr × Obj)) (σ : St) (H : Hp) (s : Shared) (e : Value) (s' : Shared), Inv X pins σ H s → CX X.stack H s E e s' → X.xe e s'

section
variable {X : Cx} {CX : CXT} {k : Nat} {f C : Addr} {fd : FuncData} {ps : List Str} {sp : Sp} {dvs : List V} {ds : List Value} {E : XK} {x m : Str} {p pos apos : Pos} {e o : Expr} {es : List Expr} {ta : TE} {t : TA}

theorem run_fn {pins : List (Addr × Obj)} {σ : St} {H : Hp} {s : Shared} {Q : VK} {us : List Value} {vs : List V} (F : FnOk X.prog X.w X.K X.mg X.base CX k f fd ps sp) (hr : Room k X.A) (hb : Binds X.K fd ps ds) (hd : Vals dvs ds) (hx : Passes CX X E)
    (I : Inv X pins σ H s) (r : Vals vs us) (h : sp (vs ++ dvs) H Q E) : wpAny (model X.prog X.w) X.A (call (.ref f) us) (EP X pins σ Q) X.xe s := by
  have r2 : Vals (vs ++ dvs) (us ++ ds) := r.append hd
  have hl : (us ++ ds).length = ps.length := by rw [← r2.length]; exact F.len _ _ _ _ h
  refine wpAny_call (codeAny_mono (F.run X.A X.stack s H ⟨us, []⟩ (us ++ ds) (vs ++ dvs) Q E hr I.env0 (hb s us I.kIn hl) r2 h) fun r s' hq => ?_)
  cases r with
  | error e => exact hx pins σ H s e s' I hq
  | ok fl =>
    cases fl with
    | ret u => exact I.after hq
    | next => exact False.elim hq
    | brk => exact False.elim hq
    | cont => exact False.elim hq

theorem pe_call (F : FnOk X.prog X.w X.K X.mg X.base CX k f fd ps sp) (hr : Room k X.A) (hg : Gl X x) (hm : X.mg x = some (.ref f)) (hk : PySem.W.keepIn X.K (.ref f) = true) (hb : Binds X.K fd ps ds) (hd : Vals dvs ds) (hx : Passes CX X E)
    (ha : PA X (e :: es) t) (hdb : (x == ("__debug__" : Str)) = false := by decide) (he : starEach (e :: es) X.env = (false, eval e X.env) :: starEach es X.env := by rfl) (hpl : (backTo pos (starEach es X.env)).any (·.1) = false := by rfl) :
    PE X (.Call (.Name x p) (e :: es) [] pos) (tCall sp dvs E t) := by
  intro pins s σ H Q I h
  refine wpAny_Call_Name_kw (ld_glob I hg hm ?_ hdb)
  refine PySem.W.callWith_K (h₀ := X.base) I.ok.mod.kin hk (thn (ha pos pins s σ H _ I h) fun us s1 ⟨vs, H1, I1, r, q⟩ => ⟨I1.kIn, ?_⟩) he hpl
  exact run_fn F hr hb hd hx I1 r q
end

section
variable {X : Cx} {CX : CXT} {k : Nat} {f C : Addr} {fd : FuncData} {ps ks : List Str} {sp : Sp} {E : XK} {x m : Str} {p pos apos kpos : Pos} {e o : Expr} {es : List Expr} {kws : List Keyword} {te ta : TE} {t tk : TA} {nm : Option Str}
variable {g : List Value → List Value → List Value} {gV : List V → List V → List V}
end

structure FnScope (N P : List Str) (sc : Scope) : Prop where
  kind : sc.kind = .function
  co : sc.isCoroutine = false
  gen : sc.isGenerator = false
  nd : N.Nodup
  pre : N.take P.length = P
  par : ∀ x ∈ P, sc.names.lookup x = some .local ∨ sc.names.lookup x = some .cell
  nofree : ∀ y ∈ sc.names, y.2 ≠ .free

theorem bindL_out {kindOf : Str → Option NameKind} {x : Str} : ∀ {binds : List (Str × Value)} {m : Str → Option Value}, (∀ v, (x, v) ∉ binds) → bindL kindOf binds m x = m x
  | [], _, _ => rfl
  | (n, v) :: r, m, h => by
    unfold bindL
    rw [bindL_out fun w hw => h w (List.mem_cons_of_mem _ hw)]
    split
    · have : x ≠ n := by rintro rfl; exact h v List.mem_cons_self
      simp [this]
    · rfl
theorem bindC_out {kindOf : Str → Option NameKind} {x : Str} : ∀ {binds : List (Str × Value)} {m : Str → Option Value}, (∀ v, (x, v) ∉ binds) → bindC kindOf binds m x = m x
  | [], _, _ => rfl
  | (n, v) :: r, m, h => by
    unfold bindC
    rw [bindC_out fun w hw => h w (List.mem_cons_of_mem _ hw)]
    split
    · rfl
    · have : x ≠ n := by rintro rfl; exact h v List.mem_cons_self
      simp [this]
theorem bindL_get {kindOf : Str → Option NameKind} {x : Str} {v : Value} : ∀ {P : List Str} {vs : List Value} {i : Nat} {m : Str → Option Value}, P.Nodup → P[i]? = some x → vs[i]? = some v → kindOf x = some .local →
    bindL kindOf (P.zip vs) m x = some v
  | [], _, _, _, _, h, _, _ => by simp at h
  | _ :: _, [], _, _, _, _, h, _ => by simp at h
  | p :: P, w :: vs, 0, m, nd, h1, h2, hk => by
    simp at h1 h2; subst h1; subst h2
    show bindL kindOf ((p, w) :: P.zip vs) m p = _
    unfold bindL
    rw [bindL_out fun v hv => (List.nodup_cons.mp nd).1 (List.of_mem_zip hv).1, if_pos hk]
    simp
  | p :: P, w :: vs, i + 1, m, nd, h1, h2, hk => by
    show bindL kindOf ((p, w) :: P.zip vs) m x = _
    unfold bindL
    exact bindL_get (i := i) (List.nodup_cons.mp nd).2 (by simpa using h1) (by simpa using h2) hk
theorem bindC_get {kindOf : Str → Option NameKind} {x : Str} {v : Value} : ∀ {P : List Str} {vs : List Value} {i : Nat} {m : Str → Option Value}, P.Nodup → P[i]? = some x → vs[i]? = some v → kindOf x ≠ some .local →
    bindC kindOf (P.zip vs) m x = some v
  | [], _, _, _, _, h, _, _ => by simp at h
  | _ :: _, [], _, _, _, _, h, _ => by simp at h
  | p :: P, w :: vs, 0, m, nd, h1, h2, hk => by
    simp at h1 h2; subst h1; subst h2
    show bindC kindOf ((p, w) :: P.zip vs) m p = _
    unfold bindC
    rw [bindC_out fun v hv => (List.nodup_cons.mp nd).1 (List.of_mem_zip hv).1, if_neg hk]
    simp
  | p :: P, w :: vs, i + 1, m, nd, h1, h2, hk => by
    show bindC kindOf ((p, w) :: P.zip vs) m x = _
    unfold bindC
    exact bindC_get (i := i) (List.nodup_cons.mp nd).2 (by simpa using h1) (by simpa using h2) hk

def start (N : List Str) (vs : List V) : St := vs.map some ++ List.replicate (N.length - vs.length) none

def cxOf (CX : CXT) (P : Program) (w : World) (K : PySem.W.Frag) (mg : Str → Option Value) (base : Heap) (N : List Str) (qual : Str) (scope : Scope) (f : Addr) (cd : Value) (A : Around) (outer : List Env) (s : Shared) (H : Hp) (E : XK) : Cx where
  prog := P
  w := w
  K := K
  mg := mg
  base := base
  A := A.deeper (envOfC qual scope s.heap.objs.size f cd)
  N := N
  s₀ := s
  H₀ := H
  env := envOfC qual scope s.heap.objs.size f cd
  outer := outer
  stack := envOfC qual scope s.heap.objs.size f cd :: outer
  ex := []
  calm := true
  fn := fun _ => true
  pn := []
  xe := fun e s' => wpAny (model P w) (A.deeper (envOfC qual scope s.heap.objs.size f cd)) (leaving (envOfC qual scope s.heap.objs.size f cd) e) (fun _ s'' => CX outer H s E e s'') (fun e' s'' => CX outer H s E e' s'') s'

theorem cell_has {sc : Scope} {n : Nat} {x : Str} (h : sc.names.lookup x = some .cell) : ∃ c, (cellsFrom n sc.names []).lookup x = some c := by
  have q := PySem.W.cellsFrom_some sc.names n [] (.inl h)
  exact Option.isSome_iff_exists.mp q

theorem inv_start {CX : CXT} {P : Program} {w : World} {K : PySem.W.Frag} {mg : Str → Option Value} {base : Heap} {N ps : List Str} {qual : Str} {scope : Scope} {f : Addr} {cd : Value} {A : Around} {outer : List Env} {s s1 : Shared} {H : Hp} {E : XK} {us : List Value} {vs : List V}
    (S : FnScope N ps scope) (hd : A.handled = none) (e0 : Env0 P w K mg base A outer s H) (hl : vs.length = ps.length) (r : Vals vs us)
    (x : InCallC s s.heap.objs.size (bindL (envOfC qual scope s.heap.objs.size f cd).kindOf (ps.zip us) fun _ => none) (cellsFrom (s.heap.objs.size + 1) scope.names []) (bindC (envOfC qual scope s.heap.objs.size f cd).kindOf (ps.zip us) fun _ => none) s1) :
    Inv (cxOf CX P w K mg base N qual scope f cd A outer s H E) [] (start N vs) H s1 := by
  have hpl : ps.length ≤ N.length := by have := congrArg List.length S.pre; rw [List.length_take] at this; omega
  obtain ⟨h1, tk, rfl, hk⟩ := x.done
  have noA : ∀ b : Addr, b ∉ (cxOf CX P w K mg base N qual scope f cd A outer s H E).ex := fun b z => absurd (show b ∈ ([] : List Addr) from z) (by simp)
  refine ⟨⟨e0.mod, S.kind, rfl, rfl, Nat.le_refl _, fun y z c h1 h2 => ?_, fun y hy => ?_, fun y c _ h => ?_, fun _ => hd, Around.frames_deeper e0.frames, .inr ⟨rfl, rfl⟩, fun b z => absurd z (noA b), e0.bs, e0.bsz, fun b _ _ => noA b, fun b z => absurd z (noA b), e0.funs, e0.frf⟩,
    rfl, e0.bare, Un.kept hk, ⟨_, x.toInCall.ns, fun i y v h1 h2 h3 => ?_⟩, fun y c h => ⟨_, x.cell y c h⟩, e0.hok.fresh (Nat.le_refl _), fun y c h => ?_, fun p hp => absurd (show p ∈ ([] : List (Addr × Obj)) from hp) (by simp), e0.hok.kept hk, ?_⟩
  · exact name_of_addr x.apart (PySem.mem_of_lookup h1) (PySem.mem_of_lookup h2)
  · have hy : scope.names.lookup y = some .cell ∨ scope.names.lookup y = some .free := hy
    rcases hy with hy | hy
    · exact cell_has hy
    · exact absurd rfl (S.nofree _ (PySem.mem_of_lookup hy))
  · exact Nat.le_of_lt (x.above y c (PySem.mem_of_lookup h))
  · have hi : i < vs.length := by
      unfold start at h2
      by_cases hi : i < vs.length
      · exact hi
      · rw [List.getElem?_append_right (by simpa using hi)] at h2
        rw [List.getElem?_replicate] at h2
        split at h2 <;> cases h2
    have ha : vs[i]? = some v := by
      unfold start at h2
      rw [List.getElem?_append_left (by simpa using hi), List.getElem?_map] at h2
      cases e : vs[i]? with
      | none => rw [e] at h2; cases h2
      | some a => rw [e] at h2; cases h2; rfl
    obtain ⟨u, hu, rv⟩ := r.get ha
    have hp : ps[i]? = some y := by
      rw [← S.pre, List.getElem?_take_of_lt (by omega)]; exact h1
    have ndP : ps.Nodup := by rw [← S.pre]; exact S.nd.sublist (List.take_sublist _ _)
    refine ⟨u, rv, ?_⟩
    rcases S.par y (List.mem_of_getElem? hp) with k | k
    · exact .inl ⟨k, bindL_get ndP hp hu k⟩
    · obtain ⟨c, e⟩ := cell_has (n := s.heap.objs.size + 1) k
      refine .inr ⟨.inl k, c, e, ?_⟩
      have q := x.cell y c e
      rw [bindC_get ndP hp hu (by show scope.names.lookup y ≠ _; rw [k]; decide)] at q
      exact q
  · exact e0.hok.fresh (Nat.le_of_lt (x.above y c (PySem.mem_of_lookup h)))
  · unfold start
    show _ = N.length
    rw [List.length_append, List.length_map, List.length_replicate]
    omega

theorem fn_of {CX : CXT} {P : Program} {w : World} {K : PySem.W.Frag} {mg : Str → Option Value} {base : Heap} {k : Nat} {f : Addr} {name qual : Str} {params : Arguments} {body : List Stmt} {scope : Scope} {dV kV doc pm cdv ct oc : Value} {an od : Option Addr}
    {osl : Array (Option Value)} {N ps : List Str} {sp : Sp} (lk : K.lookup f = some ⟨oc, od, .func (PySem.W.fnOf name qual params body scope dV kV doc pm an cdv ct), osl⟩) (hcd : PySem.W.codeIn K cdv qual = true) (S : FnScope N ps scope)
    (len : ∀ vs H Q E, sp vs H Q E → vs.length = ps.length)
    (hbody : ∀ (A : Around) (outer : List Env) (s : Shared) (H : Hp) (vs : List V) (Q : VK) (E : XK), Room k (A.deeper (envOfC qual scope s.heap.objs.size f cdv)) → sp vs H Q E →
      ∃ t, PSs (cxOf CX P w K mg base N qual scope f cdv A outer s H E) body t ∧ t { nx := fun _ H' => Q .non H', rt := Q } (start N vs) H) :
    FnOk P w K mg base CX (k + 1) f (PySem.W.fnOf name qual params body scope dV kV doc pm an cdv ct) ps sp := by
  refine ⟨len, fun A outer s H args us vs Q E hr e0 hb r hsp => ?_⟩
  have hl := len _ _ _ _ hsp
  have KX : K.In s.heap := e0.mod.kin.keeps fun b o e => (e0.bs b o e).1
  have lim : s.heap.NoLimit := e0.mod.nolimit.keeps fun b o e => (e0.bs b o e).1
  have hkind : ∀ y ∈ ps.zip us, scope.names.lookup y.1 = some .local ∨ (scope.names.lookup y.1 = some .cell ∧ ((cellsFrom (s.heap.objs.size + 1) scope.names []).lookup y.1).isSome = true) := fun ⟨n, v⟩ hy => by
    rcases S.par n (List.of_mem_zip hy).1 with q | q
    · exact .inl q
    · exact .inr ⟨q, PySem.W.cellsFrom_some _ _ _ (.inl q)⟩
  refine codeAny_call_function hr.depth (KX _ _ lk) rfl S.co S.gen rfl (PySem.W.codeRec_of KX hcd) (hb _ _ _ _ ?_)
  refine wpAny_newFunctionEnv_cells S.kind hkind fun env he s1 x => ?_
  subst he
  refine ⟨lim.keeps x.toInCall.keep, codeAny_func ?_⟩
  obtain ⟨t, ht, hq⟩ := hbody A outer s H vs Q E (hr.deeper _) hsp
  have I : Inv (cxOf CX P w K mg base N qual scope f cdv A outer s H E) [] (start N vs) H s1 := inv_start S hr.hd e0 hl r x
  refine wpAny_mono (ht [] s1 (start N vs) H _ I hq) (fun fl s' hs => ?_) fun e s' hs => hs
  have fin : ∀ {σ' : St} {H' : Hp} {v : V} {u : Value}, Inv (cxOf CX P w K mg base N qual scope f cdv A outer s H E) [] σ' H' s' → RelV v u → Q v H' → CE outer P w H s Q u s' :=
    fun {σ' H' v u} J rv q => ⟨v, H', J.os, J.bare, J.base, J.hok, rv, q⟩
  cases fl with
  | ret u =>
    obtain ⟨v, σ', H', J, rv, q⟩ := hs
    exact fin J rv q
  | next =>
    obtain ⟨σ', H', J, q⟩ := hs
    exact fin (v := V.non) (u := Value.none) J rfl q
  | brk =>
    obtain ⟨_, _, _, q⟩ := hs
    exact False.elim q
  | cont =>
    obtain ⟨_, _, _, q⟩ := hs
    exact False.elim q
end L2

namespace L2
open PySem PySem.Spec PyProof.Rows
section
variable {X : Cx} {x : Str} {p pos : Pos} {e : Expr} {es : List Expr} {t : TA} {id T : String} {r : List V → Hp → VK → Prop}

def tCB (r : List V → Hp → VK → Prop) (t : TA) : TE := fun σ H Q => t σ H fun vs H1 => r vs H1 Q
theorem pe_callB (hc : CallR X (.builtin id) r) (hg : Gl X x) (hm : X.mg x = none) (hv : bootBuiltins x = some (.builtin id)) (ha : PA X (e :: es) t) (hn : x ≠ "__name__" := by decide) (hdb : (x == ("__debug__" : Str)) = false := by decide)
    (he : starEach (e :: es) X.env = (false, eval e X.env) :: starEach es X.env := by rfl) (hpl : (backTo pos (starEach es X.env)).any (·.1) = false := by rfl) : PE X (.Call (.Name x p) (e :: es) [] pos) (tCB r t) := by
  intro pins s σ H Q I h
  refine wpAny_Call_Name_kw (ld_blt I hg hm hv ?_ hn hdb)
  exact PyProof.Rows.callWith_builtin1 (thn (ha pos pins s σ H _ I h) fun us s1 ⟨vs, H1, I1, r1, q1⟩ => hc pins s1 σ H1 vs us Q I1 r1 q1) he hpl
theorem pe_callTy (hc : CallR X (.type T) r) (hg : Gl X x) (hm : X.mg x = none) (hv : bootBuiltins x = some (.type T)) (ha : PA X (e :: es) t) (hn : x ≠ "__name__" := by decide) (hdb : (x == ("__debug__" : Str)) = false := by decide)
    (he : starEach (e :: es) X.env = (false, eval e X.env) :: starEach es X.env := by rfl) (hpl : (backTo pos (starEach es X.env)).any (·.1) = false := by rfl) : PE X (.Call (.Name x p) (e :: es) [] pos) (tCB r t) := by
  intro pins s σ H Q I h
  refine wpAny_Call_Name_kw (ld_blt I hg hm hv ?_ hn hdb)
  exact PyProof.Rows.callWith_type1 (thn (ha pos pins s σ H _ I h) fun us s1 ⟨vs, H1, I1, r1, q1⟩ => hc pins s1 σ H1 vs us Q I1 r1 q1) he hpl
end
end L2

namespace HT
open PySem PyProof.Rows

section
open PySem.SeqAt
open PySem.AutoSeq1 (wpAny_loadPart')
open PySem.MeetsSeq PySem.MeetsSeq2 PySem.MeetsSeq3

end

section
variable {prog : Program} {w : World} {A : Around} {E : Value → Shared → Prop} {s : Shared}

end
end HT

namespace L2
open PySem PySem.Spec PyProof.Rows

abbrev TO := St → Hp → (Option Int → Hp → Prop) → Prop
theorem intsAre_of {ns : List Int} : ∀ {us : List Value}, Vals (ns.map V.int) us → IntsAre us ns := by
  induction ns with
  | nil => intro us r; rw [List.map_nil] at r; cases r; exact .nil
  | cons n ns ih =>
    intro us r
    rw [List.map_cons] at r
    cases r with
    | cons r1 r2 =>
      obtain ⟨t, e⟩ := r1
      subst e
      exact .cons n t (ih r2)

section
variable {X : Cx} {e : Expr} {te : TE} {lo hi : Option Expr} {tl th : TO} {pos p2 : Pos}

end
end L2

namespace L2
open PySem PySem.Spec PyProof.Rows

def ixN (n : Nat) (i : Int) : Option Nat := if 0 ≤ i then (if i < n then some i.toNat else none) else if -(n : Int) ≤ i then some (i + n).toNat else none
def atI {α : Type} (xs : List α) (i : Int) : Option α := (ixN xs.length i).bind fun j => xs[j]?
theorem ixN_seq {n : Nat} {i : Int} {j : Nat} (h : ixN n i = some j) : seqIndex? i n = some j ∧ j < n ∧ -(n : Int) ≤ i ∧ i < n := by
  unfold ixN at h
  by_cases h0 : 0 ≤ i
  · rw [if_pos h0] at h
    by_cases h1 : i < n
    · rw [if_pos h1] at h
      have e : i.toNat = j := Option.some.inj h
      exact ⟨by rw [seqIndex_of h0 h1, e], by omega, by omega, h1⟩
    · rw [if_neg h1] at h; cases h
  · rw [if_neg h0] at h
    by_cases h1 : -(n : Int) ≤ i
    · rw [if_pos h1] at h
      have e : (i + n).toNat = j := Option.some.inj h
      exact ⟨by rw [seqIndex_neg (by omega) h1, e], by omega, h1, by omega⟩
    · rw [if_neg h1] at h; cases h
theorem atI_get {α : Type} {xs : List α} {i : Int} {v : α} (h : atI xs i = some v) : ∃ j, seqIndex? i xs.length = some j ∧ xs[j]? = some v ∧ j < xs.length ∧ -(xs.length : Int) ≤ i ∧ i < xs.length := by
  unfold atI at h
  cases e : ixN xs.length i with
  | none => rw [e] at h; cases h
  | some j =>
    rw [e] at h
    obtain ⟨h1, h2, h3, h4⟩ := ixN_seq e
    exact ⟨j, h1, h, h2, h3, h4⟩
theorem atI_nat {α : Type} {xs : List α} {j : Nat} {v : α} (h : xs[j]? = some v) : atI xs (j : Int) = some v := by
  have hj : j < xs.length := (List.getElem?_eq_some_iff.mp h).1
  have e : ixN xs.length (j : Int) = some j := by
    unfold ixN
    rw [if_pos (by omega), if_pos (by omega)]; simp
  unfold atI; rw [e]; exact h
def PlainIx (b : Expr) : Prop := ∀ o i, subscripted b false o i = operate [o, i] (getItem o i)
def IxR (X : Cx) (r : R2) : Prop :=
  ∀ (value slice : Expr) (pins : List (Addr × Obj)) (s : Shared) (σ : St) (H : Hp) (x y : V) (v u : Value) (Q : VK), Inv X pins σ H s → RelV x v → RelV y u → r x y H Q →
    subscripted slice false v u = operate [v, u] (getItem v u) → wpAny (model X.prog X.w) X.A (subscriptTail value slice v u) (EP X pins σ Q) X.xe s
def MtR (X : Cx) (id : String) (r : V → List V → Hp → VK → Prop) : Prop :=
  ∀ (pins : List (Addr × Obj)) (s : Shared) (σ : St) (H : Hp) (x : V) (xs : List V) (v : Value) (us : List Value) (Q : VK), Inv X pins σ H s → RelV x v → Vals xs us → r x xs H Q →
    wpAny (model X.prog X.w) X.A (call (.builtin id) (v :: us)) (EP X pins σ Q) X.xe s
section
variable {X : Cx} {a b : Expr} {ta tb : TE} {pos : Pos}
theorem pe_ix {r : R2} (hr : IxR X r) (ha : PE X a ta) (hb : PE X b tb) (hs : PlainIx b) : PE X (.Subscript a b pos) (tOp r ta tb) := by
  intro pins s σ H Q I h
  exact Subscript_ (binT ha hb I h fun v u s2 x y H2 I2 rx ry q => hr a b pins s2 σ H2 x y v u Q I2 rx ry q (hs _ _))

def rIxL (K : PySem.W.Frag) : R2 := fun x y H Q => ∃ p xs i v, x = .ref p ∧ y = .int i ∧ SqL K H p xs ∧ atI xs i = some v ∧ Q v H
theorem ix_list : IxR X (rIxL X.K) := by
  intro value slice pins s σ H x y v u Q I rx ry h hs
  obtain ⟨p, xs, i, z, rfl, rfl, hq, he, q⟩ := h
  cases rx
  obtain ⟨t, rfl⟩ := ry
  obtain ⟨its, r, pl, hz⟩ := I.list hq
  obtain ⟨j, h1, h2, h3, h4, h5⟩ := atI_get he
  obtain ⟨w, ew, rw'⟩ := r.get h2
  have hl := r.length
  have hn := line63
  have fin : EP X pins σ Q w s := ⟨z, H, I, rw', q⟩
  by_cases h0 : 0 ≤ i
  · have hj : i.toNat = j := by
      rw [seqIndex_of h0 h5] at h1
      exact Option.some.inj h1
    exact item_listR pl.isList h0 (by omega) (by rw [hj]; simpa using ew) fin hs
  · have hj : (i + (its.toArray.size : Int)).toNat = j := by
      rw [seqIndex_neg (by omega) h4] at h1
      rw [List.size_toArray, ← hl]
      exact Option.some.inj h1
    exact subscriptTail_builtinR (x := w) pl.isList.typeIs slot_list_getitem.lookup
      (wpAny_getItem_list_neg (Q := fun r s' => r = w ∧ EP X pins σ Q r s') pl.isList (by omega) (by rw [List.size_toArray] <;> omega) (by omega) (by rw [hj]; simpa using ew) ⟨rfl, fin⟩) hs
theorem mapSeq_set (its : List Value) (n j : Nat) (u : Value) : Obj.mapSeq (·.setIfInBounds j u) { cls := .type "list", data := .seq its.toArray n } = { cls := .type "list", data := .seq (its.set j u).toArray n } := by
  simp [Obj.mapSeq]
theorem Inv.lst {pins : List (Addr × Obj)} {σ : St} {H : Hp} {s : Shared} {p : Addr} {xs : List V} (I : Inv X pins σ H s) (h : H p = some (.lst xs)) :
    ∃ (its : List Value) (n : Nat), Vals xs its ∧ s.heap.get? p = some { cls := .type "list", data := .seq its.toArray n } ∧ xs.length ≤ sizeLine := by
  obtain ⟨z, its, n, r, e⟩ := I.hok p _ h
  exact ⟨its, n, r, e, z⟩
theorem Inv.lstUpd {pins : List (Addr × Obj)} {σ : St} {H : Hp} {s : Shared} {p : Addr} {xs ys : List V} {its its' : List Value} {n n' : Nat} {f : Obj → Obj} (I : Inv X pins σ H s) (h : H p = some (.lst xs))
    (ho : s.heap.get? p = some { cls := .type "list", data := .seq its.toArray n }) (hf : f { cls := .type "list", data := .seq its.toArray n } = { cls := .type "list", data := .seq its'.toArray n' }) (r : Vals ys its') (hz : ys.length ≤ sizeLine) (t : Nat) :
    Inv X pins σ (upd H p (.lst ys)) { s with heap := s.heap.update p f, toks := t } := by
  have e : (s.heap.update p f).get? p = some { cls := .type "list", data := .seq its'.toArray n' } := by
    rw [Heap.get?_update_self f ho (by rw [hf] <;> rfl), hf]
  refine I.write (x := p) (e := p) (by rw [h]; trivial) (.inl rfl) (fun b u hb q => (Heap.get?_update_other _ _ (Ne.symm hb)).trans q) ⟨_, e⟩ ?_
  exact ⟨hz, its', n', r, e⟩
def rSetL : V → V → V → Hp → (Hp → Prop) → Prop := fun o i v H Q => ∃ p xs k j, o = .ref p ∧ i = .int k ∧ H p = some (.lst xs) ∧ ixN xs.length k = some j ∧ Q (upd H p (.lst (xs.set j v)))
theorem set_list : PSet X rSetL := by
  intro pins s σ H o i v ov iv u Q I ro ri rv h
  obtain ⟨p, xs, k, j, rfl, rfl, hp, hj, q⟩ := h
  cases ro
  obtain ⟨t, rfl⟩ := ri
  obtain ⟨its, n, r, ho, hz⟩ := I.lst hp
  obtain ⟨h1, h2, h3, h4⟩ := ixN_seq hj
  have hl := r.length
  have hn := line63
  have I' : Inv X pins σ (upd H p (.lst (xs.set j v))) { s with heap := s.heap.update p (Obj.mapSeq (·.setIfInBounds j u)) } :=
    I.lstUpd hp ho (mapSeq_set its n j u) (r.set rv j) (by rw [List.length_set]; exact hz) s.toks
  by_cases h0 : 0 ≤ k
  · have hk : k.toNat = j := by
      rw [seqIndex_of h0 h4] at h1
      exact Option.some.inj h1
    exact PySem.W.ki_setAt ho h0 (by omega) (by rw [List.size_toArray, ← hl]; exact h4) (by rw [hk]; exact ⟨_, I', q⟩)
  · have hk : (k + (its.toArray.size : Int)).toNat = j := by
      rw [seqIndex_neg (by omega) h3] at h1
      rw [List.size_toArray, ← hl]
      exact Option.some.inj h1
    exact PySem.W.ki_setBack ho (by omega) (by rw [List.size_toArray, ← hl]; exact h3) (by omega) (by rw [hk]; exact ⟨_, I', q⟩)

theorem call_list_of : CallR X (.type "list") (fun xs H Q => ∃ p ys, xs = [.ref p] ∧ (SqL X.K H p ys ∨ SqT X.K H p ys) ∧ ∀ l, H l = none → Q (.ref l) (upd H l (.lst ys))) := by
  intro pins s σ H xs us Q I r h
  obtain ⟨p, ys, rfl, hq, q⟩ := h
  obtain ⟨u, rfl, rx⟩ := vals1 r
  cases rx
  have fin : ∀ (its : List Value), Vals ys its → ys.length ≤ sizeLine → ∀ (h' : Heap) (c' : Nat), (∀ b o', s.heap.get? b = some o' → h'.get? b = some o') →
      h'.get? s.heap.objs.size = some { cls := .type "list", dict := none, data := .seq its.toArray c', slots := #[] } → EP X pins σ Q (.ref s.heap.objs.size) { s with heap := h' } := fun its r' hz h' c' kp e =>
    ⟨.ref s.heap.objs.size, _, I.laid (t' := s.toks) kp (Nat.le_refl _) (show ObjOk X.prog X.w _ h' _ (.lst ys) from ⟨hz, its, c', r', e⟩), rfl, q _ (I.hok.fresh (Nat.le_refl _))⟩
  rcases hq with hq | hq
  · obtain ⟨its, r', pl, hz⟩ := I.list hq
    have hlen := r'.length
    obtain ⟨o, ho, hc, n, hd⟩ := pl.isList
    exact call_list_seq p (.inl rfl) ho hc hd (fun h' c' kp e => fin its r' hz h' c' kp e) (by simp only [List.size_toArray] <;> omega)
  · obtain ⟨its, r', pl, hz⟩ := I.tuple hq
    have hlen := r'.length
    obtain ⟨o, ho, hc, n, hd⟩ := pl
    exact call_list_seq p (.inr rfl) ho hc hd (fun h' c' kp e => fin its r' hz h' c' kp e) (by simp only [List.size_toArray] <;> omega)
def tyV (K : PySem.W.Frag) (T : String) (x : V) (H : Hp) : Prop := match x with
  | .str _ => T = "str"
  | .int _ => T = "int"
  | .ref p => (T = "list" ∧ ∃ xs, SqL K H p xs) ∨ (T = "tuple" ∧ ∃ o, K.lookup p = some o ∧ o.cls = .type "tuple" ∧ o.dict = none) ∨
      (T = "dict" ∧ ((∃ kvs, H p = some (.dK kvs)) ∨ ∃ kvs, H p = some (.dT kvs))) ∨ (T = "set" ∧ ∃ S n, H p = some (.set S n))
  | _ => False
theorem tyV_is {pins : List (Addr × Obj)} {σ : St} {H : Hp} {s : Shared} {T : String} {x : V} {v : Value} (I : Inv X pins σ H s) (r : RelV x v) (ty : tyV X.K T x H) :
    s.TypeIs v T ∧ ∀ a, v = .ref a → ∃ ob, s.heap.get? a = some ob ∧ ob.dict = none := by
  cases x with
  | str z =>
    obtain ⟨t, rfl⟩ := r
    cases (show T = "str" from ty)
    exact ⟨typeIs_str s z t, fun _ e => nomatch e⟩
  | int i =>
    obtain ⟨t, rfl⟩ := r
    cases (show T = "int" from ty)
    exact ⟨typeIs_int s i t, fun _ e => nomatch e⟩
  | ref p =>
    cases r
    rcases ty with ⟨rfl, xs, hq⟩ | ⟨rfl, o, hk, hc, hd⟩ | ⟨rfl, hk⟩ | ⟨rfl, S, n, hk⟩
    · obtain ⟨its, _, pl, _⟩ := I.list hq
      refine ⟨pl.isList.typeIs, fun a e => ?_⟩
      cases e
      obtain ⟨o, n, e, c, hd, _⟩ := pl
      exact ⟨o, e, hd⟩
    · refine ⟨⟨o, I.kIn p o hk, hc⟩, fun a e => ?_⟩
      cases e
      exact ⟨o, I.kIn _ o hk, hd⟩
    · have z : ∃ o, s.heap.get? p = some o ∧ o.ExactDict := by
        rcases hk with ⟨kvs, hk⟩ | ⟨kvs, hk⟩
        · obtain ⟨_, _, _, _, o, _, _, e, ex, _⟩ := I.hok p _ hk
          exact ⟨o, e, ex⟩
        · obtain ⟨_, _, _, _, o, _, _, e, ex, _⟩ := I.hok p _ hk
          exact ⟨o, e, ex⟩
      obtain ⟨o, e, ex⟩ := z
      refine ⟨⟨o, e, ex.1⟩, fun a e2 => ?_⟩
      cases e2
      exact ⟨o, e, ex.2.1⟩
    · obtain ⟨o, _, _, _, e, ex, _⟩ := I.hok p _ hk
      refine ⟨⟨o, e, ex.1⟩, fun a e2 => ?_⟩
      cases e2
      exact ⟨o, e, ex.2.1⟩
  | _ => exact False.elim ty
def tBM (K : PySem.W.Frag) (T : String) (r : V → List V → Hp → VK → Prop) (to : TE) (t : TA) : TE := fun σ H Q => to σ H fun x H1 => tyV K T x H1 ∧ t σ H1 fun xs H2 => r x xs H2 Q
variable {o e : Expr} {es : List Expr} {to : TE} {t : TA} {name : Str} {apos cpos : Pos} {T id : String} {r : V → List V → Hp → VK → Prop}
theorem pe_bm (pa : PlainAttrs T) (slot : Slot T name id) (hty : typeOf (.builtin id) = pure (.type "method_descriptor")) (hm : MtR X id r) (ho : PE X o to) (ha : PA X (e :: es) t)
    (hbase : attributeBase o name X.env (eval o X.env) = eval o X.env := by rfl)
    (hfew : ((backTo cpos (starEach (e :: es) X.env)).all (fun x => !x.1) && (backToKw cpos (keywordEach [] X.env)).all (fun x => x.1.isSome)
      && decide ((e :: es).length + ([] : List Keyword).length + (if ([] : List Keyword).isEmpty then 0 else 1) < 30)) = true := by rfl)
    (hline : (apos.endLine == cpos.line) = true := by rfl) (hs : starEach (e :: es) X.env = (false, eval e X.env) :: starEach es X.env := by rfl) (hplain : (backTo cpos (starEach es X.env)).any (·.1) = false := by rfl) :
    PE X (.Call (.Attribute o name apos) (e :: es) [] cpos) (tBM X.K T r to t) := by
  intro pins s σ H Q I h
  refine wpAny_Call_method_late hbase hfew hline rfl (thn (ho pins s σ H _ I h) fun v s1 ⟨x, H1, I1, r1, ty, q1⟩ => ?_)
  obtain ⟨h1, h2⟩ := tyV_is I1 r1 ty
  refine ⟨T, id, pa, slot, hty, h1, h2, ?_⟩
  have hA := ha cpos pins s1 σ H1 _ I1 q1
  rw [hs] at hA ⊢
  refine Calls.callWith_builtin (by show (false || (backTo cpos (starEach es X.env)).any (·.1)) = false; rw [hplain] <;> rfl) (Calls.evalArgs_plain ?_)
  exact thn hA fun us s2 ⟨vs, H2, I2, r2, q2⟩ => hm pins s2 σ H2 x vs v us Q I2 r1 r2 q2
/- xs.append(e), list.index on a module's tuple .. are MtR facts of 06m -/
end
end L2

namespace L2
open PySem PySem.Spec PyProof.Rows

def MtM (X : Cx) (id : String) (r : V → List V → Hp → VK → Prop) : Prop :=
  ∀ (pins : List (Addr × Obj)) (s : Shared) (σ : St) (H : Hp) (x : V) (xs : List V) (v : Value) (us : List Value) (Q : VK), Inv X pins σ H s → RelV x v → Vals xs us → r x xs H Q →
    wpAny (model X.prog X.w) X.A (call (.builtin id) (v :: us)) (EP X pins σ Q) X.xe s

theorem Vals.one : ∀ {x : V} {us : List Value}, Vals [x] us → ∃ u, us = [u] ∧ RelV x u
  | _, _, .cons r .nil => ⟨_, rfl, r⟩
section
variable {X : Cx} {pins : List (Addr × Obj)} {σ : St} {H : Hp} {s : Shared} {l b : Addr} {xs ys zs : List V}

theorem Inv.lset {its its' : List Value} {n : Nat} {f : Array Value → Array Value} {t' : Nat} (I : Inv X pins σ H s) (hH : H l = some (.lst xs))
    (e : s.heap.get? l = some { cls := .type "list", data := .seq its.toArray n }) (hf : f its.toArray = its'.toArray) (hv : Vals ys its') (hz : ys.length ≤ sizeLine) :
    Inv X pins σ (upd H l (.lst ys)) { s with heap := s.heap.update l (Obj.mapSeq f), toks := t' } := by
  have q := PySem.IsL.update e f
  rw [hf] at q
  refine I.write (x := l) (e := l) (by rw [hH]; exact trivial) (.inl rfl) (fun b' u hb hu => (Heap.get?_update_other s.heap (Obj.mapSeq f) (Ne.symm hb)).trans hu) ⟨_, q⟩ ?_
  exact ⟨hz, its', _, hv, q⟩
theorem Inv.lnew {its : List Value} {t' : Nat} (I : Inv X pins σ H s) (hv : Vals ys its) (hz : ys.length ≤ sizeLine) :
    Inv X pins σ (upd H s.heap.objs.size (.lst ys)) { s with heap := s.heap.push { cls := .type "list", data := .seq its.toArray }, toks := t' } :=
  I.laid (fun _ _ q => Heap.get?_push_of_some _ q) (Nat.le_refl _) ⟨hz, its, 0, hv, Heap.get?_push_size _ rfl⟩
theorem Inv.fresh (I : Inv X pins σ H s) : H s.heap.objs.size = none := I.hok.fresh (Nat.le_refl _)
theorem Inv.lstM (I : Inv X pins σ H s) (hH : H l = some (.lst xs)) : xs.length ≤ sizeLine ∧ ∃ (its : List Value) (n : Nat), Vals xs its ∧ xs.length = its.length ∧ s.heap.get? l = some { cls := .type "list", data := .seq its.toArray n } := by
  obtain ⟨z, its, n, r, e⟩ := I.hok l _ hH
  exact ⟨z, its, n, r, r.length, e⟩

end

section
variable {X : Cx}

def rAppend : V → List V → Hp → VK → Prop := fun x vs H Q => ∃ l xs y, x = .ref l ∧ vs = [y] ∧ H l = some (.lst xs) ∧ xs.length < sizeLine ∧ Q .non (upd H l (.lst (xs ++ [y])))
theorem mt_append : MtM X "list.append" rAppend := by
  intro pins s σ H x vs v us Q I rx rv h
  obtain ⟨l, xs, y, rfl, rfl, hH, hz, q⟩ := h
  cases rx
  obtain ⟨u, rfl, ru⟩ := rv.one
  obtain ⟨z, its, n, r, hl, e⟩ := I.lstM hH
  refine call_meets F.slot_list_append ⟨_, e, rfl⟩ F.entry_list_append (F.args_list_append_2 _ _) (PySem.list_append l its.toArray n u (by rw [List.size_toArray]; omega)) ⟨e, ?_⟩
  refine ⟨.non, _, I.lset (its' := its ++ [u]) hH e (by simp) (r.append (.cons ru .nil)) ?_, rfl, q⟩
  rw [List.length_append, List.length_singleton]
  omega

def rCat : R2 := fun x y H Q => ∃ l b xs zs, x = .ref l ∧ y = .ref b ∧ H l = some (.lst xs) ∧ H b = some (.lst zs) ∧ xs.length + zs.length ≤ sizeLine ∧ ∀ p, H p = none → Q (.ref p) (upd H p (.lst (xs ++ zs)))
theorem op_cat : OpR X (binaryOp .Add) rCat := by
  intro pins s σ H x y v u Q I rx ry h
  obtain ⟨l, b, xs, zs, rfl, rfl, hH, hB, hz, q⟩ := h
  cases rx
  cases ry
  obtain ⟨z, its, n, r, hl, e⟩ := I.lstM hH
  obtain ⟨z2, its2, n2, r2, hl2, e2⟩ := I.lstM hB
  refine PySem.P.add_list e e2 ?_ (by rw [List.size_toArray, List.size_toArray]; omega)
  have ea : its.toArray ++ its2.toArray = (its ++ its2).toArray := by simp
  rw [ea]
  exact ⟨.ref _, _, I.lnew (t' := s.toks) (r.append r2) (by rw [List.length_append]; omega), rfl, q _ I.fresh⟩
end

section
variable {prog : Program} {w : World} {A : Around} {E : Value → Shared → Prop} {s : Shared}
set_option maxRecDepth 100000 in
end

section
variable {X : Cx}
end
end L2

namespace Att
open PySem PySem.W PySem.Calls PyProof.Rows

theorem ints_of_wellAll {P : Params} {h : Heap} : ∀ (ns : List Int) (vs : List Value), WellAll P h vs (ns.map WData.int) → IntsAre vs ns := by
  intro ns
  induction ns with
  | nil =>
    intro vs w
    rw [List.map_nil] at w
    cases w
    exact .nil
  | cons n ns ih =>
    intro vs w
    rw [List.map_cons] at w
    cases w with
    | cons a b =>
      cases a
      exact .cons _ _ (ih _ b)

theorem script_of {l : OpenLaw} {n : Nat} (hn : l.most = some n) {P : Params} {h : Heap} {args : List WData} {vals : List Value}
    (hpre : l.row.toRowW.claim.pre args = true) (hwl : WellAll P h vals args) :
    ∃ a vs ns, vals = [Value.ref a] ∧ args = [WData.list (ns.map WData.int)] ∧ h.get? a = some { cls := .type "list", data := .seq vs.toArray } ∧ IntsAre vs ns ∧ ns.length ≤ n := by
  have hsh : WShape.hasAll [] args [.list .int] = true := (pre_splitW hpre).1
  have hc : l.pre.holds [] { args := args } = true := (pre_splitW hpre).2
  obtain ⟨d, r, rfl, h1, h2⟩ := hasAllW_cons hsh
  obtain rfl := hasAllW_nil h2
  obtain ⟨xs, rfl, h3⟩ := hasW_list h1
  obtain ⟨ns, rfl⟩ := items_int h3
  have hlen : ns.length ≤ n := by
    unfold OpenLaw.pre at hc
    have h4 : (WTm.not (.lt (.lit (.int (n : Int))) (.len (.arg 0)))).holds [] { args := [.list (ns.map .int)] } = true := by
      have h4 := (holds_andW hc).1
      rw [hn] at h4
      exact h4
    have h5 := condW_of h4 (w_not (w_lt w_lit (w_len_list (w_arg rfl))))
    rw [List.length_map] at h5
    refine Nat.le_of_not_lt fun q => ?_
    have q' : (n : Int) < ((ns.length : Nat) : Int) := by omega
    first
      | (rw [decide_eq_true q'] at h5; exact absurd h5 (by decide))
      | (simp at h5; omega)
  cases hwl with
  | cons w1 w2 =>
    cases w2
    cases w1 with
    | list ho hall => exact ⟨_, _, ns, rfl, rfl, ho, ints_of_wellAll ns _ hall, hlen⟩

theorem post_true (l : OpenLaw) (args : List WData) : l.row.toRowW.claim.post args (.bool true) args = true :=
  postW_of (r := l.row.toRowW) (X := (true == true))
    (show WShape.has [] (.bool true) .bool = true by first | rfl | decide | simp [WShape.has, WShape.arms, WShape.armsAll])
    (show (WTm.eq .res (.lit (.bool true))).value [] { args := args, res := some (.bool true), after := args } = some (.bool (true == true)) from w_eq_bool (w_res rfl) w_lit) rfl

theorem attach_call {l : OpenLaw} {n : Nat} {q : Program} {loose : List Str} {XP : (Str → Option Value) → Heap → Prop} {YP : World → Heap → Prop} {d : DefRec}
    (hn : l.most = some n) (hdf : d.params.defaults = [])
    (call : ∀ (w : World) (s₀ s₁ : Shared) (mg mb : Str → Option Value) (fa : Addr) (o : Obj) (pm cd doc : Value) (a : Addr) (vs : List Value) (ns : List Int),
      Ground q loose [] XP w s₀ mg mb s₁.heap → YP w s₁.heap →
      s₁.heap.get? fa = some o → o.data = .func (docDef d.name d.params d.body d.scope pm cd doc) → s₁.heap.CodeRec cd d.name → mg d.name = some (.ref fa) →
      s₁.heap.get? a = some { cls := .type "list", data := .seq vs.toArray } → IntsAre vs ns → ns.length ≤ n → s₁.gens = #[] →
      codeAny (model l.prog w) callerA (.call (.ref fa) ⟨[.ref a], []⟩) (fun r s' => r = .ok (.ret (.bool true)) ∧ OldK s₁.heap s'.heap ∧ s'.os = s₁.os ∧ AllBare s'.gens) s₁) :
    WalkO q loose XP YP l.row.toRowW d [] (fun f vs => PySem.call f vs) := by
  intro w s₀ s₁ mg mb G Y fa o pm cd doc dV kV ho hd hcd hD hmg hg args vals as hpre hlay hrd hwl hlo
  obtain rfl : dV = .none := Dflts.none hD hdf
  obtain rfl : kV = .none := Dflts.noKw hD
  obtain ⟨a, vs, ns, rfl, rfl, hobj, hints, hlen⟩ := script_of hn hpre hwl
  refine enter_call (codeAny_mono (call w s₀ s₁ mg mb fa o pm cd doc a vs ns G Y ho (fd_plain hd) hcd hmg hobj hints hlen hg) fun r s' hq => ?_)
  obtain ⟨rfl, h2, h3, h4⟩ := hq
  exact ⟨.inl ⟨.bool true, .bool true, [], rfl, fun _ => rfl, .bool true, post_true l _, fun _ => ⟨List.Pairwise.nil, fun _ hm => (nomatch hm)⟩⟩, h2, h3, h4⟩

section
variable {prog : Program} {w : World} {A : Around} {E : Value → Shared → Prop} {s : Shared} {K : Frag}

end
end Att

namespace L2
open PySem PySem.Spec PyProof.Rows

theorem vals_ints : ∀ {vs : List Value} {ns : List Int}, IntsAre vs ns → Vals (ns.map V.int) vs
  | _, _, .nil => .nil
  | _, _, .cons n t h => .cons ⟨t, rfl⟩ (vals_ints h)

def Only (H : Hp) : Prop := ∀ b, H b = none ∨ ∃ o xs, H b = some (.frz o (.lst xs))

theorem law_call {P : Program} {w : World} {K : PySem.W.Frag} {mg mb : Str → Option Value} {CX : CXT} {k : Nat} {fa a : Addr} {fd : FuncData} {x : Str} {sp : Sp} {s₁ : Shared} {vs : List Value} {ns : List Int}
    (KX : K.In s₁.heap) (hns : s₁.heap.Ns mainGlobals mg) (hb : s₁.heap.Ns builtinsNs mb) (hbb : ∀ x : Str, x ≠ "__name__" → mb x = bootBuiltins x) (hlim : s₁.heap.NoLimit) (hg : s₁.gens = #[])
    (ha : s₁.heap.get? a = some { cls := .type "list", data := .seq vs.toArray }) (hi : IntsAre vs ns) (hl : ns.length ≤ sizeLine) (hr : Room k callerA)
    (F : ∀ base : Heap, K.In base → base.Ns mainGlobals mg → FnOk P w K mg base CX k fa fd [x] sp) (hbind : ∀ (s : Shared) (u : Value), BindsTo s fd ⟨[u], []⟩ [(x, u)])
    (hsp : ∀ H : Hp, Only H → SqL K H a (ns.map V.int) → sp [.ref a] H (fun v _ => v = .bl true) fun _ _ _ => False)
    (hCX : ∀ H e s', CX [] H s₁ (fun _ _ _ => False) e s' → False) :
    codeAny (model P w) callerA (.call (.ref fa) ⟨[.ref a], []⟩) (fun r s' => r = .ok (.ret (.bool true)) ∧ OldK s₁.heap s'.heap ∧ s'.os = s₁.os ∧ AllBare s'.gens) s₁ := by
  have rv := vals_ints hi
  have lenV := hi.length
  -- from an abstract heap in which nothing but the script may be tracked
  have core : ∀ H : Hp, Only H → SqL K H a (ns.map V.int) → HOk P w H s₁.heap → (∀ b, H b ≠ none → b = a) → (H a ≠ none → K.lookup a = none) →
      codeAny (model P w) callerA (.call (.ref fa) ⟨[.ref a], []⟩) (fun r s' => r = .ok (.ret (.bool true)) ∧ OldK s₁.heap s'.heap ∧ s'.os = s₁.os ∧ AllBare s'.gens) s₁ := by
    intro H hO hS hok hA hK
    have base_of : ∀ {b : Addr} {o : Obj}, s₁.heap.get? b = some o → H b = none → (hidT s₁.heap H).get? b = some o := fun e n => hidT_get e n
    have noA : ∀ {b : Addr} {o : Obj} {es : Array DictEntry} {ep : Nat}, s₁.heap.get? b = some o → o.data = .dict es ep → H b = none := fun {b o es ep} e d => by
      cases q : H b with
      | none => rfl
      | some u =>
        have e' : b = a := hA b (by rw [q]; simp)
        subst e'
        rw [ha] at e; cases e
        have d' : Data.seq vs.toArray _ = Data.dict es ep := d
        cases d'
    have nsK : ∀ {b : Addr} {m : Str → Option Value}, s₁.heap.Ns b m → (hidT s₁.heap H).Ns b m := fun {b m} ⟨o, es, ep, e, d, r⟩ => ⟨o, es, ep, base_of e (noA e d), d, r⟩
    have hKb : K.In (hidT s₁.heap H) := fun b o e => base_of (KX b o e) (by
      cases q : H b with
      | none => rfl
      | some u =>
        have e' : b = a := hA b (by rw [q]; simp)
        subst e'
        rw [hK (by rw [q]; simp)] at e; cases e)
    have hM : Mod K mg (hidT s₁.heap H) := ⟨hKb, nsK hns, ⟨mb, nsK hb, hbb⟩, let ⟨mc, h1, h2⟩ := hlim; ⟨mc, nsK h1, h2⟩⟩
    have e0 : Env0 P w K mg (hidT s₁.heap H) callerA [] s₁ H := ⟨rfl, hM, fun b o e => of_hidT e, Nat.le_of_eq (hidT_size _ _), trivial, fun b hb => absurd (show b ∈ ([] : List Addr) from hb) (by simp), hok, .of_eq hg⟩
    refine codeAny_mono ((F _ hKb (nsK hns)).run callerA [] s₁ H ⟨[.ref a], []⟩ [.ref a] [.ref a] _ _ hr e0 (hbind s₁ (.ref a)) (.cons rfl .nil) (hsp H hO hS)) fun r s' h => ?_
    cases r with
    | error e => exact (hCX H e s' h).elim
    | ok fl =>
      cases fl with
      | next => exact False.elim h
      | brk => exact False.elim h
      | cont => exact False.elim h
      | ret u =>
        obtain ⟨v, H', os, bare, un, hok', r', q⟩ := h
        have q' : v = .bl true := q
        subst q'
        obtain rfl : u = Value.bool true := r'
        refine ⟨rfl, OldK.of_keep fun b o e => ?_, os, bare⟩
        cases q : H b with
        | none => exact un.keep b o e q (by intro z; exact absurd (show b ∈ ([] : List Addr) from z) (by simp)) (by simp)
        | some u =>
          rcases hO b with z | ⟨ob, xs, z⟩
          · rw [q] at z; cases z
          · have z2 := un.frzs b ob _ z
            obtain ⟨e1, _⟩ := hok b _ z
            obtain ⟨e2, _⟩ := hok' b _ z2
            rw [e] at e1; cases e1
            exact e2
  cases hk : K.lookup a with
  | some o =>
    -- the script is one of the module's own objects
    have e := KX a o hk
    rw [ha] at e
    cases e
    refine core (fun _ => none) (fun _ => .inl rfl) (.inr ⟨_, vs.toArray, _, hk, rfl, rfl, rfl, by rw [List.size_toArray, lenV]; exact hl, by simpa using rv⟩) (fun b u z => by have z' : (none : Option HO) = some u := z; cases z') (fun b z => absurd rfl z) fun z => absurd rfl z
  | none =>
    refine core (fun b => if b = a then some (.frz { cls := .type "list", data := .seq vs.toArray } (.lst (ns.map V.int))) else none) (fun b => ?_) (.inl (.inr ⟨{ cls := .type "list", data := .seq vs.toArray }, if_pos rfl⟩)) (fun b u z => ?_) (fun b z => ?_) fun _ => hk
    · by_cases hb : b = a
      · exact .inr ⟨_, _, if_pos hb⟩
      · exact .inl (if_neg hb)
    · by_cases hb : b = a
      · have z' := (if_pos hb).symm.trans z
        cases z'
        subst hb
        exact ⟨ha, by rw [List.length_map]; exact hl, vs, _, rv, ha⟩
      · have z' := (if_neg hb).symm.trans z
        cases z'
    · by_cases hb : b = a
      · exact hb
      · exact absurd (if_neg hb) z
end L2

namespace L2
open PySem PySem.Spec PyProof.Rows

abbrev KOf {K : PySem.W.Frag} {h : Heap} (_ : K.In h) : PySem.W.Frag := K

theorem walk_of {l : PySem.W.OpenLaw} {n k : Nat} {q : Program} {loose : List Str} {XP : (Str → Option Value) → Heap → Prop} {YP : World → Heap → Prop} {d : DefRec} {K : Params → PySem.W.Frag} {CX : World → CXT} {sp : World → Sp} {x : Str}
    (hn : l.most = some n) (hn2 : n ≤ sizeLine) (hdf : d.params.defaults = []) (hr : Room k callerA)
    (hY : ∀ (w : World) (h : Heap), YP w h → (K w.params).In h)
    (F : ∀ (w : World) (mg : Str → Option Value) (fa : Addr) (h : Heap), (K w.params).In h → h.Ns mainGlobals mg → mg d.name = some (.ref fa) →
      ∃ fd : FuncData, (∀ (s : Shared) (u : Value), BindsTo s fd ⟨[u], []⟩ [(x, u)]) ∧
        ∀ base : Heap, (K w.params).In base → base.Ns mainGlobals mg → FnOk l.prog w (K w.params) mg base (CX w) k fa fd [x] (sp w))
    (hsp : ∀ (w : World) (H : Hp) (a : Addr) (ns : List Int), ns.length ≤ n → Only H → SqL (K w.params) H a (ns.map V.int) → sp w [.ref a] H (fun v _ => v = .bl true) fun _ _ _ => False)
    (hCX : ∀ (w : World) (H : Hp) (s : Shared) (e : Value) (s' : Shared), CX w [] H s (fun _ _ _ => False) e s' → False) :
    PySem.W.WalkO q loose XP YP l.row.toRowW d [] (fun f vs => PySem.call f vs) := by
  refine Att.attach_call hn hdf fun w s₀ s₁ mg mb fa o pm cd doc a vs ns G Y ho hd hcd hmg hobj hints hlen hg => ?_
  have KX := hY w _ Y
  obtain ⟨fd, hb, hF⟩ := F w mg fa _ KX G.T.g hmg
  exact law_call KX G.T.g G.T.b G.T.builtins G.T.nolimit hg hobj hints (Nat.le_trans hlen hn2) hr hF hb (fun H hO hS => hsp w H a ns hlen hO hS) fun H e s' => hCX w H s₁ e s'
end L2



namespace L2
open PySem PySem.Spec PyProof.Rows

def defArgs (s : Stmt) : Arguments := match s with
  | .FunctionDef _ a _ _ _ _ _ _ _ _ => a
  | _ => { posonlyargs := [], args := [], vararg := none, kwonlyargs := [], kw_defaults := [], kwarg := none, defaults := [] }
def defBody (s : Stmt) : List Stmt := match s with
  | .FunctionDef _ _ b _ _ _ _ _ _ _ => b
  | _ => []
def defScope (s : Stmt) : Scope := match s with
  | .FunctionDef _ _ _ _ _ _ sc _ _ _ => sc
  | _ => { kind := .function, names := [], isGenerator := false, isCoroutine := false }

abbrev CX0 : CXT := fun _ _ _ _ _ _ => False
abbrev E0 : XK := fun _ _ _ => False
theorem pass0 {X : Cx} : Passes CX0 X E0 := fun _ _ _ _ _ _ _ h => h.elim

structure Fun (K : PySem.W.Frag) (x qual : Str) (st : Stmt) (f : Addr) (fd : FuncData) : Prop where
  ex : ∃ (oc : Value) (od : Option Addr) (kV doc pm : Value) (an : Option Addr) (cdv ct : Value) (osl : Array (Option Value)),
    fd = PySem.W.fnOf x qual (defArgs st) (defBody st) (defScope st) .none kV doc pm an cdv ct ∧ K.lookup f = some ⟨oc, od, .func fd, osl⟩ ∧ PySem.W.codeIn K cdv qual = true
  kp : PySem.W.keepIn K (.ref f) = true
section
variable {P : Program} {w : World} {K : PySem.W.Frag} {mg : Str → Option Value} {base : Heap}
theorem Fun.ok {x qual : Str} {st : Stmt} {f : Addr} {fd : FuncData} {N ps : List Str} {k : Nat} {sp : Sp} (F : Fun K x qual st f fd) (S : FnScope N ps (defScope st)) (len : ∀ vs H Q E, sp vs H Q E → vs.length = ps.length)
    (hbody : ∀ (cdv : Value) (A : Around) (outer : List Env) (s : Shared) (H : Hp) (vs : List V) (Q : VK) (E : XK), Room k (A.deeper (envOfC qual (defScope st) s.heap.objs.size f cdv)) → sp vs H Q E →
      ∃ t, PSs (cxOf CX0 P w K mg base N qual (defScope st) f cdv A outer s H E).nox (defBody st) t ∧ t { nx := fun _ H' => Q .non H', rt := Q } (start N vs) H) : FnOk P w K mg base CX0 (k + 1) f fd ps sp := by
  obtain ⟨oc, od, kV, doc, pm, an, cdv, ct, osl, rfl, lk, hcd⟩ := F.ex
  refine fn_of lk hcd S len fun A outer s H vs Q E hr hsp => ?_
  obtain ⟨t, h, q⟩ := hbody cdv A outer s H vs Q E hr hsp
  exact ⟨t, h.nox, q⟩
theorem fun_mk {x qual : Str} {st : Stmt} {f : Addr} {oc : Value} {od an : Option Addr} {osl : Array (Option Value)} {kV doc pm cdv ct : Value} (l : K.lookup f = some ⟨oc, od, .func (PySem.W.fnOf x qual (defArgs st) (defBody st) (defScope st) .none kV doc pm an cdv ct), osl⟩)
    (c : PySem.W.codeIn K cdv qual = true) (k : PySem.W.keepIn K (.ref f) = true) : Fun K x qual st f (PySem.W.fnOf x qual (defArgs st) (defBody st) (defScope st) .none kV doc pm an cdv ct) := ⟨⟨oc, od, kV, doc, pm, an, cdv, ct, osl, rfl, l, c⟩, k⟩
end
section
variable {X : Cx}
theorem pv (i : Nat) {x : Str} {pos : Pos} (hN : X.N[i]? = some x := by rfl) (hv : Vis X.env.scope x := by first | exact Or.inl rfl | exact Or.inr (Or.inl rfl) | exact Or.inr (Or.inr rfl)) (hd : (x == ("__debug__" : Str)) = false := by decide)
    (hcd : (x == ("__classdict__" : Str)) = false := by decide) : PE X (.Name x pos) (tVar i) := pe_var hN hv hd hcd
end

theorem iteF {A B : Prop} (h : B) : if false = true then A else B := by
  rw [if_neg Bool.false_ne_true]
  exact h
theorem iteT {A B : Prop} (h : A) : if true = true then A else B := by
  rw [if_pos rfl]
  exact h
theorem ite2 {c A B : Prop} [Decidable c] (h1 : c → A) (h2 : ¬ c → B) : if c then A else B := by
  by_cases h : c
  · rw [if_pos h]
    exact h1 h
  · rw [if_neg h]
    exact h2 h
theorem iteNS {c A B : Prop} [Decidable c] (hc : c) (h : B) : if (!decide c) = true then A else B := by
  rw [decide_eq_true hc]
  exact iteF h

def Same (H H' : Hp) : Prop := ∀ b o, H b = some o → H' b = some o
theorem Same.refl (H : Hp) : Same H H := fun _ _ h => h
theorem Same.trans {H H1 H2 : Hp} (a : Same H H1) (b : Same H1 H2) : Same H H2 := fun c o h => b c o (a c o h)
theorem Same.seq {K : PySem.W.Frag} {H H' : Hp} {a : Addr} {xs : List V} (e : Same H H') (h : SqL K H a xs) : SqL K H' a xs := by
  rcases h with (h | ⟨o, h⟩) | h
  · exact .inl (.inl (e _ _ h))
  · exact .inl (.inr ⟨o, e _ _ h⟩)
  · exact .inr h

section
variable {prog : Program} {w : World} {A : Around} {R : Result → Shared → Prop} {s : Shared}
theorem comp_loop {elt target iter : Expr} {ifs : List Expr} {scope : Scope} {pos : Pos} {it acc : Value} {env : Env} (I : Nat → Shared → Prop)
    (turn : ∀ n s, I n s → wpAny (model prog w) A (pyNext it) (fun r s1 => match r with
      | none => R (.ok .next) s1
      | some v => wpAny (model prog w) A (letOwnedTupleGo target it v) (fun _ s2 => wpAny (model prog w) A (assign target env v) (fun _ s3 =>
          wpAny (model prog w) A (forIn ifs true fun c r => if r = true then do let ok ← isTrue c env (eval c env); pure (ForInStep.yield ok) else pure (ForInStep.yield r)) (fun ok s4 =>
            if ok = true then wpAny (model prog w) A (eval elt env) (fun x s5 =>
              wpAny (model prog w) A (call (.builtin "list.append") [acc, x]) (fun _ s6 => ∃ m, m < n ∧ I m s6) (notedBy (model prog w) A env fun e s' => R (.error e) s') s5) (notedBy (model prog w) A env fun e s' => R (.error e) s') s4
            else ∃ m, m < n ∧ I m s4) (notedBy (model prog w) A env fun e s' => R (.error e) s') s3) (notedBy (model prog w) A env fun e s' => R (.error e) s') s2) (notedBy (model prog w) A env fun e s' => R (.error e) s') s1)
        (notedBy (model prog w) A env fun e s' => R (.error e) s') s)
    (n : Nat) (h : I n s) :
    codeAny (model prog w) A (.compLoop (.ListComp elt [⟨target, iter, ifs, 0⟩] scope pos) 0 it acc env) R s := by
  refine codeAny_loop rfl I (fun n s hI => ?_) n h
  show wpAny _ A ((compTurn (.ListComp elt [⟨target, iter, ifs, 0⟩] scope pos) 0 it acc env).onRaise (fun x => do noteFrame x env; theTreesLotGoes x)) _ _ s
  refine wpAny_noted ?_
  rw [compTurn_list]
  refine wpAny_bind (wpAny_standAt (wpAny_bind (wpAny_mono (turn n s hI) (fun r s1 h1 => ?_) fun _ _ h' => h')))
  cases r with
  | none => exact wpAny_pure h1
  | some v =>
    refine wpAny_bind (wpAny_mono h1 (fun _ s2 h2 => ?_) fun _ _ h' => h')
    refine wpAny_bind (wpAny_mono h2 (fun _ s3 h3 => wpAny_bind (wpAny_mono h3 (fun ok s4 h4 => ?_) fun _ _ h' => h')) fun _ _ h' => h')
    cases ok with
    | false => exact wpAny_pure ⟨rfl, h4⟩
    | true =>
      exact wpAny_bind (wpAny_bind (wpAny_mono h4 (fun x s5 h5 => wpAny_bind (wpAny_mono h5 (fun _ s6 h6 => wpAny_pure (wpAny_pure ⟨rfl, h6⟩)) fun _ _ h' => h')) fun _ _ h' => h'))
end

def clOf (cells : List (Str × Addr)) : List (Str × NameKind) → List (Str × Addr) → List (Str × Addr)
  | [], acc => acc
  | (n, k) :: r, acc => if k == .free then (match cells.lookup n with
      | some a => clOf cells r ((n, a) :: acc)
      | none => clOf cells r acc) else clOf cells r acc
theorem clos_go {env : Env} : ∀ (names : List (Str × NameKind)) (acc : List (Str × Addr)), (∀ y ∈ names, y.2 = .free → ∃ a, env.cells.lookup y.1 = some a) →
    (forIn names acc fun (x : Str × NameKind) r => (if x.2 == .free then do let a ← cellOf env x.1; pure (ForInStep.yield ((x.1, a) :: r)) else pure (ForInStep.yield r) : Sem (ForInStep (List (Str × Addr))))) = pure (clOf env.cells names acc)
  | [], acc, _ => rfl
  | (n, k) :: r, acc, h => by
    rw [List.forIn_cons]
    have ih := fun acc => clos_go r acc fun y hy => h y (List.mem_cons_of_mem _ hy)
    by_cases hk : k = .free
    · subst hk
      obtain ⟨a, e⟩ := h (n, .free) List.mem_cons_self rfl
      have e : env.cells.lookup n = some a := e
      simp only [beq_self_eq_true, if_true, cellOf, e, clOf, pure_bind]
      exact ih _
    · have hb : (k == NameKind.free) = false := by simpa using hk
      simp only [hb, Bool.false_eq_true, if_false, clOf, pure_bind]
      exact ih _
theorem clos_ok {env : Env} {scope : Scope} (h : ∀ y ∈ scope.names, y.2 = .free → ∃ a, env.cells.lookup y.1 = some a) : closureFor scope env = pure (clOf env.cells scope.names []) := by
  unfold closureFor
  have e := clos_go (env := env) scope.names [] h
  simp only [bind_pure]
  exact e
theorem clOf_sub {cells : List (Str × Addr)} {x : Str} {c : Addr} : ∀ (names : List (Str × NameKind)) (acc : List (Str × Addr)), (∀ y b, (y, b) ∈ acc → cells.lookup y = some b) → (x, c) ∈ clOf cells names acc → cells.lookup x = some c
  | [], acc, ha, hm => ha x c hm
  | (n, k) :: r, acc, ha, hm => by
    unfold clOf at hm
    split at hm
    · split at hm
      · rename_i a e
        refine clOf_sub r _ (fun y b hb => ?_) hm
        rcases List.mem_cons.mp hb with q | q
        · cases q; exact e
        · exact ha y b q
      · exact clOf_sub r _ ha hm
    · exact clOf_sub r _ ha hm
theorem lookup_mem {x : Str} {c : Addr} {l : List (Str × Addr)} (h : l.lookup x = some c) : (x, c) ∈ l := PySem.mem_of_lookup h
theorem clOf_in {cells : List (Str × Addr)} {x : Str} {c : Addr} (hx : cells.lookup x = some c) : ∀ (names : List (Str × NameKind)) (acc : List (Str × Addr)), ((x, NameKind.free) ∈ names ∨ (x, c) ∈ acc) → (x, c) ∈ clOf cells names acc
  | [], acc, hm => by
    rcases hm with q | q
    · exact absurd q (by simp)
    · exact q
  | (n, k) :: r, acc, hm => by
    unfold clOf
    by_cases hk : k = .free
    · subst hk
      simp only [beq_self_eq_true, if_true]
      split
      · rename_i a e
        refine clOf_in hx r _ ?_
        rcases hm with q | q
        · rcases List.mem_cons.mp q with q | q
          · cases q
            rw [hx] at e; cases e
            exact .inr List.mem_cons_self
          · exact .inl q
        · exact .inr (List.mem_cons_of_mem _ q)
      · rename_i e
        refine clOf_in hx r _ ?_
        rcases hm with q | q
        · rcases List.mem_cons.mp q with q | q
          · cases q
            rw [hx] at e; cases e
          · exact .inl q
        · exact .inr q
    · have hb : (k == NameKind.free) = false := by simpa using hk
      simp only [hb, Bool.false_eq_true, if_false]
      refine clOf_in hx r _ ?_
      rcases hm with q | q
      · rcases List.mem_cons.mp q with q | q
        · cases q; exact absurd rfl hk
        · exact .inl q
      · exact .inr q
theorem lookup_of_mem {x : Str} {c : Addr} : ∀ {l : List (Str × Addr)}, (x, c) ∈ l → ∃ d, l.lookup x = some d ∧ (x, d) ∈ l
  | [], h => absurd h (by simp)
  | (y, b) :: r, h => by
    by_cases e : x = y
    · subst e
      exact ⟨b, by simp, List.mem_cons_self⟩
    · rcases List.mem_cons.mp h with q | q
      · cases q; exact absurd rfl e
      · obtain ⟨d, e1, e2⟩ := lookup_of_mem q
        refine ⟨d, ?_, List.mem_cons_of_mem _ e2⟩
        rw [List.lookup_cons]
        have : (x == y) = false := by simpa using e
        rw [this]
        exact e1
theorem clOf_lookup {cells : List (Str × Addr)} {names : List (Str × NameKind)} {x : Str} {c : Addr} (hf : (x, NameKind.free) ∈ names) (hx : cells.lookup x = some c) : (clOf cells names []).lookup x = some c := by
  obtain ⟨d, e1, e2⟩ := lookup_of_mem (clOf_in hx names [] (.inl hf))
  have e3 := clOf_sub names [] (fun _ _ h => absurd h (by simp)) e2
  rw [hx] at e3; cases e3
  exact e1
theorem clOf_back {cells : List (Str × Addr)} {names : List (Str × NameKind)} {x : Str} {c : Addr} (h : (clOf cells names []).lookup x = some c) : cells.lookup x = some c :=
  clOf_sub names [] (fun _ _ h => absurd h (by simp)) (lookup_mem h)
theorem relab_free {env : Env} : ∀ {names : List (Str × NameKind)} {x : Str}, names.lookup x = some .free →
    (names.map fun (n, k) => if (k == NameKind.free && env.scope.kind == .function && env.kindOf n == some .cell) then (n, NameKind.cell) else (n, k)).lookup x = some .cell ∨
    (names.map fun (n, k) => if (k == NameKind.free && env.scope.kind == .function && env.kindOf n == some .cell) then (n, NameKind.cell) else (n, k)).lookup x = some .free
  | [], _, h => by simp at h
  | (n, k) :: r, x, h => by
    have ih := @relab_free env r x
    rw [List.map_cons]
    cases hx : x == n with
    | true =>
      simp only [List.lookup_cons, hx] at h
      cases h
      dsimp only
      by_cases hc : (NameKind.free == NameKind.free && env.scope.kind == .function && env.kindOf n == some .cell) = true
      · rw [if_pos hc]; simp [List.lookup_cons, hx]
      · rw [if_neg hc]; simp [List.lookup_cons, hx]
    | false =>
      simp only [List.lookup_cons, hx] at h
      dsimp only
      by_cases hc : (k == NameKind.free && env.scope.kind == .function && env.kindOf n == some .cell) = true
      · rw [if_pos hc]; simp only [List.lookup_cons, hx]; exact ih h
      · rw [if_neg hc]; simp only [List.lookup_cons, hx]; exact ih h
theorem relab_back {env : Env} : ∀ {names : List (Str × NameKind)} {x : Str}, (∀ y ∈ names, y.2 ≠ .cell) →
    ((names.map fun (n, k) => if (k == NameKind.free && env.scope.kind == .function && env.kindOf n == some .cell) then (n, NameKind.cell) else (n, k)).lookup x = some .cell ∨
    (names.map fun (n, k) => if (k == NameKind.free && env.scope.kind == .function && env.kindOf n == some .cell) then (n, NameKind.cell) else (n, k)).lookup x = some .free) → names.lookup x = some .free
  | [], _, _, h => by simp at h
  | (n, k) :: r, x, hn, h => by
    have ih := @relab_back env r x fun y hy => hn y (List.mem_cons_of_mem _ hy)
    rw [List.map_cons] at h
    dsimp only at h
    have hk : k ≠ .cell := hn (n, k) List.mem_cons_self
    cases hx : x == n with
    | true =>
      by_cases hc : (k == NameKind.free && env.scope.kind == .function && env.kindOf n == some .cell) = true
      · simp only [Bool.and_eq_true, beq_iff_eq] at hc
        obtain ⟨⟨hc, _⟩, _⟩ := hc
        subst hc
        simp only [List.lookup_cons, hx]
      · rw [if_neg hc] at h
        simp only [List.lookup_cons, hx] at h ⊢
        rcases h with h | h
        · cases h; exact absurd rfl hk
        · exact h
    | false =>
      by_cases hc : (k == NameKind.free && env.scope.kind == .function && env.kindOf n == some .cell) = true
      · rw [if_pos hc] at h
        simp only [List.lookup_cons, hx] at h ⊢
        exact ih h
      · rw [if_neg hc] at h
        simp only [List.lookup_cons, hx] at h ⊢
        exact ih h

structure CompSc (scope sc : Scope) (N0 xs ys : List Str) (js : List Nat) : Prop where
  kind : scope.kind = .function
  nocell : ∀ y ∈ scope.names, y.2 ≠ .cell
  loc : ∀ y ∈ scope.names, y.2 = .local → scope.names.lookup y.1 = some .local
  fr : ∀ y ∈ scope.names, y.2 = .free → sc.names.lookup y.1 = some .cell ∨ sc.names.lookup y.1 = some .free
  cap : ys.length = js.length ∧ ∀ p ∈ ys.zip js, N0[p.2]? = some p.1 ∧ scope.names.lookup p.1 = some .free ∧ (p.1, NameKind.free) ∈ scope.names ∧ (sc.names.lookup p.1 = some .cell ∨ sc.names.lookup p.1 = some .free)
def sigC (k : Nat) (js : List Nat) (σ : St) : St := List.replicate k none ++ js.map fun j => (σ[j]?).join
def cxC (X : Cx) (N : List Str) (scope : Scope) (C : Addr) (s2 : Shared) (H2 : Hp) (fp : List Addr) : Cx where
  prog := X.prog
  w := X.w
  K := X.K
  mg := X.mg
  base := X.base
  A := X.A
  N := N
  s₀ := s2
  H₀ := H2
  env := compEnvC scope (clOf X.env.cells scope.names []) C X.env
  outer := X.stack
  stack := X.stack
  ex := fp
  fn := fun _ => false
  calm := X.calm
  pn := []
  xe := fun _ _ => False
section
variable {X : Cx} {pins : List (Addr × Obj)} {σ : St} {H : Hp} {s2 : Shared} {scope sc : Scope} {N0 xs ys : List Str} {js : List Nat} {C D : Addr} {fp : List Addr} {h1 : Heap} {tk : Nat}
theorem fp_stk {b : Addr} (I : Inv X pins σ H s2) (f : FpOk X pins H b) : b ∉ frs X.stack := fun hb => by
  rcases List.mem_cons.mp (I.stkSub b hb) with e | e
  · exact f.2.1 e
  · exact f.2.2.1 e
theorem cxC_ok (I : Inv X pins σ H s2) (CS : CompSc scope sc N0 xs ys js) (hsc : X.env.scope = sc) (hC : s2.heap.objs.size ≤ C) (f : ∀ b ∈ fp, FpOk X pins H b) (fl : ∀ b ∈ fp, b < s2.heap.objs.size) :
    (cxC X (xs ++ ys) scope C s2 H fp).Ok where
  mod := I.ok.mod
  kind := CS.kind
  glob := I.ok.glob
  blt := I.ok.blt
  above := hC
  inj := fun x y c e1 e2 => I.ok.inj x y c (clOf_back e1) (clOf_back e2)
  has := fun x hx => by
    have hx : (relabel scope X.env).names.lookup x = some .cell ∨ (relabel scope X.env).names.lookup x = some .free := hx
    have q := relab_back (env := X.env) CS.nocell hx
    have m := PySem.mem_of_lookup q
    have hk := CS.fr _ m rfl
    rw [← hsc] at hk
    obtain ⟨c, e⟩ := I.ok.has x hk
    exact ⟨c, clOf_lookup m e⟩
  cab := fun x c e _ => by cases e
  hd := I.ok.hd
  frames := I.ok.frames
  stk := .inl rfl
  exf := fun b hb => ⟨Nat.ne_of_lt (Nat.lt_of_lt_of_le (fl b hb) hC), fun x c e => (f b hb).2.2.2.2.1 x c (clOf_back e)⟩
  bs := I.bs
  bsz := Nat.le_trans I.ok.bsz I.sz
  noex := fun b o e hb => by
    rcases (f b hb).2.2.2.1 with q | q
    · exact I.ok.noex b o e q
    · exact absurd (Nat.lt_of_lt_of_le (Heap.lt_size e) (Nat.le_trans I.ok.bsz q)) (Nat.lt_irrefl _)
  exfs := fun b hb => fp_stk I (f b hb)
  funs := I.stack
  frf := I.stkFree
theorem inv_comp {oD : Obj} (I : Inv X pins σ H s2) (CS : CompSc scope sc N0 xs ys js) (hsc : X.env.scope = sc) (hN : X.N = N0) (f : ∀ b ∈ fp, FpOk X pins H b) (fl : ∀ b ∈ fp, b < s2.heap.objs.size)
    (hC : s2.heap.objs.size ≤ C) (hD : s2.heap.objs.size ≤ D) (hDC : D ≠ C) {m : Str → Option Value} (hns : h1.Ns C m) (old : ∀ b o, s2.heap.get? b = some o → h1.get? b = some o) (hacc : h1.get? D = some oD) (hod : ∀ v, oD.data ≠ .cell v) :
    Inv (cxC X (xs ++ ys) scope C s2 H fp) [(D, oD)] (sigC xs.length js σ) H { s2 with heap := h1, toks := tk } where
  ok := cxC_ok I CS hsc hC f fl
  os := rfl
  bare := I.bare
  base := Un.kept old
  loc := by
    refine ⟨m, hns, fun i x v e1 e2 e3 => ?_⟩
    have e1 : (xs ++ ys)[i]? = some x := e1
    have hi : xs.length ≤ i := by
      refine Nat.le_of_not_lt fun q => ?_
      unfold sigC at e2
      rw [List.getElem?_append_left (by simpa using q), List.getElem?_replicate, if_pos q] at e2
      cases e2
    rw [List.getElem?_append_right hi] at e1
    unfold sigC at e2
    rw [List.getElem?_append_right (by simpa using hi), List.length_replicate, List.getElem?_map] at e2
    obtain ⟨j, ej⟩ : ∃ j, js[i - xs.length]? = some j := by
      cases e : js[i - xs.length]? with
      | none => rw [e] at e2; cases e2
      | some j => exact ⟨j, rfl⟩
    rw [ej] at e2
    have e2 : (σ[j]?).join = some v := Option.some.inj e2
    have e2' : σ[j]? = some (some v) := by
      cases e : σ[j]? with
      | none => rw [e] at e2; cases e2
      | some o => rw [e] at e2; exact congrArg some e2
    have hz : (x, j) ∈ ys.zip js := by
      have : (ys.zip js)[i - xs.length]? = some (x, j) := by rw [List.getElem?_zip_eq_some]; exact ⟨e1, ej⟩
      exact List.mem_of_getElem? this
    obtain ⟨c1, c2, c3, c4⟩ := CS.cap.2 _ hz
    have c1 : N0[j]? = some x := c1
    have c4' : X.env.kindOf x = some .cell ∨ X.env.kindOf x = some .free := by
      show X.env.scope.names.lookup x = some .cell ∨ X.env.scope.names.lookup x = some .free
      rw [hsc]; exact c4
    obtain ⟨m0, hn0, hl0⟩ := I.loc
    obtain ⟨u, ru, lu⟩ := hl0 j x v (by rw [hN]; exact c1) e2' (.inr c4')
    refine ⟨u, ru, .inr ⟨?_, ?_⟩⟩
    · exact relab_free c2
    · rcases lu with ⟨k, _⟩ | ⟨_, c, ec, hc⟩
      · rcases c4' with z | z <;> (rw [k] at z; cases z)
      · refine ⟨c, clOf_lookup c3 ec, ?_⟩
        obtain ⟨o, ho, hd⟩ := hc
        exact ⟨o, old _ _ ho, hd⟩
  cell := fun x c e => by
    obtain ⟨v, o, ho, hd⟩ := I.cell x c (clOf_back e)
    exact ⟨v, o, old _ _ ho, hd⟩
  free := I.hok.fresh hC
  freeC := fun x c e => I.freeC x c (clOf_back e)
  pin := fun p hp => by
    have hp : p ∈ ([] : List (Addr × Obj)) ++ [(D, oD)] := hp
    have e : p = (D, oD) := by simpa using hp
    subst e
    refine ⟨hacc, I.hok.fresh hD, hDC, fun hb => ?_, hod⟩
    obtain ⟨_, o, ho, _⟩ := I.stack.mem (show D ∈ frs X.stack from hb)
    exact absurd (Nat.lt_of_lt_of_le (Heap.lt_size ho) hD) (Nat.lt_irrefl _)
  hok := I.hok.kept old
  len := by
    unfold sigC
    show _ = (xs ++ ys).length
    rw [List.length_append, List.length_append, List.length_replicate, List.length_map, CS.cap.1]
end

theorem inv_reset {X : Cx} {pins pp : List (Addr × Obj)} {σ σ' : St} {H H' : Hp} {s2 s' : Shared} {scope sc : Scope} {N0 xs ys : List Str} {js : List Nat} {C : Addr} {fp : List Addr} (I : Inv X pins σ H s2) (CS : CompSc scope sc N0 xs ys js) (hsc : X.env.scope = sc) (hN : X.N = N0)
    (f : ∀ b ∈ fp, FpOk X pins H b) (J : Inv (cxC X (xs ++ ys) scope C s2 H fp) pp σ' H' s') : Inv (cxC X (xs ++ ys) scope C s2 H fp) pp (sigC xs.length js σ) H' s' where
  ok := J.ok
  os := J.os
  bare := J.bare
  base := J.base
  loc := by
    obtain ⟨m, hns, _⟩ := J.loc
    refine ⟨m, hns, fun i x v e1 e2 e3 => ?_⟩
    have e1 : (xs ++ ys)[i]? = some x := e1
    have hi : xs.length ≤ i := by
      refine Nat.le_of_not_lt fun q => ?_
      unfold sigC at e2
      rw [List.getElem?_append_left (by simpa using q), List.getElem?_replicate, if_pos q] at e2
      cases e2
    rw [List.getElem?_append_right hi] at e1
    unfold sigC at e2
    rw [List.getElem?_append_right (by simpa using hi), List.length_replicate, List.getElem?_map] at e2
    obtain ⟨j, ej⟩ : ∃ j, js[i - xs.length]? = some j := by
      cases e : js[i - xs.length]? with
      | none => rw [e] at e2; cases e2
      | some j => exact ⟨j, rfl⟩
    rw [ej] at e2
    have e2 : (σ[j]?).join = some v := Option.some.inj e2
    have e2' : σ[j]? = some (some v) := by
      cases e : σ[j]? with
      | none => rw [e] at e2; cases e2
      | some o => rw [e] at e2; exact congrArg some e2
    have hz : (x, j) ∈ ys.zip js := by
      have : (ys.zip js)[i - xs.length]? = some (x, j) := by rw [List.getElem?_zip_eq_some]; exact ⟨e1, ej⟩
      exact List.mem_of_getElem? this
    obtain ⟨c1, c2, c3, c4⟩ := CS.cap.2 _ hz
    have c1 : N0[j]? = some x := c1
    have c4' : X.env.kindOf x = some .cell ∨ X.env.kindOf x = some .free := by
      show X.env.scope.names.lookup x = some .cell ∨ X.env.scope.names.lookup x = some .free
      rw [hsc]; exact c4
    obtain ⟨m0, hn0, hl0⟩ := I.loc
    obtain ⟨u, ru, lu⟩ := hl0 j x v (by rw [hN]; exact c1) e2' (.inr c4')
    refine ⟨u, ru, .inr ⟨relab_free c2, ?_⟩⟩
    rcases lu with ⟨k, _⟩ | ⟨_, c, ec, hc⟩
    · rcases c4' with z | z <;> (rw [k] at z; cases z)
    · refine ⟨c, clOf_lookup c3 ec, ?_⟩
      obtain ⟨o, ho, hd⟩ := hc
      obtain ⟨sl, e⟩ := J.base.any ho (I.freeC x c ec) fun hb => (f c hb).2.2.2.2.1 x c ec rfl
      exact ⟨_, e, hd⟩
  cell := J.cell
  free := J.free
  freeC := J.freeC
  pin := J.pin
  hok := J.hok
  len := by
    unfold sigC
    show _ = (xs ++ ys).length
    rw [List.length_append, List.length_append, List.length_replicate, List.length_map, CS.cap.1]

def PQ (X : Cx) (ifs : List Expr) (t : TT) : Prop :=
  ∀ (pins : List (Addr × Obj)) (s : Shared) (σ : St) (H : Hp) (Q : Bool → Hp → Prop), Inv X pins σ H s → t σ H Q →
    wpAny (model X.prog X.w) X.A (forIn ifs true fun c r => if r = true then do let ok ← isTrue c X.env (eval c X.env); pure (ForInStep.yield ok) else pure (ForInStep.yield r)) (TP X pins σ Q) X.xe s
def tAlways : TT := fun _ H Q => Q true H
theorem pq_nil {X : Cx} : PQ X [] tAlways := fun _ _ _ H _ I h => wpAny_tests_nil ⟨H, I, h⟩
theorem pq_one {X : Cx} {c : Expr} {t : TT} (h : PT X c t) : PQ X [c] t := fun pins s σ H Q I hw => wpAny_tests_one (h pins s σ H Q I hw)

def compW (k : Nat) (js : List Nat) (g : TG) (tc : TT) (te : TE) (σ : St) (J : It) (H1 : Hp) (fin : List V → Hp → Prop) : Prop :=
  ∃ W : Nat → Nat → List V → Hp → Prop, (∃ m, W 0 m [] H1) ∧ ∀ i m ys H, W i m ys H →
    (J.stop i H ∧ ys.length ≤ sizeLine ∧ fin ys H) ∨
    (J.go i H ∧ ys.length < sizeLine ∧ ∃ N : List V → Hp → Prop, (∀ ys' H', N ys' H' → ∃ m', m' < m ∧ W (i + 1) m' ys' H') ∧ ∀ x H2, J.yld i H x H2 → g x (sigC k js σ) H2 fun σ2 H3 => tc σ2 H3 fun b H4 =>
      if b = true then te σ2 H4 fun y H5 => N (ys ++ [y]) H5 else N ys H4)
def tComp (k : Nat) (js : List Nat) (wi : TI) (g : TG) (tc : TT) (te : TE) : TE := fun σ H Q => wi σ H fun J H1 => compW k js g tc te σ J H1 fun ys H' => ∀ p, H' p = none → Q (.ref p) (upd H' p (.lst ys))

section
variable {X : Cx} {scope sc : Scope} {N0 xs ys : List Str} {js : List Nat} {elt tg iter : Expr} {ifs : List Expr} {pos : Pos} {wi : TI} {g : TG} {tc : TT} {te : TE}
theorem lst_push (its : List Value) (y : Value) : its.toArray.push y = (its ++ [y]).toArray := by simp
theorem comp_block {pins : List (Addr × Obj)} {σ : St} {H : Hp} {s2 : Shared} {it : Addr} {fp : List Addr} {tn : Nat → Heap → Prop} {J : It} {RR : Value → Addr → Result → Shared → Prop} {fin : List V → Hp → Prop} {E : Value → Shared → Prop}
    (CS : CompSc scope sc N0 xs ys js) (hsc : X.env.scope = sc) (hN : X.N = N0) (hc : X.calm = true)
    (I : Inv X pins σ H s2) (T : Turn X.prog X.w X.K tg J fp it tn) (t0 : tn 0 s2.heap) (f : ∀ b ∈ fp, FpOk X pins H b)
    (hg : ∀ C s2 H fp, PG (cxC X (xs ++ ys) scope C s2 H fp) tg g) (hq : ∀ C s2 H fp, PQ (cxC X (xs ++ ys) scope C s2 H fp) ifs tc) (he : ∀ C s2 H fp, PE (cxC X (xs ++ ys) scope C s2 H fp) elt te)
    (hw : compW xs.length js g tc te σ J H fin)
    (hR : ∀ (D C : Addr) (H' : Hp) (vs : List V) (s' : Shared), (∃ m, s'.heap.Ns C m) → Inv X pins σ (upd H' D (.lst vs)) s' → H' D = none → C ≠ D → H' C = none → C ≠ X.env.locals → X.s₀.heap.objs.size ≤ C → (∀ x c, X.env.cells.lookup x = some c → c ≠ C) → (∀ p ∈ X.pn ++ pins, p.1 ≠ C) → fin vs H' →
      RR (.ref D) C (.ok .next) s') :
    wpAny (model X.prog X.w) X.A (newList []) (fun acc s3 => wpAny (model X.prog X.w) X.A (newFunctionEnv scope X.env.globals (clOf X.env.cells scope.names []) [] X.env.qual none .none (some X.env)) (fun cenv s4 =>
      codeAny (model X.prog X.w) X.A (.compStart (.ListComp elt [⟨tg, iter, ifs, 0⟩] scope pos) 0 (.ref it) acc { cenv with scope := relabel scope X.env }) (RR acc cenv.locals) s4) E s3) E s2 := by
  obtain ⟨W, ⟨m0, w0⟩, turn⟩ := hw
  have fl : ∀ b ∈ fp, b < s2.heap.objs.size := fun b hb => by
    obtain ⟨o, e, _⟩ := T.obj 0 _ t0 b hb
    exact Heap.lt_size e
  refine wpAny_newObj_type (wpAny_newFunctionEnv CS.nocell (by intro y hy; simp at hy) (fun h1 hns1 hsb1 => ?_) CS.kind)
  dsimp only at hns1 hsb1 ⊢
  generalize hH2 : s2.heap.push { cls := .type "list", dict := none, data := .seq ([] : List Value).toArray } = H2 at hns1 hsb1 ⊢
  have hC : H2.objs.size = s2.heap.objs.size + 1 := by rw [← hH2, Heap.size_push]
  have hDC : s2.heap.objs.size ≠ H2.objs.size := by rw [hC]; exact Nat.ne_of_lt (Nat.lt_succ_self _)
  have hCle : s2.heap.objs.size ≤ H2.objs.size := by rw [hC]; exact Nat.le_succ _
  have below : ∀ b, b < s2.heap.objs.size → b ≠ H2.objs.size ∧ b ≠ s2.heap.objs.size := fun b hb => ⟨by rw [hC]; exact Nat.ne_of_lt (Nat.lt_succ_of_lt hb), Nat.ne_of_lt hb⟩
  have old : ∀ b o, s2.heap.get? b = some o → h1.get? b = some o := fun b o e => hsb1.extBut b o (below b (Heap.lt_size e)).1 (Heap.get?_push_of_some _ (hH2 ▸ Heap.get?_push_of_some _ e))
  have hacc : h1.get? s2.heap.objs.size = some { cls := .type "list", data := .seq ([] : List Value).toArray 0 } := hsb1.extBut _ _ hDC (Heap.get?_push_of_some _ (hH2 ▸ Heap.get?_push_size _ rfl))
  have t1 : tn 0 h1 := T.keep _ _ _ t0 fun b _ o e => old b o e
  have fC : ∀ {H' : Hp} {oD : Obj}, (∀ b ∈ fp, H' b = none) → ∀ b ∈ fp, FpOk (cxC X (xs ++ ys) scope H2.objs.size s2 H fp) [(s2.heap.objs.size, oD)] H' b := fun {H' oD} hn b hb =>
    ⟨hn b hb, (below b (fl b hb)).1, fp_stk I (f b hb), .inl hb, fun x c e => (f b hb).2.2.2.2.1 x c (clOf_back e), fun p hp => by
      have hp : p ∈ ([] : List (Addr × Obj)) ++ [(s2.heap.objs.size, oD)] := hp
      have e : p = (s2.heap.objs.size, oD) := by simpa using hp
      subst e
      exact Ne.symm (below b (fl b hb)).2⟩
  have loop : ∀ s3 : Shared, s3 = { s2 with heap := h1, toks := s2.toks + ([] : List (Str × Value)).length } →
      codeAny (model X.prog X.w) X.A (.compLoop (.ListComp elt [⟨tg, iter, ifs, 0⟩] scope pos) 0 (.ref it) (.ref s2.heap.objs.size) (compEnvC scope (clOf X.env.cells scope.names []) H2.objs.size X.env))
        (RR (.ref s2.heap.objs.size) H2.objs.size) s3 := by
    rintro s3 rfl
    refine comp_loop (fun k s' => ∃ (i : Nat) (vs : List V) (its : List Value) (n : Nat) (H' : Hp), Inv (cxC X (xs ++ ys) scope H2.objs.size s2 H fp) [(s2.heap.objs.size, { cls := .type "list", data := .seq its.toArray n })] (sigC xs.length js σ) H' s' ∧
      Vals vs its ∧ tn i s'.heap ∧ (∀ b ∈ fp, H' b = none) ∧ W i k vs H') ?_ m0 ⟨0, [], [], 0, H, ?_, .nil, t1, fun b hb => (f b hb).1, w0⟩
    · rintro k s3 ⟨i, vs, its, n, H3, I3, rv, t3, fr3, w3⟩
      have hno : ∀ (e : Value) (s' : Shared), False → notedBy (model X.prog X.w) X.A (compEnvC scope (clOf X.env.cells scope.names []) H2.objs.size X.env) (fun e s' => RR (.ref s2.heap.objs.size) H2.objs.size (.error e) s') e s' := fun _ _ z => z.elim
      rcases turn i k vs H3 w3 with ⟨stop, hz, fn⟩ | ⟨go, hz, N, hN', step⟩
      · refine wpAny_mono (T.done (cxC X (xs ++ ys) scope H2.objs.size s2 H fp) rfl rfl rfl hc i _ s3 _ H3 (fun _ _ => False) I3 (fC fr3) t3 stop) (fun r s4 ⟨hr, I4⟩ => ?_) hno
        subst hr
        have pD := I4.pin (s2.heap.objs.size, _) (List.mem_append_right _ List.mem_cons_self)
        obtain ⟨mC, hnC, _⟩ := I4.loc
        have u4 : Un (frs X.stack) fp H (upd H3 s2.heap.objs.size (.lst vs)) s2.heap s4.heap :=
          ⟨I4.base.keep, I4.base.slot, fun b o e n hb => by rw [upd_ne (below b (Heap.lt_size e)).2]; exact I4.base.free b o e n hb, I4.base.there,
            fun b x e => by rw [upd_ne (below b (I.hok.lt e)).2]; exact I4.base.tups b x e, fun b o x e => by rw [upd_ne (below b (I.hok.lt e)).2]; exact I4.base.frzs b o x e,
            fun b p e => by rw [upd_ne (below b (I.hok.lt e)).2]; exact I4.base.tbls b p e⟩
        have hk4 : HOk X.prog X.w (upd H3 s2.heap.objs.size (.lst vs)) s4.heap := fun b o e => by
          by_cases hb : b = s2.heap.objs.size
          · subst hb
            rw [upd_same] at e
            cases e
            exact ⟨hz, its, n, rv, pD.1⟩
          · rw [upd_ne hb] at e
            exact (I4.hok b o e).stay (fun _ _ _ q => q) (fun c q => by rw [upd_ne (ne_of_none q pD.2.1)]; exact q) fun c x q => by rw [upd_ne (ne_of_none q pD.2.1)]; exact q
        refine hR _ _ H3 vs s4 ⟨mC, hnC⟩ (I.call' I4.os u4 hk4 I4.bare fun b hb => ⟨(f b hb).2.2.2.1, (f b hb).2.1, (f b hb).2.2.2.2.1, (f b hb).2.2.2.2.2⟩) pD.2.1 (Ne.symm hDC) I4.free ?_ ?_ ?_ ?_ fn
        · exact Ne.symm (below _ I.lt).1
        · exact Nat.le_trans I.sz hCle
        · intro x c e
          obtain ⟨v, o, ho, _⟩ := I.cell x c e
          exact (below c (Heap.lt_size ho)).1
        · intro p hp
          exact (below p.1 (Heap.lt_size (I.pin p hp).1)).1
      · refine wpAny_mono (T.item (cxC X (xs ++ ys) scope H2.objs.size s2 H fp) rfl rfl rfl hc i _ s3 _ H3 (fun _ _ => False) I3 (fC fr3) t3 go) (fun r s4 ⟨u, hr, h4⟩ => ?_) hno
        subst hr
        refine wpAny_mono h4 (fun _ s5 ⟨x, H5, I5, r5, y5, t5, fr5⟩ => ?_) hno
        have I5' := I5.pinned (fC fr5) (T.obj _ _ t5)
        refine wpAny_mono (hg H2.objs.size s2 H fp _ s5 _ H5 x u _ I5' r5 (step x H5 y5)) (fun _ s6 ⟨σ6, H6, I6, q6⟩ => ?_) hno
        refine wpAny_mono (hq H2.objs.size s2 H fp _ s6 σ6 H6 _ I6 q6) (fun b s7 ⟨H7, I7, q7⟩ => ?_) hno
        have keepI : ∀ {σ' : St} {H' : Hp} {s' : Shared}, Inv (cxC X (xs ++ ys) scope H2.objs.size s2 H fp) ([(s2.heap.objs.size, { cls := .type "list", data := .seq its.toArray n })] ++ pinsAt fp s5.heap) σ' H' s' → tn (i + 1) s'.heap ∧ ∀ b ∈ fp, H' b = none := fun {σ' H' s'} J' =>
          ⟨T.keep _ _ _ t5 fun b hb o e => (J'.pin (b, o) (List.mem_append_right _ (List.mem_append_right _ (mem_pinsAt hb e)))).1, fun b hb => by
            obtain ⟨o, e, d⟩ := T.obj _ _ t5 b hb
            exact (J'.pin (b, o) (List.mem_append_right _ (List.mem_append_right _ (mem_pinsAt hb e)))).2.1⟩
        cases b with
        | false =>
          obtain ⟨m', hm, w7⟩ := hN' _ _ q7
          exact ⟨m', hm, i + 1, vs, its, n, H7, inv_reset I CS hsc hN f I7.unpinned, rv, (keepI I7).1, (keepI I7).2, w7⟩
        | true =>
          refine wpAny_mono (he H2.objs.size s2 H fp _ s7 σ6 H7 _ I7 q7) (fun y s8 ⟨yv, H8, I8, r8, n8⟩ => ?_) hno
          obtain ⟨m', hm, w8⟩ := hN' _ _ n8
          have pD := I8.pin (s2.heap.objs.size, _) (List.mem_append_right _ (List.mem_append_left _ List.mem_cons_self))
          refine append_at (hsz := by show its.toArray.size ≤ sizeLine; rw [List.size_toArray, ← rv.length]; exact Nat.le_of_lt hz) pD.1 fun h9 hs9 hD9 => ?_
          have hD9' : h9.get? s2.heap.objs.size = some { cls := .type "list", data := .seq (its ++ [y]).toArray (n + 1) } := by rw [hD9, lst_push]
          have J8 := inv_reset I CS hsc hN f I8.unpinned
          have hDf : s2.heap.objs.size ∉ fp := fun hb => Nat.lt_irrefl _ (fl _ hb)
          refine ⟨m', hm, i + 1, vs ++ [yv], its ++ [y], n + 1, H8, ?_, rv.append (.cons r8 .nil), T.keep _ _ _ (keepI I8).1 fun b hb o e => hs9.extBut b o (fun q => hDf (q ▸ hb)) e, (keepI I8).2, w8⟩
          -- the accumulator is another object now
          have J9 : Inv (cxC X (xs ++ ys) scope H2.objs.size s2 H fp) [] (sigC xs.length js σ) H8 s8 := J8.pins_of fun p hp => absurd hp (by simp)
          have J9' : Inv (cxC X (xs ++ ys) scope H2.objs.size s2 H fp) [] (sigC xs.length js σ) H8 { s8 with heap := h9, toks := s8.toks } := J9.turned (it := s2.heap.objs.size) (fun b o hb e => hs9.extBut b o hb e) pD.2.1 hDC (.inr (Nat.le_refl _))
            (fun x c e z => by
              obtain ⟨v, o, ho, _⟩ := I.cell x c (clOf_back e)
              exact (below c (Heap.lt_size ho)).2 z) (fun p hp => absurd (show p ∈ ([] : List (Addr × Obj)) ++ [] from hp) (by simp))
          refine J9'.pins_of fun p hp => ?_
          have e : p = (s2.heap.objs.size, { cls := .type "list", data := .seq (its ++ [y]).toArray (n + 1) }) := by simpa using hp
          subst e
          exact ⟨hD9', pD.2.1, hDC, pD.2.2.2.1, fun v z => by cases z⟩
    · exact inv_comp (fp := fp) I CS hsc hN f fl hCle (Nat.le_refl _) hDC hns1 old hacc (fun v z => by cases z)
  exact codeAny_compStart_list (loop _ rfl) (T.self X.A 0 _ _ _ t1 (loop _ rfl))

theorem comp_clos (ok : X.Ok) (CS : CompSc scope sc N0 xs ys js) (hsc : X.env.scope = sc) : closureFor scope X.env = pure (clOf X.env.cells scope.names []) := clos_ok fun y hy e => by
  have h := CS.fr y hy e
  rw [← hsc] at h
  exact ok.has y.1 h
theorem inv_gone {pins : List (Addr × Obj)} {σ : St} {H : Hp} {s : Shared} {C : Addr} {h' : Heap} (I : Inv X pins σ H s) (hn : H C = none) (hL : C ≠ X.env.locals) (h0 : X.s₀.heap.objs.size ≤ C) (hcl : ∀ x c, X.env.cells.lookup x = some c → c ≠ C) (hp : ∀ p ∈ X.pn ++ pins, p.1 ≠ C)
    (hs : Heap.SameBut C s.heap h') : Inv X pins σ H { s with heap := h' } := I.turned (t' := s.toks) (it := C) (fun b o hb e => hs.extBut b o hb e) hn hL (.inr h0) hcl hp
theorem pe_comp (CS : CompSc scope sc N0 xs ys js) (hc : X.calm = true) (hi : PI X tg iter wi) (hg : ∀ C s2 H fp, PG (cxC X (xs ++ ys) scope C s2 H fp) tg g) (hq : ∀ C s2 H fp, PQ (cxC X (xs ++ ys) scope C s2 H fp) ifs tc)
    (he : ∀ C s2 H fp, PE (cxC X (xs ++ ys) scope C s2 H fp) elt te) (hsc : X.env.scope = sc := by rfl) (hN : X.N = N0 := by rfl) (hs : ∀ x, foldedSetIterable iter X.env x = pure x := by intro _; rfl) :
    PE X (.ListComp elt [⟨tg, iter, ifs, 0⟩] scope pos) (tComp xs.length js wi g tc te) := by
  intro pins s σ H Q I h
  rw [eval_ListComp]
  refine wpAny_comprehension_free (use := none) rfl hs (comp_clos I.ok CS hsc) CS.kind CS.loc (thn (hi pins s σ H _ I h) fun v s1 h1 => thn h1 fun itv s2 h2 => ?_)
  obtain ⟨it, fp, tn, J, H2, e, I2, T, t2, f2, hw⟩ := h2
  subst e
  refine comp_block (RR := fun acc C => compPost (model X.prog X.w) X.A X.xe none (EP X pins σ Q) acc C) CS hsc hN hc I2 T t2 f2 hg hq he hw ?_
  intro D C H' vs s' hm I' hD hCD hC hL h0 hcl hp fn
  obtain ⟨m, hm⟩ := hm
  refine ⟨m, hm, fun h' hs' => ⟨.ref D, _, inv_gone I' (by rw [upd_ne hCD]; exact hC) hL h0 hcl hp hs', rfl, fn D hD⟩⟩
theorem ps_setComp {i : Nat} {y : Str} {py spos : Pos} (CS : CompSc scope sc N0 xs ys js) (hc : X.calm = true) (hNd : X.N.Nodup) (hiy : X.N[i]? = some y) (hy : X.env.scope.names.lookup y = some .local)
    (hi : PI X tg iter wi) (hg : ∀ C s2 H fp, PG (cxC X (xs ++ ys) scope C s2 H fp) tg g) (hq : ∀ C s2 H fp, PQ (cxC X (xs ++ ys) scope C s2 H fp) ifs tc)
    (he : ∀ C s2 H fp, PE (cxC X (xs ++ ys) scope C s2 H fp) elt te) (hsc : X.env.scope = sc := by rfl) (hN : X.N = N0 := by rfl) (hs : ∀ x, foldedSetIterable iter X.env x = pure x := by intro _; rfl)
    (hsw : swapsWith (.ListComp elt [⟨tg, iter, ifs, 0⟩] scope pos) (some (.Name y py)) spos.line X.env = pure true := by rfl) :
    PS X (.Assign [.Name y py] (.ListComp elt [⟨tg, iter, ifs, 0⟩] scope pos) spos) (tAsg (tComp xs.length js wi g tc te) (gName i)) := by
  intro pins s σ H Dn I h
  rw [exec_Assign_Name_used _ _ _ _ hsw]
  refine wpAny_bind (wpAny_standAt (wpAny_bind ?_))
  show wpAny _ X.A (do let _ ← comprehension (.ListComp elt [⟨tg, iter, ifs, 0⟩] scope pos) scope X.env _ (newList []) false (eval iter X.env) (some (assign (.Name y py) X.env))) _ _ s
  refine wpAny_bind (wpAny_mono (wpAny_comprehension_free (use := some (assign (.Name y py) X.env)) (Q := fun _ s' => SP X pins Dn .next s') rfl hs (comp_clos I.ok CS hsc) CS.kind CS.loc
    (thn (hi pins s σ H _ I h) fun v s1 h1 => thn h1 fun itv s2 h2 => ?_)) (fun _ s' hq => wpAny_pure (wpAny_pure hq)) fun _ _ e => e)
  obtain ⟨it, fp, tn, J, H2, e, I2, T, t2, f2, hw⟩ := h2
  subst e
  refine comp_block (RR := fun acc C => compPost (model X.prog X.w) X.A X.xe (some (assign (.Name y py) X.env)) (fun _ s' => SP X pins Dn .next s') acc C) CS hsc hN hc I2 T t2 f2 hg hq he hw ?_
  intro D C H' vs s' hm I' hD hCD hC hL h0 hcl hp fn
  obtain ⟨m, hm⟩ := hm
  show wpAny _ X.A (assign (.Name y py) X.env (.ref D)) _ _ _
  refine wpAny_assign_Name (store_ok2 (v := .ref D) I' hNd hiy (.inl hy) rfl (fun s2 I2 hch => ?_) (.inr hy))
  obtain ⟨a, sb, ha⟩ := hch
  have hCa : C ≠ a := by
    rcases ha with ha | ha
    · rw [ha]; exact hL
    · exact fun z => hcl y a ha z.symm
  refine ⟨m, hm.sameBut sb hCa, fun h' hs' => ?_⟩
  exact ⟨_, _, inv_gone I2 (by rw [upd_ne hCD]; exact hC) hL h0 hcl hp hs', fn D hD⟩
end
section
variable {k : Nat} {js : List Nat} {g : TG} {tc : TT} {te : TE} {σ : St} {fin : List V → Hp → Prop} {H : Hp}
theorem comp_range {lo : Int} {n : Nat} (Pv : Nat → List V → Hp → Prop) (h0 : Pv 0 [] H) (hn : n ≤ sizeLine) (hl : ∀ i ys H, Pv i ys H → ys.length ≤ i)
    (hs : ∀ i ys H, i < n → Pv i ys H → g (.int (lo + i)) (sigC k js σ) H fun σ2 H3 => tc σ2 H3 fun b H4 => if b = true then te σ2 H4 fun y H5 => Pv (i + 1) (ys ++ [y]) H5 else Pv (i + 1) ys H4)
    (hd : ∀ ys H, Pv n ys H → fin ys H) : compW k js g tc te σ (Itr lo n) H fin := by
  refine ⟨fun i m ys H => m = n - i ∧ i ≤ n ∧ Pv i ys H, ⟨n, by simp, Nat.zero_le _, h0⟩, ?_⟩
  rintro i m ys H ⟨rfl, hi, p⟩
  have hy := hl i ys H p
  by_cases hlt : i < n
  · refine .inr ⟨hlt, by omega, Pv (i + 1), fun ys' H' p' => ⟨n - (i + 1), by omega, rfl, hlt, p'⟩, fun x H' y => ?_⟩
    obtain ⟨e, y⟩ := y
    subst e y
    exact hs i ys _ hlt p
  · have e : i = n := by omega
    subst e
    exact .inl ⟨Nat.le_refl _, by omega, hd ys H p⟩
theorem comp_list {K : PySem.W.Frag} {a : Addr} {xs : List V} (Pv : Nat → List V → Hp → Prop) (h0 : Pv 0 [] H) (hn : xs.length ≤ sizeLine) (hl : ∀ i ys H, Pv i ys H → ys.length ≤ i) (hq : ∀ i ys H, i ≤ xs.length → Pv i ys H → SqL K H a xs)
    (hs : ∀ i x ys H, xs[i]? = some x → Pv i ys H → g x (sigC k js σ) H fun σ2 H3 => tc σ2 H3 fun b H4 => if b = true then te σ2 H4 fun y H5 => Pv (i + 1) (ys ++ [y]) H5 else Pv (i + 1) ys H4)
    (hd : ∀ ys H, Pv xs.length ys H → fin ys H) : compW k js g tc te σ (Itl K a) H fin := by
  refine ⟨fun i m ys H => m = xs.length - i ∧ i ≤ xs.length ∧ Pv i ys H, ⟨xs.length, by simp, Nat.zero_le _, h0⟩, ?_⟩
  rintro i m ys H ⟨rfl, hi, p⟩
  have hy := hl i ys H p
  have q := hq i ys H hi p
  by_cases hlt : i < xs.length
  · refine .inr ⟨⟨xs, xs[i], q, by simp [hlt]⟩, by omega, Pv (i + 1), fun ys' H' p' => ⟨xs.length - (i + 1), by omega, rfl, hlt, p'⟩, fun x H' y => ?_⟩
    obtain ⟨e, y⟩ := y
    subst e
    exact hs i x ys _ (y xs q) p
  · have e : i = xs.length := by omega
    subst e
    exact .inl ⟨⟨xs, q, Nat.le_refl _⟩, by omega, hd ys H p⟩
end
def CDivB (i j : Int) : Prop := 0 < j ∧ j < 10000000000000000000000000000000000000000
theorem cdivB_no {i j : Int} (h : CDivB i j) : Builtin.divisionGoesByPylong i j = false := by
  obtain ⟨h1, h2⟩ := h
  refine PyProof.noPylong_of_log2 ?_
  have h0 : j.natAbs ≠ 0 := by omega
  have h3 : j.natAbs < 2 ^ 200 := by
    have e : (2 : Nat) ^ 200 = 1606938044258990275541962092341162602522202993782792835301376 := by decide
    rw [e]
    omega
  have := (Nat.log2_lt h0).mpr h3
  omega
section
variable {X : Cx}
theorem op_fdivB : OpR X (binaryOp .FloorDiv) (rI CDivB fun i j => .int (i / j)) := opI fun i j _ _ _ _ _ hc q => by
  have h1 : (0 : Int) < j := hc.1
  exact floordiv_int (by omega) (by rw [Int.fdiv_eq_ediv_of_nonneg i (by omega)]; exact q) (.inl (cdivB_no hc))
def clsV : V → Option Value
  | .ty n => some (.type n)
  | .ref C => some (.ref C)
  | _ => none
theorem clsV_rel {c : V} {cv u : Value} (h : clsV c = some cv) (r : RelV c u) : u = cv := by
  cases c with
  | ty n => cases h; exact r
  | ref C => cases h; exact r
  | _ => cases h
theorem call_isinst : CallR X (.builtin "isinstance") (fun xs H Q => ∃ x c t cv b, xs = [x, c] ∧ clsV c = some cv ∧ TyOf X.K H x t ∧ PySem.W.kitOne X.K t cv = some b ∧ Q (.bl b) H) := by
  intro pins s σ H xs us Q I r h
  obtain ⟨x, c, t, cv, b, rfl, hc, ht, hk, q⟩ := h
  obtain ⟨u, w', rfl, rx, rc⟩ := vals2 r
  have e := clsV_rel hc rc
  subst e
  exact isinst_ok I rx ht hk fun tk => ⟨.bl b, H, I.tok _, rfl, q⟩
theorem kit_same {K : PySem.W.Frag} {n : String} : PySem.W.kitOne K (.type n) (.type n) = some true := by
  unfold PySem.W.kitOne
  rw [if_pos (beq_self_eq_true _)]
theorem kit_ty {K : PySem.W.Frag} {a c : String} {b : Bool} (h1 : (Value.type a == Value.type c) = false) (h2 : PySem.W.kitMeta c = true) (h3 : (fastBuiltinMro a).map (·.contains (Value.type c)) = some b) :
    PySem.W.kitOne K (.type a) (.type c) = some b := by
  unfold PySem.W.kitOne
  rw [if_neg (by rw [h1]; exact Bool.false_ne_true)]
  show (if PySem.W.kitMeta c = true then PySem.W.subIn K (.type a) (.type c) else none) = some b
  rw [if_pos h2]
  exact h3
section
variable {K : PySem.W.Frag}
theorem kit_bool_int : PySem.W.kitOne K (.type "bool") (.type "int") = some true := kit_ty (by decide +kernel) (by decide +kernel) (by decide +kernel)
theorem kit_none_int : PySem.W.kitOne K (.type "NoneType") (.type "int") = some false := kit_ty (by decide +kernel) (by decide +kernel) (by decide +kernel)
theorem kit_str_int : PySem.W.kitOne K (.type "str") (.type "int") = some false := kit_ty (by decide +kernel) (by decide +kernel) (by decide +kernel)
theorem kit_list_int : PySem.W.kitOne K (.type "list") (.type "int") = some false := kit_ty (by decide +kernel) (by decide +kernel) (by decide +kernel)
theorem kit_tuple_int : PySem.W.kitOne K (.type "tuple") (.type "int") = some false := kit_ty (by decide +kernel) (by decide +kernel) (by decide +kernel)
theorem kit_dict_int : PySem.W.kitOne K (.type "dict") (.type "int") = some false := kit_ty (by decide +kernel) (by decide +kernel) (by decide +kernel)
theorem kit_int_bool : PySem.W.kitOne K (.type "int") (.type "bool") = some false := kit_ty (by decide +kernel) (by decide +kernel) (by decide +kernel)
theorem kit_none_bool : PySem.W.kitOne K (.type "NoneType") (.type "bool") = some false := kit_ty (by decide +kernel) (by decide +kernel) (by decide +kernel)
theorem kit_str_bool : PySem.W.kitOne K (.type "str") (.type "bool") = some false := kit_ty (by decide +kernel) (by decide +kernel) (by decide +kernel)
theorem kit_list_bool : PySem.W.kitOne K (.type "list") (.type "bool") = some false := kit_ty (by decide +kernel) (by decide +kernel) (by decide +kernel)
theorem kit_tuple_bool : PySem.W.kitOne K (.type "tuple") (.type "bool") = some false := kit_ty (by decide +kernel) (by decide +kernel) (by decide +kernel)
theorem kit_dict_bool : PySem.W.kitOne K (.type "dict") (.type "bool") = some false := kit_ty (by decide +kernel) (by decide +kernel) (by decide +kernel)
theorem kit_int_str : PySem.W.kitOne K (.type "int") (.type "str") = some false := kit_ty (by decide +kernel) (by decide +kernel) (by decide +kernel)
theorem kit_bool_str : PySem.W.kitOne K (.type "bool") (.type "str") = some false := kit_ty (by decide +kernel) (by decide +kernel) (by decide +kernel)
theorem kit_none_str : PySem.W.kitOne K (.type "NoneType") (.type "str") = some false := kit_ty (by decide +kernel) (by decide +kernel) (by decide +kernel)
theorem kit_list_str : PySem.W.kitOne K (.type "list") (.type "str") = some false := kit_ty (by decide +kernel) (by decide +kernel) (by decide +kernel)
theorem kit_tuple_str : PySem.W.kitOne K (.type "tuple") (.type "str") = some false := kit_ty (by decide +kernel) (by decide +kernel) (by decide +kernel)
theorem kit_dict_str : PySem.W.kitOne K (.type "dict") (.type "str") = some false := kit_ty (by decide +kernel) (by decide +kernel) (by decide +kernel)
theorem kit_int_tuple : PySem.W.kitOne K (.type "int") (.type "tuple") = some false := kit_ty (by decide +kernel) (by decide +kernel) (by decide +kernel)
theorem kit_bool_tuple : PySem.W.kitOne K (.type "bool") (.type "tuple") = some false := kit_ty (by decide +kernel) (by decide +kernel) (by decide +kernel)
theorem kit_none_tuple : PySem.W.kitOne K (.type "NoneType") (.type "tuple") = some false := kit_ty (by decide +kernel) (by decide +kernel) (by decide +kernel)
theorem kit_list_tuple : PySem.W.kitOne K (.type "list") (.type "tuple") = some false := kit_ty (by decide +kernel) (by decide +kernel) (by decide +kernel)
theorem kit_str_tuple : PySem.W.kitOne K (.type "str") (.type "tuple") = some false := kit_ty (by decide +kernel) (by decide +kernel) (by decide +kernel)
theorem kit_dict_tuple : PySem.W.kitOne K (.type "dict") (.type "tuple") = some false := kit_ty (by decide +kernel) (by decide +kernel) (by decide +kernel)
end
inductive Kd where
  | non | bl | int | str | lst | tup | dct
  deriving DecidableEq
def Kd.nm : Kd → String
  | .non => "NoneType" | .bl => "bool" | .int => "int" | .str => "str" | .lst => "list" | .tup => "tuple" | .dct => "dict"
def KdOf (K : PySem.W.Frag) (H : Hp) (x : V) (k : Kd) : Prop := TyOf K H x (.type k.nm)
def Kd.isA : Kd → Kd → Bool
  | .bl, .int => true
  | a, b => decide (a = b)
theorem kit_kd {K : PySem.W.Frag} {a c : Kd} (hc : c = .int ∨ c = .bl ∨ c = .str ∨ c = .tup) : PySem.W.kitOne K (.type a.nm) (.type c.nm) = some (a.isA c) := by
  rcases hc with rfl | rfl | rfl | rfl
  · cases a <;> first | exact kit_same | exact kit_bool_int | exact kit_none_int | exact kit_str_int | exact kit_list_int | exact kit_tuple_int | exact kit_dict_int
  · cases a <;> first | exact kit_same | exact kit_int_bool | exact kit_none_bool | exact kit_str_bool | exact kit_list_bool | exact kit_tuple_bool | exact kit_dict_bool
  · cases a <;> first | exact kit_same | exact kit_int_str | exact kit_none_str | exact kit_bool_str | exact kit_list_str | exact kit_tuple_str | exact kit_dict_str
  · cases a <;> first | exact kit_same | exact kit_int_tuple | exact kit_none_tuple | exact kit_bool_tuple | exact kit_list_tuple | exact kit_str_tuple | exact kit_dict_tuple
theorem call_isKd (c : Kd) (hc : c = .int ∨ c = .bl ∨ c = .str ∨ c = .tup) : CallR X (.builtin "isinstance") (fun xs H Q => ∃ x k, xs = [x, .ty c.nm] ∧ KdOf X.K H x k ∧ Q (.bl (k.isA c)) H) := by
  intro pins s σ H xs us Q I r h
  obtain ⟨x, k, rfl, hk, q⟩ := h
  exact call_isinst pins s σ H _ us Q I r ⟨x, _, _, _, _, rfl, rfl, hk, kit_kd hc, q⟩
end

section
variable {X : Cx} {tg : Expr}
end

section
variable {κ : Type} [DecidableEq κ]
end


section
variable {P : Program} {w : World} {H : Hp} {h : Heap} {a : Addr}
end

section
variable {X : Cx} {pins : List (Addr × Obj)} {σ : St} {H : Hp} {s : Shared} {a : Addr} {y v : V} {u r : Value} {o : Option V} {A : Around} {E : Value → Shared → Prop}

end

section
variable {X : Cx} {pins : List (Addr × Obj)} {σ : St} {H : Hp} {s : Shared} {a : Addr} {kvs : List (Key × V)} {k : Key} {u : Value} {A : Around} {E : Value → Shared → Prop}
end


section
variable {X : Cx} {o i e value : Expr} {pos pos' tpos : Pos} {td ty tv : TE}
end


section
variable {X : Cx} {pos : Pos}
end

section
variable {X : Cx} {pins : List (Addr × Obj)} {σ : St} {H : Hp} {s : Shared} {a : Addr} {y d : V} {u r : Value} {o : Option V} {A : Around} {E : Value → Shared → Prop}
end

section
variable {X : Cx} {o e f : Expr} {apos cpos : Pos} {td ty tx : TE}
end

section
variable {X : Cx} {pins : List (Addr × Obj)} {σ : St} {H : Hp} {s : Shared} {a : Addr} {kvs : List (Key × V)} {A : Around} {E : Value → Shared → Prop}
end


section
variable {X : Cx} {pins : List (Addr × Obj)} {σ : St} {H : Hp} {s : Shared} {a : Addr} {y : V} {u : Value} {A : Around} {E : Value → Shared → Prop}
end
section
variable {X : Cx}
end
section
variable {κ : Type} [DecidableEq κ]
end
open PySem PySem.Spec PyProof.Rows PySem.SeqAt
mutual
inductive RdD (K : PySem.W.Frag) (H : Hp) : V → PyData → Prop
  | non : RdD K H .non .none
  | bl (b : Bool) : RdD K H (.bl b) (.bool b)
  | int (i : Int) : RdD K H (.int i) (.int i)
  | str (x : Str) : RdD K H (.str x) (.str x)
  | lst {a : Addr} {xs : List V} {ds : List PyData} : SqL K H a xs → RdDs K H xs ds → RdD K H (.ref a) (.list ds)
  | tup {a : Addr} {xs : List V} {ds : List PyData} : SqT K H a xs → RdDs K H xs ds → RdD K H (.ref a) (.tuple ds)
inductive RdDs (K : PySem.W.Frag) (H : Hp) : List V → List PyData → Prop
  | nil : RdDs K H [] []
  | cons {x : V} {d : PyData} {xs : List V} {ds : List PyData} : RdD K H x d → RdDs K H xs ds → RdDs K H (x :: xs) (d :: ds)
end
section
variable {X : Cx} {pins : List (Addr × Obj)} {σ : St} {H : Hp} {s : Shared}
end
section
variable {X : Cx}
end
section
variable {X : Cx}
end
structure FnAt (P : Program) (w : World) (K : PySem.W.Frag) (mg : Str → Option Value) (base : Heap) (x : Str) (k : Nat) (ps : List Str) (sp : Sp) : Prop where
  ex : ∃ (f : Addr) (fd : FuncData), FnOk P w K mg base CX0 k f fd ps sp ∧ mg x = some (.ref f) ∧ PySem.W.keepIn K (.ref f) = true ∧ Binds K fd ps []
theorem pe_fn {X : Cx} {x : Str} {ps : List Str} {sp : Sp} {k j : Nat} {p pos : Pos} {e : Expr} {es : List Expr} {t : TA} (F : FnAt X.prog X.w X.K X.mg X.base x k ps sp) (hr : Room j X.A) (hj : k ≤ j) (hg : Gl X x) (ha : PA X (e :: es) t)
    (hdb : (x == ("__debug__" : Str)) = false := by decide) (he : starEach (e :: es) X.env = (false, eval e X.env) :: starEach es X.env := by rfl) (hpl : (backTo pos (starEach es X.env)).any (·.1) = false := by rfl) :
    PE X (.Call (.Name x p) (e :: es) [] pos) (tCall sp [] E0 t) := by
  obtain ⟨f, fd, G, hm, hk, hb⟩ := F.ex
  exact pe_call G (hr.mono hj) hg hm hk hb .nil pass0 ha hdb he hpl
structure TopFn (K : PySem.W.Frag) (mg : Str → Option Value) (x : Str) (st : Stmt) (ps : List Str) : Prop where
  ex : ∃ (f : Addr) (fd : FuncData), Fun K x x st f fd ∧ mg x = some (.ref f) ∧ ∀ us : List Value, us.length = ps.length → bindArgs fd ⟨us, []⟩ = pure (ps.zip us)
theorem topFn_mk {K : PySem.W.Frag} {mg : Str → Option Value} {h : Heap} {x : Str} {st : Stmt} {ps : List Str} {f : Addr} {oc : Value} {od an : Option Addr} {osl : Array (Option Value)} {kV doc pm cdv ct : Value} (X : K.In h) (G : h.Ns mainGlobals mg)
    (hb : ∀ (kV doc pm : Value) (an : Option Addr) (cdv ct : Value) (us : List Value), us.length = ps.length → bindArgs (PySem.W.fnOf x x (defArgs st) (defBody st) (defScope st) .none kV doc pm an cdv ct) ⟨us, []⟩ = pure (ps.zip us))
    (a : PySem.W.nsIn K mainGlobals x = some (some (.ref f))) (l : K.lookup f = some ⟨oc, od, .func (PySem.W.fnOf x x (defArgs st) (defBody st) (defScope st) .none kV doc pm an cdv ct), osl⟩)
    (c : PySem.W.codeIn K cdv x = true) (k : PySem.W.keepIn K (.ref f) = true) : TopFn K mg x st ps :=
  ⟨f, _, fun_mk l c k, PySem.W.mg_of X G a, fun us => hb kV doc pm an cdv ct us⟩
theorem topFn_of {K : PySem.W.Frag} {mg : Str → Option Value} {h : Heap} {x : Str} {st : Stmt} {ps : List Str} {f : Addr} {oc : Value} {od an : Option Addr} {osl : Array (Option Value)} {kV doc pm cdv ct : Value} (X : K.In h) (G : h.Ns mainGlobals mg)
    (hb : ∀ (kV doc pm : Value) (an : Option Addr) (cdv ct : Value) (us : List Value), us.length = ps.length → bindArgs (PySem.W.fnOf x x (defArgs st) (defBody st) (defScope st) .none kV doc pm an cdv ct) ⟨us, []⟩ = pure (ps.zip us))
    (a : PySem.W.nsIn K mainGlobals x = some (some (.ref f))) (l : K.lookup f = some ⟨oc, od, .func (PySem.W.fnOf x x (defArgs st) (defBody st) (defScope st) .none kV doc pm an cdv ct), osl⟩)
    (c : PySem.W.codeIn K cdv x = true) (k : PySem.W.keepIn K (.ref f) = true) : TopFn (KOf X) mg x st ps := topFn_mk X G hb a l c k
section
variable {P : Program} {w : World} {K : PySem.W.Frag} {mg : Str → Option Value} {base : Heap}
theorem TopFn.at {x : Str} {st : Stmt} {N ps : List Str} {k : Nat} {sp : Sp} (T : TopFn K mg x st ps) (S : FnScope N ps (defScope st)) (len : ∀ vs H Q E, sp vs H Q E → vs.length = ps.length)
    (hbody : ∀ (f : Addr) (cdv : Value) (A : Around) (outer : List Env) (s : Shared) (H : Hp) (vs : List V) (Q : VK) (E : XK), Room k (A.deeper (envOfC x (defScope st) s.heap.objs.size f cdv)) → sp vs H Q E →
      ∃ t, PSs (cxOf CX0 P w K mg base N x (defScope st) f cdv A outer s H E).nox (defBody st) t ∧ t { nx := fun _ H' => Q .non H', rt := Q } (start N vs) H) : FnAt P w K mg base x (k + 1) ps sp := by
  obtain ⟨f, fd, F, hm, hb⟩ := T.ex
  exact ⟨f, fd, F.ok S len fun cdv A outer s H vs Q E hr h => hbody f cdv A outer s H vs Q E hr h, hm, F.kp, .all hb⟩
end
def Box (H : Hp) (b : Addr) : Prop := ∃ x y z : Int, H b = some (.lst [.int x, .int y, .int z])
structure Oth (b : Addr) (H H' : Hp) : Prop where
  box : Box H' b
  oth : ∀ c o, H c = some o → c ≠ b → H' c = some o
theorem Oth.trans {b : Addr} {H H1 H2 : Hp} (a : Oth b H H1) (c : Oth b H1 H2) : Oth b H H2 := ⟨c.box, fun d o h n => c.oth d o (a.oth d o h n) n⟩
theorem Box.ne {H : Hp} {b c : Addr} (h : Box H b) (n : H c = none) : c ≠ b := fun e => by
  subst e
  obtain ⟨x, y, z, q⟩ := h
  rw [q] at n; cases n
theorem Oth.new {b p : Addr} {H H1 : Hp} {o : HO} (a : Oth b H H1) (h : H1 p = none) : Oth b H (upd H1 p o) := by
  have hb := a.box.ne h
  refine ⟨?_, fun c u e n => ?_⟩
  · obtain ⟨x, y, z, q⟩ := a.box
    exact ⟨x, y, z, by rw [upd_ne (Ne.symm hb)]; exact q⟩
  · rw [upd_ne (ne_of_none (a.oth c u e n) h)]
    exact a.oth c u e n
theorem Same.new {H : Hp} {p : Addr} {o : HO} (h : H p = none) : Same H (upd H p o) := fun b u e => by
  rw [upd_ne (ne_of_none e h)]
  exact e
def bigLine : Int := 10000000000000000000000000000000000000000
def spCell (K : PySem.W.Frag) : Sp := fun vs H Q _ => ∃ (a : Addr) (ns : List Int) (k : Nat), vs = [.ref a, .int k] ∧ SqL K H a (ns.map V.int) ∧ ∀ c : Int, Q (.int c) H
def spMixed : Sp := fun vs H Q _ => ∃ a k : Int, vs = [.int a, .int k] ∧ ∀ r : Int, Q (.int r) H
def spBox : Sp := fun vs H Q _ => ∃ c : Int, vs = [.int c] ∧ ∀ (b : Addr) (x y z : Int), H b = none → Q (.ref b) (upd H b (.lst [.int x, .int y, .int z]))
def spTake : Sp := fun vs H Q _ => ∃ (b : Addr) (n : Int), vs = [.ref b, .int n] ∧ Box H b ∧ 0 < n ∧ n < bigLine ∧ ∀ (r : Int) (H' : Hp), 0 ≤ r → r < n → Oth b H H' → Q (.int r) H'
section
variable {X : Cx} {x : Str} {pos : Pos}
end
def spLaw (K : PySem.W.Frag) : Sp := fun vs H Q _ => ∃ (a : Addr) (ns : List Int), vs = [.ref a] ∧ SqL K H a (ns.map V.int) ∧ ns.length ≤ 63 ∧ ∀ H', Q (.bl true) H'
theorem law_len {K : PySem.W.Frag} {x : Str} : ∀ vs H Q E, spLaw K vs H Q E → vs.length = [x].length := fun vs H Q E h => by
  obtain ⟨a, ns, rfl, _⟩ := h
  rfl
theorem law_mk {P : Program} {w : World} {K : PySem.W.Frag} {mg : Str → Option Value} {fa : Addr} {st : Stmt} {x : Str} {N : List Str} {k : Nat} (T : TopFn K mg "law" st [x]) (hfa : mg "law" = some (.ref fa)) (S : FnScope N [x] (defScope st))
    (body : ∀ (base : Heap), K.In base → base.Ns mainGlobals mg → ∀ (f : Addr) (cdv : Value) (A : Around) (outer : List Env) (s : Shared) (H : Hp) (vs : List V) (Q : VK) (E : XK), Room k (A.deeper (envOfC "law" (defScope st) s.heap.objs.size f cdv)) → spLaw K vs H Q E →
      ∃ t, PSs (cxOf CX0 P w K mg base N "law" (defScope st) f cdv A outer s H E).nox (defBody st) t ∧ t { nx := fun _ H' => Q .non H', rt := Q } (start N vs) H) :
    ∃ fd : FuncData, (∀ (s : Shared) (v : Value), BindsTo s fd ⟨[v], []⟩ [(x, v)]) ∧ ∀ base : Heap, K.In base → base.Ns mainGlobals mg → FnOk P w K mg base CX0 (k + 1) fa fd [x] (spLaw K) := by
  obtain ⟨f, fd, F, hm, hb⟩ := T.ex
  rw [hfa] at hm
  cases hm
  exact ⟨fd, fun s v => .of_eq (hb [v] rfl), fun base h1 h2 => F.ok S law_len fun cdv A outer s H vs Q E hr h => body base h1 h2 fa cdv A outer s H vs Q E hr h⟩
theorem law_walk {l : PySem.W.OpenLaw} {q : Program} {loose : List Str} {XP : (Str → Option Value) → Heap → Prop} {YP : World → Heap → Prop} {d : DefRec} {K : Params → PySem.W.Frag} {x : Str} {k : Nat} (hn : l.most = some 63) (hdf : d.params.defaults = []) (hk : Room k callerA)
    (hY : ∀ (w : World) (h : Heap), YP w h → (K w.params).In h)
    (F : ∀ (w : World) (mg : Str → Option Value) (fa : Addr) (h : Heap), (K w.params).In h → h.Ns mainGlobals mg → mg d.name = some (.ref fa) →
      ∃ fd : FuncData, (∀ (s : Shared) (u : Value), BindsTo s fd ⟨[u], []⟩ [(x, u)]) ∧ ∀ base : Heap, (K w.params).In base → base.Ns mainGlobals mg → FnOk l.prog w (K w.params) mg base CX0 k fa fd [x] (spLaw (K w.params))) :
    PySem.W.WalkO q loose XP YP l.row.toRowW d [] (fun f vs => PySem.call f vs) :=
  L2.walk_of (n := 63) (k := k) (x := x) (CX := fun _ => CX0) (sp := fun w => spLaw (K w.params)) hn (by decide) hdf hk hY F (fun _ _ a ns hl _ hS => ⟨a, ns, rfl, hS, hl, fun _ => rfl⟩) fun _ _ _ _ _ z => z
open PySem PySem.Spec PyProof.Rows PySem.W
open Builtin Builtin.ObjectAttr

section
variable {prog : Program} {w : World} {A : Around} {E : Value → Shared → Prop} {K : Frag} {C f : Addr} {R : Result → Shared → Prop} {h : Heap} {g : Array GenState} {d : Drawn} {t : Nat} {os : OsState}
end
section
variable {prog : Program} {w : World} {A : Around} {E : Value → Shared → Prop} {K : Frag} {C e : Addr} {R : Result → Shared → Prop} {h : Heap} {g : Array GenState} {d : Drawn} {t : Nat} {os : OsState}
end
section
variable {prog : Program} {w : World} {A : Around} {E : Value → Shared → Prop} {K : Frag} {C x : Addr} {R : Result → Shared → Prop} {s : Shared}
end
section
variable {prog : Program} {w : World} {A : Around} {E : Value → Shared → Prop} {K : Frag} {C x : Addr} {R : Result → Shared → Prop} {s : Shared} {name : Str}
end
section
variable {X : Cx} {pins : List (Addr × Obj)} {σ : St} {H : Hp} {s : Shared} {A : Around} {E : Value → Shared → Prop}
end
section
variable {X : Cx} {o e value : Expr} {f : Str} {pos pos' tpos : Pos} {ta tv : TE}
end
section
variable {X : Cx} {k : Nat} {f C : Addr} {fd : FuncData} {ps : List Str} {x n : Str} {p pos : Pos} {a : Expr} {t : TA}
end
section
variable {X : Cx}
end
def Plain : V → Prop
  | .non => True | .bl _ => True | .int _ => True | .str _ => True | .ref _ => True
  | _ => False
theorem eqAt_rel {A : Around} {s : Shared} {x : V} {u v : Value} (hp : Plain x) (r1 : RelV x u) (r2 : RelV x v) : SeqAt.EqAt A s u v true := by
  cases x with
  | non => cases r1; cases r2; exact SeqAt.EqAt.same _
  | bl b => cases r1; cases r2; exact SeqAt.EqAt.same _
  | int i =>
    obtain ⟨t, rfl⟩ := r1
    obtain ⟨t', rfl⟩ := r2
    have := SeqAt.EqAt.int_int (A := A) (s := s) i t i t'
    rwa [beq_self_eq_true] at this
  | str z =>
    obtain ⟨t, rfl⟩ := r1
    obtain ⟨t', rfl⟩ := r2
    have := SeqAt.EqAt.str_str (A := A) (s := s) z t z t'
    rwa [beq_self_eq_true] at this
  | ref a => cases r1; cases r2; exact SeqAt.EqAt.same _
  | _ => exact hp.elim
section
variable {X : Cx}
theorem op_eqSame (hu : X.A.units < cLine) : OpR X (compareOp .Eq) (fun x y H Q => ∃ a b xs, x = .ref a ∧ y = .ref b ∧ SqL X.K H a xs ∧ SqL X.K H b xs ∧ (∀ v ∈ xs, Plain v) ∧ Q (.bl true) H) := by
  intro pins s σ H x y v u Q I rx ry h
  obtain ⟨a, b, xs, rfl, rfl, ha, hb, hp, q⟩ := h
  cases rx
  cases ry
  obtain ⟨its, rv, pl, _⟩ := I.list ha
  obtain ⟨its', rv', pl', _⟩ := I.list hb
  have l1 := rv.length
  have l2 := rv'.length
  refine SeqAt.eq_listAt (e := fun _ => true) pl.isList pl'.isList (by simp; omega) hu (fun j h1 h2 => ?_) (fin_bl I q (by simp))
  have hj : j < xs.length := by simp at h1; omega
  have e1 : xs[j]? = some xs[j] := by simp [hj]
  obtain ⟨u1, q1, r1⟩ := rv.get e1
  obtain ⟨u2, q2, r2⟩ := rv'.get e1
  have z1 : its.toArray[j] = u1 := by simpa [List.getElem?_eq_some_iff] using (List.getElem?_eq_some_iff.mp q1).2
  have z2 : its'.toArray[j] = u2 := by simpa [List.getElem?_eq_some_iff] using (List.getElem?_eq_some_iff.mp q2).2
  rw [z1, z2]
  exact eqAt_rel (hp _ (List.getElem_mem hj)) r1 r2
end
end L2
namespace L2
open PySem PySem.Spec PyProof.Rows
section
variable {M : Model} {A : Around} {E : Value → Shared → Prop} {s : Shared} {base : Heap} {env : Env} {outer : List Env} {L e : Addr} {oe : Obj} {vs : Array Value} {Q : Unit → Shared → Prop}
end
section
variable {X : Cx} {pins : List (Addr × Obj)} {σ : St} {H : Hp} {s : Shared}
end
section
variable {P : Program} {w : World} {K : PySem.W.Frag} {mg : Str → Option Value} {base : Heap} {N : List Str} {qual : Str} {scope : Scope} {f : Addr} {cdv : Value} {A : Around} {outer : List Env} {s₀ : Shared} {H₀ : Hp} {E : XK} {pins : List (Addr × Obj)} {σ : St} {H : Hp} {s : Shared}
end
section
variable {M : Model} {A : Around} {E : Value → Shared → Prop} {s : Shared} {env : Env}
end
section
variable {X : Cx} {E : XK} {e : Expr} {te : TE} {pos : Pos}
end
section
variable {P : Program} {w : World} {K : PySem.W.Frag} {mg : Str → Option Value} {base : Heap}
variable {N : List Str} {qual : Str} {scope : Scope} {f : Addr} {cdv : Value} {A : Around} {outer : List Env} {s₀ : Shared} {H₀ : Hp} {E E1 : XK}
end
section
variable {X : Cx} {pins : List (Addr × Obj)} {σ : St} {H : Hp} {s s' : Shared} {M : Model} {A : Around} {E : Value → Shared → Prop}
end
abbrev Cx.hdl (X : Cx) (a : Addr) : Cx := { X with A := X.A.mark (some (.ref a)), calm := false, xe := fun _ _ => False }
abbrev Cx.tr (X : Cx) (pn : List (Addr × Obj)) (E' : Value → Shared → Prop) : Cx := { X with pn := pn, xe := E' }
section
variable {X : Cx} {pins : List (Addr × Obj)} {σ : St} {H : Hp} {s : Shared} {a : Addr} {E' : Value → Shared → Prop}
end
section
variable {X : Cx}
end
section
variable {X : Cx}
end
section
variable {X : Cx}
theorem op_neNil (hu : X.A.units < cLine) : OpR X (compareOp .NotEq) (fun x y H Q => ∃ a b xs, x = .ref a ∧ y = .ref b ∧ SqL X.K H a xs ∧ SqL X.K H b [] ∧ Q (.bl (!xs.isEmpty)) H) := by
  intro pins s σ H x y v u Q I rx ry h
  obtain ⟨a, b, xs, rfl, rfl, ha, hb, q⟩ := h
  cases rx
  cases ry
  obtain ⟨its, rv, pl, _⟩ := I.list ha
  obtain ⟨its', rv', pl', _⟩ := I.list hb
  have l1 := rv.length
  cases rv'
  cases xs with
  | nil =>
    cases rv
    exact SeqAt.RcNeAt.lists (e := fun _ => true) pl.isList pl'.isList rfl hu (fun j h1 h2 => absurd h2 (by simp)) _ _ _ _ (fin_bl I q (by simp))
  | cons x r =>
    exact SeqAt.RcNeAt.lists_lengths pl.isList pl'.isList (by simp at l1; simp [← l1]) hu _ _ _ _ (fin_bl I q (by simp))
end
section
variable {X : Cx}
end
section
variable {X : Cx} {pins : List (Addr × Obj)} {σ : St} {H : Hp} {s : Shared}
end
section
variable {X : Cx} {C : Addr} {x m : Str} {p pos apos : Pos} {o : Expr} {ta : TE}
end
end L2
namespace PySem
namespace SeqAt
open AutoSeq1 (wpAny_loadPart')
open PySem.Spec PyProof.Rows
end SeqAt
end PySem
namespace L2
open PySem PySem.Spec PyProof.Rows
section
variable {X : Cx}
end
section
variable {P : Program} {w : World} {K : PySem.W.Frag} {mg : Str → Option Value} {base : Heap}
end
section
variable {X : Cx}
end
end L2
namespace L2
open PySem PySem.Spec PyProof.Rows
section
variable {X : Cx}
end
open Builtin.SmallTypes (nextOf)
section
variable {P : Program} {w : World}
end
open Builtin.SmallTypes (nextOf ownedTupleIsFree ownedTupleHandOut)
section
variable {P : Program} {w : World} {A : Around} {E : Value → Shared → Prop} {s : Shared} {z TI TO i1 i2 l1 l2 : Addr} {us vs : Array Value} {S1 S2 : Nat → Heap → Prop}
end
end L2
namespace L2
open PySem PySem.Spec PyProof.Rows
section
variable {X : Cx}
end
section
variable {X : Cx} {k : Nat} {f C : Addr} {fd : FuncData} {ps : List Str} {sp : Sp} {dvs : List V} {ds : List Value} {E : XK} {x m : Str} {p pos apos : Pos} {e : Expr} {es : List Expr} {t : TA} {RX : St → Addr → Hp → Prop}
end
section
variable {P : Program} {w : World} {K : PySem.W.Frag} {mg : Str → Option Value} {base : Heap}
end
end L2
namespace PySem
open Sem (wp)
open Builtin
end PySem
namespace L2
open PySem PySem.Spec PyProof.Rows
section
variable {P : Program} {w : World} {K : PySem.W.Frag} {mg : Str → Option Value} {base : Heap}
end
theorem op_eqNil {X : Cx} (hu : X.A.units < cLine) : OpR X (compareOp .Eq) (fun x y H Q => ∃ a b xs, x = .ref a ∧ y = .ref b ∧ SqL X.K H a xs ∧ SqL X.K H b [] ∧ Q (.bl xs.isEmpty) H) := by
  intro pins s σ H x y v u Q I rx ry h
  obtain ⟨a, b, xs, rfl, rfl, ha, hb, q⟩ := h
  cases rx
  cases ry
  obtain ⟨its, rv, pl, _⟩ := I.list ha
  obtain ⟨its', rv', pl', _⟩ := I.list hb
  have l1 := rv.length
  cases rv'
  cases xs with
  | nil =>
    cases rv
    exact SeqAt.RcAt.lists (e := fun _ => true) pl.isList pl'.isList rfl hu (fun j h1 h2 => absurd h2 (by simp)) _ _ _ _ (fin_bl I q (by simp))
  | cons x r => exact SeqAt.RcAt.lists_lengths pl.isList pl'.isList (by simp at l1; simp [← l1]) hu _ _ _ _ (fin_bl I q (by simp))
section
variable {X : Cx} {pins : List (Addr × Obj)} {σ : St} {H : Hp} {s : Shared}
end
section
variable {X : Cx}
end
section
variable {P : Program} {w : World} {A : Around} {E : Value → Shared → Prop} {s : Shared} {it d : Addr} {ob : Obj} {es : Array DictEntry} {ep i : Nat}
end
section
variable {X : Cx} {pins : List (Addr × Obj)} {σ : St} {H : Hp} {s : Shared} {a : Addr} {kvs : List (List Key × V)}
end
section
variable {X : Cx}
end
section
variable {X : Cx}
end
end L2
namespace PySem
namespace SeqAt
open AutoSeq1 (wpAny_loadPart')
open PySem.Spec PyProof.Rows
end SeqAt
end PySem
namespace L2
open PySem PySem.Spec PyProof.Rows
section
variable {X : Cx} {pins : List (Addr × Obj)} {σ : St} {H : Hp} {s : Shared}
end
open Classical in
theorem call_isKdK {X : Cx} (K : PySem.W.Frag) (c : Kd) (hc : c = .int ∨ c = .bl ∨ c = .str ∨ c = .tup) (hK : X.K = K := by rfl) : CallR X (.builtin "isinstance") (fun xs H Q => ∃ x k, xs = [x, .ty c.nm] ∧ KdOf K H x k ∧ Q (.bl (k.isA c)) H) := by
  subst hK
  exact call_isKd c hc
section
variable {X : Cx}
end
section
variable {X : Cx}
end
section
variable {prog : Program} {w : World} {A : Around} {R : Result → Shared → Prop} {I : Addr} {fp wr : List Addr} {G : Array GenState → Array GenState → Prop} {n : Nat} {P : Nat → Value → Prop} {St : Nat → Shared → Prop}
end
section
variable {prog : Program} {w : World} {A : Around} {E : Value → Shared → Prop} {s : Shared}
end
section
variable {X : Cx}
end
section
variable {prog : Program} {w : World} {A : Around} {E : Value → Shared → Prop} {s : Shared}
end
section
variable {prog : Program} {w : World} {A : Around} {R : Result → Shared → Prop} {I : Addr} {fp wr : List Addr} {G : Array GenState → Array GenState → Prop} {n : Nat} {P : Nat → Value → Prop} {St : Nat → Shared → Prop}
theorem set_fillG (W : WalksS prog w A.in1 I fp wr G n P St) (S : Addr) (hS : S ∉ fp) (SP : Nat → Heap → Prop) (stay : ∀ i h h', SP i h → (∀ b o, b ∉ wr → h.get? b = some o → h'.get? b = some o) → SP i h')
    (add : ∀ i v (s : Shared) (Q : Bool → Shared → Prop) (E : Value → Shared → Prop), i < n → P i v → SP i s.heap → (∀ h' tk b, s.toks ≤ tk → Heap.SameBut S s.heap h' → SP (i + 1) h' → Q b { s with heap := h', toks := tk }) → wpAny (model prog w) A.in1 (setAdd S v) Q E s) :
    ∀ (k i : Nat) (s : Shared), n - i = k → i ≤ n → St i s → SP i s.heap → (∀ s', Moved (S :: wr) G s s' → SP n s'.heap → R (.ok (.ret .none)) s') →
      codeAny (model prog w) A (.builtin "set.update.loop" ⟨[.ref S, .ref I], []⟩) R s := by
  have up : ∀ b ∈ wr, b ∈ S :: wr := fun b hb => List.mem_cons_of_mem _ hb
  intro k
  induction k with
  | zero =>
    intro i s hk hi hst hs hR
    have : i = n := by omega
    subst this
    refine codeAny_builtin PyProof.Rows.F.entry_set_update_loop ?_
    rw [Around.under_plainId PyProof.Rows.F.plain_set_update_loop _]
    show wpAny _ A.in1 (pyNext (.ref I) >>= _) _ _ s
    refine wpAny_bind (W.done s _ _ hst fun s' hm => ?_)
    show wpAny _ A.in1 (ret Value.none) _ _ s'
    exact wpAny_pure (hR s' (hm.mono up) (stay _ _ _ hs hm.heap))
  | succ k ih =>
    intro i s hk hi hst hs hR
    have hlt : i < n := by omega
    refine codeAny_builtin PyProof.Rows.F.entry_set_update_loop ?_
    rw [Around.under_plainId PyProof.Rows.F.plain_set_update_loop _]
    show wpAny _ A.in1 (pyNext (.ref I) >>= _) _ _ s
    refine wpAny_bind (W.item i s _ _ hlt hst fun v s' hP hst' hm => ?_)
    have hs' := stay _ _ _ hs hm.heap
    show wpAny _ A.in1 (holding [v] (setAdd S v) >>= _) _ _ s'
    refine wpAny_bind (wpAny_holding ?_)
    refine add i v s' _ _ hlt hP hs' fun h' tk b htk hsb hS2 => ?_
    refine wpAny_pure ⟨plainId_quiet PyProof.Rows.F.plain_set_update_loop _, ih (i + 1) _ (by omega) hlt (W.frame _ s' _ _ hst' htk fun b hb o e => ?_) hS2 fun s'' hm'' hS'' => ?_⟩
    · rw [hsb.2 b (fun h : b = S => hS (by rw [← h]; exact hb))]; exact e
    · refine hR s'' (Moved.trans W.gtrans ((hm.mono up).then_heap htk fun b o hb e => ?_) hm'') hS''
      rw [hsb.2 b (fun h : b = S => hb (by rw [h]; exact List.mem_cons_self))]; exact e
end
section
variable {prog : Program} {w : World} {A : Around} {E : Value → Shared → Prop} {s : Shared}
end
section
variable {prog : Program} {w : World} {A : Around} {E : Value → Shared → Prop} {s : Shared}
end
def bt (prog : Program) (w : World) : Bool := (model prog w).w.params.followText "set-order"
structure SetD (prog : Program) (w : World) (o : Obj) (es : Array (Int × Value)) (ep : Nat) (t : SetTable) (ns : List Int) : Prop where
  ex : o.ExactSet
  dat : o.data = .set es ep t
  el : ElemsOf (intKind prog w) es.toList
  pm : (es.toList.map fun e => numOf e.2).Perm ns
  bd : es.size < scanBound
  ft : t.fits es.size = true
  tk : Tk t
  ld : bt prog w = false → t.led = true
def SetI (prog : Program) (w : World) (h : Heap) (a : Addr) (ns : List Int) : Prop := ∃ o es ep t, h.get? a = some o ∧ SetD prog w o es ep t ns
section
variable {prog : Program} {w : World} {A : Around} {E : Value → Shared → Prop} {s : Shared}
theorem int_is {k : Int} {v : Value} (h : (intKind prog w).is k v = true) : ∃ t, v = .int k t := by
  cases v <;> simp [intKind, Value.isInt] at h
  exact ⟨_, by rw [h]⟩
theorem SetD.size {o : Obj} {es : Array (Int × Value)} {ep : Nat} {t : SetTable} {ns : List Int} (d : SetD prog w o es ep t ns) : es.size = ns.length := by
  have := d.pm.length_eq
  rw [List.length_map] at this
  exact this
theorem SetD.mem {o : Obj} {es : Array (Int × Value)} {ep : Nat} {t : SetTable} {ns : List Int} (d : SetD prog w o es ep t ns) (k : Int) : k ∈ ns ↔ ∃ e ∈ es.toList, (intKind prog w).is k e.2 = true := by
  rw [← d.pm.mem_iff, List.mem_map]
  constructor
  · rintro ⟨e, he, rfl⟩
    obtain ⟨⟨k', hk', _⟩, _⟩ := d.el e he
    obtain ⟨t, ht⟩ := int_is hk'
    refine ⟨e, he, ?_⟩
    rw [ht]; exact intKind_is _ _ _ _
  · rintro ⟨e, he, hk⟩
    obtain ⟨t, ht⟩ := int_is hk
    exact ⟨e, he, by rw [ht]; rfl⟩
theorem SetD.store {h : Heap} {a : Addr} {o : Obj} {es es' : Array (Int × Value)} {ep : Nat} {t t' : SetTable} {ns ns' : List Int} (ho : h.get? a = some o) (d : SetD prog w o es ep t ns) (el : ElemsOf (intKind prog w) es'.toList) (pm : (es'.toList.map fun e => numOf e.2).Perm ns')
    (bd : es'.size < scanBound) (ft : t'.fits es'.size = true) (T : Tk t') (ld : t'.led = t.led) : ∃ o', (h.update a (Obj.putSet es' t')).get? a = some o' ∧ SetD prog w o' es' (ep + 1) t' ns' := by
  have hg : (h.update a (Obj.putSet es' t')).get? a = some { o with data := .set es' (ep + 1) t' } := by
    have := Heap.get?_update_self (Obj.putSet es' t') ho (by rw [putSet_of es' t' d.dat]; rfl)
    rw [putSet_of es' t' d.dat] at this; exact this
  exact ⟨_, hg, d.ex, rfl, el, pm, bd, ft, T, fun b => by rw [ld]; exact d.ld b⟩
theorem addI {a : Addr} {ns : List Int} {k : Int} {tk : Tok} {Q : Bool → Shared → Prop} (hS : SetI prog w s.heap a ns) (hroom : ns.length + 1 < scanBound)
    (h : ∀ h' b, Heap.SameBut a s.heap h' → SetI prog w h' a (if k ∈ ns then ns else ns ++ [k]) → Q b { s with heap := h' }) : wpAny (model prog w) A (setAddHashed a (.int k tk) ((intKind prog w).hash k)) Q E s := by
  obtain ⟨o, es, ep, t, ho, d⟩ := hS
  have hkey := intKind_is prog w k tk
  have hz := d.size
  unfold setAddHashed setAddHashedIn
  refine wpAny_holding (wpAny_bind (wpAny_setState_of ho d.dat d.ft ?_))
  dsimp only
  rw [byScan_of (knd := intKind prog w) rfl d.bd d.el]
  simp only [↓reduceIte]
  unfold setAddByScan
  refine wpAny_bind (wpAny_bind (wpAny_rule (wpAny_bind (wpAny_setScan_of hkey ho d.dat d.ft d.el ?_))))
  cases hr : List.findIdx? (fun e => (intKind prog w).is k e.2) es.toList with
  | some j =>
    obtain ⟨hj, hpj, _⟩ := List.findIdx?_eq_some_iff_getElem.mp hr
    have hm : k ∈ ns := (d.mem k).mpr ⟨es.toList[j], List.getElem_mem hj, hpj⟩
    refine wpAny_pure (wpAny_pure ?_)
    have e : s = { s with heap := s.heap } := by cases s; rfl
    have := h s.heap false (Heap.SameBut.refl a s.heap) (by rw [if_pos hm]; exact ⟨o, es, ep, t, ho, d⟩)
    rw [e]; exact this
  | none =>
    have hm : k ∉ ns := fun hm => by
      obtain ⟨e, he, hp⟩ := (d.mem k).mp hm
      have := List.findIdx?_eq_none_iff.mp hr e he
      rw [hp] at this; cases this
    rw [if_neg hm] at h
    dsimp only
    have hperm := layNew_perm t es ((intKind prog w).hash k) (.int k tk)
    have hfits := layNew_fits t es ((intKind prog w).hash k) (.int k tk)
    obtain ⟨hT, hled⟩ := layNew_ok d.tk es ((intKind prog w).hash k) (.int k tk)
    generalize layNew t es ((intKind prog w).hash k) (.int k tk) = L at hperm hfits hT hled ⊢
    obtain ⟨es1, t1, wd, gave⟩ := L
    dsimp only at hperm hfits hT hled ⊢
    rw [Array.toList_push] at hperm
    have hel1 : ElemsOf (intKind prog w) es1.toList := (d.el.push hkey rfl).perm hperm
    have hpm1 : (es1.toList.map fun e => numOf e.2).Perm (ns ++ [k]) := by
      refine (hperm.map _).trans ?_
      rw [List.map_append]
      exact d.pm.append_right _
    have hsz1 : es1.size = ns.length + 1 := by
      have := hpm1.length_eq
      rw [List.length_map, List.length_append] at this
      exact this
    have hb1 : es1.size < scanBound := by omega
    have gw : ∀ (g : Bool) {s₁ : Shared} {Q' : Unit → Shared → Prop}, Q' () s₁ → wpAny (model prog w) A (match g with | true => rule "set.scan.the-table-gave-way" | false => pure ()) Q' E s₁ := fun g s₁ Q' hq => by cases g <;> first | exact wpAny_pure hq | exact wpAny_rule hq
    have fin : ∀ (b : Bool), wpAny (model prog w) A (do
        storeSet a es1 t1
        if (!wd && t1.tooFull) = true then do
            (match (relayAll t1 es1 (SetTable.grown es1.size)).2.2 with | true => rule "set.scan.the-table-gave-way" | false => pure ())
            storeSet a (relayAll t1 es1 (SetTable.grown es1.size)).1 (relayAll t1 es1 (SetTable.grown es1.size)).2.1
            pure (some true)
          else pure (some true)) (fun r s' => wpAny (model prog w) A (match r with | some added => pure added | none => setAddHashedIn a (.int k tk) ((intKind prog w).hash k) 99999) Q E s') E s := by
      intro _
      refine wpAny_bind (wpAny_storeSet_of ho d.dat ?_ (fits_of_scanBound hb1))
      obtain ⟨o1, ho1, d1⟩ := SetD.store (t' := t1) ho d hel1 hpm1 hb1 hfits hT hled
      have sb1 := Heap.SameBut.update s.heap a (Obj.putSet es1 t1)
      split
      · have hp := relayAll_perm t1 es1 (SetTable.grown es1.size)
        have hfr := relayAll_fits t1 es1 (SetTable.grown es1.size)
        obtain ⟨hT2, hl2⟩ := relayAll_ok hT es1 (SetTable.grown es1.size)
        generalize relayAll t1 es1 (SetTable.grown es1.size) = Rl at hp hfr hT2 hl2 ⊢
        obtain ⟨es2, t2, g2⟩ := Rl
        dsimp only at hp hfr hT2 hl2 ⊢
        have hb2 : es2.size < scanBound := by
          have := hp.length_eq
          have e : es2.size = es1.size := this
          omega
        refine wpAny_bind (gw _ ?_)
        refine wpAny_bind (wpAny_storeSet_of ho1 d1.dat ?_ (fits_of_scanBound hb2))
        obtain ⟨o2, ho2, d2⟩ := SetD.store (t' := t2) ho1 d1 (hel1.perm hp) ((hp.map _).trans hpm1) hb2 hfr hT2 hl2
        exact wpAny_pure (wpAny_pure (h _ true (sb1.trans (Heap.SameBut.update _ a _)) ⟨o2, es2, _, t2, ho2, d2⟩))
      · exact wpAny_pure (wpAny_pure (h _ true sb1 ⟨o1, es1, _, t1, ho1, d1⟩))
    refine wpAny_bind (gw _ ?_)
    split
    · refine wpAny_bind ?_
      rw [hashByValue_scannable 8 rfl]
      refine wpAny_pure ?_
      exact fin true
    · refine wpAny_bind (wpAny_pure ?_)
      exact fin true
theorem new_setL (x : Value) {Q₁ : Value → Shared → Prop}
    (h : Q₁ (.ref s.heap.objs.size) { s with heap := s.heap.push { cls := .type "set", dict := none, data := .set #[] 0 (.fresh 0 0 (!bt prog w)) } }) : codeAny (model prog w) A (.call (.builtin "set.__new__") ⟨[.type "set", x], []⟩) (wants Q₁ E) s := by
  refine codeAny_of_tree ?_
  show wpAny _ A.in1 (do checkBuiltinCall "set.__new__" ⟨[.type "set", x], []⟩; again (.builtin "set.__new__" ⟨[.type "set", x], []⟩)) _ _ s
  refine wpAny_bind (wpAny_of_eq (F.newCall_set_1 x) (wpAny_pure ⟨plainId_quiet F.plain_set_new _, codeAny_builtin F.entry_set_new ?_⟩))
  rw [Around.under_plainId F.plain_set_new _]
  unfold Builtin.«set.__new__» Builtin.Frozenset.newClass
  have hsub := sub_set_self
  obtain ⟨hp, g, d, tk, os⟩ := s
  dsimp only
  wp_walk
  refine wpAny_askSetting (wpAny_pure ?_)
  dsimp only
  simp only [newObj]
  refine wpAny_bind (wpAny_alloc (wpAny_pure ?_))
  exact wpAny_pure h
theorem fresh_set {h : Heap} {a : Addr} (e : h.get? a = some { cls := .type "set", dict := none, data := .set #[] 0 (.fresh 0 0 (!bt prog w)) }) : SetI prog w h a [] :=
  ⟨_, #[], 0, _, e, ⟨rfl, rfl, rfl⟩, rfl, (fun e he => by cases he), .refl _, by show 0 < scanBound; decide, rfl, ⟨.nil, rfl⟩, fun b => by show (!bt prog w) = true; rw [b]; rfl⟩
theorem SetI.stay {h h' : Heap} {a : Addr} {ns : List Int} (x : SetI prog w h a ns) (e : ∀ o, h.get? a = some o → h'.get? a = some o) : SetI prog w h' a ns := by
  obtain ⟨o, es, ep, t, ho, d⟩ := x
  exact ⟨o, es, ep, t, e o ho, d⟩
def once : List Int → List Int → List Int
  | acc, [] => acc
  | acc, k :: r => once (if k ∈ acc then acc else acc ++ [k]) r
theorem once_snoc : ∀ (l acc : List Int) (k : Int), once acc (l ++ [k]) = if k ∈ once acc l then once acc l else once acc l ++ [k]
  | [], acc, k => rfl
  | x :: r, acc, k => once_snoc r _ k
theorem once_len : ∀ (l acc : List Int), (once acc l).length ≤ acc.length + l.length
  | [], acc => Nat.le_refl _
  | x :: r, acc => by
    have := once_len r (if x ∈ acc then acc else acc ++ [x])
    show (once _ r).length ≤ _
    rw [List.length_cons]
    split at this
    · rename_i hx; rw [if_pos hx]; omega
    · rename_i hx; rw [if_neg hx]; rw [List.length_append] at this; simp at this; omega
theorem once_nodup : ∀ (l acc : List Int), acc.Nodup → (once acc l).Nodup
  | [], acc, h => h
  | x :: r, acc, h => by
    show (once _ r).Nodup
    split
    · exact once_nodup r acc h
    · rename_i hx
      refine once_nodup r _ ?_
      rw [List.nodup_append]
      refine ⟨h, by simp, fun a ha b hb e => ?_⟩
      rw [List.mem_singleton] at hb
      subst hb; subst e
      exact hx ha
theorem once_mem : ∀ (l acc : List Int) (k : Int), k ∈ once acc l ↔ k ∈ acc ∨ k ∈ l
  | [], acc, k => by simp [once]
  | x :: r, acc, k => by
    show k ∈ once _ r ↔ _
    rw [once_mem r]
    split
    · rename_i hx
      constructor
      · rintro (h | h)
        · exact .inl h
        · exact .inr (List.mem_cons_of_mem _ h)
      · rintro (h | h)
        · exact .inl h
        · rcases List.mem_cons.mp h with rfl | h
          · exact .inl hx
          · exact .inr h
    · rw [List.mem_append, List.mem_singleton, List.mem_cons, or_assoc]
end
section
variable {prog : Program} {w : World} {A : Around} {E : Value → Shared → Prop} {s : Shared}
theorem call_set_ints {l : Addr} {items : Array Value} {ns : List Int} {Q : Value → Shared → Prop} (hh : A.handled = none) (hl : s.heap.IsList l items) (hi : IntsAre items.toList ns) (hb : items.size + 1 < scanBound)
    (h : ∀ (h' : Heap) (tk : Nat), SetI prog w h' s.heap.objs.size (once [] ns) → (∀ b o, b < s.heap.objs.size → s.heap.get? b = some o → h'.get? b = some o) → Q (.ref s.heap.objs.size) { s with heap := h', toks := tk }) :
    wpAny (model prog w) A (call (.type "set") [.ref l]) Q E s := by
  obtain ⟨c, tl, hmro⟩ := F.called_set.mro
  have hmade := F.called_set.made
  have hsub := F.called_set.sub
  refine wpAny_call (codeAny_of_tree ?_)
  show wpAny _ _ (callAny (.type "set") _) _ _ _
  refine wpAny_pure ⟨Code.quiet_builtin _ (by decide +kernel), codeAny_builtin F.entry_type_call ?_⟩
  rw [Around.under_plain (weight_type_call_type "set" [.ref l] []) rfl]
  have h1 := F.called_set.notType
  have h2 := F.called_set.canCreate
  have hct := F.typeCall_set_1 (.ref l)
  repeat (any_goals (first | assumption | wp_step))
  refine codeAny_mono (new_setL (.ref l) (E := E) (Q₁ := fun obj s₁ => obj = .ref s.heap.objs.size ∧ s₁ = { s with heap := s.heap.push { cls := .type "set", dict := none, data := .set #[] 0 (.fresh 0 0 (!bt prog w)) } }) ⟨rfl, rfl⟩) fun r s₁ hr => ?_
  cases r with
  | error e => exact hr
  | ok fl =>
    cases fl with
    | ret obj =>
      obtain ⟨rfl, rfl⟩ := hr
      have hS : (s.heap.push { cls := .type "set", dict := none, data := .set #[] 0 (.fresh 0 0 (!bt prog w)) }).get? s.heap.objs.size = some { cls := .type "set", dict := none, data := .set #[] 0 (.fresh 0 0 (!bt prog w)) } := Heap.get?_push_size _ rfl
      have hT : Shared.TypeIs { s with heap := s.heap.push { cls := .type "set", dict := none, data := .set #[] 0 (.fresh 0 0 (!bt prog w)) } } (.ref s.heap.objs.size) "set" := ⟨_, hS, rfl⟩
      have hli := F.called_set.init.lookup
      have hbi := F.called_set.init.bind (.ref s.heap.objs.size)
      repeat (any_goals (first | assumption | wp_step))
      refine codeAny_mono (codeAny_call_builtin (R := wants (fun r s₂ => r = .none ∧ ∃ h' tk, s₂ = { s with heap := h', toks := tk } ∧ SetI prog w h' s.heap.objs.size (once [] ns) ∧
          (∀ b o, b < s.heap.objs.size → s.heap.get? b = some o → h'.get? b = some o)) E) F.called_set.init.plain F.entry_set_init (check_set_init_1 hT ?_)) fun r₂ s₂ hr₂ => ?_
      · obtain ⟨⟨ocls, odict, odata, oslots⟩, hol, hcl, nl, hdl⟩ := id hl
        simp only at hcl hdl
        subst hcl hdl
        have hol' : (s.heap.push { cls := .type "set", dict := none, data := .set #[] 0 (.fresh 0 0 (!bt prog w)) }).get? l = some { cls := .type "list", dict := odict, data := .seq items nl, slots := oslots } := Heap.get?_push_of_some _ hol
        have hsls := F.sub_list_set
        have hslf := F.sub_list_frozenset
        have hne : (Value.type "list" == Value.type "dict") = false := by decide
        have hl1 : (s.heap.push { cls := .type "set", dict := none, data := .set #[] 0 (.fresh 0 0 (!bt prog w)) }).IsList l items := ⟨_, hol', rfl, nl, rfl⟩
        unfold Builtin.«set.__init__» noKeywords Builtin.Frozenset.updateFrom
        generalize hPI : pyIter = PI
        wp_walk
        subst hPI
        refine wpAny_pyIter_list hl1 ?_
        refine wpAny_bind (wpAny_runValue ?_)
        have hlS : l < s.heap.objs.size := Heap.lt_size hol
        have hh3 : A.in1.in1.in1.handled = none := by simp [hh]
        have szp : (s.heap.push { cls := .type "set", dict := none, data := .set #[] 0 (.fresh 0 0 (!bt prog w)) }).objs.size = s.heap.objs.size + 1 := Heap.size_push _ _
        have hneI : l ≠ (s.heap.push { cls := .type "set", dict := none, data := .set #[] 0 (.fresh 0 0 (!bt prog w)) }).objs.size := by rw [szp]; exact Nat.ne_of_lt (Nat.lt_succ_of_lt hlS)
        have hSf : s.heap.objs.size ∉ [(s.heap.push { cls := .type "set", dict := none, data := .set #[] 0 (.fresh 0 0 (!bt prog w)) }).objs.size, l] := by
          simp only [List.mem_cons, List.not_mem_nil, or_false, not_or]
          exact ⟨by rw [szp]; exact Nat.ne_of_lt (Nat.lt_succ_self _), Nat.ne_of_gt hlS⟩
        have hln : ns.length = items.size := by have := hi.length; rw [← this, Array.length_toList]
        have hval : ∀ (i : Nat) (v : Value), items[i]? = some v → ∃ t, v = .int (ns.getD i 0) t := fun i v hv => IntsAre.int_at hi i v (by rw [Array.getElem?_toList]; exact hv)
        refine set_fillG ((Walks.list hh3 _ l hneI items).toS) s.heap.objs.size hSf (fun i h => SetI prog w h s.heap.objs.size (once [] (ns.take i))) (fun i h h' x e => x.stay fun o ho => e _ _ ?a1 ho) (fun i v s1 Q1 E1 hi' hP sp q1 => ?a3) (items.size - 0) 0 _ (by omega) (Nat.zero_le _) ⟨⟨_, Heap.get?_push_size _ rfl, rfl, rfl⟩, (hl1.push _)⟩ ?hS0 ?hR
        case a1 => rw [szp]; simp
        case a3 =>
          obtain ⟨t, rfl⟩ := hval i v hP
          unfold setAdd
          refine wpAny_holding (wpAny_bind ((intKind prog w).pyHash (k := ns.getD i 0) (intKind_is _ _ _ _) ?_))
          have hlen := once_len (ns.take i) []
          rw [List.length_nil, List.length_take] at hlen
          refine addI (s := { s1 with toks := s1.toks + 1 }) sp (by omega) fun h' b hs st => q1 h' _ b (Nat.le_add_right _ _) hs ?_
          have e : ns.take (i + 1) = ns.take i ++ [ns.getD i 0] := by
            rw [List.take_succ, List.getD_eq_getElem?_getD]
            have : i < ns.length := by omega
            rw [List.getElem?_eq_getElem this]; rfl
          show SetI prog w h' s.heap.objs.size (once [] (ns.take (i + 1)))
          rw [e, once_snoc]
          exact st
        case hS0 => exact fresh_set (Heap.get?_push_of_some _ hS)
        case hR =>
          intro s' hm hS'
          have hS' : SetI prog w s'.heap s.heap.objs.size (once [] ns) := by
            have hS' : SetI prog w s'.heap s.heap.objs.size (once [] (ns.take items.size)) := hS'
            rw [← hln, List.take_length] at hS'
            exact hS'
          obtain ⟨h', g', d', tk', os'⟩ := s'
          have eg : g' = s.gens := hm.gens
          have ed : d' = s.drawn := hm.drawn
          have eo : os' = s.os := hm.os
          subst eg ed eo
          show wpAny _ _ _ _ _ _
          refine wpAny_pure ?_
          show wpAny _ _ (ret Value.none) _ _ _
          refine wpAny_pure ⟨rfl, h', tk', rfl, hS', fun b o hb e => ?_⟩
          refine hm.heap b o ?_ (Heap.get?_push_of_some _ (Heap.get?_push_of_some _ e))
          simp only [List.mem_cons, List.not_mem_nil, or_false, not_or]
          exact ⟨Nat.ne_of_lt hb, by rw [szp]; exact Nat.ne_of_lt (Nat.lt_succ_of_lt hb)⟩
      · cases r₂ with
        | error e => exact hr₂
        | ok fl₂ =>
          cases fl₂ with
          | ret r =>
            obtain ⟨rfl, h', tk, rfl, hS', hk'⟩ := hr₂
            repeat (any_goals (first | assumption | wp_step))
            exact h _ _ hS' hk'
          | _ => exact hr₂.elim
    | _ => exact hr.elim
end
theorem slot_si_next : Slot "set_iterator" "__next__" "set_iterator.__next__" :=
  .of (owner := "set_iterator") (n := "__next__") (by rw [typeLookup_type, builtinLookup_eq_fast]; kernel_rfl) (by decide +kernel) (by decide +kernel) (by decide +kernel)
    (by first | exact .inl (by decide +kernel) | exact .inr (by decide +kernel)) (by rw [isSubtype_type]; kernel_rfl)
theorem slot_si_iter : Slot "set_iterator" "__iter__" "set_iterator.__iter__" :=
  .of (owner := "set_iterator") (n := "__iter__") (by rw [typeLookup_type, builtinLookup_eq_fast]; kernel_rfl) (by decide +kernel) (by decide +kernel) (by decide +kernel)
    (by first | exact .inl (by decide +kernel) | exact .inr (by decide +kernel)) (by rw [isSubtype_type]; kernel_rfl)
theorem entry_si_next : entryFor table "set_iterator.__next__" = some Builtin.«set_iterator.__next__» := entryFor_of_tree (by kernel_rfl)
theorem entry_si_iter : entryFor table "set_iterator.__iter__" = some Builtin.«dict_keyiterator.__iter__» := entryFor_alias (id' := "dict_keyiterator.__iter__") (by kernel_rfl) rfl (by decide +kernel) (by kernel_rfl)
theorem entry_set_iter : entryFor table "set.__iter__" = some Builtin.«frozenset.__iter__» := entryFor_alias (id' := "frozenset.__iter__") (by kernel_rfl) rfl (by decide +kernel) (by kernel_rfl)
theorem args_si_next (a : Value) : argsOk "set_iterator.__next__" ⟨[a], []⟩ := by unfold argsOk; kernel_rfl
theorem args_si_iter (a : Value) : argsOk "set_iterator.__iter__" ⟨[a], []⟩ := by unfold argsOk; kernel_rfl
theorem erase_perm {α : Type} : ∀ {l : List α} {i : Nat} (h : i < l.length), (l[i] :: l.eraseIdx i).Perm l
  | x :: r, 0, h => .refl _
  | x :: r, i + 1, h => by
    have hi : i < r.length := by simpa using h
    have := erase_perm (l := r) (i := i) hi
    show (r[i]'hi :: x :: r.eraseIdx i).Perm (x :: r)
    exact (List.Perm.swap _ _ _).trans (this.cons x)
theorem pick_go {α : Type} (next : Nat → Nat) : ∀ (fuel k : Nat) (left : List α) (out : Array α), left.length = fuel → (pickOrder.go next fuel k left out).toList.Perm (out.toList ++ left)
  | 0, k, left, out, h => by
    rw [pickOrder.go.eq_def, List.length_eq_zero_iff.mp h, List.append_nil]
  | fuel + 1, k, left, out, h => by
    rw [pickOrder.go.eq_def]
    dsimp only
    have hi : next k % left.length < left.length := Nat.mod_lt _ (by omega)
    rw [List.getElem?_eq_getElem hi]
    dsimp only
    refine (pick_go next fuel (k + 1) _ _ (by rw [List.length_eraseIdx, if_pos hi]; omega)).trans ?_
    rw [Array.toList_push, List.append_assoc]
    exact List.Perm.append_left _ (erase_perm hi)
theorem pick_perm {α : Type} (next : Nat → Nat) (xs : Array α) : (pickOrder next xs).toList.Perm xs.toList := pick_go next xs.size 0 xs.toList #[] rfl
section
variable {prog : Program} {w : World} {A : Around} {E : Value → Shared → Prop} {s : Shared}
theorem wp_choose {M : Model} {src : Source} {n : Nat} {Q : Nat → Shared → Prop} (hn : n ≠ 0) (h : ∀ i d, i < n → Q i { s with drawn := d }) : wpAny M A (choose src n) Q E s := fun _ _ _ => ⟨hn, h _ _ (Nat.mod_lt _ (Nat.pos_of_ne_zero hn))⟩
theorem draw_perm {M : Model} {α : Type} : ∀ (n : Nat) (xs : List α) (s : Shared) (Q : List α → Shared → Prop), xs.length = n → (∀ ys d, ys.Perm xs → Q ys { s with drawn := d }) → wpAny M A (drawOrder n xs) Q E s
  | 0, xs, s, Q, h, q => by
    rw [List.length_eq_zero_iff.mp h] at q ⊢
    unfold drawOrder
    exact wpAny_pure (q [] s.drawn (.refl _))
  | n + 1, [], s, Q, h, q => by cases h
  | n + 1, y :: r, s, Q, h, q => by
    rw [drawOrder.eq_def]
    dsimp only
    refine wpAny_bind (wp_choose (by simp) fun i d hi => ?_)
    rw [List.getElem?_eq_getElem hi]
    dsimp only
    refine wpAny_bind (draw_perm n _ _ _ (by rw [List.length_eraseIdx, if_pos hi]; omega) fun ys d2 p => wpAny_pure (q _ d2 ?_))
    exact (p.cons _).trans (erase_perm hi)
def SIt (h : Heap) (it : Addr) (first : Value) (i : Nat) (a : Addr) (n ep : Nat) : Prop := h.get? it = some { cls := .type "set_iterator", dict := none, data := .fields #[first, rawInt i, .ref a, rawInt n, rawInt ep], slots := #[] }
theorem si_int {it a : Addr} {sl i ep nx : Nat} {x : Value} {o : Obj} {es : Array (Int × Value)} {t : SetTable} {ns : List Int} {Q : Option Value → Shared → Prop} (hit : SIt s.heap it (rawInt sl) i a es.size ep) (ho : s.heap.get? a = some o) (d : SetD prog w o es ep t ns)
    (hn : ∀ (A : Around) (E : Value → Shared → Prop) (Q : Option (Value × Nat) → Shared → Prop), Q (some (x, nx)) s → wpAny (model prog w) A (setNext a sl i ep) Q E s)
    (q : ∀ g, SIt g it (rawInt nx) (i + 1) a es.size ep → Heap.SameBut it s.heap g → Q (some x) { s with heap := g }) : wpAny (model prog w) A (pyNext (.ref it)) Q E s := by
  have hT : s.TypeIs (.ref it) "set_iterator" := ⟨_, hit, rfl⟩
  unfold pyNext
  refine wpAny_bind (wpAny_attempt (wpAny_callSpecial?_slot (name := Str.ofString "__next__") hT slot_si_next (wpAny_call_entry slot_si_next hT entry_si_next ?_ (args_si_next _))))
  refine wpAny_bind (wpAny_pure ?_)
  refine wpAny_bind (wpAny_fieldsOf hit rfl ?_)
  show wpAny _ _ (setEntries a >>= _) _ _ _
  unfold setEntries
  refine wpAny_bind (wpAny_bind (wpAny_setState_of ho d.dat d.ft (wpAny_pure ?_)))
  rw [if_neg (by simp)]
  show wpAny _ _ (setNext a ((sl : Int)).toNat ((i : Int)).toNat ((ep : Int)).toNat >>= _) _ _ _
  rw [Int.toNat_natCast, Int.toNat_natCast, Int.toNat_natCast]
  refine wpAny_bind (hn _ _ _ ?_)
  show wpAny _ _ (setField (.ref it) 0 (rawInt nx) >>= _) _ _ _
  refine wpAny_bind (wpAny_setField_rec hit (by simp) fun g1 h1 b1 => ?_)
  refine wpAny_bind (wpAny_setField_rec (s := { s with heap := g1 }) h1 (by simp) fun g2 h2 b2 => ?_)
  exact wpAny_pure ⟨_, rfl, wpAny_pure (q g2 h2 (b1.trans b2))⟩
theorem si_end {it a : Addr} {sl i ep : Nat} {o : Obj} {es : Array (Int × Value)} {t : SetTable} {ns : List Int} {Q : Option Value → Shared → Prop} (hh : A.handled = none) (hit : SIt s.heap it (rawInt sl) i a es.size ep) (ho : s.heap.get? a = some o) (d : SetD prog w o es ep t ns)
    (hn : ∀ (A : Around) (E : Value → Shared → Prop) (Q : Option (Value × Nat) → Shared → Prop), Q none s → wpAny (model prog w) A (setNext a sl i ep) Q E s)
    (q : ∀ g, (∀ b o, b ≠ it → s.heap.get? b = some o → g.get? b = some o) → Q none { s with heap := g }) : wpAny (model prog w) A (pyNext (.ref it)) Q E s := by
  have hT : s.TypeIs (.ref it) "set_iterator" := ⟨_, hit, rfl⟩
  unfold pyNext
  refine wpAny_bind (wpAny_attempt (wpAny_callSpecial?_slot (name := Str.ofString "__next__") hT slot_si_next (wpAny_call_entry slot_si_next hT entry_si_next ?_ (args_si_next _))))
  refine wpAny_bind (wpAny_pure ?_)
  refine wpAny_bind (wpAny_fieldsOf hit rfl ?_)
  show wpAny _ _ (setEntries a >>= _) _ _ _
  unfold setEntries
  refine wpAny_bind (wpAny_bind (wpAny_setState_of ho d.dat d.ft (wpAny_pure ?_)))
  rw [if_neg (by simp)]
  show wpAny _ _ (setNext a ((sl : Int)).toNat ((i : Int)).toNat ((ep : Int)).toNat >>= _) _ _ _
  rw [Int.toNat_natCast, Int.toNat_natCast, Int.toNat_natCast]
  refine wpAny_bind (hn _ _ _ ?_)
  show wpAny _ _ (setField (.ref it) 2 .none >>= _) _ _ _
  refine wpAny_bind (wpAny_setField_rec hit (by simp) fun g1 h1 b1 => ?_)
  show wpAny _ _ (newExc (.type "StopIteration") [] >>= _) _ _ _
  refine wpAny_bind ?_
  simp only [newExc, newTuple]
  refine wpAny_bind (wpAny_newObj_type ?_ (by size_fits))
  refine wpAny_bind (m := firstArgMember _ _) (wpAny_of_eq (a := Value.none) (by first | rfl | (simp only [firstArgMember]; rfl)) ?_)
  refine wpAny_newObj_type ?_ (by size_fits)
  simp only [raiseNew]
  refine wpAny_bind (wpAny_handled ?_)
  rw [show A.in1.handled = none from hh]
  refine wpAny_bind (wpAny_pure (wpAny_throw ?_))
  refine wpAny_bind (wpAny_isInstance (T := "StopIteration") (b := true) ⟨_, Heap.get?_push_size _ rfl, rfl⟩ isSubtype_stop (wpAny_pure (q _ fun b o hb e => ?_)))
  exact Heap.get?_push_of_some _ (Heap.get?_push_of_some _ (b1.extBut _ _ hb e))
theorem si_ref {it a tp : Addr} {i ep p : Nat} {x : Int × Value} {ps : List Nat} {o : Obj} {es : Array (Int × Value)} {t : SetTable} {ns : List Int} {Q : Option Value → Shared → Prop} (hit : SIt s.heap it (.ref tp) i a es.size ep) (ho : s.heap.get? a = some o) (d : SetD prog w o es ep t ns)
    (htp : s.heap.get? tp = some { cls := .type "tuple", dict := none, data := .seq (ps.map fun (i : Nat) => rawInt i).toArray 0, slots := #[] }) (hp : ps[i]? = some p) (hx : es[p]? = some x)
    (q : ∀ g, SIt g it (.ref tp) (i + 1) a es.size ep → Heap.SameBut it s.heap g → Q (some x.2) { s with heap := g }) : wpAny (model prog w) A (pyNext (.ref it)) Q E s := by
  have hT : s.TypeIs (.ref it) "set_iterator" := ⟨_, hit, rfl⟩
  unfold pyNext
  refine wpAny_bind (wpAny_attempt (wpAny_callSpecial?_slot (name := Str.ofString "__next__") hT slot_si_next (wpAny_call_entry slot_si_next hT entry_si_next ?_ (args_si_next _))))
  refine wpAny_bind (wpAny_pure ?_)
  refine wpAny_bind (wpAny_fieldsOf hit rfl ?_)
  show wpAny _ _ (setEntries a >>= _) _ _ _
  unfold setEntries
  refine wpAny_bind (wpAny_bind (wpAny_setState_of ho d.dat d.ft (wpAny_pure ?_)))
  rw [if_neg (by simp)]
  show wpAny _ _ (seqItems? (.ref tp) >>= _) _ _ _
  refine wpAny_bind (wpAny_seqItems htp rfl ?_)
  have e : ((ps.map fun (i : Nat) => rawInt i).toArray)[((i : Int)).toNat]? = some (rawInt p) := by
    rw [Int.toNat_natCast, List.getElem?_toArray, List.getElem?_map, hp]; rfl
  dsimp only
  rw [e]
  show wpAny _ _ (setNextDrawn a ((p : Int)).toNat ((ep : Int)).toNat >>= _) _ _ _
  rw [Int.toNat_natCast, Int.toNat_natCast]
  unfold setNextDrawn
  refine wpAny_bind (wpAny_bind (wpAny_setState_of ho d.dat d.ft ?_))
  dsimp only
  rw [if_neg (by simp), hx]
  refine wpAny_pure ?_
  show wpAny _ _ (setField (.ref it) 1 (rawInt ((i : Int) + 1)) >>= _) _ _ _
  refine wpAny_bind (wpAny_setField_rec hit (by simp) fun g1 h1 b1 => ?_)
  exact wpAny_pure ⟨_, rfl, wpAny_pure (q g1 h1 b1)⟩
theorem si_ref_end {it a tp : Addr} {i ep : Nat} {ps : List Nat} {o : Obj} {es : Array (Int × Value)} {t : SetTable} {ns : List Int} {Q : Option Value → Shared → Prop} (hh : A.handled = none) (hit : SIt s.heap it (.ref tp) i a es.size ep) (ho : s.heap.get? a = some o) (d : SetD prog w o es ep t ns)
    (htp : s.heap.get? tp = some { cls := .type "tuple", dict := none, data := .seq (ps.map fun (i : Nat) => rawInt i).toArray 0, slots := #[] }) (hp : ps[i]? = none)
    (q : ∀ g, (∀ b o, b ≠ it → s.heap.get? b = some o → g.get? b = some o) → Q none { s with heap := g }) : wpAny (model prog w) A (pyNext (.ref it)) Q E s := by
  have hT : s.TypeIs (.ref it) "set_iterator" := ⟨_, hit, rfl⟩
  unfold pyNext
  refine wpAny_bind (wpAny_attempt (wpAny_callSpecial?_slot (name := Str.ofString "__next__") hT slot_si_next (wpAny_call_entry slot_si_next hT entry_si_next ?_ (args_si_next _))))
  refine wpAny_bind (wpAny_pure ?_)
  refine wpAny_bind (wpAny_fieldsOf hit rfl ?_)
  show wpAny _ _ (setEntries a >>= _) _ _ _
  unfold setEntries
  refine wpAny_bind (wpAny_bind (wpAny_setState_of ho d.dat d.ft (wpAny_pure ?_)))
  rw [if_neg (by simp)]
  show wpAny _ _ (seqItems? (.ref tp) >>= _) _ _ _
  refine wpAny_bind (wpAny_seqItems htp rfl ?_)
  have e : ((ps.map fun (i : Nat) => rawInt i).toArray)[((i : Int)).toNat]? = none := by
    rw [Int.toNat_natCast, List.getElem?_toArray, List.getElem?_map, hp]; rfl
  dsimp only
  rw [e]
  show wpAny _ _ (setField (.ref it) 0 (rawInt 0) >>= _) _ _ _
  refine wpAny_bind (wpAny_setField_rec hit (by simp) fun g0 h0 b0 => ?_)
  refine wpAny_bind (wpAny_setField_rec (s := { s with heap := g0 }) h0 (by simp) fun g1 h1 b1 => ?_)
  show wpAny _ _ (newExc (.type "StopIteration") [] >>= _) _ _ _
  refine wpAny_bind ?_
  simp only [newExc, newTuple]
  refine wpAny_bind (wpAny_newObj_type ?_ (by size_fits))
  refine wpAny_bind (m := firstArgMember _ _) (wpAny_of_eq (a := Value.none) (by first | rfl | (simp only [firstArgMember]; rfl)) ?_)
  refine wpAny_newObj_type ?_ (by size_fits)
  simp only [raiseNew]
  refine wpAny_bind (wpAny_handled ?_)
  rw [show A.in1.handled = none from hh]
  refine wpAny_bind (wpAny_pure (wpAny_throw ?_))
  refine wpAny_bind (wpAny_isInstance (T := "StopIteration") (b := true) ⟨_, Heap.get?_push_size _ rfl, rfl⟩ isSubtype_stop (wpAny_pure (q _ fun b o hb e => ?_)))
  exact Heap.get?_push_of_some _ (Heap.get?_push_of_some _ (b1.extBut _ _ hb (b0.extBut _ _ hb e)))
theorem next_txt {a : Addr} {sl i ep : Nat} {o : Obj} {es : Array (Int × Value)} {t : SetTable} {ns : List Int} {Q : Option (Value × Nat) → Shared → Prop} (b : bt prog w = true) (ho : s.heap.get? a = some o) (d : SetD prog w o es ep t ns)
    (h : Q (((pickOrder ((model prog w).w.params.setOrder a ep) es)[i]?).map fun e => (e.2, sl)) s) : wpAny (model prog w) A (setNext a sl i ep) Q E s := by
  have b : (model prog w).w.params.followText "set-order" = true := b
  unfold setNext setsByText
  refine wpAny_bind (wpAny_setState_of ho d.dat d.ft ?_)
  dsimp only
  refine wpAny_bind (wpAny_bind (wpAny_askSetting (wpAny_pure ?_)))
  rw [b, if_pos rfl]
  rw [if_neg (by simp)]
  unfold setWalk setsByText
  refine wpAny_bind (wpAny_bind (wpAny_setState_of ho d.dat d.ft ?_))
  dsimp only
  refine wpAny_bind (wpAny_bind (wpAny_askSetting (wpAny_pure ?_)))
  rw [b, if_pos rfl]
  exact wpAny_bind (wpAny_askSetting (wpAny_pure (wpAny_pure h)))
theorem next_place {a : Addr} {sl i ep : Nat} {o : Obj} {es : Array (Int × Value)} {t : SetTable} {ns : List Int} {Q : Option (Value × Nat) → Shared → Prop} (b : bt prog w = false) (np : (!t.plain && decide (es.size > 1)) = false) (ho : s.heap.get? a = some o) (d : SetD prog w o es ep t ns)
    (h : Q (match es[SetTable.below t.place sl]?, t.place[SetTable.below t.place sl]? with | some (_, x), some j => some (x, j + 1) | _, _ => none) s) : wpAny (model prog w) A (setNext a sl i ep) Q E s := by
  have ld := d.ld b
  have b : (model prog w).w.params.followText "set-order" = false := b
  unfold setNext setsByText
  refine wpAny_bind (wpAny_setState_of ho d.dat d.ft ?_)
  dsimp only
  refine wpAny_bind (wpAny_bind (wpAny_askSetting (wpAny_pure ?_)))
  rw [b, if_neg (by decide)]
  refine wpAny_ite_split (fun c => ?_) (fun _ => ?_)
  · have c : (!t.plain && decide (es.size > 1)) = true := c
    rw [np] at c; cases c
  refine wpAny_bind ?_
  show wpAny _ _ (if (!t.led && !es.isEmpty) = true then _ else _) _ _ _
  rw [if_neg (by rw [ld]; simp)]
  exact wpAny_pure (wpAny_pure h)
end
theorem below_at {xs : Array Nat} (ri : Rs xs.toList) {i j : Nat} (hi : i ≤ xs.size) (h1 : ∀ k, k < i → ∀ x, xs[k]? = some x → x < j) (h2 : ∀ x, xs[i]? = some x → j ≤ x) : SetTable.below xs j = i := by
  obtain ⟨a, b, c⟩ := below_ok ri j
  rcases Nat.lt_trichotomy (SetTable.below xs j) i with l | e | g
  · exfalso
    have hs : SetTable.below xs j < xs.size := by omega
    have e : xs[SetTable.below xs j]? = some (xs[SetTable.below xs j]) := getElem?_pos xs _ hs
    have m : xs[SetTable.below xs j] ∈ xs.toList.drop (SetTable.below xs j) := by
      refine List.mem_iff_getElem?.mpr ⟨0, ?_⟩
      rw [List.getElem?_drop, Nat.add_zero, Array.getElem?_toList]; exact e
    have := h1 _ l _ e
    have := c _ m
    omega
  · exact e
  · exfalso
    have hs : i < xs.size := by omega
    have e : xs[i]? = some xs[i] := getElem?_pos xs _ hs
    have m : xs[i] ∈ xs.toList.take (SetTable.below xs j) := by
      refine List.mem_iff_getElem?.mpr ⟨i, ?_⟩
      rw [List.getElem?_take_of_lt g, Array.getElem?_toList]; exact e
    have := h2 _ e
    have := b _ m
    omega
section
variable {prog : Program} {w : World} {A : Around} {E : Value → Shared → Prop} {s : Shared} {o : Obj} {es : Array (Int × Value)} {ep : Nat} {t : SetTable} {ns : List Int} {I a tp : Addr}
abbrev vOf (es : Array (Int × Value)) : List Value := es.toList.map (·.2)
theorem si_self {first : Value} {i n : Nat} {Q : Value → Shared → Prop} (hit : SIt s.heap I first i a n ep) (q : Q (.ref I) s) : wpAny (model prog w) A (pyIter (.ref I)) Q E s := by
  have hT : s.TypeIs (.ref I) "set_iterator" := ⟨_, hit, rfl⟩
  refine wpAny_pyIter_slot hT slot_si_iter (wpAny_call_entry slot_si_iter hT entry_si_iter ?_ (args_si_iter _))
  show wpAny _ _ (ret (.ref I)) _ _ s
  exact wpAny_pure ⟨_, rfl, "set_iterator", _, hT, slot_si_next.lookup, q⟩
theorem walkT (hh : A.handled = none) (b : bt prog w = true) (d : SetD prog w o es ep t ns) (hne : a ≠ I) : Walks prog w A I [I, a] [I] es.size (fun i v => (vOf (pickOrder ((model prog w).w.params.setOrder a ep) es))[i]? = some v) (fun i h => (∃ sl : Nat, SIt h I (rawInt sl) i a es.size ep) ∧ h.get? a = some o) where
  sub := fun b hb => by simp at hb; simp [hb]
  frame := fun i h h' st hk => ⟨st.1.imp fun sl e => hk I (by simp) _ e, hk a (by simp) _ st.2⟩
  item := fun i s Q E hi st hQ => by
    obtain ⟨⟨sl, hit⟩, ho⟩ := st
    have hz : (pickOrder ((model prog w).w.params.setOrder a ep) es).size = es.size := (pick_perm _ es).length_eq
    have e : (pickOrder ((model prog w).w.params.setOrder a ep) es)[i]? = some (pickOrder ((model prog w).w.params.setOrder a ep) es)[i] := getElem?_pos _ _ (by omega)
    refine si_int (x := (pickOrder ((model prog w).w.params.setOrder a ep) es)[i].2) (nx := sl) hit ho d (fun A E Q q => next_txt b ho d (by rw [e]; exact q)) fun g hg hs => ?_
    refine hQ _ g s.toks ?_ ⟨⟨sl, hg⟩, hs.extBut _ _ hne ho⟩ fun b o hb e => hs.extBut _ _ (fun h => hb (by simp [h])) e
    rw [List.getElem?_map, Array.getElem?_toList, e]; rfl
  done := fun s Q E st hQ => by
    obtain ⟨⟨sl, hit⟩, ho⟩ := st
    have hz : (pickOrder ((model prog w).w.params.setOrder a ep) es).size = es.size := (pick_perm _ es).length_eq
    have e : (pickOrder ((model prog w).w.params.setOrder a ep) es)[es.size]? = none := Array.getElem?_eq_none (by omega)
    exact si_end hh hit ho d (fun A E Q q => next_txt b ho d (by rw [e]; exact q)) fun g hk => hQ g s.toks fun b o hb e => hk _ _ (fun h => hb (by simp [h])) e
  self := fun i s Q E st q => by
    obtain ⟨⟨sl, hit⟩, _⟩ := st
    exact si_self hit q
theorem walkP (hh : A.handled = none) (b : bt prog w = false) (np : (!t.plain && decide (es.size > 1)) = false) (d : SetD prog w o es ep t ns) (hne : a ≠ I) : Walks prog w A I [I, a] [I] es.size (fun i v => (vOf es)[i]? = some v) (fun i h => (∃ sl : Nat, SIt h I (rawInt sl) i a es.size ep ∧ SetTable.below t.place sl = i) ∧ h.get? a = some o) where
  sub := fun b hb => by simp at hb; simp [hb]
  frame := fun i h h' st hk => ⟨st.1.imp fun sl e => ⟨hk I (by simp) _ e.1, e.2⟩, hk a (by simp) _ st.2⟩
  item := fun i s Q E hi st hQ => by
    obtain ⟨⟨sl, hit, hb⟩, ho⟩ := st
    have hz : t.place.size = es.size := by have := d.ft; unfold SetTable.fits at this; simp at this; exact this.1
    obtain ⟨ev, e⟩ : ∃ ev, es[i]? = some ev := ⟨_, getElem?_pos es i hi⟩
    obtain ⟨pl, e2⟩ : ∃ pl, t.place[i]? = some pl := ⟨_, getElem?_pos t.place i (by omega)⟩
    have e3 := Array.getElem?_eq_some_iff.mp e2
    refine si_int (x := ev.2) (nx := pl + 1) hit ho d (fun A E Q q => next_place b np ho d (by rw [hb, e, e2]; exact q)) fun g hg hs => ?_
    refine hQ _ g s.toks ?_ ⟨⟨_, hg, ?_⟩, hs.extBut _ _ hne ho⟩ fun b o hb e => hs.extBut _ _ (fun h => hb (by simp [h])) e
    · rw [List.getElem?_map, Array.getElem?_toList, e]; rfl
    · have mono : ∀ k x, k < i → t.place[k]? = some x → x < pl := fun k x hk hx => by
        have hks := (Array.getElem?_eq_some_iff.mp hx)
        have := List.pairwise_iff_getElem.mp d.tk.ri k i (by simpa using hks.1) (by simp; omega) hk
        have hx2 := hks.2
        have hx3 := e3.2
        simp at this
        rw [hx2, hx3] at this; exact this
      have mono2 : ∀ x, t.place[i + 1]? = some x → pl < x := fun x hx => by
        have hks := (Array.getElem?_eq_some_iff.mp hx)
        have := List.pairwise_iff_getElem.mp d.tk.ri i (i + 1) (by simp; omega) (by simpa using hks.1) (by omega)
        have hx2 := hks.2
        have hx3 := e3.2
        simp at this
        rw [hx2, hx3] at this; exact this
      refine below_at d.tk.ri (by omega) (fun k hk x hx => ?_) (fun x hx => ?_)
      · by_cases ek : k = i
        · subst ek; rw [e2] at hx; cases hx; omega
        · have := mono k x (by omega) hx; omega
      · have := mono2 x hx; omega
  done := fun s Q E st hQ => by
    obtain ⟨⟨sl, hit, hb⟩, ho⟩ := st
    have e : es[es.size]? = none := Array.getElem?_eq_none (Nat.le_refl _)
    exact si_end hh hit ho d (fun A E Q q => next_place b np ho d (by rw [hb, e]; exact q)) fun g hk => hQ g s.toks fun b o hb e => hk _ _ (fun h => hb (by simp [h])) e
  self := fun i s Q E st q => by
    obtain ⟨⟨sl, hit, _⟩, _⟩ := st
    exact si_self hit q
theorem walkD {ps : List Nat} (hh : A.handled = none) (d : SetD prog w o es ep t ns) (hp : ps.Perm (List.range es.size)) (hne : a ≠ I) (hnt : tp ≠ I) : Walks prog w A I [I, a, tp] [I] es.size (fun i v => (ps.map fun p => (vOf es).getD p .none)[i]? = some v)
    (fun i h => SIt h I (.ref tp) i a es.size ep ∧ h.get? a = some o ∧ h.get? tp = some { cls := .type "tuple", dict := none, data := .seq (ps.map fun (i : Nat) => rawInt i).toArray 0, slots := #[] }) where
  sub := fun b hb => by simp at hb; simp [hb]
  frame := fun i h h' st hk => ⟨hk I (by simp) _ st.1, hk a (by simp) _ st.2.1, hk tp (by simp) _ st.2.2⟩
  item := fun i s Q E hi st hQ => by
    obtain ⟨hit, ho, ht⟩ := st
    have hl : ps.length = es.size := by rw [hp.length_eq, List.length_range]
    have e : ps[i]? = some (ps[i]'(by omega)) := List.getElem?_eq_getElem _
    have hlt : ps[i]'(by omega) < es.size := by
      have := hp.mem_iff.mp (List.getElem_mem (l := ps) (n := i) (by omega))
      exact List.mem_range.mp this
    obtain ⟨ev, ex⟩ : ∃ ev, es[ps[i]'(by omega)]? = some ev := ⟨_, getElem?_pos es _ hlt⟩
    refine si_ref hit ho d ht e ex fun g hg hs => ?_
    refine hQ _ g s.toks ?_ ⟨hg, hs.extBut _ _ hne ho, hs.extBut _ _ hnt ht⟩ fun b o hb e => hs.extBut _ _ (fun h => hb (by simp [h])) e
    rw [List.getElem?_map, e]
    show some ((vOf es).getD _ _) = _
    rw [List.getD_eq_getElem?_getD, List.getElem?_map, Array.getElem?_toList, ex]; rfl
  done := fun s Q E st hQ => by
    obtain ⟨hit, ho, ht⟩ := st
    have hl : ps.length = es.size := by rw [hp.length_eq, List.length_range]
    exact si_ref_end hh hit ho d ht (List.getElem?_eq_none (by omega)) fun g hk => hQ g s.toks fun b o hb e => hk _ _ (fun h => hb (by simp [h])) e
  self := fun i s Q E st q => si_self st.1 q
theorem ord_perm {ps : List Nat} {vs : List Value} (hp : ps.Perm (List.range vs.length)) : (ps.map fun p => vs.getD p .none).Perm vs := by
  refine (hp.map _).trans ?_
  have : (List.range vs.length).map (fun p => vs.getD p .none) = vs := by
    apply List.ext_getElem?
    intro i
    rw [List.getElem?_map]
    by_cases h : i < vs.length
    · rw [List.getElem?_range h]
      show some (vs.getD i _) = _
      rw [List.getD_eq_getElem?_getD, List.getElem?_eq_getElem h]; rfl
    · rw [List.getElem?_eq_none (by simp; omega), List.getElem?_eq_none (by omega)]; rfl
  rw [this]
end
section
variable {prog : Program} {w : World} {A : Around} {E : Value → Shared → Prop} {s : Shared} {o : Obj} {es : Array (Int × Value)} {ep : Nat} {t : SetTable} {ns : List Int} {a : Addr}
theorem set_hint {Q : Bool → Shared → Prop} (hT : s.TypeIs (.ref a) "set") (h : Q false s) : wpAny (model prog w) A (Builtin.List.listLengthHint (.ref a)) Q E s := by
  unfold Builtin.List.listLengthHint
  refine wpAny_bind (wpAny_specialOf hT PySem.F.slot_set_len.lookup ?_)
  generalize hid : ("set.__len__" : String) = id0
  wp_delta
  rw [show splitId id0 = some ("set", "__len__") from by subst hid; decide +kernel]
  subst hid
  refine wpAny_bind (wpAny_isInstance (T := "set") (b := true) hT (by rw [isSubtype_type]; kernel_rfl) ?_)
  refine wpAny_ite_split (fun hab => absurd hab (by decide)) (fun _ => ?_)
  refine wpAny_ite_split (fun _ => ?_) (fun hab => absurd (by decide +kernel) hab)
  refine wpAny_bind (wpAny_typeOf hT ?_)
  exact wpAny_pure h
theorem set_iter (ho : s.heap.get? a = some o) (d : SetD prog w o es ep t ns) {Q : Value → Shared → Prop}
    (q : ∀ (I : Addr) (fp : List Addr) (h1 : Heap) (dr : Drawn) (ord : List Value) (St : Nat → Heap → Prop), (∀ b u, s.heap.get? b = some u → h1.get? b = some u) → s.heap.objs.size ≤ I → (∀ b ∈ fp, b = a ∨ s.heap.objs.size ≤ b) → ord.Perm (vOf es) →
      (∀ A : Around, A.handled = none → Walks prog w A I fp [I] es.size (fun i v => ord[i]? = some v) St) → St 0 h1 → Q (.ref I) { s with heap := h1, drawn := dr }) : wpAny (model prog w) A (pyIter (.ref a)) Q E s := by
  have hT : s.TypeIs (.ref a) "set" := ⟨o, ho, d.ex.1⟩
  have ha : a < s.heap.objs.size := Heap.lt_size ho
  refine wpAny_pyIter_slot hT PySem.F.slot_set_iter (wpAny_call_entry PySem.F.slot_set_iter hT entry_set_iter ?_ (PySem.F.args_set_iter_1 _))
  refine wpAny_bind (wpAny_pure ?_)
  show wpAny _ _ (Builtin.Frozenset.sizeOf a >>= _) _ _ _
  unfold Builtin.Frozenset.sizeOf setEntries
  refine wpAny_bind (wpAny_bind (wpAny_bind (wpAny_setState_of ho d.dat d.ft (wpAny_pure (wpAny_pure ?_)))))
  dsimp only
  refine wpAny_bind ?_
  unfold setDrawn setsByText
  refine wpAny_bind (wpAny_setState_of ho d.dat d.ft ?_)
  dsimp only
  refine wpAny_bind (wpAny_bind (wpAny_askSetting (wpAny_pure (wpAny_pure ?_))))
  have fin : ∀ (s1 : Shared) (first : Value), s1.heap.get? a = some o → (∃ dr, s1 = { s with heap := s1.heap, drawn := dr }) → (∀ dr, Q (.ref s1.heap.objs.size) { s with heap := s1.heap.push { cls := .type "set_iterator", data := .fields #[first, rawInt 0, .ref a, rawInt es.size, rawInt ep] }, drawn := dr }) →
      wpAny (model prog w) A.in1 (do ret (← newFields "set_iterator" [first, rawInt 0, .ref a, rawInt es.size, rawInt (← setEpoch a)])) (fun fin s' => ∃ v, fin = .done (.ret v) ∧ ∃ T' r, s'.TypeIs v T' ∧ typeLookup (.type T') "__next__" = pure (some r) ∧ Q v s') E s1 := by
    intro s1 first ho1 hs1 hq
    obtain ⟨dr, hs1⟩ := hs1
    refine wpAny_bind (wpAny_setEpoch_of ho1 d.dat d.ft ?_)
    refine wpAny_bind (wpAny_newObj_type (wpAny_pure ⟨_, rfl, "set_iterator", _, ⟨_, Heap.get?_push_size _ rfl, rfl⟩, slot_si_next.lookup, ?_⟩))
    rw [hs1]
    exact hq dr
  refine wpAny_ite_split (fun c => ?_) (fun c => ?_)
  · refine wpAny_bind (draw_perm _ _ _ _ List.length_range fun ys dr p => ?_)
    refine wpAny_bind (wpAny_newTuple ?_ ?_)
    · refine fin _ _ (Heap.get?_push_of_some _ ho) ⟨dr, rfl⟩ fun dr => ?_
      have sz : (s.heap.push { cls := .type "tuple", data := .seq (ys.map fun (i : Nat) => rawInt i).toArray }).objs.size = s.heap.objs.size + 1 := Heap.size_push _ _
      refine q _ [_, a, s.heap.objs.size] _ dr _ _ (fun b u e => Heap.get?_push_of_some _ (Heap.get?_push_of_some _ e)) (by show s.heap.objs.size ≤ _; rw [sz]; omega) (fun b hb => ?_) (ord_perm (vs := vOf es) (by rw [List.length_map]; exact p)) (fun A hA => walkD hA d p ?_ ?_) ⟨Heap.get?_push_size _ rfl, Heap.get?_push_of_some _ (Heap.get?_push_of_some _ ho), Heap.get?_push_of_some _ (Heap.get?_push_size _ rfl)⟩
      · simp only [List.mem_cons, List.not_mem_nil, or_false] at hb
        rcases hb with rfl | rfl | rfl
        · right; show s.heap.objs.size ≤ _; rw [sz]; omega
        · exact .inl rfl
        · exact .inr (Nat.le_refl _)
      · exact Nat.ne_of_lt (by show a < _; rw [sz]; exact Nat.lt_succ_of_lt ha)
      · exact Nat.ne_of_lt (by show s.heap.objs.size < _; rw [sz]; exact Nat.lt_succ_self _)
    · rw [List.length_map, p.length_eq, List.length_range]
      exact fits_of_scanBound d.bd
  · refine wpAny_bind (wpAny_pure ?_)
    refine fin _ _ ho ⟨s.drawn, rfl⟩ fun dr => ?_
    by_cases b : bt prog w = true
    · refine q _ [_, a] _ dr _ _ (fun b u e => Heap.get?_push_of_some _ e) (Nat.le_refl _) (fun b hb => ?_) ((pick_perm _ es).map _) (fun A hA => walkT hA b d (Nat.ne_of_lt ha)) ⟨⟨0, Heap.get?_push_size _ rfl⟩, Heap.get?_push_of_some _ ho⟩
      simp only [List.mem_cons, List.not_mem_nil, or_false] at hb
      rcases hb with rfl | rfl
      · exact .inr (Nat.le_refl _)
      · exact .inl rfl
    · have b : bt prog w = false := by cases e : bt prog w with | false => rfl | true => exact absurd e b
      have np : (!t.plain && decide (es.size > 1)) = false := by
        cases e : (!t.plain && decide (es.size > 1)) with
        | false => rfl
        | true =>
          refine absurd ?_ c
          have b : (model prog w).w.params.followText "set-order" = false := b
          show (!(model prog w).w.params.followText "set-order" && (!t.plain && decide (es.size > 1))) = true
          rw [b, e]; rfl
      refine q _ [_, a] _ dr _ _ (fun b u e => Heap.get?_push_of_some _ e) (Nat.le_refl _) (fun b hb => ?_) (.refl _) (fun A hA => walkP hA b np d (Nat.ne_of_lt ha)) ⟨⟨0, Heap.get?_push_size _ rfl, ?_⟩, Heap.get?_push_of_some _ ho⟩
      · simp only [List.mem_cons, List.not_mem_nil, or_false] at hb
        rcases hb with rfl | rfl
        · exact .inr (Nat.le_refl _)
        · exact .inl rfl
      · exact below_at d.tk.ri (Nat.zero_le _) (fun k hk => by omega) (fun x _ => Nat.zero_le _)
end
open PySem PyProof.Rows
structure SB (a₀ : Array Keyed) (p : Array (Nat × Nat × Nat)) (st : SortSt) : Prop where
  perm : (arrOf st).Perm a₀
  kind : kindOf st = oneType'
  failed : failedOf st = none
  pend : pendingOf st = p
theorem SB.base {a₀ : Array Keyed} {p : Array (Nat × Nat × Nat)} {st : SortSt} (h : SB a₀ p st) : SBase a₀ (setPending st #[]) := ⟨h.perm, h.kind, h.failed, rfl⟩
theorem SB.size {a₀ : Array Keyed} {p : Array (Nat × Nat × Nat)} {st : SortSt} (h : SB a₀ p st) : (arrOf st).size = a₀.size := h.perm.size_eq
theorem SB.setArr {a₀ : Array Keyed} {p : Array (Nat × Nat × Nat)} {st : SortSt} (h : SB a₀ p st) {xs : Array Keyed} (hp : xs.Perm (arrOf st)) : SB a₀ p (setArr st xs) := ⟨hp.trans h.perm, h.kind, h.failed, h.pend⟩
def gallop' : Bool → Keyed → Array Keyed → Nat → Nat → Nat → StateT SortSt Sem (Option Nat) := sortPriv% PySem.Builtin.gallop
section
variable {prog : Program} {w : World} {A : Around} {E : Value → Shared → Prop} {s : Shared} {a₀ : Array Keyed}
def IsN (x : Keyed) : Prop := ∃ n t, x.1 = .int n t
theorem wpS_lt {st : SortSt} {x y : Keyed} {Q : Option Bool → SortSt → Prop} (hk : kindOf st = oneType') (hx : IsN x) (hy : IsN y) (h : Q (some (decide (numOf x.1 < numOf y.1))) st) : wpS (model prog w) A E s (lt' x y) Q st := by
  obtain ⟨a, t, ha⟩ := hx
  obtain ⟨b, u, hb⟩ := hy
  rw [ha, hb] at h
  rw [lt'_eq]
  refine wpS_bind (wpS_get ?_)
  rw [hk, keyLt'_oneType, ha, hb]
  exact wpS_bind (wpS_lift (wpAny_attempt (oneLt_int ⟨rfl, wpS_pure h⟩)))
theorem wpS_elem {st : SortSt} {arr : Array Keyed} {i : Nat} {x : Keyed} {Q : Keyed → SortSt → Prop} (hi : arr[i]? = some x) (h : Q x st) : wpS (model prog w) A E s (elem' arr i) Q st := by
  rw [elem'_eq, hi]
  exact wpS_pure h
def Bq (left : Bool) (kk v : Int) : Prop := if left = true then v < kk else v ≤ kk
instance (left : Bool) (kk v : Int) : Decidable (Bq left kk v) := by unfold Bq; infer_instance
theorem Bq.mono {left : Bool} {kk v u : Int} (h : Bq left kk v) (l : u ≤ v) : Bq left kk u := by
  unfold Bq at h ⊢
  split at h <;> rename_i e
  · rw [if_pos e]; omega
  · rw [if_neg e]; omega
theorem K_some {arr : Array Keyed} {i : Nat} {x : Keyed} (h : arr[i]? = some x) : K arr i = numOf x.1 := by unfold K; rw [h]
theorem wpS_bey {st : SortSt} {left : Bool} {key : Keyed} {arr : Array Keyed} {i : Nat} {Q : Option Bool → SortSt → Prop} (hk : kindOf st = oneType') (hkey : IsN key) (hi : ∃ x, arr[i]? = some x ∧ IsN x)
    (h : Q (some (decide (Bq left (numOf key.1) (K arr i)))) st) : wpS (model prog w) A E s (do let x ← elem' arr i; if left = true then lt' x key else do let r ← lt' key x; pure (r.map (!·))) Q st := by
  obtain ⟨x, hx, nx⟩ := hi
  refine wpS_bind (wpS_elem hx ?_)
  rw [K_some hx] at h
  cases left with
  | true =>
    rw [if_pos rfl]
    exact wpS_lt hk nx hkey (by simpa [Bq] using h)
  | false =>
    rw [if_neg Bool.false_ne_true]
    refine wpS_bind (wpS_lt hk hkey nx (wpS_pure ?_))
    have e : (!decide (numOf key.1 < numOf x.1)) = decide (Bq false (numOf key.1) (numOf x.1)) := by
      by_cases c : numOf key.1 < numOf x.1
      · rw [decide_eq_true c, decide_eq_false (by unfold Bq; rw [if_neg Bool.false_ne_true]; omega)]; rfl
      · rw [decide_eq_false c, decide_eq_true (by unfold Bq; rw [if_neg Bool.false_ne_true]; omega)]; rfl
    show Q (some (!decide _)) st
    rw [e]
    exact h
theorem wpS_halves {st : SortSt} {n : Nat} {B : Nat → Prop} {f : Nat → Option (Option Nat) × Nat × Nat → StateT SortSt Sem (ForInStep (Option (Option Nat) × Nat × Nat))} {Q : Option (Option Nat) × Nat × Nat → SortSt → Prop} {lo hi : Nat}
    (up : ∀ i j, i ≤ j → j < n → B j → B i) (h1 : lo ≤ hi) (h2 : hi ≤ n) (h3 : ∀ i, i < lo → B i) (h4 : ∀ i, hi ≤ i → i < n → ¬ B i)
    (hd : ∀ x l r, l ≥ r → f x (none, l, r) = pure (ForInStep.done (none, l, r)))
    (hf : ∀ x l r, l < r → r ≤ n → ∀ Q' : ForInStep (Option (Option Nat) × Nat × Nat) → SortSt → Prop, (B (l + (r - l) / 2) → Q' (.yield (none, l + (r - l) / 2 + 1, r)) st) → (¬ B (l + (r - l) / 2) → Q' (.yield (none, l, l + (r - l) / 2)) st) → wpS (model prog w) A E s (f x (none, l, r)) Q' st)
    (h : ∀ k, k ≤ n → (∀ i, i < k → B i) → (∀ i, k ≤ i → i < n → ¬ B i) → Q (none, k, k) st) : wpS (model prog w) A E s (forIn [0:n] (none, lo, hi) f) Q st := by
  refine wpS_forRange (I := fun x c st' => st' = st ∧ ∃ l r, c = (none, l, r) ∧ l ≤ r ∧ r ≤ n ∧ r - l ≤ n - x ∧ (∀ i, i < l → B i) ∧ (∀ i, r ≤ i → i < n → ¬ B i)) ?step ?fin ⟨rfl, lo, hi, rfl, h1, h2, by omega, h3, h4⟩
  case fin =>
    rintro c st' ⟨rfl, l, r, rfl, g1, g2, g3, g4, g5⟩
    obtain rfl : l = r := by omega
    exact h l g2 g4 g5
  case step =>
    rintro x c st' _ hx ⟨rfl, l, r, rfl, g1, g2, g3, g4, g5⟩
    by_cases c : l ≥ r
    · rw [hd x l r c]
      obtain rfl : l = r := by omega
      exact wpS_pure (h l g2 g4 g5)
    · refine hf x l r (by omega) g2 _ (fun b => ?_) (fun b => ?_)
      · exact ⟨rfl, _, r, rfl, by omega, g2, by omega, fun i hi => up i _ (by omega) (by omega) b, g5⟩
      · exact ⟨rfl, l, _, rfl, by omega, by omega, by omega, g4, fun i hi hn bi => b (up _ i hi hn bi)⟩
theorem wpS_gallop {st : SortSt} {left : Bool} {key : Keyed} {arr : Array Keyed} {base n hint : Nat} {Q : Option Nat → SortSt → Prop} (hk : kindOf st = oneType') (hkey : IsN key) (hin : ∀ i, i < n → ∃ x, arr[base + i]? = some x ∧ IsN x)
    (mono : ∀ i j, i ≤ j → j < n → K arr (base + i) ≤ K arr (base + j)) (hh : hint < n)
    (h : ∀ k, k ≤ n → (∀ i, i < k → Bq left (numOf key.1) (K arr (base + i))) → (∀ i, k ≤ i → i < n → ¬ Bq left (numOf key.1) (K arr (base + i))) → Q (some k) st) : wpS (model prog w) A E s (gallop' left key arr base n hint) Q st := by
  generalize ek : numOf key.1 = kk at h
  have up : ∀ i j, i ≤ j → j < n → Bq left kk (K arr (base + j)) → Bq left kk (K arr (base + i)) := fun i j h1 h2 b => b.mono (mono i j h1 h2)
  refine wpS_bind (wpS_bey hk hkey (hin _ hh) ?_)
  rw [ek]
  by_cases b0 : Bq left kk (K arr (base + hint))
  · rw [decide_eq_true b0]
    dsimp only
    rw [if_pos rfl]
    refine wpS_bind (wpS_mono (wpS_forRange (I := fun x c st' => st' = st ∧ ∃ l o, c = (none, l, o) ∧ l < o ∧ l < n - hint ∧ x + 1 ≤ o ∧ Bq left kk (K arr (base + (hint + l))))
      (Q := fun c st' => st' = st ∧ ∃ l o, c = (none, l, o) ∧ l < o ∧ l < n - hint ∧ Bq left kk (K arr (base + (hint + l))) ∧ (n - hint ≤ o ∨ ¬ Bq left kk (K arr (base + (hint + o))))) ?step ?fin ?init) ?post)
    case init => exact ⟨rfl, 0, 1, rfl, by omega, by omega, by omega, b0⟩
    case fin =>
      rintro c st' ⟨rfl, l, o, rfl, g1, g2, g3, g4⟩
      exact ⟨rfl, l, o, rfl, g1, g2, g4, .inl (by omega)⟩
    case post =>
      rintro c st' ⟨rfl, l, o, rfl, g1, g2, g3, g4⟩
      have pb : ∀ i, hint + min o (n - hint) ≤ i → i < n → ¬ Bq left kk (K arr (base + i)) := fun i hi hn bi => by
        rcases g4 with g4 | g4
        · omega
        · exact g4 (up (hint + o) i (by omega) hn bi)
      refine wpS_bind (wpS_halves (lo := hint + l + 1) (hi := hint + min o (n - hint)) (B := fun i => Bq left kk (K arr (base + i))) up (by omega) (by omega) (fun i hi => up i (hint + l) (by omega) (by omega) g3) pb (fun x l r c => if_pos c) (fun x l r c1 c2 Q' q1 q2 => ?_) (fun k k1 k2 k3 => wpS_pure (h k k1 k2 k3)))
      dsimp only
      rw [if_neg (by omega)]
      refine wpS_bind (wpS_bey hk hkey (hin _ (by omega)) ?_)
      rw [ek]
      by_cases b : Bq left kk (K arr (base + (l + (r - l) / 2)))
      · rw [decide_eq_true b]
        exact wpS_pure (q1 b)
      · rw [decide_eq_false b]
        exact wpS_pure (q2 b)
    case step =>
      rintro x c st' _ hx ⟨rfl, l, o, rfl, g1, g2, g3, g4⟩
      dsimp only
      by_cases c : o ≥ n - hint
      · rw [if_pos c]
        exact wpS_pure ⟨rfl, l, o, rfl, g1, g2, g4, .inl c⟩
      · rw [if_neg c]
        refine wpS_bind (wpS_bey hk hkey (hin _ (by omega)) ?_)
        rw [ek]
        by_cases b : Bq left kk (K arr (base + (hint + o)))
        · rw [decide_eq_true b]
          exact wpS_pure ⟨rfl, o, 2 * o + 1, rfl, by omega, by omega, by omega, b⟩
        · rw [decide_eq_false b]
          exact wpS_pure ⟨rfl, l, o, rfl, g1, g2, g4, .inr b⟩
  · rw [decide_eq_false b0]
    dsimp only
    rw [if_neg Bool.false_ne_true]
    refine wpS_bind (wpS_mono (wpS_forRange (I := fun x c st' => st' = st ∧ ∃ l o, c = (none, l, o) ∧ l < o ∧ l ≤ hint ∧ x + 1 ≤ o ∧ ¬ Bq left kk (K arr (base + (hint - l))))
      (Q := fun c st' => st' = st ∧ ∃ l o, c = (none, l, o) ∧ l < o ∧ l ≤ hint ∧ ¬ Bq left kk (K arr (base + (hint - l))) ∧ (hint + 1 ≤ o ∨ Bq left kk (K arr (base + (hint - o))))) ?step ?fin ?init) ?post)
    case init => exact ⟨rfl, 0, 1, rfl, by omega, by omega, by omega, b0⟩
    case fin =>
      rintro c st' ⟨rfl, l, o, rfl, g1, g2, g3, g4⟩
      exact ⟨rfl, l, o, rfl, g1, g2, g4, .inl (by omega)⟩
    case post =>
      rintro c st' ⟨rfl, l, o, rfl, g1, g2, g3, g4⟩
      have pa : ∀ i, i < hint + 1 - min o (hint + 1) → Bq left kk (K arr (base + i)) := fun i hi => by
        rcases g4 with g4 | g4
        · omega
        · exact up i (hint - o) (by omega) (by omega) g4
      refine wpS_bind (wpS_halves (lo := hint + 1 - min o (hint + 1)) (hi := hint - l) (B := fun i => Bq left kk (K arr (base + i))) up (by omega) (by omega) pa (fun i hi hn bi => g3 (up (hint - l) i (by omega) hn bi)) (fun x l r c => if_pos c) (fun x l r c1 c2 Q' q1 q2 => ?_) (fun k k1 k2 k3 => wpS_pure (h k k1 k2 k3)))
      dsimp only
      rw [if_neg (by omega)]
      refine wpS_bind (wpS_bey hk hkey (hin _ (by omega)) ?_)
      rw [ek]
      by_cases b : Bq left kk (K arr (base + (l + (r - l) / 2)))
      · rw [decide_eq_true b]
        exact wpS_pure (q1 b)
      · rw [decide_eq_false b]
        exact wpS_pure (q2 b)
    case step =>
      rintro x c st' _ hx ⟨rfl, l, o, rfl, g1, g2, g3, g4⟩
      dsimp only
      by_cases c : o ≥ hint + 1
      · rw [if_pos c]
        exact wpS_pure ⟨rfl, l, o, rfl, g1, g2, g4, .inl c⟩
      · rw [if_neg c]
        refine wpS_bind (wpS_bey hk hkey (hin _ (by omega)) ?_)
        rw [ek]
        by_cases b : Bq left kk (K arr (base + (hint - o)))
        · rw [decide_eq_true b]
          exact wpS_pure ⟨rfl, l, o, rfl, g1, g2, g4, .inr b⟩
        · rw [decide_eq_false b]
          exact wpS_pure ⟨rfl, o, 2 * o + 1, rfl, by omega, by omega, by omega, b⟩
end
def kz (x : Keyed) : Int := numOf x.1
abbrev Up (l : List Keyed) : Prop := l.Pairwise fun x y => kz x ≤ kz y
structure Jn (a b out : List Keyed) (ia ib : Nat) : Prop where
  perm : out.Perm (a.take ia ++ b.take ib)
  srt : Up out
  le : ∀ x ∈ out, ∀ y, (y ∈ a.drop ia ∨ y ∈ b.drop ib) → kz x ≤ kz y
theorem Jn.sw {a b out : List Keyed} {ia ib : Nat} (h : Jn a b out ia ib) : Jn b a out ib ia := ⟨h.perm.trans List.perm_append_comm, h.srt, fun x hx y hy => h.le x hx y hy.symm⟩
theorem Jn.nil (a b : List Keyed) : Jn a b [] 0 0 := ⟨.refl _, .nil, fun x hx => by cases hx⟩
theorem Jn.pA {a b out : List Keyed} {ia ib : Nat} (h : Jn a b out ia ib) (sa : Up a) (k : Nat) (c : ∀ y ∈ (a.drop ia).take k, ∀ z ∈ b.drop ib, kz y ≤ kz z) : Jn a b (out ++ (a.drop ia).take k) (ia + k) ib := by
  have sd : Up (a.drop ia) := sa.sublist (List.drop_sublist _ _)
  have e : a.drop ia = (a.drop ia).take k ++ a.drop (ia + k) := by rw [← List.drop_drop, List.take_append_drop]
  refine ⟨?_, ?_, ?_⟩
  · rw [List.take_add]
    refine (h.perm.append_right _).trans ?_
    rw [List.append_assoc, List.append_assoc]
    exact List.Perm.append_left _ List.perm_append_comm
  · refine List.pairwise_append.mpr ⟨h.srt, sd.sublist (List.take_sublist _ _), fun x hx y hy => h.le x hx y (.inl (List.mem_of_mem_take hy))⟩
  · intro x hx y hy
    rcases List.mem_append.mp hx with hx | hx
    · refine h.le x hx y (hy.imp (fun hy => ?_) id)
      rw [e]; exact List.mem_append_right _ hy
    · rcases hy with hy | hy
      · rw [e] at sd
        exact (List.pairwise_append.mp sd).2.2 x hx y hy
      · exact c x hx y hy
theorem Jn.pB {a b out : List Keyed} {ia ib : Nat} (h : Jn a b out ia ib) (sb : Up b) (k : Nat) (c : ∀ y ∈ (b.drop ib).take k, ∀ z ∈ a.drop ia, kz y ≤ kz z) : Jn a b (out ++ (b.drop ib).take k) ia (ib + k) := (h.sw.pA sb k c).sw
def Gd (a b res : List Keyed) : Prop := res.Perm (a ++ b) ∧ Up res
theorem Jn.gd {a b out : List Keyed} {ia ib : Nat} (h : Jn a b out ia ib) (ha : a.length ≤ ia) (hb : b.length ≤ ib) : Gd a b out := by
  have p := h.perm
  rw [List.take_of_length_le ha, List.take_of_length_le hb] at p
  exact ⟨p, h.srt⟩
theorem take_all {α : Type} (l : List α) (i : Nat) : (l.drop i).take l.length = l.drop i := List.take_of_length_le (by rw [List.length_drop]; omega)
theorem Jn.dA {a b out : List Keyed} {ia ib : Nat} (h : Jn a b out ia ib) (sa : Up a) (sb : Up b) (c : ∀ y ∈ a.drop ia, ∀ z ∈ b.drop ib, kz y ≤ kz z) : Gd a b (out ++ a.drop ia ++ b.drop ib) := by
  have h1 := h.pA sa a.length (by rw [take_all]; exact c)
  rw [take_all] at h1
  have h2 := h1.pB sb b.length (fun y _ z hz => by rw [List.drop_eq_nil_of_le (by omega)] at hz; cases hz)
  rw [take_all] at h2
  exact h2.gd (by omega) (by omega)
theorem Jn.dB {a b out : List Keyed} {ia ib : Nat} (h : Jn a b out ia ib) (sa : Up a) (sb : Up b) (c : ∀ y ∈ b.drop ib, ∀ z ∈ a.drop ia, kz y ≤ kz z) : Gd a b (out ++ b.drop ib ++ a.drop ia) := by
  obtain ⟨p, u⟩ := h.sw.dA sb sa c
  exact ⟨p.trans List.perm_append_comm, u⟩
def mergeLo' : Array Keyed → Array Keyed → StateT SortSt Sem (Array Keyed) := sortPriv% PySem.Builtin.mergeLo
def mergeHi' : Array Keyed → Array Keyed → StateT SortSt Sem (Array Keyed) := sortPriv% PySem.Builtin.mergeHi
abbrev setG (st : SortSt) (g : Nat) : SortSt := SortSt.mk' (kindOf st) (arrOf st) (pendingOf st) g (failedOf st)
structure Rn (a : Array Keyed) : Prop where
  num : ∀ i, i < a.size → ∃ x, a[i]? = some x ∧ IsN x
  up : ∀ i j, i ≤ j → j < a.size → K a i ≤ K a j
theorem Rn.list {a : Array Keyed} (h : Rn a) : Up a.toList := by
  refine List.pairwise_iff_getElem.mpr fun i j hi hj hij => ?_
  have h1 : a[i]? = some a.toList[i] := by rw [Array.getElem?_toList.symm]; exact List.getElem?_eq_getElem hi
  have h2 : a[j]? = some a.toList[j] := by rw [Array.getElem?_toList.symm]; exact List.getElem?_eq_getElem hj
  have := h.up i j (by omega) (by simpa using hj)
  rw [K_some h1, K_some h2] at this
  exact this
theorem mem_drop {a : Array Keyed} {i : Nat} {z : Keyed} (h : z ∈ a.toList.drop i) : ∃ j, i ≤ j ∧ j < a.size ∧ K a j = kz z := by
  obtain ⟨k, hk⟩ := List.mem_iff_getElem?.mp h
  rw [List.getElem?_drop, Array.getElem?_toList] at hk
  exact ⟨i + k, by omega, by have := (Array.getElem?_eq_some_iff.mp hk).1; exact this, K_some hk⟩
theorem mem_run {a : Array Keyed} {i k : Nat} {z : Keyed} (h : z ∈ (a.toList.drop i).take k) : ∃ j, j < k ∧ i + j < a.size ∧ K a (i + j) = kz z := by
  obtain ⟨m, hm⟩ := List.mem_iff_getElem?.mp h
  have hl := (List.getElem?_eq_some_iff.mp hm).1
  rw [List.length_take] at hl
  rw [List.getElem?_take_of_lt (by omega), List.getElem?_drop, Array.getElem?_toList] at hm
  exact ⟨m, by omega, (Array.getElem?_eq_some_iff.mp hm).1, K_some hm⟩
theorem ext_tl (a : Array Keyed) (i : Nat) : (a.extract i a.size).toList = a.toList.drop i := by
  rw [Array.toList_extract, List.extract_eq_take_drop]
  exact List.take_of_length_le (by simp)
theorem ext_k (a : Array Keyed) (i k : Nat) : (a.extract i (i + k)).toList = (a.toList.drop i).take k := by
  rw [Array.toList_extract, List.extract_eq_take_drop, Nat.add_sub_cancel_left]
theorem take_one {a : Array Keyed} {i : Nat} {x : Keyed} (h : a[i]? = some x) : (a.toList.drop i).take 1 = [x] := by
  have hi := (Array.getElem?_eq_some_iff.mp h).1
  rw [List.drop_eq_getElem_cons (by simpa using hi)]
  have e : a.toList[i]'(by simpa using hi) = x := by
    have := (Array.getElem?_eq_some_iff.mp h).2
    simpa using this
  rw [e]; rfl
section
variable {a b : Array Keyed}
abbrev Ja (a b out : Array Keyed) (ia ib : Nat) : Prop := Jn a.toList b.toList out.toList ia ib
theorem Ja.runA {out : Array Keyed} {ia ib : Nat} (h : Ja a b out ia ib) (ra : Rn a) (rb : Rn b) (k : Nat) (c : ∀ i, i < k → ib < b.size → K a (ia + i) ≤ K b ib) : Ja a b (out ++ a.extract ia (ia + k)) (ia + k) ib := by
  show Jn _ _ (out ++ a.extract ia (ia + k)).toList _ _
  rw [Array.toList_append, ext_k]
  refine h.pA ra.list k fun y hy z hz => ?_
  obtain ⟨j, hj, hs, ej⟩ := mem_run hy
  obtain ⟨m, hm, hs2, em⟩ := mem_drop hz
  have := c j hj (by omega)
  have := rb.up ib m hm hs2
  omega
theorem Ja.runB {out : Array Keyed} {ia ib : Nat} (h : Ja a b out ia ib) (ra : Rn a) (rb : Rn b) (k : Nat) (c : ∀ i, i < k → ia < a.size → K b (ib + i) ≤ K a ia) : Ja a b (out ++ b.extract ib (ib + k)) ia (ib + k) := (Ja.runA (a := b) (b := a) h.sw rb ra k c).sw
theorem Ja.pushA {out : Array Keyed} {ia ib : Nat} {x : Keyed} (h : Ja a b out ia ib) (ra : Rn a) (rb : Rn b) (hx : a[ia]? = some x) (c : ib < b.size → K a ia ≤ K b ib) : Ja a b (out.push x) (ia + 1) ib := by
  have := Ja.runA h ra rb 1 (fun i hi hb => by obtain rfl : i = 0 := by omega
                                               exact c hb)
  show Jn _ _ (out.push x).toList _ _
  have e : (out ++ a.extract ia (ia + 1)).toList = (out.push x).toList := by rw [Array.toList_append, ext_k, take_one hx, Array.toList_push]
  rw [← e]
  exact this
theorem Ja.pushB {out : Array Keyed} {ia ib : Nat} {x : Keyed} (h : Ja a b out ia ib) (ra : Rn a) (rb : Rn b) (hx : b[ib]? = some x) (c : ia < a.size → K b ib ≤ K a ia) : Ja a b (out.push x) ia (ib + 1) := (Ja.pushA (a := b) (b := a) h.sw rb ra hx c).sw
theorem Ja.done {out : Array Keyed} {ia ib : Nat} (h : Ja a b out ia ib) (ra : Rn a) (rb : Rn b) (c : a.size ≤ ia ∨ b.size ≤ ib) : Gd a.toList b.toList (out ++ a.extract ia a.size ++ b.extract ib b.size).toList := by
  rw [Array.toList_append, Array.toList_append, ext_tl, ext_tl]
  refine h.dA ra.list rb.list fun y hy z hz => ?_
  obtain ⟨j, _, hs, _⟩ := mem_drop hy
  obtain ⟨m, _, hs2, _⟩ := mem_drop hz
  omega
theorem Ja.last {out : Array Keyed} {ia ib : Nat} (h : Ja a b out ia ib) (ra : Rn a) (rb : Rn b) (e : ia + 1 = a.size) (c : ∀ j, j < b.size → K b j ≤ K a (a.size - 1)) : Gd a.toList b.toList (out ++ b.extract ib b.size ++ a.extract ia a.size).toList := by
  rw [Array.toList_append, Array.toList_append, ext_tl, ext_tl]
  refine h.dB ra.list rb.list fun y hy z hz => ?_
  obtain ⟨j, _, hs, ej⟩ := mem_drop hy
  obtain ⟨m, _, hs2, em⟩ := mem_drop hz
  have := c j hs
  obtain rfl : m = a.size - 1 := by omega
  omega
end
section
variable {prog : Program} {w : World} {A : Around} {E : Value → Shared → Prop} {s : Shared} {a b : Array Keyed}
theorem wpS_elIf {β : Type} {st : SortSt} {a : Array Keyed} {i : Nat} {c : Prop} [Decidable c] {F : Keyed → β} {G : Keyed → StateT SortSt Sem β} {Q : β → SortSt → Prop} {x : Keyed} (hx : a[i]? = some x) (h1 : c → Q (F x) st) (h2 : ¬ c → wpS (model prog w) A E s (G x) Q st) :
    wpS (model prog w) A E s (do let x ← elem' a i; if c then pure (F x) else G x) Q st := by
  refine wpS_bind (wpS_elem hx ?_)
  by_cases h : c
  · rw [if_pos h]; exact wpS_pure (h1 h)
  · rw [if_neg h]; exact h2 h
theorem wpS_ite {β : Type} {st : SortSt} {c : Prop} [Decidable c] {F G : StateT SortSt Sem β} {Q : β → SortSt → Prop} (h1 : c → wpS (model prog w) A E s F Q st) (h2 : ¬ c → wpS (model prog w) A E s G Q st) : wpS (model prog w) A E s (if c then F else G) Q st := by
  by_cases h : c
  · rw [if_pos h]; exact h1 h
  · rw [if_neg h]; exact h2 h
theorem bqF {kk v : Int} : Bq false kk v ↔ v ≤ kk := by unfold Bq; rw [if_neg Bool.false_ne_true]
theorem bqT {kk v : Int} : Bq true kk v ↔ v < kk := by unfold Bq; rw [if_pos rfl]
theorem wpS_mergeLo {st : SortSt} {Q : Array Keyed → SortSt → Prop} (ra : Rn a) (rb : Rn b) (hk : kindOf st = oneType') (h1 : 0 < a.size) (h2 : 0 < b.size) (hf : K b 0 ≤ K a 0) (hl : ∀ j, j < b.size → K b j ≤ K a (a.size - 1))
    (h : ∀ res g, Gd a.toList b.toList res.toList → Q res (setG st g)) : wpS (model prog w) A E s (mergeLo' a b) Q st := by
  refine wpS_bind (wpS_lift (wpAny_rule ⟨rfl, ?_⟩))
  obtain ⟨y0, hy0, ny0⟩ := rb.num 0 h2
  have j1 : Ja a b #[y0] 0 1 := Ja.pushB (out := #[]) (Jn.nil _ _) ra rb hy0 fun _ => hf
  refine wpS_bind (wpS_elem hy0 ?_)
  refine wpS_ite (fun c => ?_) (fun c => ?_)
  · have c : 1 = b.size := by simpa using c
    exact wpS_pure (h _ (gallopOf st) (j1.done ra rb (.inr (by omega))))
  refine wpS_ite (fun c => ?_) (fun c2 => ?_)
  · have c : 0 + 1 = a.size := by simpa using c
    exact wpS_pure (h _ (gallopOf st) (j1.last ra rb c hl))
  have c : 1 ≠ b.size := by simpa using c
  have c2 : 0 + 1 ≠ a.size := by simpa using c2
  refine wpS_bind (wpS_get ?_)
  refine wpS_bind (wpS_mono (wpS_forRange
    (I := fun x c st' => ∃ out ia ib mg g, c = (none, out, ia, ib, mg) ∧ st' = setG st g ∧ Ja a b out ia ib ∧ ia + 1 < a.size ∧ ib < b.size ∧ x + 1 ≤ ia + ib)
    (Q := fun c st' => ∃ res out ia ib mg g, c = (some res, out, ia, ib, mg) ∧ st' = setG st g ∧ Gd a.toList b.toList res.toList) ?step ?fin ?init) ?post)
  case init => exact ⟨_, _, _, _, gallopOf st, rfl, rfl, j1, by omega, by omega, by omega⟩
  case fin =>
    rintro c st' ⟨out, ia, ib, mg, g, rfl, rfl, j, g1, g2, g3⟩
    omega
  case post =>
    rintro c st' ⟨res, out, ia, ib, mg, g, rfl, rfl, gd⟩
    exact wpS_pure (h _ _ gd)
  case step =>
    rintro x c st' _ hx ⟨out0, ia0, ib0, mg, g, rfl, rfl, j0, g1, g2, g3⟩
    refine wpS_bind (wpS_mono (wpS_forRange
      (I := fun x c st' => ∃ out ia ib ac bc, c = (none, out, ia, ib, ac, bc) ∧ st' = setG st g ∧ Ja a b out ia ib ∧ ia + 1 < a.size ∧ ib < b.size ∧ ia0 + ib0 ≤ ia + ib ∧ (0 < x → ia0 + ib0 < ia + ib))
      (Q := fun c st' => st' = setG st g ∧ ((∃ res out ia ib ac bc, c = (some res, out, ia, ib, ac, bc) ∧ Gd a.toList b.toList res.toList) ∨
        ∃ out ia ib ac bc, c = (none, out, ia, ib, ac, bc) ∧ Ja a b out ia ib ∧ ia + 1 < a.size ∧ ib < b.size ∧ ia0 + ib0 < ia + ib)) ?step1 ?fin1 ?init1) ?post1)
    case init1 => exact ⟨out0, ia0, ib0, _, _, rfl, rfl, j0, g1, g2, by omega, by omega⟩
    case fin1 =>
      rintro c st' ⟨out, ia, ib, ac, bc, rfl, rfl, j, e1, e2, e3, e4⟩
      exact ⟨rfl, .inr ⟨out, ia, ib, ac, bc, rfl, j, e1, e2, e4 (by omega)⟩⟩
    case step1 =>
      rintro x c st' _ hx ⟨out, ia, ib, ac, bc, rfl, rfl, j, e1, e2, e3, e4⟩
      obtain ⟨x, hxa, nx⟩ := ra.num ia (by omega)
      obtain ⟨y, hyb, ny⟩ := rb.num ib e2
      refine wpS_bind (wpS_elem hyb (wpS_bind (wpS_elem hxa (wpS_bind (wpS_lt hk ny nx ?_)))))
      rw [← K_some hyb, ← K_some hxa]
      by_cases l : K b ib < K a ia
      · rw [decide_eq_true l]
        have j2 := Ja.pushB j ra rb hyb fun _ => Int.le_of_lt l
        refine wpS_elIf hyb (fun c => ?_) (fun c => ?_)
        · exact ⟨rfl, .inl ⟨_, _, _, _, _, _, rfl, j2.done ra rb (.inr (by simp at c; omega))⟩⟩
        · have c : ib + 1 ≠ b.size := by simpa using c
          refine wpS_ite (fun c3 => wpS_pure ?_) (fun c3 => wpS_pure ?_)
          · exact ⟨rfl, .inr ⟨_, ia, ib + 1, _, _, rfl, j2, e1, by omega, by omega⟩⟩
          · exact ⟨_, ia, ib + 1, _, _, rfl, rfl, j2, e1, by omega, by omega, by omega⟩
      · rw [decide_eq_false l]
        have j2 := Ja.pushA j ra rb hxa fun _ => Int.not_lt.mp l
        refine wpS_elIf hxa (fun c => ?_) (fun c => ?_)
        · exact ⟨rfl, .inl ⟨_, _, _, _, _, _, rfl, j2.last ra rb (by simpa using c) hl⟩⟩
        · have c : ia + 1 + 1 ≠ a.size := by simpa using c
          refine wpS_ite (fun c3 => wpS_pure ?_) (fun c3 => wpS_pure ?_)
          · exact ⟨rfl, .inr ⟨_, ia + 1, ib, _, _, rfl, j2, by omega, e2, by omega⟩⟩
          · exact ⟨_, ia + 1, ib, _, _, rfl, rfl, j2, by omega, e2, by omega, by omega⟩
    case post1 =>
      rintro c st' ⟨rfl, ⟨res, out, ia, ib, ac, bc, rfl, gd⟩ | ⟨out1, ia1, ib1, ac1, bc1, rfl, j1, e1, e2, e3⟩⟩
      · exact wpS_pure ⟨res, _, _, _, _, _, rfl, rfl, gd⟩
      · refine wpS_bind (wpS_lift (wpAny_rule ⟨rfl, ?_⟩))
        refine wpS_bind (wpS_mono (wpS_forRange
          (I := fun x c st' => ∃ out ia ib mg ac bc g, c = (none, out, ia, ib, mg, ac, bc) ∧ st' = setG st g ∧ Ja a b out ia ib ∧ ia + 1 < a.size ∧ ib < b.size ∧ ia1 + ib1 ≤ ia + ib)
          (Q := fun c st' => ∃ g, st' = setG st g ∧ ((∃ res out ia ib mg ac bc, c = (some res, out, ia, ib, mg, ac, bc) ∧ Gd a.toList b.toList res.toList) ∨
            ∃ out ia ib mg ac bc, c = (none, out, ia, ib, mg, ac, bc) ∧ Ja a b out ia ib ∧ ia + 1 < a.size ∧ ib < b.size ∧ ia1 + ib1 ≤ ia + ib)) ?step2 ?fin2 ?init2) ?post2)
        case init2 => exact ⟨out1, ia1, ib1, _, _, _, g, rfl, rfl, j1, e1, e2, by omega⟩
        case fin2 =>
          rintro c st' ⟨out, ia, ib, mg, ac, bc, g, rfl, rfl, j, f1, f2, f3⟩
          exact ⟨g, rfl, .inr ⟨out, ia, ib, mg, ac, bc, rfl, j, f1, f2, f3⟩⟩
        case post2 =>
          rintro c st' ⟨g, rfl, ⟨res, out, ia, ib, mg, ac, bc, rfl, gd⟩ | ⟨out, ia, ib, mg, ac, bc, rfl, j, f1, f2, f3⟩⟩
          · exact wpS_pure ⟨res, _, _, _, _, _, rfl, rfl, gd⟩
          · exact wpS_bind (wpS_modify (wpS_pure ⟨out, ia, ib, _, mg + 1, rfl, rfl, j, f1, f2, by omega⟩))
        case step2 =>
          rintro x c st' _ hx ⟨out, ia, ib, mg, ac, bc, g, rfl, rfl, j, f1, f2, f3⟩
          obtain ⟨y, hyb, ny⟩ := rb.num ib f2
          refine wpS_ite (fun _ => ?_) (fun _ => ?_)
          all_goals
            refine wpS_bind (wpS_modify (wpS_bind (wpS_elem hyb (wpS_bind (wpS_gallop (arr := a) (base := ia) (n := a.size - ia) (hint := 0) hk ny (fun i hi => ra.num _ (by omega)) (fun i j q1 q2 => ra.up _ _ (by omega) (by omega)) (by omega) fun k k1 k2 k3 => ?_)))))
            rw [← K_some hyb] at k2 k3
            have ja := Ja.runA j ra rb k fun i hi _ => bqF.mp (k2 i hi)
            refine wpS_ite (fun kp => wpS_ite (fun c => wpS_pure ?_) (fun c => wpS_ite (fun c => wpS_pure ?_) (fun c3 => ?_))) (fun kp => ?_)
            · exact ⟨_, rfl, .inl ⟨_, _, _, _, _, _, _, rfl, ja.last ra rb (by simpa using c) hl⟩⟩
            · exact ⟨_, rfl, .inl ⟨_, _, _, _, _, _, _, rfl, ja.done ra rb (.inl (by simp at c; omega))⟩⟩
            · have c : ia + k + 1 ≠ a.size := by simpa using c
              have c3 : ia + k ≠ a.size := by simpa using c3
              have lt : K b ib < K a (ia + k) := by have := k3 k (Nat.le_refl _) (by omega); rw [bqF] at this; omega
              refine wpS_elIf hyb (fun c => ?_) (fun c => ?_)
              · exact ⟨_, rfl, .inl ⟨_, _, _, _, _, _, _, rfl, (Ja.pushB ja ra rb hyb fun _ => Int.le_of_lt lt).done ra rb (.inr (by simp at c; omega))⟩⟩
              have j2 := Ja.pushB ja ra rb hyb fun _ => Int.le_of_lt lt
              have c : ib + 1 ≠ b.size := by simpa using c
              obtain ⟨x, hxa, nx⟩ := ra.num (ia + k) (by omega)
              refine wpS_bind (wpS_elem hxa (wpS_bind (wpS_gallop (arr := b) (base := ib + 1) (n := b.size - (ib + 1)) (hint := 0) hk nx (fun i hi => rb.num _ (by omega)) (fun i j q1 q2 => rb.up _ _ (by omega) (by omega)) (by omega) fun m m1 m2 m3 => ?_)))
              rw [← K_some hxa] at m2 m3
              have j3 := Ja.runB j2 ra rb m fun i hi _ => Int.le_of_lt (bqT.mp (m2 i hi))
              refine wpS_ite (fun mp => wpS_ite (fun c => wpS_pure ?_) (fun c => ?_)) (fun mp => ?_)
              · exact ⟨_, rfl, .inl ⟨_, _, _, _, _, _, _, rfl, j3.done ra rb (.inr (by simp at c; omega))⟩⟩
              · have c : ib + 1 + m ≠ b.size := by simpa using c
                have j4 := Ja.pushA j3 ra rb hxa fun _ => (by have := m3 m (Nat.le_refl _) (by omega); rw [bqT] at this; omega)
                refine wpS_elIf hxa (fun c => ?_) (fun c => ?_)
                · exact ⟨_, rfl, .inl ⟨_, _, _, _, _, _, _, rfl, j4.last ra rb (by simpa using c) hl⟩⟩
                · have c : ia + k + 1 + 1 ≠ a.size := by simpa using c
                  refine wpS_ite (fun c3 => wpS_pure ?_) (fun c3 => wpS_pure ?_)
                  · exact ⟨_, rfl, .inr ⟨_, ia + k + 1, ib + 1 + m, _, _, _, rfl, j4, by omega, by omega, by omega⟩⟩
                  · exact ⟨_, ia + k + 1, ib + 1 + m, _, _, _, _, rfl, rfl, j4, by omega, by omega, by omega⟩
              · obtain rfl : m = 0 := by omega
                have j4 := Ja.pushA j2 ra rb hxa fun _ => (by have := m3 0 (Nat.le_refl _) (by omega); rw [bqT] at this; exact Int.not_lt.mp this)
                refine wpS_elIf hxa (fun c => ?_) (fun c => ?_)
                · exact ⟨_, rfl, .inl ⟨_, _, _, _, _, _, _, rfl, j4.last ra rb (by simpa using c) hl⟩⟩
                · have c : ia + k + 1 + 1 ≠ a.size := by simpa using c
                  refine wpS_ite (fun c3 => wpS_pure ?_) (fun c3 => wpS_pure ?_)
                  · exact ⟨_, rfl, .inr ⟨_, ia + k + 1, ib + 1, _, _, _, rfl, j4, by omega, by omega, by omega⟩⟩
                  · exact ⟨_, ia + k + 1, ib + 1, _, _, _, _, rfl, rfl, j4, by omega, by omega, by omega⟩
            · obtain rfl : k = 0 := by omega
              have lt : K b ib < K a ia := by have := k3 0 (Nat.le_refl _) (by omega); rw [bqF] at this; exact Int.not_le.mp this
              refine wpS_elIf hyb (fun c => ?_) (fun c => ?_)
              · exact ⟨_, rfl, .inl ⟨_, _, _, _, _, _, _, rfl, (Ja.pushB j ra rb hyb fun _ => Int.le_of_lt lt).done ra rb (.inr (by simp at c; omega))⟩⟩
              have j2 := Ja.pushB j ra rb hyb fun _ => Int.le_of_lt lt
              have c : ib + 1 ≠ b.size := by simpa using c
              obtain ⟨x, hxa, nx⟩ := ra.num ia (by omega)
              refine wpS_bind (wpS_elem hxa (wpS_bind (wpS_gallop (arr := b) (base := ib + 1) (n := b.size - (ib + 1)) (hint := 0) hk nx (fun i hi => rb.num _ (by omega)) (fun i j q1 q2 => rb.up _ _ (by omega) (by omega)) (by omega) fun m m1 m2 m3 => ?_)))
              rw [← K_some hxa] at m2 m3
              have j3 := Ja.runB j2 ra rb m fun i hi _ => Int.le_of_lt (bqT.mp (m2 i hi))
              refine wpS_ite (fun mp => wpS_ite (fun c => wpS_pure ?_) (fun c => ?_)) (fun mp => ?_)
              · exact ⟨_, rfl, .inl ⟨_, _, _, _, _, _, _, rfl, j3.done ra rb (.inr (by simp at c; omega))⟩⟩
              · have c : ib + 1 + m ≠ b.size := by simpa using c
                have j4 := Ja.pushA j3 ra rb hxa fun _ => (by have := m3 m (Nat.le_refl _) (by omega); rw [bqT] at this; omega)
                refine wpS_elIf hxa (fun c => ?_) (fun c => ?_)
                · exact ⟨_, rfl, .inl ⟨_, _, _, _, _, _, _, rfl, j4.last ra rb (by simpa using c) hl⟩⟩
                · have c : ia + 1 + 1 ≠ a.size := by simpa using c
                  refine wpS_ite (fun c3 => wpS_pure ?_) (fun c3 => wpS_pure ?_)
                  · exact ⟨_, rfl, .inr ⟨_, ia + 1, ib + 1 + m, _, _, _, rfl, j4, by omega, by omega, by omega⟩⟩
                  · exact ⟨_, ia + 1, ib + 1 + m, _, _, _, _, rfl, rfl, j4, by omega, by omega, by omega⟩
              · obtain rfl : m = 0 := by omega
                have j4 := Ja.pushA j2 ra rb hxa fun _ => (by have := m3 0 (Nat.le_refl _) (by omega); rw [bqT] at this; exact Int.not_lt.mp this)
                refine wpS_elIf hxa (fun c => ?_) (fun c => ?_)
                · exact ⟨_, rfl, .inl ⟨_, _, _, _, _, _, _, rfl, j4.last ra rb (by simpa using c) hl⟩⟩
                · have c : ia + 1 + 1 ≠ a.size := by simpa using c
                  refine wpS_ite (fun c3 => wpS_pure ?_) (fun c3 => wpS_pure ?_)
                  · exact ⟨_, rfl, .inr ⟨_, ia + 1, ib + 1, _, _, _, rfl, j4, by omega, by omega, by omega⟩⟩
                  · exact ⟨_, ia + 1, ib + 1, _, _, _, _, rfl, rfl, j4, by omega, by omega, by omega⟩
end
structure Jh (a b out : List Keyed) (na nb : Nat) : Prop where
  perm : out.Perm (a.drop na ++ b.drop nb)
  srt : Up out
  le : ∀ x ∈ out, ∀ y, (y ∈ a.take na ∨ y ∈ b.take nb) → kz y ≤ kz x
theorem Jh.sw {a b out : List Keyed} {na nb : Nat} (h : Jh a b out na nb) : Jh b a out nb na := ⟨h.perm.trans List.perm_append_comm, h.srt, fun x hx y hy => h.le x hx y hy.symm⟩
theorem Jh.rA {a b out : List Keyed} {na nb : Nat} (h : Jh a b out na nb) (sa : Up a) {p : Nat} (hp : p ≤ na) (c : ∀ y ∈ (a.drop p).take (na - p), ∀ z ∈ b.take nb, kz z ≤ kz y) : Jh a b ((a.drop p).take (na - p) ++ out) p nb := by
  have e : a.drop p = (a.drop p).take (na - p) ++ a.drop na := by
    conv => lhs; rw [← List.take_append_drop (na - p) (a.drop p)]
    rw [List.drop_drop, Nat.add_sub_cancel' hp]
  have et : a.take na = a.take p ++ (a.drop p).take (na - p) := by
    conv => lhs; rw [← Nat.add_sub_cancel' hp]
    rw [List.take_add]
  refine ⟨?_, ?_, ?_⟩
  · rw [e, List.append_assoc, ← e]
    exact List.Perm.append_left _ h.perm
  · refine List.pairwise_append.mpr ⟨(sa.sublist (List.drop_sublist _ _)).sublist (List.take_sublist _ _), h.srt, fun x hx y hy => h.le y hy x (.inl ?_)⟩
    rw [et]; exact List.mem_append_right _ hx
  · intro x hx y hy
    rcases List.mem_append.mp hx with hx | hx
    · rcases hy with hy | hy
      · rw [← List.take_append_drop p a] at sa
        exact (List.pairwise_append.mp sa).2.2 y hy x (List.mem_of_mem_take hx)
      · exact c x hx y hy
    · refine h.le x hx y (hy.imp (fun hy => ?_) id)
      rw [et]; exact List.mem_append_left _ hy
theorem Jh.rB {a b out : List Keyed} {na nb : Nat} (h : Jh a b out na nb) (sb : Up b) {p : Nat} (hp : p ≤ nb) (c : ∀ y ∈ (b.drop p).take (nb - p), ∀ z ∈ a.take na, kz z ≤ kz y) : Jh a b ((b.drop p).take (nb - p) ++ out) na p := (h.sw.rA sb hp c).sw
theorem Jh.nil (a b : List Keyed) : Jh a b [] a.length b.length := ⟨by rw [List.drop_length, List.drop_length]; exact .refl _, .nil, fun x hx => by cases hx⟩
theorem Jh.dA {a b out : List Keyed} {na nb : Nat} (h : Jh a b out na nb) (sa : Up a) (sb : Up b) (c : ∀ y ∈ b.take nb, ∀ z ∈ a.take na, kz z ≤ kz y) : Gd a b (a.take na ++ b.take nb ++ out) := by
  have h1 := h.rB sb (Nat.zero_le _) c
  have h2 := h1.rA sa (Nat.zero_le _) (fun y _ z hz => by cases hz)
  have p := h2.perm
  have u := h2.srt
  rw [List.append_assoc]
  exact ⟨p, u⟩
theorem Jh.dB {a b out : List Keyed} {na nb : Nat} (h : Jh a b out na nb) (sa : Up a) (sb : Up b) (c : ∀ y ∈ a.take na, ∀ z ∈ b.take nb, kz z ≤ kz y) : Gd a b (b.take nb ++ a.take na ++ out) := by
  obtain ⟨p, u⟩ := h.sw.dA sb sa c
  exact ⟨p.trans List.perm_append_comm, u⟩
theorem mem_tk {a : Array Keyed} {n : Nat} {z : Keyed} (h : z ∈ a.toList.take n) : ∃ j, j < n ∧ j < a.size ∧ K a j = kz z := by
  have := mem_run (a := a) (i := 0) (k := n) (z := z) (by rw [List.drop_zero]; exact h)
  obtain ⟨j, h1, h2, h3⟩ := this
  rw [Nat.zero_add] at h2 h3
  exact ⟨j, h1, h2, h3⟩
theorem ext_0 (a : Array Keyed) (n : Nat) : (a.extract 0 n).toList = a.toList.take n := by
  rw [Array.toList_extract, List.extract_eq_take_drop]; rfl
section
variable {a b : Array Keyed}
abbrev Jb (a b out : Array Keyed) (na nb : Nat) : Prop := Jh a.toList b.toList out.toList.reverse na nb
theorem Jb.runA {out : Array Keyed} {na nb : Nat} (h : Jb a b out na nb) (ra : Rn a) (rb : Rn b) (hb : nb ≤ b.size) {p : Nat} (hp : p ≤ na) (c : ∀ i, p ≤ i → i < na → 0 < nb → K b (nb - 1) ≤ K a i) : Jb a b (out ++ (a.extract p na).reverse) p nb := by
  show Jh _ _ (out ++ (a.extract p na).reverse).toList.reverse _ _
  have e : (out ++ (a.extract p na).reverse).toList.reverse = (a.toList.drop p).take (na - p) ++ out.toList.reverse := by
    rw [Array.toList_append, List.reverse_append, Array.toList_reverse, List.reverse_reverse, Array.toList_extract, List.extract_eq_take_drop]
  rw [e]
  refine h.rA ra.list hp fun y hy z hz => ?_
  obtain ⟨j, hj, hs, ej⟩ := mem_run hy
  obtain ⟨m, hm, hs2, em⟩ := mem_tk hz
  have := c (p + j) (by omega) (by omega) (by omega)
  have := rb.up m (nb - 1) (by omega) (by omega)
  omega
theorem Jb.runB {out : Array Keyed} {na nb : Nat} (h : Jb a b out na nb) (ra : Rn a) (rb : Rn b) (ha : na ≤ a.size) {p : Nat} (hp : p ≤ nb) (c : ∀ i, p ≤ i → i < nb → 0 < na → K a (na - 1) ≤ K b i) : Jb a b (out ++ (b.extract p nb).reverse) na p := (Jb.runA (a := b) (b := a) h.sw rb ra ha hp c).sw
theorem Jb.pushA {out : Array Keyed} {na nb : Nat} {x : Keyed} (h : Jb a b out na nb) (ra : Rn a) (rb : Rn b) (hb : nb ≤ b.size) (h0 : 0 < na) (hx : a[na - 1]? = some x) (c : 0 < nb → K b (nb - 1) ≤ K a (na - 1)) : Jb a b (out.push x) (na - 1) nb := by
  have := Jb.runA h ra rb hb (p := na - 1) (by omega) (fun i h1 h2 h3 => by obtain rfl : i = na - 1 := by omega
                                                                            exact c h3)
  have e : (out ++ (a.extract (na - 1) na).reverse).toList = (out.push x).toList := by
    rw [Array.toList_append, Array.toList_reverse, Array.toList_push]
    congr 1
    have : (a.extract (na - 1) na).toList = [x] := by
      conv => lhs; rw [show na = na - 1 + 1 by omega]
      rw [show na - 1 + 1 - 1 = na - 1 by omega, ext_k, take_one hx]
    rw [this]; rfl
  show Jh _ _ (out.push x).toList.reverse _ _
  rw [← e]
  exact this
theorem Jb.pushB {out : Array Keyed} {na nb : Nat} {x : Keyed} (h : Jb a b out na nb) (ra : Rn a) (rb : Rn b) (ha : na ≤ a.size) (h0 : 0 < nb) (hx : b[nb - 1]? = some x) (c : 0 < na → K a (na - 1) ≤ K b (nb - 1)) : Jb a b (out.push x) na (nb - 1) := (Jb.pushA (a := b) (b := a) h.sw rb ra ha h0 hx c).sw
theorem Jb.done {out : Array Keyed} {na nb : Nat} (h : Jb a b out na nb) (ra : Rn a) (rb : Rn b) (c : na = 0 ∨ nb = 0) : Gd a.toList b.toList (a.extract 0 na ++ b.extract 0 nb ++ out.reverse).toList := by
  rw [Array.toList_append, Array.toList_append, ext_0, ext_0, Array.toList_reverse]
  refine h.dA ra.list rb.list fun y hy z hz => ?_
  obtain ⟨j, hj, _⟩ := mem_tk hy
  obtain ⟨m, hm, _⟩ := mem_tk hz
  omega
theorem Jb.first {out : Array Keyed} {na nb : Nat} (h : Jb a b out na nb) (ra : Rn a) (rb : Rn b) (e : nb = 1) (hf : K b 0 ≤ K a 0) : Gd a.toList b.toList (b.extract 0 nb ++ a.extract 0 na ++ out.reverse).toList := by
  rw [Array.toList_append, Array.toList_append, ext_0, ext_0, Array.toList_reverse]
  refine h.dB ra.list rb.list fun y hy z hz => ?_
  obtain ⟨j, hj, hs, ej⟩ := mem_tk hy
  obtain ⟨m, hm, hs2, em⟩ := mem_tk hz
  obtain rfl : m = 0 := by omega
  have := ra.up 0 j (by omega) hs
  omega
end
section
variable {prog : Program} {w : World} {A : Around} {E : Value → Shared → Prop} {s : Shared} {a b : Array Keyed}
theorem wpS_mergeHi {st : SortSt} {Q : Array Keyed → SortSt → Prop} (ra : Rn a) (rb : Rn b) (hk : kindOf st = oneType') (h1 : 0 < a.size) (h2 : 0 < b.size) (hf : K b 0 ≤ K a 0) (hl : ∀ j, j < b.size → K b j ≤ K a (a.size - 1))
    (h : ∀ res g, Gd a.toList b.toList res.toList → Q res (setG st g)) : wpS (model prog w) A E s (mergeHi' a b) Q st := by
  refine wpS_bind (wpS_lift (wpAny_rule ⟨rfl, ?_⟩))
  obtain ⟨x0, hx0, nx0⟩ := ra.num (a.size - 1) (by omega)
  have j1 : Jb a b #[x0] (a.size - 1) b.size := Jb.pushA (out := #[]) (by show Jh _ _ [] a.size b.size; exact Jh.nil a.toList b.toList) ra rb (Nat.le_refl _) h1 hx0 fun _ => hl _ (by omega)
  refine wpS_bind (wpS_elem hx0 ?_)
  refine wpS_ite (fun c => ?_) (fun c => ?_)
  · have c : a.size - 1 = 0 := by simpa using c
    exact wpS_pure (h _ (gallopOf st) (j1.done ra rb (.inl c)))
  refine wpS_ite (fun c => ?_) (fun c2 => ?_)
  · have c : b.size = 1 := by simpa using c
    exact wpS_pure (h _ (gallopOf st) (j1.first ra rb c hf))
  have c : a.size - 1 ≠ 0 := by simpa using c
  have c2 : b.size ≠ 1 := by simpa using c2
  refine wpS_bind (wpS_get ?_)
  refine wpS_bind (wpS_mono (wpS_forRange
    (I := fun x c st' => ∃ na nb out mg g, c = (none, na, nb, out, mg) ∧ st' = setG st g ∧ Jb a b out na nb ∧ 1 ≤ na ∧ na ≤ a.size ∧ 2 ≤ nb ∧ nb ≤ b.size ∧ na + nb + x + 1 ≤ a.size + b.size)
    (Q := fun c st' => ∃ res na nb out mg g, c = (some res, na, nb, out, mg) ∧ st' = setG st g ∧ Gd a.toList b.toList res.toList) ?step ?fin ?init) ?post)
  case init => exact ⟨a.size - 1, b.size, _, _, gallopOf st, rfl, rfl, j1, by omega, by omega, by omega, by omega, by omega⟩
  case fin =>
    rintro c st' ⟨na, nb, out, mg, g, rfl, rfl, j, g1, g2, g3, g4, g5⟩
    omega
  case post =>
    rintro c st' ⟨res, na, nb, out, mg, g, rfl, rfl, gd⟩
    exact wpS_pure (h _ _ gd)
  case step =>
    rintro x c st' _ hx ⟨na0, nb0, out0, mg, g, rfl, rfl, j0, g1, g2, g3, g4, g5⟩
    refine wpS_bind (wpS_mono (wpS_forRange
      (I := fun x c st' => ∃ na nb out ac bc, c = (none, na, nb, out, ac, bc) ∧ st' = setG st g ∧ Jb a b out na nb ∧ 1 ≤ na ∧ na ≤ a.size ∧ 2 ≤ nb ∧ nb ≤ b.size ∧ na + nb ≤ na0 + nb0 ∧ (0 < x → na + nb < na0 + nb0))
      (Q := fun c st' => st' = setG st g ∧ ((∃ res na nb out ac bc, c = (some res, na, nb, out, ac, bc) ∧ Gd a.toList b.toList res.toList) ∨
        ∃ na nb out ac bc, c = (none, na, nb, out, ac, bc) ∧ Jb a b out na nb ∧ 1 ≤ na ∧ na ≤ a.size ∧ 2 ≤ nb ∧ nb ≤ b.size ∧ na + nb < na0 + nb0)) ?step1 ?fin1 ?init1) ?post1)
    case init1 => exact ⟨na0, nb0, out0, _, _, rfl, rfl, j0, g1, g2, g3, g4, by omega, by omega⟩
    case fin1 =>
      rintro c st' ⟨na, nb, out, ac, bc, rfl, rfl, j, e1, e2, e3, e4, e5, e6⟩
      exact ⟨rfl, .inr ⟨na, nb, out, ac, bc, rfl, j, e1, e2, e3, e4, e6 (by omega)⟩⟩
    case step1 =>
      rintro x c st' _ hx ⟨na, nb, out, ac, bc, rfl, rfl, j, e1, e2, e3, e4, e5, e6⟩
      obtain ⟨x, hxa, nx⟩ := ra.num (na - 1) (by omega)
      obtain ⟨y, hyb, ny⟩ := rb.num (nb - 1) (by omega)
      refine wpS_bind (wpS_elem hyb (wpS_bind (wpS_elem hxa (wpS_bind (wpS_lt hk ny nx ?_)))))
      rw [← K_some hyb, ← K_some hxa]
      by_cases l : K b (nb - 1) < K a (na - 1)
      · rw [decide_eq_true l]
        have j2 := Jb.pushA j ra rb e4 (by omega) hxa fun _ => Int.le_of_lt l
        refine wpS_elIf hxa (fun c => ?_) (fun c => ?_)
        · exact ⟨rfl, .inl ⟨_, _, _, _, _, _, rfl, j2.done ra rb (.inl (by simpa using c))⟩⟩
        · have c : na - 1 ≠ 0 := by simpa using c
          refine wpS_ite (fun c3 => wpS_pure ?_) (fun c3 => wpS_pure ?_)
          · exact ⟨rfl, .inr ⟨na - 1, nb, _, _, _, rfl, j2, by omega, by omega, by omega, by omega, by omega⟩⟩
          · exact ⟨na - 1, nb, _, _, _, rfl, rfl, j2, by omega, by omega, by omega, by omega, by omega, by omega⟩
      · rw [decide_eq_false l]
        have j2 := Jb.pushB j ra rb e2 (by omega) hyb fun _ => Int.not_lt.mp l
        refine wpS_elIf hyb (fun c => ?_) (fun c => ?_)
        · exact ⟨rfl, .inl ⟨_, _, _, _, _, _, rfl, j2.first ra rb (by simpa using c) hf⟩⟩
        · have c : nb - 1 ≠ 1 := by simpa using c
          refine wpS_ite (fun c3 => wpS_pure ?_) (fun c3 => wpS_pure ?_)
          · exact ⟨rfl, .inr ⟨na, nb - 1, _, _, _, rfl, j2, by omega, by omega, by omega, by omega, by omega⟩⟩
          · exact ⟨na, nb - 1, _, _, _, rfl, rfl, j2, by omega, by omega, by omega, by omega, by omega, by omega⟩
    case post1 =>
      rintro c st' ⟨rfl, ⟨res, na, nb, out, ac, bc, rfl, gd⟩ | ⟨na1, nb1, out1, ac1, bc1, rfl, j1, e1, e2, e3, e4, e5⟩⟩
      · exact wpS_pure ⟨res, _, _, _, _, _, rfl, rfl, gd⟩
      · refine wpS_bind (wpS_lift (wpAny_rule ⟨rfl, ?_⟩))
        refine wpS_bind (wpS_mono (wpS_forRange
          (I := fun x c st' => ∃ na nb out mg ac bc g, c = (none, na, nb, out, mg, ac, bc) ∧ st' = setG st g ∧ Jb a b out na nb ∧ 1 ≤ na ∧ na ≤ a.size ∧ 2 ≤ nb ∧ nb ≤ b.size ∧ na + nb ≤ na1 + nb1)
          (Q := fun c st' => ∃ g, st' = setG st g ∧ ((∃ res na nb out mg ac bc, c = (some res, na, nb, out, mg, ac, bc) ∧ Gd a.toList b.toList res.toList) ∨
            ∃ na nb out mg ac bc, c = (none, na, nb, out, mg, ac, bc) ∧ Jb a b out na nb ∧ 1 ≤ na ∧ na ≤ a.size ∧ 2 ≤ nb ∧ nb ≤ b.size ∧ na + nb ≤ na1 + nb1)) ?step2 ?fin2 ?init2) ?post2)
        case init2 => exact ⟨na1, nb1, out1, _, _, _, g, rfl, rfl, j1, e1, e2, e3, e4, by omega⟩
        case fin2 =>
          rintro c st' ⟨na, nb, out, mg, ac, bc, g, rfl, rfl, j, f1, f2, f3, f4, f5⟩
          exact ⟨g, rfl, .inr ⟨na, nb, out, mg, ac, bc, rfl, j, f1, f2, f3, f4, f5⟩⟩
        case post2 =>
          rintro c st' ⟨g, rfl, ⟨res, na, nb, out, mg, ac, bc, rfl, gd⟩ | ⟨na, nb, out, mg, ac, bc, rfl, j, f1, f2, f3, f4, f5⟩⟩
          · exact wpS_pure ⟨res, _, _, _, _, _, rfl, rfl, gd⟩
          · exact wpS_bind (wpS_modify (wpS_pure ⟨na, nb, out, _, mg + 1, rfl, rfl, j, f1, f2, f3, f4, by omega⟩))
        case step2 =>
          rintro x c st' _ hx ⟨na, nb, out, mg, ac, bc, g, rfl, rfl, j, f1, f2, f3, f4, f5⟩
          obtain ⟨y, hyb, ny⟩ := rb.num (nb - 1) (by omega)
          refine wpS_ite (fun _ => ?_) (fun _ => ?_)
          all_goals
            refine wpS_bind (wpS_modify (wpS_bind (wpS_elem hyb (wpS_bind (wpS_gallop (arr := a) (base := 0) (n := na) (hint := na - 1) hk ny (fun i hi => ra.num _ (by omega)) (fun i j q1 q2 => ra.up _ _ (by omega) (by omega)) (by omega) fun k k1 k2 k3 => ?_)))))
            rw [← K_some hyb] at k2 k3
            simp only [Nat.zero_add, bqF] at k2 k3
            have ja := Jb.runA j ra rb f4 k1 fun i hi h9 _ => Int.le_of_lt (Int.not_le.mp (k3 i hi h9))
            refine wpS_ite (fun kp => wpS_ite (fun c => wpS_pure ?_) (fun c3 => ?_)) (fun kp => ?_)
            · exact ⟨_, rfl, .inl ⟨_, _, _, _, _, _, _, rfl, ja.done ra rb (.inl (by simpa using c))⟩⟩
            · have c3 : k ≠ 0 := by simpa using c3
              have j2 := Jb.pushB ja ra rb (by omega) (by omega) hyb fun _ => k2 (k - 1) (by omega)
              refine wpS_elIf hyb (fun c => ?_) (fun c => ?_)
              · exact ⟨_, rfl, .inl ⟨_, _, _, _, _, _, _, rfl, j2.first ra rb (by simpa using c) hf⟩⟩
              have c : nb - 1 ≠ 1 := by simpa using c
              obtain ⟨x, hxa, nx⟩ := ra.num (k - 1) (by omega)
              refine wpS_bind (wpS_elem hxa (wpS_bind (wpS_gallop (arr := b) (base := 0) (n := nb - 1) (hint := nb - 1 - 1) hk nx (fun i hi => rb.num _ (by omega)) (fun i j q1 q2 => rb.up _ _ (by omega) (by omega)) (by omega) fun m m1 m2 m3 => ?_)))
              rw [← K_some hxa] at m2 m3
              simp only [Nat.zero_add, bqT] at m2 m3
              have j3 := Jb.runB j2 ra rb (by omega) m1 fun i hi h9 _ => Int.not_lt.mp (m3 i hi h9)
              refine wpS_ite (fun mp => wpS_ite (fun c => wpS_pure ?_) (fun c => wpS_ite (fun c => wpS_pure ?_) (fun c3 => ?_))) (fun mp => ?_)
              · exact ⟨_, rfl, .inl ⟨_, _, _, _, _, _, _, rfl, j3.first ra rb (by simpa using c) hf⟩⟩
              · exact ⟨_, rfl, .inl ⟨_, _, _, _, _, _, _, rfl, j3.done ra rb (.inr (by simpa using c))⟩⟩
              · have c : m ≠ 1 := by simpa using c
                have c3 : m ≠ 0 := by simpa using c3
                have j4 := Jb.pushA j3 ra rb (by omega) (by omega) hxa fun _ => Int.le_of_lt (m2 (m - 1) (by omega))
                refine wpS_elIf hxa (fun c => ?_) (fun c => ?_)
                · exact ⟨_, rfl, .inl ⟨_, _, _, _, _, _, _, rfl, j4.done ra rb (.inl (by simpa using c))⟩⟩
                · have c : k - 1 ≠ 0 := by simpa using c
                  refine wpS_ite (fun c3 => wpS_pure ?_) (fun c3 => wpS_pure ?_)
                  · exact ⟨_, rfl, .inr ⟨k - 1, m, _, _, _, _, rfl, j4, by omega, by omega, by omega, by omega, by omega⟩⟩
                  · exact ⟨k - 1, m, _, _, _, _, _, rfl, rfl, j4, by omega, by omega, by omega, by omega, by omega⟩
              · have mp : ¬ nb - 1 - m > 0 := mp
                have em : m = nb - 1 := by omega
                subst em
                have j4 := Jb.pushA j2 ra rb (by omega) (by omega) hxa fun _ => Int.le_of_lt (m2 (nb - 1 - 1) (by omega))
                refine wpS_elIf hxa (fun c => ?_) (fun c => ?_)
                · exact ⟨_, rfl, .inl ⟨_, _, _, _, _, _, _, rfl, j4.done ra rb (.inl (by simpa using c))⟩⟩
                · have c : k - 1 ≠ 0 := by simpa using c
                  refine wpS_ite (fun c3 => wpS_pure ?_) (fun c3 => wpS_pure ?_)
                  · exact ⟨_, rfl, .inr ⟨k - 1, (nb - 1), _, _, _, _, rfl, j4, by omega, by omega, by omega, by omega, by omega⟩⟩
                  · exact ⟨k - 1, (nb - 1), _, _, _, _, _, rfl, rfl, j4, by omega, by omega, by omega, by omega, by omega⟩
            · have kp : ¬ na - k > 0 := kp
              have ek : k = na := by omega
              subst ek
              have j2 := Jb.pushB j ra rb (by omega) (by omega) hyb fun _ => k2 (k - 1) (by omega)
              refine wpS_elIf hyb (fun c => ?_) (fun c => ?_)
              · exact ⟨_, rfl, .inl ⟨_, _, _, _, _, _, _, rfl, j2.first ra rb (by simpa using c) hf⟩⟩
              have c : nb - 1 ≠ 1 := by simpa using c
              obtain ⟨x, hxa, nx⟩ := ra.num (k - 1) (by omega)
              refine wpS_bind (wpS_elem hxa (wpS_bind (wpS_gallop (arr := b) (base := 0) (n := nb - 1) (hint := nb - 1 - 1) hk nx (fun i hi => rb.num _ (by omega)) (fun i j q1 q2 => rb.up _ _ (by omega) (by omega)) (by omega) fun m m1 m2 m3 => ?_)))
              rw [← K_some hxa] at m2 m3
              simp only [Nat.zero_add, bqT] at m2 m3
              have j3 := Jb.runB j2 ra rb (by omega) m1 fun i hi h9 _ => Int.not_lt.mp (m3 i hi h9)
              refine wpS_ite (fun mp => wpS_ite (fun c => wpS_pure ?_) (fun c => wpS_ite (fun c => wpS_pure ?_) (fun c3 => ?_))) (fun mp => ?_)
              · exact ⟨_, rfl, .inl ⟨_, _, _, _, _, _, _, rfl, j3.first ra rb (by simpa using c) hf⟩⟩
              · exact ⟨_, rfl, .inl ⟨_, _, _, _, _, _, _, rfl, j3.done ra rb (.inr (by simpa using c))⟩⟩
              · have c : m ≠ 1 := by simpa using c
                have c3 : m ≠ 0 := by simpa using c3
                have j4 := Jb.pushA j3 ra rb (by omega) (by omega) hxa fun _ => Int.le_of_lt (m2 (m - 1) (by omega))
                refine wpS_elIf hxa (fun c => ?_) (fun c => ?_)
                · exact ⟨_, rfl, .inl ⟨_, _, _, _, _, _, _, rfl, j4.done ra rb (.inl (by simpa using c))⟩⟩
                · have c : k - 1 ≠ 0 := by simpa using c
                  refine wpS_ite (fun c3 => wpS_pure ?_) (fun c3 => wpS_pure ?_)
                  · exact ⟨_, rfl, .inr ⟨k - 1, m, _, _, _, _, rfl, j4, by omega, by omega, by omega, by omega, by omega⟩⟩
                  · exact ⟨k - 1, m, _, _, _, _, _, rfl, rfl, j4, by omega, by omega, by omega, by omega, by omega⟩
              · have mp : ¬ nb - 1 - m > 0 := mp
                have em : m = nb - 1 := by omega
                subst em
                have j4 := Jb.pushA j2 ra rb (by omega) (by omega) hxa fun _ => Int.le_of_lt (m2 (nb - 1 - 1) (by omega))
                refine wpS_elIf hxa (fun c => ?_) (fun c => ?_)
                · exact ⟨_, rfl, .inl ⟨_, _, _, _, _, _, _, rfl, j4.done ra rb (.inl (by simpa using c))⟩⟩
                · have c : k - 1 ≠ 0 := by simpa using c
                  refine wpS_ite (fun c3 => wpS_pure ?_) (fun c3 => wpS_pure ?_)
                  · exact ⟨_, rfl, .inr ⟨k - 1, (nb - 1), _, _, _, _, rfl, j4, by omega, by omega, by omega, by omega, by omega⟩⟩
                  · exact ⟨k - 1, (nb - 1), _, _, _, _, _, rfl, rfl, j4, by omega, by omega, by omega, by omega, by omega⟩
end
theorem put_at : ∀ (l : List Keyed) (n p : Nat) (arr : Array Keyed) (i : Nat), p + n + l.length ≤ arr.size →
    ((l.zipIdx n).foldl (fun (a : Array Keyed) (x : Keyed × Nat) => a.setIfInBounds (p + x.2) x.1) arr)[i]? = if p + n ≤ i ∧ i < p + n + l.length then l[i - (p + n)]? else arr[i]?
  | [], n, p, arr, i, h => by
    rw [if_neg (by simp)]; rfl
  | x :: l, n, p, arr, i, h => by
    rw [List.zipIdx_cons, List.foldl_cons, put_at l (n + 1) p _ i (by rw [Array.size_setIfInBounds]; simp at h ⊢; omega)]
    simp only [List.length_cons] at h ⊢
    by_cases c : i = p + n
    · subst c
      rw [if_neg (by omega), if_pos (by omega), Nat.sub_self, Array.getElem?_setIfInBounds]
      simp; omega
    · have e : (arr.setIfInBounds (p + (x, n).2) (x, n).1)[i]? = arr[i]? := by rw [Array.getElem?_setIfInBounds, if_neg (by show ¬ p + n = i; omega)]
      rw [e]
      by_cases c2 : p + (n + 1) ≤ i ∧ i < p + (n + 1) + l.length
      · rw [if_pos c2, if_pos (by omega), show i - (p + n) = i - (p + (n + 1)) + 1 by omega, List.getElem?_cons_succ]
      · rw [if_neg c2, if_neg (by omega)]
theorem put_list (l : List Keyed) (p : Nat) (arr : Array Keyed) (h : p + l.length ≤ arr.size) :
    ((l.zipIdx).foldl (fun (a : Array Keyed) (x : Keyed × Nat) => a.setIfInBounds (p + x.2) x.1) arr).toList = arr.toList.take p ++ (l ++ arr.toList.drop (p + l.length)) := by
  apply List.ext_getElem?
  intro i
  rw [Array.getElem?_toList, put_at l 0 p arr i (by omega)]
  have hl : (arr.toList.take p).length = p := by rw [List.length_take]; exact Nat.min_eq_left (by show p ≤ arr.size; omega)
  rw [List.getElem?_append, hl]
  by_cases c : i < p
  · rw [if_pos c, if_neg (by omega), List.getElem?_take_of_lt c, Array.getElem?_toList]
  · rw [if_neg c, List.getElem?_append]
    by_cases c2 : i - p < l.length
    · rw [if_pos c2, if_pos (by omega)]; rfl
    · rw [if_neg c2, if_neg (by omega), List.getElem?_drop, Array.getElem?_toList]
      congr 1; omega
section
variable {prog : Program} {w : World} {A : Around} {E : Value → Shared → Prop} {s : Shared} {a₀ : Array Keyed}
theorem wpS_set {σ : Type} {x : σ} {Q : PUnit → σ → Prop} {st : σ} {M : Model} (h : Q ⟨⟩ x) : wpS M A E s (set x : StateT σ Sem PUnit) Q st := by
  unfold wpS; rw [StateT.run_set]; exact wpAny_pure ⟨rfl, h⟩
theorem SB.num {p : Array (Nat × Nat × Nat)} {st : SortSt} (hB : SB a₀ p st) (h0 : IntKeys a₀) {i : Nat} (hi : i < a₀.size) : ∃ x, (arrOf st)[i]? = some x ∧ IsN x := by
  obtain ⟨t, y, e⟩ := hB.base.at h0 hi
  exact ⟨_, e, _, t, rfl⟩
theorem K_ext {arr : Array Keyed} {i j m : Nat} (h : i + m < j) (hj : j ≤ arr.size) : K (arr.extract i j) m = K arr (i + m) := by
  refine K_congr ?_
  rw [Array.getElem?_extract, if_pos (by omega)]
theorem ext_get {arr : Array Keyed} {i j m : Nat} (h : i + m < j) (hj : j ≤ arr.size) : (arr.extract i j)[m]? = arr[i + m]? := by
  rw [Array.getElem?_extract, if_pos (by omega)]
theorem merged_ok {arr m : Array Keyed} {k n1 e : Nat} (hk : k < n1) (he : n1 ≤ e) (hz : e ≤ arr.size) (gd : Gd (arr.extract k n1).toList (arr.extract n1 e).toList m.toList)
    (s1 : ∀ i j, i ≤ j → j < n1 → K arr i ≤ K arr j) (s2 : ∀ i j, n1 ≤ i → i ≤ j → j < arr.size → K arr i ≤ K arr j) (lo : ∀ i j, i < k → n1 ≤ j → j < e → K arr i ≤ K arr j) (hi : ∀ i j, k ≤ i → i < n1 → e ≤ j → j < arr.size → K arr i ≤ K arr j) :
    ∀ res : Array Keyed, res.toList = arr.toList.take k ++ (m.toList ++ arr.toList.drop (k + m.toList.length)) → m.toList.length = e - k ∧ res.Perm arr ∧ SortedTo res arr.size := by
  intro res er
  have hlen : m.toList.length = e - k := by
    have := gd.1.length_eq
    rw [List.length_append] at this
    simp only [Array.length_toList, Array.size_extract] at this ⊢
    omega
  have e1 : arr.toList = arr.toList.take k ++ ((arr.extract k n1).toList ++ (arr.extract n1 e).toList ++ arr.toList.drop e) := by
    have a1 : (arr.extract k n1).toList = (arr.toList.drop k).take (n1 - k) := by rw [Array.toList_extract, List.extract_eq_take_drop]
    have a2 : (arr.extract n1 e).toList = (arr.toList.drop n1).take (e - n1) := by rw [Array.toList_extract, List.extract_eq_take_drop]
    have a3 : arr.toList.drop n1 = (arr.toList.drop n1).take (e - n1) ++ arr.toList.drop e := by
      conv => lhs; rw [← List.take_append_drop (e - n1) (arr.toList.drop n1)]
      rw [List.drop_drop, Nat.add_sub_cancel' he]
    have a4 : arr.toList.drop k = (arr.toList.drop k).take (n1 - k) ++ arr.toList.drop n1 := by
      conv => lhs; rw [← List.take_append_drop (n1 - k) (arr.toList.drop k)]
      rw [List.drop_drop, Nat.add_sub_cancel' (Nat.le_of_lt hk)]
    rw [a1, a2, List.append_assoc, ← a3, ← a4, List.take_append_drop]
  rw [show k + m.toList.length = e by omega] at er
  have pm : res.Perm arr := by
    rw [Array.perm_iff_toList_perm, er]
    conv => rhs; rw [e1]
    exact List.Perm.append_left _ (gd.1.append_right _)
  refine ⟨hlen, pm, ?_⟩
  have ul : Up res.toList := by
    rw [er]
    have upd : ∀ y, y ∈ m.toList → ∃ j, k ≤ j ∧ j < e ∧ K arr j = kz y := fun y hy => by
      rcases List.mem_append.mp (gd.1.mem_iff.mp hy) with hy | hy
      · have hy' : y ∈ (arr.toList.drop k).take (n1 - k) := by rw [Array.toList_extract, List.extract_eq_take_drop] at hy; exact hy
        obtain ⟨j, j1, j2, j3⟩ := mem_run hy'
        exact ⟨k + j, by omega, by omega, j3⟩
      · have hy' : y ∈ (arr.toList.drop n1).take (e - n1) := by rw [Array.toList_extract, List.extract_eq_take_drop] at hy; exact hy
        obtain ⟨j, j1, j2, j3⟩ := mem_run hy'
        exact ⟨n1 + j, by omega, by omega, j3⟩
    have upl : ∀ (l : List Keyed), (∀ i j x y, i ≤ j → l[i]? = some x → l[j]? = some y → kz x ≤ kz y) → Up l := fun l hh => by
      refine List.pairwise_iff_getElem.mpr fun i j hi hj hij => hh i j _ _ (by omega) (List.getElem?_eq_getElem hi) (List.getElem?_eq_getElem hj)
    refine List.pairwise_append.mpr ⟨?_, List.pairwise_append.mpr ⟨gd.2, ?_, ?_⟩, ?_⟩
    · refine upl _ fun i j x y hij hx hy => ?_
      have hj := (List.getElem?_eq_some_iff.mp hy).1
      rw [List.length_take] at hj
      rw [List.getElem?_take_of_lt (by omega), Array.getElem?_toList] at hx hy
      have := s1 i j hij (by omega)
      rw [K_some hx, K_some hy] at this
      exact this
    · refine upl _ fun i j x y hij hx hy => ?_
      rw [List.getElem?_drop, Array.getElem?_toList] at hx hy
      have hj := (Array.getElem?_eq_some_iff.mp hy).1
      have := s2 (e + i) (e + j) (by omega) (by omega) hj
      rw [K_some hx, K_some hy] at this
      exact this
    · intro x hx y hy
      obtain ⟨j, j1, j2, j3⟩ := upd x hx
      obtain ⟨p, p1, p2, p3⟩ := mem_drop hy
      by_cases c : j < n1
      · have := hi j p j1 c p1 p2; omega
      · have := s2 j p (by omega) (by omega) p2; omega
    · intro x hx y hy
      obtain ⟨p, p1, p2, p3⟩ := mem_tk hx
      rcases List.mem_append.mp hy with hy | hy
      · obtain ⟨j, j1, j2, j3⟩ := upd y hy
        by_cases c : j < n1
        · have := s1 p j (by omega) c; omega
        · have := lo p j p1 (by omega) j2; omega
      · obtain ⟨j, j1, j2, j3⟩ := mem_drop hy
        by_cases c : n1 < e
        · have a1 := lo p n1 p1 (Nat.le_refl _) c
          have a2 := s2 n1 j (Nat.le_refl _) (by omega) j2
          omega
        · have a1 := s1 p k (by omega) hk
          have a2 := hi k j (Nat.le_refl _) hk j1 j2
          omega
  intro i j hij hj
  have hs : res.size = arr.size := pm.size_eq
  have hi' : i < res.size := by omega
  have hj' : j < res.size := by omega
  by_cases c : i = j
  · subst c; exact Int.le_refl _
  · have := List.pairwise_iff_getElem.mp ul i j (by simpa using hi') (by simpa using hj') (by omega)
    rw [K_some (getElem?_pos res i hi'), K_some (getElem?_pos res j hj')]
    exact this
theorem pend1 {x y z : Nat × Nat × Nat} : ((#[x, y] : Array (Nat × Nat × Nat)).setIfInBounds 0 z).eraseIdxIfInBounds (0 + 1) = #[z] := by
  simp [Array.eraseIdxIfInBounds]
theorem wpS_mergeAt {st : SortSt} {n1 n2 q q2 : Nat} {Q : Bool → SortSt → Prop} (h0 : IntKeys a₀) (hB : SB a₀ #[(0, n1, q), (n1, n2, q2)] st) (h1 : 0 < n1) (h2 : 0 < n2) (hn : n1 + n2 = a₀.size)
    (s1 : ∀ i j, i ≤ j → j < n1 → K (arrOf st) i ≤ K (arrOf st) j) (s2 : ∀ i j, n1 ≤ i → i ≤ j → j < n1 + n2 → K (arrOf st) i ≤ K (arrOf st) j)
    (h : ∀ st', SB a₀ #[(0, n1 + n2, q)] st' → SortedTo (arrOf st') a₀.size → Q true st') : wpS (model prog w) A E s (mergeAt' 0) Q st := by
  have num : ∀ i, i < a₀.size → ∃ x, (arrOf st)[i]? = some x ∧ IsN x := fun i hi => hB.num h0 hi
  have hz := hB.size
  have pm := hB.perm
  refine wpS_bind (wpS_get ?_)
  obtain ⟨kd, arr, pd, mg, fl⟩ := st
  obtain rfl : pd = #[(0, n1, q), (n1, n2, q2)] := hB.pend
  have hk : kd = oneType' := hB.kind
  obtain rfl : fl = none := hB.failed
  have hz : arr.size = a₀.size := hz
  have pm : arr.Perm a₀ := pm
  have s1 : ∀ i j, i ≤ j → j < n1 → K arr i ≤ K arr j := s1
  have s2 : ∀ i j, n1 ≤ i → i ≤ j → j < n1 + n2 → K arr i ≤ K arr j := s2
  have num : ∀ i, i < a₀.size → ∃ x, arr[i]? = some x ∧ IsN x := num
  obtain ⟨y0, hy0, ny0⟩ := num n1 (by omega)
  refine wpS_bind (wpS_set ?_)
  show wpS _ _ _ _ _ _ (SortSt.mk' kd arr ((#[(0, n1, q), (n1, n2, q2)].setIfInBounds 0 (0, n1 + n2, q)).eraseIdxIfInBounds (0 + 1)) mg none)
  rw [pend1]
  refine wpS_bind (wpS_elem hy0 (wpS_bind (wpS_gallop (arr := arr) (base := 0) (n := n1) (hint := 0) hk ny0 (fun i hi => num _ (by omega)) (fun i j q1 q2 => by rw [Nat.zero_add, Nat.zero_add]; exact s1 _ _ q1 q2) h1 fun k k1 k2 k3 => ?_)))
  rw [← K_some hy0] at k2 k3
  simp only [Nat.zero_add, bqF] at k2 k3
  refine wpS_ite (fun c => wpS_pure ?_) (fun c => ?_)
  · have c : n1 - k = 0 := by simpa using c
    refine h _ ⟨pm, hk, rfl, rfl⟩ fun i j hij hj => ?_
    show K arr i ≤ K arr j
    by_cases a1 : j < n1
    · exact s1 i j hij a1
    · by_cases a2 : n1 ≤ i
      · exact s2 i j a2 hij (by omega)
      · exact Int.le_trans (k2 i (by omega)) (s2 n1 j (Nat.le_refl _) (by omega) (by omega))
  · have c : n1 - k ≠ 0 := by simpa using c
    have lt : K arr n1 < K arr k := Int.not_le.mp (k3 k (Nat.le_refl _) (by omega))
    have el : 0 + k + (n1 - k) - 1 = n1 - 1 := by omega
    obtain ⟨x0, hx0, nx0⟩ := num (n1 - 1) (by omega)
    refine wpS_bind (wpS_elem (x := x0) (by rw [el]; exact hx0) (wpS_bind (wpS_gallop (arr := arr) (base := n1) (n := n2) (hint := n2 - 1) hk nx0 (fun i hi => num _ (by omega)) (fun i j q1 q2 => s2 _ _ (by omega) (by omega) (by omega)) (by omega) fun m m1 m2 m3 => ?_)))
    rw [← K_some hx0] at m2 m3
    simp only [bqT] at m2 m3
    have klast : K arr k ≤ K arr (n1 - 1) := s1 k (n1 - 1) (by omega) (by omega)
    have m0 : m ≠ 0 := fun e => by
      subst e
      have := m3 0 (Nat.le_refl _) h2
      rw [Nat.add_zero] at this
      omega
    refine wpS_ite (fun c => absurd (by simpa using c) m0) (fun _ => ?_)
    have ra : Rn (arr.extract k n1) := ⟨fun i hi => by
        rw [Array.size_extract] at hi
        obtain ⟨x, hx, nx⟩ := num (k + i) (by omega)
        exact ⟨x, by rw [ext_get (by omega) (by omega)]; exact hx, nx⟩, fun i j hij hj => by
        rw [Array.size_extract] at hj
        rw [K_ext (by omega) (by omega), K_ext (by omega) (by omega)]
        exact s1 _ _ (by omega) (by omega)⟩
    have rb : Rn (arr.extract n1 (n1 + m)) := ⟨fun i hi => by
        rw [Array.size_extract] at hi
        obtain ⟨x, hx, nx⟩ := num (n1 + i) (by omega)
        exact ⟨x, by rw [ext_get (by omega) (by omega)]; exact hx, nx⟩, fun i j hij hj => by
        rw [Array.size_extract] at hj
        rw [K_ext (by omega) (by omega), K_ext (by omega) (by omega)]
        exact s2 _ _ (by omega) (by omega) (by omega)⟩
    have za : (arr.extract k n1).size = n1 - k := by rw [Array.size_extract]; omega
    have zb : (arr.extract n1 (n1 + m)).size = m := by rw [Array.size_extract]; omega
    have hf : K (arr.extract n1 (n1 + m)) 0 ≤ K (arr.extract k n1) 0 := by
      rw [K_ext (by omega) (by omega), K_ext (by omega) (by omega), Nat.add_zero, Nat.add_zero]; omega
    have hl : ∀ j, j < (arr.extract n1 (n1 + m)).size → K (arr.extract n1 (n1 + m)) j ≤ K (arr.extract k n1) ((arr.extract k n1).size - 1) := fun j hj => by
      rw [zb] at hj
      rw [za, K_ext (by omega) (by omega), K_ext (by omega) (by omega), show k + (n1 - k - 1) = n1 - 1 by omega]
      exact Int.le_of_lt (m2 j hj)
    have fin : ∀ (res : Array Keyed) (g : Nat), Gd (arr.extract k n1).toList (arr.extract n1 (n1 + m)).toList res.toList →
        ∀ F : Array Keyed → Keyed × Nat → Array Keyed, (∀ a p j, F a (p, j) = a.setIfInBounds (0 + k + j) p) → Q true (SortSt.mk' kd (res.toList.zipIdx.foldl F arr) #[(0, n1 + n2, q)] g none) := by
      intro res g gd F hF
      obtain rfl : F = fun a x => a.setIfInBounds (0 + k + x.2) x.1 := by funext a ⟨p, j⟩; exact hF a p j
      rw [Nat.zero_add]
      have hlen : res.toList.length = n1 + m - k := by
        have := gd.1.length_eq
        rw [List.length_append] at this
        simp only [Array.length_toList] at this ⊢
        rw [za, zb] at this
        omega
      obtain ⟨_, p1, so⟩ := merged_ok (arr := arr) (m := res) (k := k) (n1 := n1) (e := n1 + m) (by omega) (by omega) (by omega) gd s1 (fun i j q1 q2 q3 => s2 i j q1 q2 (by omega))
        (fun i j q1 q2 q3 => Int.le_trans (k2 i q1) (s2 n1 j (Nat.le_refl _) q2 (by omega)))
        (fun i j q1 q2 q3 q4 => by
          have a1 := s1 i (n1 - 1) (by omega) (by omega)
          have a2 := m3 (j - n1) (by omega) (by omega)
          rw [show n1 + (j - n1) = j by omega] at a2
          omega) _ (put_list res.toList k arr (by omega))
      refine h _ ⟨p1.trans pm, hk, rfl, rfl⟩ ?_
      rw [← hz]
      exact so
    refine wpS_ite (fun _ => wpS_bind (wpS_mergeLo (a := arr.extract (0 + k) n1) ?_ rb hk ?_ ?_ ?_ ?_ fun res g gd => ?_)) (fun _ => wpS_bind (wpS_mergeHi (a := arr.extract (0 + k) n1) ?_ rb hk ?_ ?_ ?_ ?_ fun res g gd => ?_))
    all_goals first
      | (rw [Nat.zero_add]; exact ra)
      | (rw [Nat.zero_add]; exact hf)
      | (rw [Nat.zero_add]; exact hl)
      | (rw [Nat.zero_add, za]; omega)
      | (rw [zb]; omega)
      | (rw [Nat.zero_add] at gd; exact wpS_bind (wpS_modify (wpS_bind (wpS_get (wpS_pure (fin res g gd _ fun _ _ _ => rfl))))))
end
def RiseL (xs : Array Keyed) (lo m : Nat) : Prop := ∀ i j, i ≤ j → j < m → K xs (lo + i) ≤ K xs (lo + j)
def FallL (xs : Array Keyed) (lo m : Nat) : Prop := ∀ i j, i ≤ j → j < m → K xs (lo + j) ≤ K xs (lo + i)
def Apart (xs : Array Keyed) : Prop := (xs.toList.map kz).Nodup
theorem Apart.perm {xs ys : Array Keyed} (h : Apart xs) (p : ys.Perm xs) : Apart ys := ((Array.perm_iff_toList_perm.mp p).map kz).nodup_iff.mpr h
theorem Apart.ne {xs : Array Keyed} (h : Apart xs) {i j : Nat} (hij : i < j) (hj : j < xs.size) : K xs i ≠ K xs j := by
  have hi : i < xs.size := by omega
  rw [K_some (getElem?_pos xs i hi), K_some (getElem?_pos xs j hj)]
  have := List.pairwise_iff_getElem.mp h i j (by simpa using hi) (by simpa using hj) hij
  simpa [kz] using this
section
variable {prog : Program} {w : World} {A : Around} {E : Value → Shared → Prop} {s : Shared} {a₀ : Array Keyed} {p : Array (Nat × Nat × Nat)}
theorem wpS_ltP {st : SortSt} {i j : Nat} {Q : Option Bool → SortSt → Prop} (hB : SB a₀ p st) (h0 : IntKeys a₀) (hi : i < a₀.size) (hj : j < a₀.size)
    (h : Q (some (decide (K (arrOf st) i < K (arrOf st) j))) st) : wpS (model prog w) A E s (ltAt' i j) Q st := by
  obtain ⟨t, x, e1⟩ := hB.base.at h0 hi
  obtain ⟨u, y, e2⟩ := hB.base.at h0 hj
  exact wpS_ltAt hB.kind e1 e2 h
theorem wpS_asc {st : SortSt} {lo b nrem : Nat} {f : Nat → Option (Option Nat) × Nat → StateT SortSt Sem (ForInStep (Option (Option Nat) × Nat))} {Q : Option (Option Nat) × Nat → SortSt → Prop} (h0 : IntKeys a₀) (hB : SB a₀ p st) (hn : lo + nrem ≤ a₀.size) (hb : 1 ≤ b) (hbn : b ≤ nrem) (hs : RiseL (arrOf st) lo b)
    (hf : ∀ x n, 1 ≤ n → n < nrem → ∀ Q' : ForInStep (Option (Option Nat) × Nat) → SortSt → Prop, (K (arrOf st) (lo + n) < K (arrOf st) (lo + n - 1) → Q' (.done (none, n)) st) → (¬ K (arrOf st) (lo + n) < K (arrOf st) (lo + n - 1) → Q' (.yield (none, n + 1)) st) → wpS (model prog w) A E s (f x (none, n)) Q' st)
    (h : ∀ n, b ≤ n → n ≤ nrem → RiseL (arrOf st) lo n → (n = nrem ∨ K (arrOf st) (lo + n) < K (arrOf st) (lo + n - 1)) → Q (none, n) st) : wpS (model prog w) A E s (forIn [b:nrem] (none, b) f) Q st := by
  refine wpS_forRange (I := fun x c st' => st' = st ∧ c = (none, x) ∧ RiseL (arrOf st) lo x) ?step ?fin ⟨rfl, rfl, hs⟩
  case fin =>
    rintro c st' ⟨rfl, rfl, hs'⟩
    rw [show max b nrem = nrem by omega] at hs' ⊢
    exact h nrem hbn (Nat.le_refl _) hs' (.inl rfl)
  case step =>
    rintro x c st' hax hxn ⟨rfl, rfl, hs'⟩
    refine hf x x (by omega) hxn _ (fun l => h x hax (by omega) hs' (.inr l)) (fun l => ⟨rfl, rfl, fun i j hij hj => ?_⟩)
    by_cases hjx : j < x
    · exact hs' i j hij hjx
    · obtain rfl : j = x := by omega
      by_cases e : i = j
      · subst e; exact Int.le_refl _
      · have := hs' i (j - 1) (by omega) (by omega)
        rw [show lo + (j - 1) = lo + j - 1 by omega] at this
        omega
theorem wpS_countP {st : SortSt} {lo nrem : Nat} {Q : Option Nat → SortSt → Prop} (h0 : IntKeys a₀) (hD : Apart a₀) (hB : SB a₀ p st) (hn : lo + nrem ≤ a₀.size) (h1 : 1 ≤ nrem)
    (h : ∀ m st', SB a₀ p st' → 1 ≤ m → m ≤ nrem → (∀ k, k < lo → K (arrOf st') k = K (arrOf st) k) → RiseL (arrOf st') lo m → Q (some m) st') : wpS (model prog w) A E s (countRun' lo nrem) Q st := by
  have dis := hD.perm hB.perm
  have hz := hB.size
  have one : RiseL (arrOf st) lo 1 := fun i j hij hj => by
    obtain rfl : i = j := by omega
    exact Int.le_refl _
  refine wpS_bind (wpS_asc (b := 1) (nrem := nrem) h0 hB hn (Nat.le_refl _) h1 one (fun x n n1 n2 Q' q1 q2 => ?_) fun n n1 n2 sn hor => ?_)
  · refine wpS_bind (wpS_ltP hB h0 (by omega) (by omega) ?_)
    by_cases l : K (arrOf st) (lo + n) < K (arrOf st) (lo + n - 1)
    · rw [decide_eq_true l]; exact wpS_pure (q1 l)
    · rw [decide_eq_false l]; exact wpS_pure (q2 l)
  · refine wpS_ite (fun c => wpS_pure (h n st hB n1 n2 (fun _ _ => rfl) sn)) (fun c => ?_)
    have c : n ≠ nrem := by simpa using c
    have l := hor.resolve_left c
    refine wpS_ite (fun g => ?_) (fun g => ?_)
    · have g : n > 1 := g
      refine wpS_bind (wpS_ltP hB h0 (by omega) (by omega) ?_)
      have lt : K (arrOf st) lo < K (arrOf st) (lo + n - 1) := by
        have a1 := sn 0 (n - 1) (by omega) (by omega)
        have a2 := dis.ne (i := lo) (j := lo + n - 1) (by omega) (by omega)
        rw [Nat.add_zero, show lo + (n - 1) = lo + n - 1 by omega] at a1
        omega
      rw [decide_eq_true lt]
      exact wpS_pure (h n st hB n1 n2 (fun _ _ => rfl) sn)
    · have g : ¬ n > 1 := g
      obtain rfl : n = 1 := by omega
      refine wpS_bind (wpS_lift (wpAny_rule ⟨rfl, ?_⟩))
      refine wpS_bind (wpS_mono (wpS_forRange (I := fun x c st' => st' = st ∧ c = (none, x, 0) ∧ 2 ≤ x ∧ FallL (arrOf st) lo x) (Q := fun c st' => st' = st ∧ ∃ m, c = (none, m, 0) ∧ 2 ≤ m ∧ m ≤ nrem ∧ FallL (arrOf st) lo m) ?step ?fin ?init) ?post)
      case init =>
        refine ⟨rfl, rfl, by omega, fun i j hij hj => ?_⟩
        by_cases e : i = j
        · subst e; exact Int.le_refl _
        · obtain rfl : i = 0 := by omega
          obtain rfl : j = 1 := by omega
          rw [show lo + 1 - 1 = lo + 0 by omega] at l
          exact Int.le_of_lt l
      case fin =>
        rintro c st' ⟨rfl, rfl, g2, fl⟩
        exact ⟨rfl, _, rfl, g2, by omega, fl⟩
      case step =>
        rintro x c st' hx1 hx2 ⟨rfl, rfl, g2, fl⟩
        refine wpS_bind (wpS_ltP hB h0 (by show lo + x < _; omega) (by show lo + x - 1 < _; omega) ?_)
        by_cases l2 : K (arrOf st') (lo + x) < K (arrOf st') (lo + x - 1)
        · rw [decide_eq_true l2]
          refine wpS_ite (fun _ => wpS_ite (fun c => (Nat.lt_irrefl 0 c).elim) (fun _ => wpS_pure ⟨rfl, rfl, by omega, fun i j hij hj => ?_⟩)) (fun c => absurd rfl c)
          by_cases hjx : j < x
          · exact fl i j hij hjx
          · obtain rfl : j = x := by omega
            by_cases e : i = j
            · subst e; exact Int.le_refl _
            · have := fl i (j - 1) (by omega) (by omega)
              rw [show lo + (j - 1) = lo + j - 1 by omega] at this
              omega
        · rw [decide_eq_false l2]
          refine wpS_bind (wpS_ltP hB h0 (by show lo + x - 1 < _; omega) (by show lo + x < _; omega) ?_)
          have l3 : K (arrOf st') (lo + x - 1) < K (arrOf st') (lo + x) := by
            have := dis.ne (i := lo + x - 1) (j := lo + x) (by omega) (by omega)
            omega
          rw [decide_eq_true l3]
          exact wpS_pure ⟨rfl, x, rfl, g2, by omega, fl⟩
      case post =>
        rintro c st' ⟨rfl, m, rfl, g2, g3, fl⟩
        refine wpS_ite (fun c => (Nat.lt_irrefl 0 c).elim) (fun _ => ?_)
        refine wpS_bind (wpS_reverse ?_)
        show wpS _ _ _ _ _ _ (setArr st' (mirror (arrOf st') lo (lo + m) ((lo + m - lo) / 2)))
        have hsz : lo + m ≤ (arrOf st').size := by omega
        have hB' : SB a₀ p (setArr st' (mirror (arrOf st') lo (lo + m) ((lo + m - lo) / 2))) := hB.setArr (mirror_perm _ _ _ _)
        have fr : ∀ k, k < lo → K (mirror (arrOf st') lo (lo + m) ((lo + m - lo) / 2)) k = K (arrOf st') k := fun k hk => by rw [K_mirror hsz, if_neg (by omega)]
        have rs : RiseL (mirror (arrOf st') lo (lo + m) ((lo + m - lo) / 2)) lo m := fun i j hij hj => by
          rw [K_mirror hsz, K_mirror hsz, if_pos (by omega), if_pos (by omega)]
          have := fl (m - 1 - j) (m - 1 - i) (by omega) (by omega)
          rw [show lo + (m - 1 - i) = lo + (lo + m) - 1 - (lo + i) by omega, show lo + (m - 1 - j) = lo + (lo + m) - 1 - (lo + j) by omega] at this
          exact this
        refine wpS_bind (wpS_asc (b := m) (nrem := nrem) h0 hB' hn (by omega) g3 rs (fun x n n1 n2 Q' q1 q2 => ?_) fun n n1 n2 sn _ => wpS_pure (h n _ hB' (by omega) n2 fr sn))
        refine wpS_bind (wpS_ltP hB' h0 (by omega) (by omega) ?_)
        by_cases l : K (mirror (arrOf st') lo (lo + m) ((lo + m - lo) / 2)) (lo + n) < K (mirror (arrOf st') lo (lo + m) ((lo + m - lo) / 2)) (lo + n - 1)
        · rw [decide_eq_true l]; exact wpS_pure (q1 l)
        · rw [decide_eq_false l]; exact wpS_pure (q2 l)
end
section
variable {prog : Program} {w : World} {A : Around} {E : Value → Shared → Prop} {s : Shared} {a₀ : Array Keyed} {p : Array (Nat × Nat × Nat)}
theorem wpS_binP {st : SortSt} {lo n ok : Nat} {Q : Bool → SortSt → Prop} (h0 : IntKeys a₀) (hB : SB a₀ p st) (hn : lo + n ≤ a₀.size) (h1 : 1 ≤ ok) (hok : ok ≤ n) (hs : RiseL (arrOf st) lo ok)
    (h : ∀ st', SB a₀ p st' → (∀ k, k < lo → K (arrOf st') k = K (arrOf st) k) → RiseL (arrOf st') lo n → Q true st') : wpS (model prog w) A E s (binarySort' lo n ok) Q st := by
  refine wpS_bind (wpS_mono (wpS_forRange (I := fun k c st' => c = (none, ()) ∧ SB a₀ p st' ∧ (∀ k, k < lo → K (arrOf st') k = K (arrOf st) k) ∧ RiseL (arrOf st') lo k)
    (Q := fun c st' => c = (none, ()) ∧ SB a₀ p st' ∧ (∀ k, k < lo → K (arrOf st') k = K (arrOf st) k) ∧ RiseL (arrOf st') lo n) ?step ?fin ?init) ?post)
  case post =>
    rintro c st' ⟨rfl, b1, b2, b3⟩
    exact wpS_pure (h st' b1 b2 b3)
  case init => exact ⟨rfl, hB, fun _ _ => rfl, by rw [show max ok 1 = ok by omega]; exact hs⟩
  case fin =>
    rintro c st' ⟨rfl, b1, b2, b3⟩
    rw [show max (max ok 1) n = n by omega] at b3
    exact ⟨rfl, b1, b2, b3⟩
  case step =>
    rintro k c st' hak hkn ⟨rfl, b1, b2, b3⟩
    have hz := b1.size
    refine wpS_bind (wpS_mono (wpS_forRange (I := fun x c st'' => st'' = st' ∧ ∃ l r, c = (none, l, r) ∧ l ≤ r ∧ r ≤ k ∧ r - l ≤ k - x ∧
        (∀ i, i < l → K (arrOf st') (lo + i) ≤ K (arrOf st') (lo + k)) ∧ (∀ i, r ≤ i → i < k → K (arrOf st') (lo + k) < K (arrOf st') (lo + i)))
      (Q := fun c st'' => st'' = st' ∧ ∃ l r, c = (none, l, r) ∧ l ≤ k ∧
        (∀ i, i < l → K (arrOf st') (lo + i) ≤ K (arrOf st') (lo + k)) ∧ (∀ i, l ≤ i → i < k → K (arrOf st') (lo + k) < K (arrOf st') (lo + i))) ?istep ?ifin ?iinit) ?ipost)
    case iinit => exact ⟨rfl, 0, k, rfl, by omega, by omega, by omega, fun i hi => by omega, fun i h1 h2 => by omega⟩
    case ifin =>
      rintro c st'' ⟨rfl, l, r, rfl, hlr, hrk, hm, hlo, hhi⟩
      obtain rfl : l = r := by omega
      exact ⟨rfl, l, l, rfl, hrk, hlo, hhi⟩
    case istep =>
      rintro x c st'' _ hxk ⟨rfl, l, r, rfl, hlr, hrk, hm, hlo, hhi⟩
      refine wpS_ite (fun g => ?_) (fun g => ?_)
      · have g : l ≥ r := g
        obtain rfl : l = r := by omega
        exact wpS_pure ⟨rfl, l, l, rfl, hrk, hlo, hhi⟩
      · have g : ¬ l ≥ r := g
        refine wpS_bind (wpS_ltP b1 h0 (by omega) (by show lo + (l + r) / 2 < _; omega) ?_)
        by_cases hless : K (arrOf st'') (lo + k) < K (arrOf st'') (lo + (l + r) / 2)
        · rw [decide_eq_true hless]
          refine wpS_pure ⟨rfl, l, (l + r) / 2, rfl, by omega, by omega, by omega, hlo, fun i h1 h2 => ?_⟩
          exact Int.lt_of_lt_of_le hless (b3 _ _ h1 h2)
        · rw [decide_eq_false hless]
          refine wpS_pure ⟨rfl, (l + r) / 2 + 1, r, rfl, by omega, by omega, by omega, fun i h1 => ?_, hhi⟩
          exact Int.le_trans (b3 i ((l + r) / 2) (by omega) (by omega)) (Int.not_lt.mp hless)
    case ipost =>
      rintro c st'' ⟨rfl, l, r, rfl, hlk, hlo, hhi⟩
      show wpS _ _ _ _ (do moveDown' (lo + k) (lo + l); pure (ForInStep.yield (none, ()))) _ _
      rw [moveDown'_eq]
      have hks : lo + k < (arrOf st'').size := by omega
      refine wpS_bind (wpS_modify (wpS_pure ⟨rfl, b1.setArr (bubble_perm _ _ _), fun i hi => ?_, fun i j hij hj => ?_⟩))
      · show K (bubble (arrOf st'') (lo + k) (lo + k - (lo + l))) i = _
        rw [K_bubble hks (by omega), if_neg (by omega), if_neg (by omega)]
        exact b2 i hi
      · show K (bubble (arrOf st'') (lo + k) (lo + k - (lo + l))) (lo + i) ≤ K (bubble (arrOf st'') (lo + k) (lo + k - (lo + l))) (lo + j)
        rw [K_bubble hks (by omega), K_bubble hks (by omega), show lo + k - (lo + k - (lo + l)) = lo + l by omega]
        have sh : ∀ i, 0 < i → lo + i - 1 = lo + (i - 1) := fun i hi => by omega
        repeat' split
        all_goals first
          | (exfalso; omega)
          | exact Int.le_refl _
          | exact hlo _ (by omega)
          | (rw [sh _ (by omega)]; exact Int.le_of_lt (hhi _ (by omega) (by omega)))
          | (rw [sh i (by omega), sh j (by omega)]; exact b3 _ _ (by omega) (by omega))
          | (rw [sh j (by omega)]; exact b3 _ _ (by omega) (by omega))
          | exact b3 _ _ (by omega) (by omega)
theorem wpS_sort64 {st : SortSt} {Q : Unit → SortSt → Prop} (h0 : IntKeys a₀) (hD : Apart a₀) (hB : SB a₀ #[] st) (h64 : a₀.size = 64)
    (h : ∀ st', (arrOf st').Perm a₀ → failedOf st' = none → SortedTo (arrOf st') a₀.size → Q () st') : wpS (model prog w) A E s sortRuns' Q st := by
  refine wpS_bind (wpS_get ?_)
  have hz : (arrOf st).size = 64 := by rw [hB.size]; exact h64
  rw [hz]
  refine wpS_bind (wpS_mono (wpS_forRange
    (I := fun x c st' => (x = 0 ∧ c = (none, 0) ∧ SB a₀ #[] st') ∨ (x = 1 ∧ ∃ n1, c = (none, n1) ∧ 32 ≤ n1 ∧ n1 < 64 ∧ SB a₀ #[(0, n1, 0)] st' ∧ RiseL (arrOf st') 0 n1) ∨
      (1 ≤ x ∧ c = (none, 64) ∧ SB a₀ #[(0, 64, 0)] st' ∧ RiseL (arrOf st') 0 64) ∨
      (1 ≤ x ∧ c = (none, 64) ∧ ∃ n1 n2 pw, SB a₀ #[(0, n1, pw), (n1, n2, 0)] st' ∧ n1 + n2 = 64 ∧ 0 < n1 ∧ 0 < n2 ∧ RiseL (arrOf st') 0 n1 ∧ RiseL (arrOf st') n1 n2))
    (Q := fun c st' => c = (none, 64) ∧ ((SB a₀ #[(0, 64, 0)] st' ∧ RiseL (arrOf st') 0 64) ∨
      ∃ n1 n2 pw, SB a₀ #[(0, n1, pw), (n1, n2, 0)] st' ∧ n1 + n2 = 64 ∧ 0 < n1 ∧ 0 < n2 ∧ RiseL (arrOf st') 0 n1 ∧ RiseL (arrOf st') n1 n2)) ?step ?fin (.inl ⟨rfl, rfl, hB⟩)) ?post)
  case fin =>
    rintro c st' (⟨hx, _⟩ | ⟨hx, _⟩ | ⟨_, hc, b⟩ | ⟨_, hc, b⟩)
    · omega
    · omega
    · exact ⟨hc, .inl b⟩
    · exact ⟨hc, .inr b⟩
  case step =>
    rintro x c st' _ hx (⟨rfl, rfl, b⟩ | ⟨rfl, n1, rfl, g1, g2, b, r1⟩ | ⟨_, rfl, b⟩ | ⟨_, rfl, b⟩)
    · have put : ∀ n st3, SB a₀ #[] st3 → 32 ≤ n → n ≤ 64 → RiseL (arrOf st3) 0 n →
          wpS (model prog w) A E s (modify fun s => setPending s ((pendingOf s).push (0, n, 0))) (fun _ st' => (1 = 1 ∧ ∃ n1, (none, 0 + n) = ((none : Option Unit), n1) ∧ 32 ≤ n1 ∧ n1 < 64 ∧ SB a₀ #[(0, n1, 0)] st' ∧ RiseL (arrOf st') 0 n1) ∨ (1 ≤ 1 ∧ (none, 0 + n) = ((none : Option Unit), 64) ∧ SB a₀ #[(0, 64, 0)] st' ∧ RiseL (arrOf st') 0 64)) st3 := by
        intro n st3 b3 e1 e2 r3
        have sb : SB a₀ #[(0, n, 0)] (setPending st3 ((pendingOf st3).push (0, n, 0))) := ⟨b3.perm, b3.kind, b3.failed, by show (pendingOf st3).push _ = _; rw [b3.pend]; rfl⟩
        refine wpS_modify ?_
        rw [Nat.zero_add]
        by_cases e : n = 64
        · subst e; exact .inr ⟨by omega, rfl, sb, r3⟩
        · exact .inl ⟨rfl, n, rfl, e1, by omega, sb, r3⟩
      refine wpS_ite (fun g => absurd (show 0 ≥ 64 from g) (by decide)) (fun _ => ?_)
      refine wpS_bind (wpS_countP (lo := 0) (nrem := 64) h0 hD b (by omega) (by decide) fun m st2 b2 m1 m2 _ rs => ?_)
      refine wpS_ite (fun c => ?_) (fun c => ?_)
      · have c : m < 32 := c
        refine wpS_bind (wpS_lift (wpAny_rule ⟨rfl, ?_⟩))
        refine wpS_bind (wpS_binP (lo := 0) (n := 32) h0 b2 (by omega) m1 (by omega) rs fun st3 b3 _ r3 => ?_)
        refine wpS_bind (wpS_get ?_)
        have hb : (pendingOf st3).back? = none := by rw [b3.pend]; rfl
        rw [hb]
        exact wpS_bind (wpS_mono (put 32 st3 b3 (by decide) (by decide) r3) fun _ st' q => wpS_pure (.inr (q.imp id .inl)))
      · have c : ¬ m < 32 := c
        refine wpS_bind (wpS_get ?_)
        have hb : (pendingOf st2).back? = none := by rw [b2.pend]; rfl
        rw [hb]
        exact wpS_bind (wpS_mono (put m st2 b2 (by omega) m2 rs) fun _ st' q => wpS_pure (.inr (q.imp id .inl)))
    · refine wpS_ite (fun g => absurd (show n1 ≥ 64 from g) (by omega)) (fun _ => ?_)
      refine wpS_bind (wpS_countP (lo := n1) (nrem := 64 - n1) h0 hD b (by omega) (by omega) fun m st2 b2 m1 m2 fr rs => ?_)
      have r12 : RiseL (arrOf st2) 0 n1 := fun i j hij hj => by rw [fr _ (by omega), fr _ (by omega)]; exact r1 i j hij hj
      refine wpS_ite (fun c => ?_) (fun c => ?_)
      · have c : m < 32 := c
        refine wpS_bind (wpS_lift (wpAny_rule ⟨rfl, ?_⟩))
        refine wpS_bind (wpS_binP (lo := n1) (n := min (64 - n1) 32) h0 b2 (by omega) m1 (by omega) rs fun st3 b3 fr3 r3 => ?_)
        have r13 : RiseL (arrOf st3) 0 n1 := fun i j hij hj => by rw [fr3 _ (by omega), fr3 _ (by omega)]; exact r12 i j hij hj
        refine wpS_bind (wpS_get ?_)
        have hb : (pendingOf st3).back? = some (0, n1, 0) := by rw [b3.pend]; rfl
        rw [hb]
        refine wpS_bind (wpS_mono (wpS_forRange (I := fun _ c st'' => st'' = st3 ∧ c = (none, ())) (Q := fun c st'' => st'' = st3 ∧ c = (none, ())) ?_ (fun _ _ hh => hh) ⟨rfl, rfl⟩) ?_)
        · rintro x c st'' _ _ ⟨rfl, rfl⟩
          refine wpS_bind (wpS_get ?_)
          have e : (if (pendingOf st'').size > 1 then (pendingOf st'')[(pendingOf st'').size - 2]? else none) = none := if_neg (by rw [b3.pend]; show ¬ 1 > 1; decide)
          dsimp only
          rw [e]
          exact wpS_pure ⟨rfl, rfl⟩
        · rintro c st'' ⟨rfl, rfl⟩
          refine wpS_bind (wpS_modify (wpS_bind (wpS_modify (wpS_pure (.inr (.inr (.inr ⟨by omega, by show ((none : Option Unit), n1 + min (64 - n1) 32) = _; rw [show n1 + min (64 - n1) 32 = 64 by omega], n1, min (64 - n1) 32, power' 64 (2 * 0 + n1) (2 * 0 + n1 + n1 + min (64 - n1) 32) 64, ?_, by omega, by omega, by omega, r13, r3⟩)))))))
          refine ⟨b3.perm, b3.kind, b3.failed, ?_⟩
          show ((pendingOf st'').modify ((pendingOf st'').size - 1) _).push _ = _
          rw [b3.pend]
          simp [Array.modify, Array.modifyM]
          exact ⟨rfl, rfl⟩
      · have c : ¬ m < 32 := c
        refine wpS_bind (wpS_get ?_)
        have hb : (pendingOf st2).back? = some (0, n1, 0) := by rw [b2.pend]; rfl
        rw [hb]
        refine wpS_bind (wpS_mono (wpS_forRange (I := fun _ c st'' => st'' = st2 ∧ c = (none, ())) (Q := fun c st'' => st'' = st2 ∧ c = (none, ())) ?_ (fun _ _ hh => hh) ⟨rfl, rfl⟩) ?_)
        · rintro x c st'' _ _ ⟨rfl, rfl⟩
          refine wpS_bind (wpS_get ?_)
          have e : (if (pendingOf st'').size > 1 then (pendingOf st'')[(pendingOf st'').size - 2]? else none) = none := if_neg (by rw [b2.pend]; show ¬ 1 > 1; decide)
          dsimp only
          rw [e]
          exact wpS_pure ⟨rfl, rfl⟩
        · rintro c st'' ⟨rfl, rfl⟩
          refine wpS_bind (wpS_modify (wpS_bind (wpS_modify (wpS_pure (.inr (.inr (.inr ⟨by omega, by show ((none : Option Unit), n1 + m) = _; rw [show n1 + m = 64 by omega], n1, m, power' 64 (2 * 0 + n1) (2 * 0 + n1 + n1 + m) 64, ?_, by omega, by omega, by omega, r12, rs⟩)))))))
          refine ⟨b2.perm, b2.kind, b2.failed, ?_⟩
          show ((pendingOf st'').modify ((pendingOf st'').size - 1) _).push _ = _
          rw [b2.pend]
          simp [Array.modify, Array.modifyM]
          rfl
    · exact wpS_ite (fun _ => wpS_pure ⟨rfl, .inl b⟩) (fun g => absurd (show 64 ≥ 64 by decide) g)
    · exact wpS_ite (fun _ => wpS_pure ⟨rfl, .inr b⟩) (fun g => absurd (show 64 ≥ 64 by decide) g)
  case post =>
    rintro c st' ⟨rfl, ⟨b, r⟩ | ⟨n1, n2, pw, b, e1, e2, e3, r1, r2⟩⟩
    · have so : SortedTo (arrOf st') a₀.size := fun i j hij hj => by
        have := r i j hij (by omega)
        rw [Nat.zero_add, Nat.zero_add] at this
        exact this
      refine wpS_bind (wpS_mono (wpS_forRange (I := fun _ c st'' => st'' = st' ∧ c = (none, ())) (Q := fun c st'' => st'' = st' ∧ c = (none, ())) ?_ (fun _ _ hh => hh) ⟨rfl, rfl⟩) ?_)
      · rintro x c st'' _ _ ⟨rfl, rfl⟩
        refine wpS_bind (wpS_get ?_)
        exact wpS_ite (fun _ => wpS_pure ⟨rfl, rfl⟩) (fun g => absurd (show (pendingOf st'').size ≤ 1 by rw [b.pend]; exact Nat.le_refl 1) g)
      · rintro c st'' ⟨rfl, rfl⟩
        exact wpS_pure (h _ b.perm b.failed so)
    · refine wpS_bind (wpS_mono (wpS_forRange (I := fun x c st'' => c = (none, ()) ∧ ((x = 0 ∧ st'' = st') ∨ (1 ≤ x ∧ SB a₀ #[(0, n1 + n2, pw)] st'' ∧ SortedTo (arrOf st'') a₀.size))) (Q := fun c st'' => c = (none, ()) ∧ (SB a₀ #[(0, n1 + n2, pw)] st'' ∧ SortedTo (arrOf st'') a₀.size)) ?_ ?_ ⟨rfl, .inl ⟨rfl, rfl⟩⟩) ?_)
      · rintro x c st'' _ _ ⟨rfl, ⟨rfl, rfl⟩ | ⟨_, b2, so⟩⟩
        · refine wpS_bind (wpS_get ?_)
          refine wpS_ite (fun g => absurd (show (pendingOf st'').size ≤ 1 from g) (by rw [b.pend]; show ¬ 2 ≤ 1; decide)) (fun _ => ?_)
          have ei : (pendingOf st'').size - 2 = 0 := by rw [b.pend]; rfl
          have mm := wpS_mergeAt (prog := prog) (w := w) (A := A) (E := E) (s := s) (Q := fun r st3 => r = true ∧ SB a₀ #[(0, n1 + n2, pw)] st3 ∧ SortedTo (arrOf st3) a₀.size) h0 b e2 e3 (by omega) (fun i j hij hj => by
              have := r1 i j hij hj
              rw [Nat.zero_add, Nat.zero_add] at this
              exact this) (fun i j g1 hij hj => by
              have := r2 (i - n1) (j - n1) (by omega) (by omega)
              rw [Nat.add_sub_cancel' g1, Nat.add_sub_cancel' (by omega)] at this
              exact this) (fun st3 b3 s3 => ⟨rfl, b3, s3⟩)
          simp only [ei]
          refine wpS_bind (wpS_mono mm ?_)
          rintro r st3 ⟨rfl, b3, s3⟩
          exact wpS_pure ⟨rfl, .inr ⟨by omega, b3, s3⟩⟩
        · refine wpS_bind (wpS_get ?_)
          exact wpS_ite (fun _ => wpS_pure ⟨rfl, b2, so⟩) (fun g => absurd (show (pendingOf st'').size ≤ 1 by rw [b2.pend]; exact Nat.le_refl 1) g)
      · rintro c st'' ⟨rfl, ⟨hx, _⟩ | ⟨_, b2, so⟩⟩
        · omega
        · exact ⟨rfl, b2, so⟩
      · rintro c st'' ⟨rfl, b2, so⟩
        exact wpS_pure (h _ b2.perm b2.failed so)
end
section
variable {X : Cx}
end
section
variable {X : Cx} {pins : List (Addr × Obj)} {σ : St} {H : Hp} {s : Shared}
end
section
variable {X : Cx} {e : Expr} {lo hi : Option Expr} {st : Expr} {te : TE} {tl th ts : TO} {pos p2 : Pos}
end
section
variable {X : Cx}
end
section
variable {X : Cx} {tg : Expr}
end
section
variable {X : Cx}
end
end L2
namespace L2
open PySem PySem.Spec PyProof.Rows PySem.SeqAt
section
variable {X : Cx}
end
open PySem PySem.Spec PyProof.Rows
section
variable {X : Cx}
end
open PySem PyProof.Rows
end L2
namespace L2
open PySem PySem.Spec PyProof.Rows PySem.SeqAt
open PySem PySem.Spec PyProof.Rows
section
variable {X : Cx}
end
section
variable {P : Program} {w : World} {A : Around} {s : Shared} {E : Value → Shared → Prop}
end
section
variable {X : Cx} {pins : List (Addr × Obj)} {σ : St} {H : Hp} {s : Shared}
end
section
variable {prog : Program} {w : World} {A : Around} {E : Value → Shared → Prop} {s : Shared} {o : Obj} {es : Array (Int × Value)} {ep : Nat} {t : SetTable} {ns : List Int} {a : Addr}
theorem set_extend {R : Result → Shared → Prop} (hh : A.handled = none) (ho : s.heap.get? a = some o) (d : SetD prog w o es ep t ns) {S : Addr} (hSa : S ≠ a) (res : Value) {c₀ : Nat} (hS : s.heap.get? S = some { cls := .type "list", data := .seq #[] c₀ })
    (hR : ∀ h' tk dr (acc : Array Value) c, (∀ b u, b ≠ S → s.heap.get? b = some u → h'.get? b = some u) → h'.get? S = some { cls := .type "list", dict := none, data := .seq acc c, slots := #[] } → acc.toList.Perm (vOf es) → R (.ok (.ret res)) { s with heap := h', toks := tk, drawn := dr }) :
    wpAny (model prog w) A.in1 (Builtin.List.listExtendWith (.ref S) (.ref a) res)
      (fun fin s' => match fin with | .done f => R (.ok f) s' | .again c' => c'.quiet = true ∧ codeAny (model prog w) A c' R s') (fun e s' => R (.error e) s') s := by
  have hT : s.TypeIs (.ref a) "set" := ⟨o, ho, d.ex.1⟩
  have hSz : S < s.heap.objs.size := Heap.lt_size hS
  unfold Builtin.List.listExtendWith
  refine wpAny_bind (wpAny_typeOf (T := "set") hT ?_)
  have h1 : Builtin.List.listSameRef (.ref S) (.ref a) = false := by simp [Builtin.List.listSameRef, hSa]
  have h2 : (Value.type "set" == Value.type "list") = false := by decide
  have h3 : (Value.type "set" == Value.type "tuple") = false := by decide
  simp only [h1, h2, h3, Bool.or_false, Bool.false_eq_true, if_false]
  refine wpAny_bind (set_iter ho d fun I fp h₁ dr ord St kp hI hfp hord W st => ?_)
  have hS1 := kp _ _ hS
  have hSI : S ≠ I := Nat.ne_of_lt (Nat.lt_of_lt_of_le hSz hI)
  have hSf : S ∉ fp := fun hm => by
    rcases hfp S hm with e | e
    · exact hSa e
    · exact absurd hSz (Nat.not_lt.mpr e)
  have hlen : ord.length = es.size := by rw [hord.length_eq, List.length_map]; rfl
  have hn : es.size ≤ sizeLine := fits_of_scanBound d.bd
  have key : ∀ (h : Heap) (c₁ tk : Nat), St 0 h → (∀ b u, b ≠ S → s.heap.get? b = some u → h.get? b = some u) →
      h.get? S = some { cls := .type "list", data := .seq #[] c₁ } → codeAny (model prog w) A (.builtin "list.extend.loop" ⟨[.ref S, .ref I, res], []⟩) R { s with heap := h, toks := tk, drawn := dr } := by
    intro h c₁ tk hst hk hS₁
    refine codeAny_extend_loopS (W A.in1 hh).toS hn S hSf res es.size 0 _ #[] c₁ rfl (Nat.zero_le _) hst hS₁ (ItemsOf.nil _) fun s' acc' c' hm hS' hacc => ?_
    rw [Moved.eq_with hm]
    refine hR s'.heap s'.toks dr acc' c' (fun b u hb e => hm.heap b u (fun hmem => ?_) (hk b u hb e)) hS' ?_
    · rcases List.mem_cons.mp hmem with e' | hmem
      · exact hb e'
      · rw [List.mem_singleton.mp hmem] at e
        exact absurd (Heap.lt_size e) (Nat.not_lt.mpr hI)
    · have : acc'.toList = ord := by
        apply List.ext_getElem?
        intro i
        rw [Array.getElem?_toList]
        by_cases c : i < acc'.size
        · have e := getElem?_pos acc' i c
          rw [hacc.2 i _ e, e]
        · rw [Array.getElem?_eq_none (by omega), List.getElem?_eq_none (by rw [hlen, ← hacc.1]; omega)]
      rw [this]; exact hord
  refine wpAny_bind (wpAny_holding (set_hint (s := { s with heap := h₁, drawn := dr }) ⟨o, kp _ _ ho, d.ex.1⟩ ?_))
  refine wpAny_ite_split (fun _ => ?_) (fun _ => wpAny_pure ⟨plainId_quiet PySem.F.plain_extend_loop _, key _ c₀ _ st (fun b u _ e => kp _ _ e) hS1⟩)
  refine wpAny_bind (wpAny_rule ?_)
  refine wpAny_bind ?_
  show wpAny _ _ (updateSeq S (·.push .none) >>= fun _ => updateSeq S (·.pop)) _ _ _
  refine wpAny_bind (wpAny_updateSeq hS1 rfl ?_)
  have hS₂ := Heap.get?_update_self (Obj.mapSeq (·.push Value.none)) hS1 rfl
  refine wpAny_updateSeq (hz := by seq_fits) hS₂ rfl ?_
  have hS₃ := Heap.get?_update_self (Obj.mapSeq (·.pop)) hS₂ rfl
  refine wpAny_pure ⟨plainId_quiet PySem.F.plain_extend_loop _, key _ _ _ ?_ (fun b u hb e => ?_) hS₃⟩
  · refine (W A hh).frame 0 _ _ st fun b hb o e => ?_
    have hbS : b ≠ S := fun h => hSf (h ▸ hb)
    exact (Heap.get?_update_other _ _ (Ne.symm hbS)).trans ((Heap.get?_update_other _ _ (Ne.symm hbS)).trans e)
  · exact (Heap.get?_update_other _ _ (Ne.symm hb)).trans ((Heap.get?_update_other _ _ (Ne.symm hb)).trans (kp _ _ e))
theorem set_collect {R : List Value → Shared → Prop} (hh : A.handled = none) (ho : s.heap.get? a = some o) (d : SetD prog w o es ep t ns)
    (h : ∀ (h' : Heap) (tk : Nat) (dr : Drawn) (vs : List Value), (∀ b u, s.heap.get? b = some u → h'.get? b = some u) → vs.Perm (vOf es) → R vs { s with heap := h', toks := tk, drawn := dr }) :
    wpAny (model prog w) A (collect (.ref a)) R E s := by
  unfold collect
  refine wpAny_bind (wpAny_runValue (codeAny_builtin entry_proto_collect' ?_))
  rw [Around.under_plainId PySem.F.plain_proto_collect _]
  show wpAny _ A.in1 (newList [] >>= fun l => again (.builtin "list.__iadd__" ⟨[l, .ref a], []⟩)) _ _ s
  refine wpAny_bind (wpAny_newObj_type ?_)
  refine wpAny_pure ⟨plainId_quiet PySem.F.plain_list_iadd _, codeAny_builtin entry_list_iadd' ?_⟩
  rw [Around.under_plainId PySem.F.plain_list_iadd _]
  have hS₁ : (s.heap.push { cls := .type "list", data := .seq ([] : List Value).toArray }).get? s.heap.objs.size = some { cls := .type "list", data := .seq #[] } := Heap.get?_push_size _ rfl
  show wpAny _ A.in1 (Builtin.List.listExtendWith (.ref s.heap.objs.size) (.ref a) (.ref s.heap.objs.size)) _ _ _
  have key := set_extend (A := A) (s := { s with heap := s.heap.push { cls := .type "list", data := .seq ([] : List Value).toArray } })
    (R := fun (q : Result) (s' : Shared) => ∃ (h' : Heap) (tk : Nat) (dr : Drawn) (acc : Array Value) (c : Nat), q = .ok (.ret (.ref s.heap.objs.size)) ∧ s' = { s with heap := h', toks := tk, drawn := dr } ∧
      (∀ b u, s.heap.get? b = some u → h'.get? b = some u) ∧ h'.get? s.heap.objs.size = some { cls := .type "list", dict := none, data := .seq acc c, slots := #[] } ∧ acc.toList.Perm (vOf es))
    hh (Heap.get?_push_of_some _ ho) d (Nat.ne_of_gt (Heap.lt_size ho)) (.ref s.heap.objs.size) hS₁
    (fun h' tk dr acc c hk hS' hacc => ⟨h', tk, dr, acc, c, rfl, rfl, fun b u e => hk b u (Nat.ne_of_lt (Heap.lt_size e)) (Heap.get?_push_of_some _ e), hS', hacc⟩)
  refine wpAny_mono key (fun fin s' x => ?_) fun e s' x => ?_
  · cases fin with
    | done f =>
      obtain ⟨h', tk, dr, acc, c, e, rfl, hk, hS', hacc⟩ := x
      cases e
      show wpAny _ A (load s.heap.objs.size >>= _) _ _ _
      refine wpAny_bind (wpAny_load hS' ?_)
      exact wpAny_pure (h h' tk dr acc.toList hk hacc)
    | again c' =>
      refine ⟨x.1, codeAny_mono x.2 fun r s'' y => ?_⟩
      obtain ⟨h', tk, dr, acc, c, rfl, rfl, hk, hS', hacc⟩ := y
      show wpAny _ A (load s.heap.objs.size >>= _) _ _ _
      refine wpAny_bind (wpAny_load hS' ?_)
      exact wpAny_pure (h h' tk dr acc.toList hk hacc)
  · obtain ⟨_, _, _, _, _, e, _⟩ := x
    cases e
end
section
variable {prog : Program} {w : World} {A : Around} {E : Value → Shared → Prop} {s : Shared}
theorem pairs_apart {vs : List Value} {ns : List Int} (hI : IntsAre vs ns) (nd : ns.Nodup) : Apart (pairsOf vs) := by
  unfold Apart
  rw [pairsOf_toList]
  have : (vs.zip vs).map kz = ns := by
    rw [← hI.nums]
    apply List.ext_getElem?
    intro i
    rw [List.getElem?_map, List.getElem?_map, List.zip, List.getElem?_zipWith]
    cases vs[i]? <;> rfl
  rw [this]; exact nd
theorem sort64 {a : Addr} {vs : List Value} {ns : List Int} {n : Nat} {P : Fin → Shared → Prop} (ho : s.heap.get? a = some (seqObj "list" vs.toArray n)) (hI : IntsAre vs ns) (hz : vs.length ≤ 64) (nd : ns.Nodup)
    (h : ∀ (out : Array Value) (ns' : List Int), IntsAre out.toList ns' → ns'.Perm ns → ns'.Pairwise (· ≤ ·) → P (.done (.ret .none)) { s with heap := sortedHeap s.heap a vs out }) :
    wpAny (model prog w) A (Builtin.«list.sort» ⟨[.ref a], []⟩) P E s := by
  by_cases h64 : vs.length < 64
  · exact list_sort_tree ho hI h64 h
  have e64 : vs.length = 64 := by omega
  rw [list_sort_plain]
  have ha : a < s.heap.objs.size := Heap.lt_size ho
  refine wpAny_bind (listItems_at ho rfl ?_)
  refine wpAny_bind (listUpdate_at ho rfl ?_ (by show vs.toArray.size ≤ sizeLine; rw [List.size_toArray, sizeLine_eq]; omega))
  obtain ⟨e1, ho1⟩ : ∃ e1, (s.heap.update a (Obj.mapSeq fun _ => #[])).get? a = some (seqObj "list" #[] e1) := ⟨_, get?_update_seq ho (fun _ => #[])⟩
  refine wpAny_bind (seqEpoch_at ho1 rfl ?_)
  refine wpAny_bind (wpAny_newTuple ?_ (by simp; rw [sizeLine_eq]; omega))
  refine wpAny_bind (wpAny_newList ?_)
  refine wpAny_holding ?_
  have ho6 : (((s.heap.update a (Obj.mapSeq fun _ => #[])).push (seqObj "tuple" vs.toArray 0)).push (seqObj "list" #[] 0)).get? a = some (seqObj "list" #[] e1) := by
    rw [Heap.get?_push_ne _ _ _ (by rw [size_push', Heap.size_update]; exact Nat.ne_of_lt (Nat.lt_succ_of_lt ha)), Heap.get?_push_ne _ _ _ (by rw [Heap.size_update]; exact Nat.ne_of_lt ha)]
    exact ho1
  show wpAny (model prog w) A _ P E { s with heap := ((s.heap.update a (Obj.mapSeq fun _ => #[])).push (seqObj "tuple" vs.toArray 0)).push (seqObj "list" #[] 0) }
  dsimp only
  have h2 : ¬ vs.toArray.size < 2 := by simp; omega
  rw [if_neg h2, if_neg h2]
  obtain ⟨v₁, v₂, rest, rfl⟩ : ∃ v₁ v₂ rest, vs = v₁ :: v₂ :: rest := by
    match vs, e64 with
    | v₁ :: v₂ :: rest, _ => exact ⟨v₁, v₂, rest, rfl⟩
  rw [keyKind_ints hI]
  refine wpAny_bind (wpAny_pure ?_)
  refine wpAny_bind (wpAny_mono (wpS_sort64 (a₀ := pairsOf (v₁ :: v₂ :: rest)) (st := SortSt.mk' oneType' ((v₁ :: v₂ :: rest).toArray.zip (v₁ :: v₂ :: rest).toArray) #[] 7 none)
    (Q := fun _ st' => (arrOf st').Perm (pairsOf (v₁ :: v₂ :: rest)) ∧ failedOf st' = none ∧ SortedTo (arrOf st') (pairsOf (v₁ :: v₂ :: rest)).size)
    hI.intKeys (pairs_apart hI nd) ⟨Array.Perm.refl _, rfl, rfl, rfl⟩ (by rw [pairsOf_size]; exact e64) fun st' a1 a2 a3 => ⟨a1, a2, a3⟩) ?_ fun _ _ e => e)
  rintro ⟨⟨⟩, st'⟩ s' ⟨rfl, hp, hf, hs⟩
  dsimp only
  refine wpAny_bind (seqEpoch_at ho6 rfl ?_)
  refine wpAny_bind (listUpdate_at ho6 rfl ?_ (hsz2 := by refine Nat.le_trans (Nat.le_of_eq ((Array.size_map ..).trans (hp.size_eq.trans (pairsOf_size _)))) ?_; rw [sizeLine_eq]; omega))
  rw [hf]
  simp only [bne_self_eq_false, Bool.false_eq_true, if_false]
  obtain ⟨ns', g1, g2, g3⟩ := sorted_out hI hp hs
  exact wpAny_pure (h _ ns' g1 g2 g3)
theorem vOf_ints {o : Obj} {es : Array (Int × Value)} {ep : Nat} {t : SetTable} {ns : List Int} (d : SetD prog w o es ep t ns) {vs : List Value} (p : vs.Perm (vOf es)) : IntsAre vs (vs.map numOf) ∧ (vs.map numOf).Perm ns := by
  constructor
  · refine intsAre_map vs fun v hv => ?_
    obtain ⟨e, he, rfl⟩ := List.mem_map.mp (p.mem_iff.mp hv)
    obtain ⟨⟨k, hk, _⟩, _⟩ := d.el e he
    obtain ⟨t, ht⟩ := int_is hk
    exact ⟨k, t, ht⟩
  · refine (p.map _).trans ?_
    rw [List.map_map]
    exact d.pm
end
section
variable {X : Cx}
theorem Inv.drew {pins : List (Addr × Obj)} {σ : List (Option V)} {H : Hp} {s : Shared} (I : Inv X pins σ H s) (dr : Drawn) : Inv X pins σ H { s with drawn := dr } := ⟨I.ok, I.os, I.bare, I.base, I.loc, I.cell, I.free, I.freeC, I.pin, I.hok, I.len⟩
def SetO (X : Cx) (a : Addr) (ns : List Int) : HO := .ext fun h => SetI X.prog X.w h a ns
theorem call_setN (hh : X.A.handled = none) : CallR X (.type "set") (fun xs H Q => ∃ (a : Addr) (ns : List Int), xs = [.ref a] ∧ H a = some (.lst (ns.map V.int)) ∧ ns.length ≤ 1000 ∧ ∀ p, H p = none → Q (.ref p) (upd H p (SetO X p (once [] ns)))) := by
  intro pins s σ H xs us Q I r h
  obtain ⟨a, ns, rfl, ea, hz, q⟩ := h
  obtain ⟨u, rfl, ru⟩ := vals1 r
  cases ru
  obtain ⟨z, its, n, rel, hget⟩ := I.hok a _ ea
  have hl : s.heap.IsList a its.toArray := ⟨_, hget, rfl, n, rfl⟩
  have hi : IntsAre its.toArray.toList ns := by rw [List.toList_toArray]; exact intsAre_of rel
  have hlen : its.length = ns.length := by have := rel.length; rw [List.length_map] at this; exact this.symm
  refine call_set_ints hh hl hi (by rw [List.size_toArray, hlen]; unfold scanBound; omega) fun h' tk hS kp => ?_
  have kp' : ∀ b u, s.heap.get? b = some u → h'.get? b = some u := fun b u e => kp b u (Heap.lt_size e) e
  refine ⟨.ref s.heap.objs.size, upd H s.heap.objs.size (SetO X s.heap.objs.size (once [] ns)), I.laid (t' := tk) kp' (Nat.le_refl _) ⟨hS, ?_, fun h1 h2 x e => x.stay e⟩, rfl, q _ (I.hok.fresh (Nat.le_refl _))⟩
  obtain ⟨o, _, _, _, ho, _⟩ := hS
  exact ⟨o, ho⟩
theorem call_sortedN (hh : X.A.handled = none) : CallR X (.builtin "sorted") (fun xs H Q => ∃ (a : Addr) (ns : List Int), xs = [.ref a] ∧ H a = some (SetO X a ns) ∧ ns.Nodup ∧ ns.length ≤ 64 ∧
    ∀ (ms : List Int) (l : Addr), ms.Perm ns → ms.Pairwise (· ≤ ·) → H l = none → Q (.ref l) (upd H l (.lst (ms.map V.int)))) := by
  intro pins s σ H xs us Q I r h
  obtain ⟨a, ns, rfl, ea, nd, h64, q⟩ := h
  obtain ⟨u, rfl, ru⟩ := vals1 r
  cases ru
  obtain ⟨⟨o, es, ep, t, ho, d⟩, _, _⟩ := I.hok a _ ea
  refine Calls.call_function_entry kind_sorted plain_sorted entry_sorted (args_sorted1 _) ?_
  unfold Builtin.«sorted»
  refine wpAny_bind (m := checkCount "sorted" 1 1 _) (wpAny_pure ?_)
  refine wpAny_bind (set_collect (A := X.A.in1) hh ho d fun h' tk dr vs hkp hvs => ?_)
  obtain ⟨hI, hpn⟩ := vOf_ints d hvs
  have hl : vs.length = ns.length := by have := hpn.length_eq; rw [List.length_map] at this; exact this
  have hs : sizeLine = 16777216 := sizeLine_eq
  refine wpAny_bind (wpAny_newList ?_ (by rw [hl, hs]; omega))
  have hoL : (h'.push (seqObj "list" vs.toArray 0)).get? h'.objs.size = some (seqObj "list" vs.toArray 0) := Heap.get?_push_size _ rfl
  refine wpAny_bind (wpAny_holding (wpAny_call_entry slot_list_sort ⟨_, hoL, rfl⟩ entry_list_sort (sort64 hoL hI (by omega) (hpn.nodup_iff.mpr nd) fun out ns' b1 b2 b3 => ⟨_, rfl, ?_⟩) (args_list_sort _)))
  obtain ⟨e, he⟩ := sortedHeap_at (out := out) hoL
  have I2 : Inv X pins σ H { s with heap := h', toks := tk, drawn := dr } := (I.kept (t' := tk) hkp).drew dr
  have pl := (b2.trans hpn).length_eq
  refine wpAny_pure ⟨_, rfl, .ref h'.objs.size, upd H h'.objs.size (.lst (ns'.map V.int)), I2.laid (t' := tk) (fun b u e' => ?_) (Nat.le_refl _) ?_, rfl, q ns' _ (b2.trans hpn) b3 (I2.hok.fresh (Nat.le_refl _))⟩
  · have e' : h'.get? b = some u := e'
    rw [sortedHeap_old (Nat.ne_of_lt (Heap.lt_size e')) (by rw [size_push']; exact Nat.lt_succ_of_lt (Heap.lt_size e'))]
    exact Heap.get?_push_of_some _ e'
  · exact ⟨by rw [List.length_map]; omega, out.toList, e, vals_ints b1, by rw [Array.toArray_toList]; exact he⟩
end
end L2
namespace K02
open PySem L2 PyProof.Rows
def top (i : Nat) : Stmt := PySem.Challenge.pw_grantweave_k02_bits_of_masks.main.body.getD i (.Pass ⟨0, 0, 0, 0⟩)
structure Txt (mg : Str → Option Value) : Prop where
  n_len : mg "len" = none
  n_isinstance : mg "isinstance" = none
  n_range : mg "range" = none
  n_int : mg "int" = none
  n_bool : mg "bool" = none
  n_list : mg "list" = none
  n_min : mg "min" = none
  n_max : mg "max" = none
  n_set : mg "set" = none
  n_sorted : mg "sorted" = none
section
variable {P : Program} {w : World} {K : PySem.W.Frag} {mg : Str → Option Value} {base : Heap}
abbrev s_law_cell : Stmt := top 5
theorem sc_law_cell : FnScope ["_law_script", "_law_k"] ["_law_script", "_law_k"] (defScope s_law_cell) := ⟨rfl, rfl, rfl, by decide +kernel, rfl, by decide +kernel, by decide +kernel⟩
theorem ok_cell (T : Txt mg) (F : TopFn K mg "_law_cell" s_law_cell ["_law_script", "_law_k"]) : FnAt P w K mg base "_law_cell" 1 ["_law_script", "_law_k"] (spCell K) := by
  refine F.at sc_law_cell (fun vs H Q E h => ?_) (fun f cdv A outer s H vs Q E hr h => ?_)
  · obtain ⟨a, ns, k, rfl, _⟩ := h
    rfl
  · obtain ⟨a, ns, k, rfl, hS, q⟩ := h
    refine ⟨_, (pss_cons (ps_if (pt_cmpR op_lt (pv 1) (pe_callB call_len rfl T.n_len boot_len (pa_cons (pv 0) pa_nil)) (nomark _)) (pss_one (ps_ret (pe_ix ix_list (pv 0) (pv 1) (fun _ _ => rfl)))) pss_nil)
      (pss_one (ps_ret (pe_op op_add (pe_op op_mul pe_int (pv 1)) pe_int)))), ?_⟩
    refine ⟨_, rfl, _, rfl, _, _, rfl, .inl ⟨_, hS, rfl⟩, _, _, rfl, rfl, _, rfl, ite2 (fun hlt => ?_) (fun _ => ?_)⟩
    · have hlt : (k : Int) < (((ns.map V.int).length : Nat) : Int) := of_decide_eq_true hlt
      have hk : k < ns.length := by rw [List.length_map] at hlt; omega
      refine ⟨_, rfl, _, rfl, a, _, _, V.int ns[k], rfl, rfl, hS, atI_nat (by rw [List.getElem?_map, List.getElem?_eq_getElem hk]; rfl), q _⟩
    · exact ⟨_, rfl, _, _, rfl, rfl, .inl ⟨by decide, by decide⟩, _, _, rfl, rfl, q _⟩
abbrev s_law_mixed : Stmt := top 6
theorem sc_law_mixed : FnScope ["_law_cell_here", "_law_k", "_law_number"] ["_law_cell_here", "_law_k"] (defScope s_law_mixed) := ⟨rfl, rfl, rfl, by decide +kernel, rfl, by decide +kernel, by decide +kernel⟩
theorem ok_mixed (F : TopFn K mg "_law_mixed" s_law_mixed ["_law_cell_here", "_law_k"]) : FnAt P w K mg base "_law_mixed" 1 ["_law_cell_here", "_law_k"] spMixed := by
  refine F.at sc_law_mixed (fun vs H Q E h => ?_) (fun f cdv A outer s H vs Q E hr h => ?_)
  · obtain ⟨a, k, rfl, _⟩ := h
    rfl
  · obtain ⟨a, k, rfl, q⟩ := h
    refine ⟨_, (pss_cons (ps_set (i := 2) sc_law_mixed.nd rfl (by first | exact Or.inl rfl | exact Or.inr rfl) (pe_op op_mod (pe_op op_add (pe_op op_add (pe_op op_mul (pe_op op_mod (pv 0) pe_int) pe_int) (pe_op op_mul pe_int (pv 1))) pe_int) pe_int))
      (pss_cons (ps_set (i := 2) sc_law_mixed.nd rfl (by first | exact Or.inl rfl | exact Or.inr rfl) (pe_op op_mod (pe_op op_add (pe_op op_add (pe_op op_mul (pv 2) (pv 2)) (pe_op op_mul pe_int (pv 1))) pe_int) pe_int))
      (pss_one (ps_ret (pe_op op_mod (pe_op op_mul (pv 2) (pv 2)) pe_int))))), ?_⟩
    have md : ∀ (x : Int) (y : Int), 0 < y → y < 4294967296 → -(2 ^ 64) < x % y ∧ x % y < 2 ^ 64 := fun x y h1 h2 => by
      have a1 := Int.emod_nonneg x (show y ≠ 0 by omega)
      have a2 := Int.emod_lt_of_pos x h1
      omega
    refine ⟨_, rfl, _, _, rfl, rfl, (by show (0 : Int) < _; decide), _, _, rfl, rfl, .inr ⟨by decide, by decide⟩, _, rfl, _, _, rfl, rfl, .inl ⟨by decide, by decide⟩, _, _, rfl, rfl, _, _, rfl, rfl, _, _, rfl, rfl, (by show (0 : Int) < _; decide), ?_⟩
    refine ⟨_, rfl, _, rfl, _, _, rfl, rfl, .inl (md _ _ (by decide) (by decide)), _, rfl, _, _, rfl, rfl, .inl ⟨by decide, by decide⟩, _, _, rfl, rfl, _, _, rfl, rfl, _, _, rfl, rfl, (by show (0 : Int) < _; decide), ?_⟩
    exact ⟨_, rfl, _, rfl, _, _, rfl, rfl, .inl (md _ _ (by decide) (by decide)), _, _, rfl, rfl, (by show (0 : Int) < _; decide), q _⟩
abbrev s_law_box : Stmt := top 7
theorem sc_law_box : FnScope ["_law_cell_here"] ["_law_cell_here"] (defScope s_law_box) := ⟨rfl, rfl, rfl, by decide +kernel, rfl, by decide +kernel, by decide +kernel⟩
theorem ok_box (F : TopFn K mg "_law_box" s_law_box ["_law_cell_here"]) : FnAt P w K mg base "_law_box" 1 ["_law_cell_here"] spBox := by
  refine F.at sc_law_box (fun vs H Q E h => ?_) (fun f cdv A outer s H vs Q E hr h => ?_)
  · obtain ⟨c, rfl, _⟩ := h
    rfl
  · obtain ⟨c, rfl, q⟩ := h
    refine ⟨_, (pss_cons (ps_if (pt_cmpR op_ge (pv 0) (pe_op op_pow pe_int pe_int) (nomark _)) (pss_one (ps_ret (pe_lst (pa_cons (pv 0) (pa_cons (pe_op op_mod (pv 0) pe_int) (pa_cons pe_int pa_nil)))))) pss_nil)
      (pss_one (ps_ret (pe_lst (pa_cons pe_int (pa_cons (pe_op op_mod (pv 0) pe_int) (pa_cons pe_int pa_nil))))))), ?_⟩
    refine ⟨_, rfl, _, _, rfl, rfl, ⟨by decide, by decide, by decide⟩, _, _, rfl, rfl, _, rfl, ite2 (fun _ => ?_) (fun _ => ?_)⟩
    · exact ⟨_, rfl, _, rfl, _, _, rfl, rfl, (by show (0 : Int) < _; decide), (by show 3 ≤ sizeLine; decide), fun p hp => q p _ _ _ hp⟩
    · exact ⟨_, rfl, _, _, rfl, rfl, (by show (0 : Int) < _; decide), (by show 3 ≤ sizeLine; decide), fun p hp => q p _ _ _ hp⟩
abbrev s_law_take : Stmt := top 8
theorem sc_law_take : FnScope ["_law_box_here", "_law_many", "_law_number"] ["_law_box_here", "_law_many"] (defScope s_law_take) := ⟨rfl, rfl, rfl, by decide +kernel, rfl, by decide +kernel, by decide +kernel⟩
theorem ok_take (F_mixed : FnAt P w K mg base "_law_mixed" 1 ["_law_cell_here", "_law_k"] spMixed) (F : TopFn K mg "_law_take" s_law_take ["_law_box_here", "_law_many"]) : FnAt P w K mg base "_law_take" 2 ["_law_box_here", "_law_many"] spTake := by
  refine F.at sc_law_take (fun vs H Q E h => ?_) (fun f cdv A outer s H vs Q E hr h => ?_)
  · obtain ⟨b, n, rfl, _⟩ := h
    rfl
  · obtain ⟨b, n, rfl, ⟨x, y, z, hb⟩, h0, h1, q⟩ := h
    refine ⟨_, (pss_cons (ps_if (pt_cmpR op_gt (pe_ix ix_list (pv 0) pe_int (fun _ _ => rfl)) pe_int (nomark _)) (pss_cons (ps_set (i := 2) sc_law_take.nd rfl (by first | exact Or.inl rfl | exact Or.inr rfl) (pe_op op_mod (pe_ix ix_list (pv 0) pe_int (fun _ _ => rfl)) (pv 1)))
      (pss_cons (ps_asg (pe_op op_fdivB (pe_ix ix_list (pv 0) pe_int (fun _ _ => rfl)) (pv 1)) (pg_sub (pv 0) pe_int set_list))
      (pss_one (ps_ret (pv 2))))) pss_nil)
      (pss_cons (ps_asg (pe_op op_add (pe_ix ix_list (pv 0) pe_int (fun _ _ => rfl)) pe_int) (pg_sub (pv 0) pe_int set_list))
      (pss_one (ps_ret (pe_op op_mod (pe_fn F_mixed hr (by decide) rfl (pa_cons (pe_ix ix_list (pv 0) pe_int (fun _ _ => rfl)) (pa_cons (pe_ix ix_list (pv 0) pe_int (fun _ _ => rfl)) pa_nil))) (pv 1)))))), ?_⟩
    have a1 : ∀ r : Int, 0 ≤ r % n := fun r => Int.emod_nonneg r (show n ≠ 0 by omega)
    have a2 : ∀ r : Int, r % n < n := fun r => Int.emod_lt_of_pos r h0
    have oth : ∀ x y z : Int, Oth b H (upd H b (.lst [.int x, .int y, .int z])) := fun x y z => ⟨⟨x, y, z, upd_same⟩, fun c o e nc => by rw [upd_ne nc]; exact e⟩
    refine ⟨_, rfl, b, _, _, V.int x, rfl, rfl, SqL.of hb, rfl, _, _, rfl, rfl, _, rfl, ite2 (fun _ => ?_) (fun _ => ?_)⟩
    · refine ⟨_, rfl, b, _, _, V.int x, rfl, rfl, SqL.of hb, rfl, _, rfl, _, _, rfl, rfl, h0, ?_⟩
      refine ⟨_, rfl, b, _, _, V.int x, rfl, rfl, SqL.of hb, rfl, _, rfl, _, _, rfl, rfl, ⟨h0, h1⟩, ?_⟩
      refine ⟨_, rfl, b, _, _, 0, rfl, rfl, hb, rfl, ?_⟩
      exact ⟨_, rfl, q _ _ (a1 _) (a2 _) (oth _ _ _)⟩
    · refine ⟨_, rfl, b, _, _, V.int z, rfl, rfl, SqL.of hb, rfl, _, _, rfl, rfl, ?_⟩
      refine ⟨_, rfl, b, _, _, 2, rfl, rfl, hb, rfl, ?_⟩
      refine ⟨_, rfl, b, _, _, V.int y, rfl, rfl, SqL.of upd_same, rfl, _, rfl, b, _, _, V.int (z + 1), rfl, rfl, SqL.of upd_same, rfl, _, _, rfl, fun r => ?_⟩
      exact ⟨_, rfl, _, _, rfl, rfl, h0, q _ _ (a1 _) (a2 _) (oth _ _ _)⟩
end

end K02
namespace K02
open PySem L2 PyProof.Rows
def bitsTo (m n : Nat) : List Nat := (List.range n).filter fun i => m.testBit i
def bitsN (m : Nat) : List Nat := bitsTo m 64
abbrev vs (l : List Nat) : List V := l.map fun (i : Nat) => V.int i
def orL (ps : List Nat) : Nat := ps.foldl (fun m p => m ||| 2 ^ p) 0
theorem bitsTo_succ (m n : Nat) : bitsTo m (n + 1) = bitsTo m n ++ if m.testBit n = true then [n] else [] := by
  unfold bitsTo
  rw [List.range_succ, List.filter_append]
  cases e : m.testBit n <;> simp [List.filter_cons, e]
theorem bitsTo_all {m p : Nat} (h : m < 2 ^ p) : ∀ q, bitsTo m (p + q) = bitsTo m p
  | 0 => rfl
  | q + 1 => by
    rw [← Nat.add_assoc, bitsTo_succ, bitsTo_all h q]
    have : m.testBit (p + q) = false := Nat.testBit_lt_two_pow (Nat.lt_of_lt_of_le h (Nat.pow_le_pow_right (by decide) (by omega)))
    rw [this]; simp
theorem bits_len (m n : Nat) : (bitsTo m n).length ≤ n := by
  have := List.length_filter_le (fun i => m.testBit i) (List.range n)
  rw [List.length_range] at this; exact this
theorem bit_or (a b : Nat) : Builtin.bitOr (a : Int) (b : Int) = ((a ||| b : Nat) : Int) := by
  rw [bitOr_and, bitAnd_pp (by omega) (by omega), Int.toNat_natCast, Int.toNat_natCast]
  have := nat_or_add_and a b
  omega
theorem or_test (ps : List Nat) : ∀ (m i : Nat), (ps.foldl (fun m p => m ||| 2 ^ p) m).testBit i = (m.testBit i || decide (i ∈ ps)) := by
  induction ps with
  | nil => intro m i; simp
  | cons p r ih =>
    intro m i
    rw [List.foldl_cons, ih, Nat.testBit_or, Nat.testBit_two_pow]
    by_cases e : p = i
    · subst e; simp
    · have : ¬ i = p := fun h => e h.symm
      simp [e, this]
theorem orL_test (ps : List Nat) (i : Nat) : (orL ps).testBit i = decide (i ∈ ps) := by
  unfold orL; rw [or_test]; simp
theorem orL_lt {ps : List Nat} (h : ∀ p ∈ ps, p < 64) : orL ps < 2 ^ 64 := by
  unfold orL
  have : ∀ (l : List Nat) (m : Nat), (∀ p ∈ l, p < 64) → m < 2 ^ 64 → l.foldl (fun m p => m ||| 2 ^ p) m < 2 ^ 64 := fun l => by
    induction l with
    | nil => intro m _ hm; exact hm
    | cons p r ih =>
      intro m hl hm
      exact ih _ (fun q hq => hl q (List.mem_cons_of_mem _ hq)) (Nat.or_lt_two_pow hm (Nat.pow_lt_pow_right (by decide) (hl p List.mem_cons_self)))
  exact this ps 0 h (by decide)
theorem or_bits {m : Nat} (h : m < 2 ^ 64) : orL (bitsN m) = m := by
  apply Nat.eq_of_testBit_eq
  intro i
  rw [orL_test]
  by_cases c : i < 64
  · simp [bitsN, bitsTo, c]
  · rw [Nat.testBit_lt_two_pow (Nat.lt_of_lt_of_le h (Nat.pow_le_pow_right (by decide) (by omega)))]
    simp [bitsN, bitsTo, c]
theorem bits_lt (m : Nat) : ∀ p ∈ bitsN m, p < 64 := fun p hp => by simp [bitsN, bitsTo] at hp; exact hp.1
theorem bits_rise (m : Nat) : (bitsN m).Pairwise (· < ·) := List.Pairwise.filter _ List.pairwise_lt_range
theorem or_app (ps : List Nat) : orL (ps ++ ps) = orL ps := by
  apply Nat.eq_of_testBit_eq
  intro i
  rw [orL_test, orL_test]; simp
theorem bits_or {ps : List Nat} {ms : List Int} (h : ∀ p ∈ ps, p < 64) (hp : ms.Perm (once [] (ps.map fun (i : Nat) => (i : Int)))) (hs : ms.Pairwise (· ≤ ·)) : ms = (bitsN (orL ps)).map fun (i : Nat) => (i : Int) := by
  have nd : ms.Nodup := hp.nodup_iff.mpr (once_nodup _ _ List.nodup_nil)
  have r2 : ((bitsN (orL ps)).map fun (i : Nat) => (i : Int)).Pairwise (· ≤ ·) := List.pairwise_map.mpr ((bits_rise _).imp fun h => by omega)
  have nd2 : ((bitsN (orL ps)).map fun (i : Nat) => (i : Int)).Nodup := List.pairwise_map.mpr ((bits_rise _).imp fun h => by omega)
  refine List.Perm.eq_of_pairwise (fun a b _ _ x y => Int.le_antisymm x y) hs r2 ((List.perm_ext_iff_of_nodup nd nd2).mpr fun a => ?_)
  rw [hp.mem_iff, once_mem, List.mem_map, List.mem_map]
  constructor
  · rintro (h0 | ⟨p, hp, rfl⟩)
    · cases h0
    · exact ⟨p, by simp [bitsN, bitsTo, orL_test, h p hp, hp], rfl⟩
  · rintro ⟨p, hp, rfl⟩
    simp [bitsN, bitsTo, orL_test] at hp
    exact .inr ⟨p, hp.2, rfl⟩
def spBits : Sp := fun xs H Q _ => ∃ m : Nat, m < 2 ^ 64 ∧ xs = [.int m] ∧ ∀ (l : Addr) (H' : Hp), Same H H' → H l = none → H' l = some (.lst (vs (bitsN m))) → Q (.ref l) H'
section
variable {P : Program} {w : World} {K : PySem.W.Frag} {mg : Str → Option Value} {base : Heap}
abbrev sbits_of : Stmt := top 1
theorem scbits_of : FnScope ["mask", "places", "place", "rest"] ["mask"] (defScope sbits_of) := ⟨rfl, rfl, rfl, by decide +kernel, rfl, by decide +kernel, by decide +kernel⟩
theorem ok_bits (F : TopFn K mg "bits_of" sbits_of ["mask"]) : FnAt P w K mg base "bits_of" 1 ["mask"] spBits := by
  refine F.at scbits_of (fun vs H Q E h => ?_) (fun f cdv A outer s H xs Q E hr h => ?_)
  · obtain ⟨m, _, rfl, _⟩ := h
    rfl
  · obtain ⟨m, hm, rfl, q⟩ := h
    refine ⟨_, (pss_cons (ps_set (i := 1) scbits_of.nd rfl (by first | exact Or.inl rfl | exact Or.inr rfl) (pe_lst pa_nil))
      (pss_cons (ps_set (i := 2) scbits_of.nd rfl (by first | exact Or.inl rfl | exact Or.inr rfl) pe_int)
      (pss_cons (ps_set (i := 3) scbits_of.nd rfl (by first | exact Or.inl rfl | exact Or.inr rfl) (pv 0))
      (pss_cons (ps_while PassesOwn.never (pt_cmpR op_gt (pv 3) pe_int (nomark _)) (pss_cons (ps_if (pt_cmpR op_eq (pe_op op_mod (pv 3) pe_int) pe_int (nomark _)) (pss_one (ps_expr (pe_bm PySem.F.plainAttrs_list PySem.F.slot_list_append PySem.F.type_list_append mt_append (pv 1) (pa_cons (pv 2) pa_nil)))) pss_nil)
      (pss_cons (ps_set (i := 3) scbits_of.nd rfl (by first | exact Or.inl rfl | exact Or.inr rfl) (pe_op op_fdivB (pv 3) pe_int))
      (pss_one (ps_set (i := 2) scbits_of.nd rfl (by first | exact Or.inl rfl | exact Or.inr rfl) (pe_op op_add (pv 2) pe_int))))))
      (pss_one (ps_ret (pv 1))))))), ?_⟩
    have hs : sizeLine = 16777216 := sizeLine_eq
    refine ⟨(by show 0 ≤ sizeLine; decide), fun l hl => ?_⟩
    have s1 := Same.new (o := .lst []) hl
    have e1 : upd H l (.lst []) l = some (.lst []) := upd_same
    refine ⟨_, rfl, ?_⟩
    refine while_by (fun σ H' => ∃ p : Nat, σ = [some (.int m), some (.ref l), some (.int p), some (.int ((m / 2 ^ p : Nat) : Int))] ∧ Same H H' ∧ H' l = some (.lst (vs (bitsTo m p))) ∧ p ≤ 64)
      (fun σ _ => match (σ[3]? : Option (Option V)) with | some (some (V.int r)) => r.toNat | _ => 0) ⟨0, by rw [Nat.pow_zero, Nat.div_one]; rfl, s1, e1, by omega⟩ ?_ ?_
    · rintro σ H' ⟨p, rfl, s', e', hp⟩
      have hz := bits_len m p
      refine ⟨_, rfl, _, _, rfl, rfl, _, rfl, ite2 (fun hpos => ?_) (fun hpos => ?_)⟩
      · have hpos : (0 : Int) < ((m / 2 ^ p : Nat) : Int) := of_decide_eq_true hpos
        have hp64 : p < 64 := by
          rcases Nat.lt_or_ge p 64 with h | h
          · exact h
          · have : p = 64 := by omega
            subst this
            rw [Nat.div_eq_of_lt hm] at hpos
            omega
        have e2 : ((m / 2 ^ p : Nat) : Int) / 2 = ((m / 2 ^ (p + 1) : Nat) : Int) := by rw [Nat.pow_succ, ← Nat.div_div_eq_div_mul]; omega
        have lt : m / 2 ^ (p + 1) < m / 2 ^ p := by rw [Nat.pow_succ, ← Nat.div_div_eq_div_mul]; omega
        have tb : m.testBit p = decide (m / 2 ^ p % 2 = 1) := Nat.testBit_eq_decide_div_mod_eq
        refine ⟨_, rfl, _, _, rfl, rfl, (by show (0 : Int) < 2; decide), rfl, _, rfl, ite2 (fun hodd => ?_) (fun hodd => ?_)⟩
        · have hodd : m / 2 ^ p % 2 = 1 := by
            have := V.int.inj (of_decide_eq_true hodd)
            omega
          refine ⟨_, rfl, .inl ⟨rfl, _, SqL.of e'⟩, _, rfl, l, _, _, rfl, rfl, e', (by rw [List.length_map]; omega), ?_⟩
          refine ⟨_, rfl, _, _, rfl, rfl, ⟨by decide, by decide⟩, _, rfl, _, _, rfl, rfl, ⟨p + 1, ?_, fun b o e => ?_, ?_, by omega⟩, ?_⟩
          · show [some (V.int m), some (V.ref l), some (V.int ((p : Int) + 1)), some (V.int (((m / 2 ^ p : Nat) : Int) / 2))] = _
            rw [e2]
            rfl
          · rw [upd_ne (ne_of_none e hl)]; exact s' b o e
          · rw [upd_same, bitsTo_succ, tb, hodd]
            simp
          · show (((m / 2 ^ p : Nat) : Int) / 2).toNat < ((m / 2 ^ p : Nat) : Int).toNat
            rw [e2]; omega
        · have hodd : ¬ m / 2 ^ p % 2 = 1 := fun z => hodd (decide_eq_true (show V.int (((m / 2 ^ p : Nat) : Int) % 2) = V.int 1 by rw [show ((m / 2 ^ p : Nat) : Int) % 2 = 1 by omega]))
          refine ⟨_, rfl, _, _, rfl, rfl, ⟨by decide, by decide⟩, _, rfl, _, _, rfl, rfl, ⟨p + 1, ?_, s', ?_, by omega⟩, ?_⟩
          · show [some (V.int m), some (V.ref l), some (V.int ((p : Int) + 1)), some (V.int (((m / 2 ^ p : Nat) : Int) / 2))] = _
            rw [e2]
            rfl
          · rw [e', bitsTo_succ, tb, decide_eq_false hodd]
            simp
          · show (((m / 2 ^ p : Nat) : Int) / 2).toNat < ((m / 2 ^ p : Nat) : Int).toNat
            rw [e2]; omega
      · have hpos : ¬ (0 : Int) < ((m / 2 ^ p : Nat) : Int) := fun z => hpos (decide_eq_true z)
        have r0 : m / 2 ^ p = 0 := Nat.le_zero.mp (Nat.not_lt.mp fun z => hpos (Int.ofNat_lt.mpr z))
        have hlt : m < 2 ^ p := by
          rcases Nat.lt_or_ge m (2 ^ p) with h | h
          · exact h
          · have := Nat.div_pos h (Nat.two_pow_pos p); omega
        refine ⟨_, rfl, q l _ s' hl ?_⟩
        have : bitsN m = bitsTo m p := by
          have := bitsTo_all hlt (64 - p)
          rw [Nat.add_sub_cancel' hp] at this
          exact this
        rw [this]; exact e'
    · rintro σ H' Q1 Q2 hq ⟨v, e, i, j, e1, e2, b, e3, z⟩
      exact ⟨v, e, i, j, e1, e2, b, e3, hq _ _ z⟩
def leastV (m : Nat) : V := match vs (bitsN m) with
  | [] => .non
  | x :: _ => x
def spLeast : Sp := fun xs H Q _ => ∃ m : Nat, m < 2 ^ 64 ∧ xs = [.int m] ∧ ∀ H', Same H H' → Q (leastV m) H'
abbrev sleast_bit : Stmt := top 2
theorem scleast_bit : FnScope ["mask", "places"] ["mask"] (defScope sleast_bit) := ⟨rfl, rfl, rfl, by decide +kernel, rfl, by decide +kernel, by decide +kernel⟩
theorem ok_least (F_bits : FnAt P w K mg base "bits_of" 1 ["mask"] spBits) (F : TopFn K mg "least_bit" sleast_bit ["mask"]) : FnAt P w K mg base "least_bit" 2 ["mask"] spLeast := by
  refine F.at scleast_bit (fun vs H Q E h => ?_) (fun f cdv A outer s H xs Q E hr h => ?_)
  · obtain ⟨m, _, rfl, _⟩ := h
    rfl
  · obtain ⟨m, hm, rfl, q⟩ := h
    refine ⟨_, (pss_cons (ps_set (i := 1) scleast_bit.nd rfl (by first | exact Or.inl rfl | exact Or.inr rfl) (pe_fn F_bits hr (by decide) rfl (pa_cons (pv 0) pa_nil)))
      (pss_one (ps_ret (pe_ifExp (pt_truth (pv 1) (fun _ => rfl)) (pe_ix ix_list (pv 1) pe_int (fun _ _ => rfl)) pe_non)))), ?_⟩
    refine ⟨_, rfl, m, hm, rfl, fun l H1 s1 _ e1 => ?_⟩
    have q1 := q H1 s1
    unfold leastV at q1
    cases hb : vs (bitsN m) with
    | nil =>
      rw [hb] at e1 q1
      exact ⟨_, rfl, false, .inl ⟨_, SqL.of e1, rfl⟩, iteF q1⟩
    | cons x r =>
      rw [hb] at e1 q1
      exact ⟨_, rfl, true, .inl ⟨_, SqL.of e1, rfl⟩, iteT ⟨_, rfl, l, _, _, x, rfl, rfl, SqL.of e1, atI_nat (j := 0) rfl, q1⟩⟩
def spMaskOf (K : PySem.W.Frag) : Sp := fun xs H Q _ => ∃ (l : Addr) (ps : List Nat), xs = [.ref l] ∧ SqL K H l (vs ps) ∧ (∀ p ∈ ps, p < 64) ∧ Q (.int (orL ps : Nat)) H
abbrev smask_of : Stmt := top 3
theorem scmask_of : FnScope ["places", "mask", "place"] ["places"] (defScope smask_of) := ⟨rfl, rfl, rfl, by decide +kernel, rfl, by decide +kernel, by decide +kernel⟩
theorem ok_mask_of (F : TopFn K mg "mask_of" smask_of ["places"]) : FnAt P w K mg base "mask_of" 1 ["places"] (spMaskOf K) := by
  refine F.at scmask_of (fun vs H Q E h => ?_) (fun f cdv A outer s H xs Q E hr h => ?_)
  · obtain ⟨l, n, rfl, _⟩ := h
    rfl
  · obtain ⟨l, ps, rfl, hl, h64, q⟩ := h
    refine ⟨_, (pss_cons (ps_set (i := 1) scmask_of.nd rfl (by first | exact Or.inl rfl | exact Or.inr rfl) pe_int)
      (pss_cons (ps_for PassesOwn.never rfl (pi_list (pv 0)) (pg_name (i := 2) scmask_of.nd rfl (by first | exact Or.inl rfl | exact Or.inr rfl)) (pss_one (ps_set (i := 1) scmask_of.nd rfl (by first | exact Or.inl rfl | exact Or.inr rfl) (pe_op op_or (pv 1) (pe_op op_shl pe_int (pv 2))))))
      (pss_one (ps_ret (pv 1))))), ?_⟩
    refine ⟨_, rfl, l, rfl, ⟨_, hl⟩, for_list (K := K) (a := l) (xs := vs ps) (fun i σ H' => ∃ v : Option V, σ = [some (.ref l), some (.int ((orL (ps.take i) : Nat) : Int)), v] ∧ H' = H) ⟨_, rfl, rfl⟩ (fun i σ H' _ ⟨_, _, e⟩ => by rw [e]; exact hl) ?_ ?_⟩
    · rintro i y σ H' hi ⟨v, rfl, rfl⟩
      rw [List.getElem?_map] at hi
      obtain ⟨p, hp, rfl⟩ := Option.map_eq_some_iff.mp hi
      have h6 := h64 p (List.mem_of_getElem? hp)
      refine ⟨_, rfl, _, rfl, _, _, rfl, rfl, ⟨by omega, by omega, by decide⟩, _, _, rfl, rfl, ?_⟩
      refine ⟨some (V.int p), ?_, rfl⟩
      have e : Builtin.bitOr ((orL (ps.take i) : Nat) : Int) (1 * 2 ^ (p : Int).toNat) = ((orL (ps.take (i + 1)) : Nat) : Int) := by
        rw [Int.toNat_natCast, Int.one_mul, show ((2 : Int) ^ p) = ((2 ^ p : Nat) : Int) by simp, bit_or, List.take_succ, hp]
        show _ = (((List.take i ps ++ [p]).foldl _ 0 : Nat) : Int)
        rw [List.foldl_append]; rfl
      show [some (V.ref l), some (V.int (Builtin.bitOr ((orL (ps.take i) : Nat) : Int) (1 * 2 ^ (p : Int).toNat))), some (V.int p)] = _
      rw [e]
    · rintro σ H' ⟨v, rfl, rfl⟩
      rw [List.length_map, List.take_length]
      exact ⟨_, rfl, q⟩
end
end K02
namespace K02
open PySem L2 PyProof.Rows
section
variable {P : Program} {w : World} {K : PySem.W.Frag} {mg : Str → Option Value} {base : Heap}
theorem hu0 {A : Around} {k : Nat} (hr : Room k A) : A.units < cLine := by have := hr.units; omega
def spMk : Sp := fun xs H Q _ => ∃ b : Addr, xs = [.ref b] ∧ Box H b ∧ ∀ (m : Nat) (H' : Hp), m < 2 ^ 64 → Oth b H H' → Q (.int m) H'
abbrev s_law_mask : Stmt := top 9
theorem sc_law_mask : FnScope ["_law_box_here", "_law_way", "_law_mask_here", "_law_k"] ["_law_box_here"] (defScope s_law_mask) := ⟨rfl, rfl, rfl, by decide +kernel, rfl, by decide +kernel, by decide +kernel⟩
theorem nat_of {r : Int} (h : 0 ≤ r) : ∃ n : Nat, r = n := ⟨r.toNat, by omega⟩
theorem ok_mk (T : Txt mg) (F__law_take : FnAt P w K mg base "_law_take" 2 ["_law_box_here", "_law_many"] spTake) (F : TopFn K mg "_law_mask" s_law_mask ["_law_box_here"]) : FnAt P w K mg base "_law_mask" 3 ["_law_box_here"] spMk := by
  refine F.at sc_law_mask (fun vs H Q E h => ?_) (fun f cdv A outer s H xs Q E hr h => ?_)
  · obtain ⟨b, rfl, _⟩ := h
    rfl
  · obtain ⟨b, rfl, hb, q⟩ := h
    refine ⟨_, (pss_cons (ps_set (i := 1) sc_law_mask.nd rfl (by first | exact Or.inl rfl | exact Or.inr rfl) (pe_fn F__law_take hr (by decide) rfl (pa_cons (pv 0) (pa_cons pe_int pa_nil))))
      (pss_cons (ps_if (pt_cmpR op_eq (pv 1) pe_int (nomark _)) (pss_one (ps_ret (pe_op op_add (pe_op op_mul (pe_fn F__law_take hr (by decide) rfl (pa_cons (pv 0) (pa_cons (pe_op op_shl pe_int pe_int) pa_nil))) (pe_op op_shl pe_int pe_int)) (pe_fn F__law_take hr (by decide) rfl (pa_cons (pv 0) (pa_cons (pe_op op_shl pe_int pe_int) pa_nil)))))) pss_nil)
      (pss_cons (ps_if (pt_cmpR op_eq (pv 1) pe_int (nomark _)) (pss_one (ps_ret (pe_op op_sub (pe_op op_shl pe_int (pe_fn F__law_take hr (by decide) rfl (pa_cons (pv 0) (pa_cons pe_int pa_nil)))) pe_int))) pss_nil)
      (pss_cons (ps_set (i := 2) sc_law_mask.nd rfl (by first | exact Or.inl rfl | exact Or.inr rfl) pe_int)
      (pss_cons (ps_for PassesOwn.never rfl (pi_range1 rfl T.n_range (pa_cons (pe_fn F__law_take hr (by decide) rfl (pa_cons (pv 0) (pa_cons pe_int pa_nil))) pa_nil)) (pg_name (i := 3) sc_law_mask.nd rfl (by first | exact Or.inl rfl | exact Or.inr rfl)) (pss_one (ps_set (i := 2) sc_law_mask.nd rfl (by first | exact Or.inl rfl | exact Or.inr rfl) (pe_op op_or (pv 2) (pe_op op_shl pe_int (pe_fn F__law_take hr (by decide) rfl (pa_cons (pv 0) (pa_cons pe_int pa_nil))))))))
      (pss_one (ps_ret (pv 2)))))))), ?_⟩
    refine ⟨_, rfl, b, 4, rfl, hb, by decide, by decide, fun r H1 r0 r1 o1 => ?_⟩
    refine ⟨_, rfl, rfl, _, rfl, ite2 (fun _ => ?_) (fun _ => ?_)⟩
    · have e32 : (1 : Int) * 2 ^ (32 : Int).toNat = 4294967296 := by decide
      refine ⟨_, rfl, _, _, rfl, rfl, ⟨by decide, by decide, by decide⟩, b, _, rfl, o1.box, by rw [e32]; decide, by rw [e32]; decide, fun x H2 x0 x1 o2 => ?_⟩
      rw [e32] at x1
      refine ⟨_, _, rfl, rfl, ⟨by decide, by decide, by decide⟩, _, _, rfl, rfl, .inl ⟨by omega, by omega⟩, _, rfl, _, _, rfl, rfl, ⟨by decide, by decide, by decide⟩, b, _, rfl, o2.box, by rw [e32]; decide, by rw [e32]; decide, fun y H3 y0 y1 o3 => ?_⟩
      rw [e32] at y1
      obtain ⟨x, rfl⟩ := nat_of x0
      obtain ⟨y, rfl⟩ := nat_of y0
      refine ⟨_, _, rfl, rfl, ?_⟩
      have e : (x : Int) * (1 * 2 ^ (32 : Int).toNat) + (y : Int) = ((x * 4294967296 + y : Nat) : Int) := by rw [e32]; omega
      show Q (.int ((x : Int) * (1 * 2 ^ (32 : Int).toNat) + (y : Int))) H3
      rw [e]
      exact q _ _ (by have : (2 : Nat) ^ 64 = 18446744073709551616 := by decide
                      omega) ((o1.trans o2).trans o3)
    · refine ⟨_, rfl, rfl, _, rfl, ite2 (fun _ => ?_) (fun _ => ?_)⟩
      · refine ⟨_, rfl, b, 65, rfl, o1.box, by decide, by decide, fun x H2 x0 x1 o2 => ?_⟩
        obtain ⟨x, rfl⟩ := nat_of x0
        refine ⟨_, _, rfl, rfl, ⟨by omega, by omega, by decide⟩, _, _, rfl, rfl, ?_⟩
        have hp := Nat.two_pow_pos x
        have hle : 2 ^ x ≤ 2 ^ 64 := Nat.pow_le_pow_right (by decide) (by omega)
        have e : (1 : Int) * 2 ^ (x : Int).toNat - 1 = ((2 ^ x - 1 : Nat) : Int) := by
          rw [Int.toNat_natCast, Int.one_mul, show ((2 : Int) ^ x) = ((2 ^ x : Nat) : Int) by simp]
          omega
        show Q (.int ((1 : Int) * 2 ^ (x : Int).toNat - 1)) H2
        rw [e]
        exact q _ _ (by omega) (o1.trans o2)
      · refine ⟨_, rfl, b, 5, rfl, o1.box, by decide, by decide, fun n H2 n0 n1 o2 => ?_⟩
        obtain ⟨n, rfl⟩ := nat_of n0
        refine ⟨_, rfl, (by omega), (by omega), for_range (n := n) (fun i σ H' => ∃ (m : Nat) (u : Option V), σ = [some (.ref b), some (.int r), some (.int m), u] ∧ m < 2 ^ 64 ∧ Oth b H H') ⟨0, _, rfl, by decide, o1.trans o2⟩ ?_ ?_⟩
        · rintro i σ H' hi ⟨m, u, rfl, hm, o⟩
          refine ⟨_, rfl, _, rfl, b, 64, rfl, o.box, by decide, by decide, fun x H3 x0 x1 o3 => ?_⟩
          obtain ⟨x, rfl⟩ := nat_of x0
          refine ⟨_, _, rfl, rfl, ⟨by omega, by omega, by decide⟩, _, _, rfl, rfl, ?_⟩
          have e : Builtin.bitOr (m : Int) (1 * 2 ^ (x : Int).toNat) = ((m ||| 2 ^ x : Nat) : Int) := by
            rw [Int.toNat_natCast, Int.one_mul, show ((2 : Int) ^ x) = ((2 ^ x : Nat) : Int) by simp, bit_or]
          refine ⟨m ||| 2 ^ x, some (.int (0 + (i : Int))), ?_, Nat.or_lt_two_pow hm (Nat.pow_lt_pow_right (by decide) (by omega)), o.trans o3⟩
          show [some (V.ref b), some (V.int r), some (V.int (Builtin.bitOr (m : Int) (1 * 2 ^ (x : Int).toNat))), some (V.int (0 + (i : Int)))] = _
          rw [e]
        · rintro σ H' ⟨m, u, rfl, hm, o⟩
          exact ⟨_, rfl, q m _ hm o⟩
def spPl : Sp := fun xs H Q _ => ∃ m : Nat, m < 2 ^ 64 ∧ xs = [.int m] ∧ ∀ (l : Addr) (H' : Hp), Same H H' → H l = none → H' l = some (.lst (vs (bitsN m))) → Q (.ref l) H'
abbrev s_law_places : Stmt := top 10
theorem sc_law_places : FnScope ["_law_mask_here", "_law_found", "_law_place"] ["_law_mask_here"] (defScope s_law_places) := ⟨rfl, rfl, rfl, by decide +kernel, rfl, by decide +kernel, by decide +kernel⟩
theorem ok_pl (T : Txt mg) (F : TopFn K mg "_law_places" s_law_places ["_law_mask_here"]) : FnAt P w K mg base "_law_places" 1 ["_law_mask_here"] spPl := by
  refine F.at sc_law_places (fun vs H Q E h => ?_) (fun f cdv A outer s H xs Q E hr h => ?_)
  · obtain ⟨m, _, rfl, _⟩ := h
    rfl
  · obtain ⟨m, hm, rfl, q⟩ := h
    refine ⟨_, (pss_cons (ps_set (i := 1) sc_law_places.nd rfl (by first | exact Or.inl rfl | exact Or.inr rfl) (pe_lst pa_nil))
      (pss_cons (ps_for PassesOwn.never rfl (pi_range1 rfl T.n_range (pa_cons pe_int pa_nil)) (pg_name (i := 2) sc_law_places.nd rfl (by first | exact Or.inl rfl | exact Or.inr rfl)) (pss_one (ps_if (pt_cmpR op_eq (pe_op op_mod (pe_op op_fdivB (pv 0) (pe_op op_shl pe_int (pv 2))) pe_int) pe_int (nomark _)) (pss_one (ps_expr (pe_bm PySem.F.plainAttrs_list PySem.F.slot_list_append PySem.F.type_list_append mt_append (pv 1) (pa_cons (pv 2) pa_nil)))) pss_nil)))
      (pss_one (ps_ret (pv 1))))), ?_⟩
    have hs : sizeLine = 16777216 := sizeLine_eq
    refine ⟨(by show 0 ≤ sizeLine; decide), fun l hl => ?_⟩
    have s1 := Same.new (o := .lst []) hl
    have e1 : upd H l (.lst []) l = some (.lst []) := upd_same
    refine ⟨64, rfl, (by decide), (by decide), for_range (n := 64) (fun i σ H' => ∃ u : Option V, σ = [some (.int m), some (.ref l), u] ∧ Same H H' ∧ H' l = some (.lst (vs (bitsTo m i)))) ⟨_, rfl, s1, e1⟩ ?_ ?_⟩
    · rintro i σ H' hi ⟨u, rfl, s', e'⟩
      have hz := bits_len m i
      have e0 : (0 : Int) + (i : Int) = i := Int.zero_add _
      have ep : (1 : Int) * 2 ^ (0 + (i : Int)).toNat = ((2 ^ i : Nat) : Int) := by rw [e0, Int.toNat_natCast, Int.one_mul]; simp
      have h2 : 2 ^ i < 2 ^ 64 := Nat.pow_lt_pow_right (by decide) hi
      have hp := Nat.two_pow_pos i
      have tb : m.testBit i = decide (m / 2 ^ i % 2 = 1) := Nat.testBit_eq_decide_div_mod_eq
      have em : (m : Int) / (1 * 2 ^ (0 + (i : Int)).toNat) % 2 = ((m / 2 ^ i % 2 : Nat) : Int) := by rw [ep]; rfl
      have cd : CDivB (m : Int) (1 * 2 ^ (0 + (i : Int)).toNat) := by
        rw [ep]
        exact ⟨Int.ofNat_lt.mpr hp, Int.lt_trans (Int.ofNat_lt.mpr h2) (by decide)⟩
      refine ⟨_, rfl, _, rfl, _, _, rfl, rfl, ⟨by omega, by omega, by decide⟩, _, _, rfl, rfl, cd, _, _, rfl, rfl, (by show (0 : Int) < 2; decide), rfl, _, rfl, ?_⟩
      show if decide (V.int ((m : Int) / (1 * 2 ^ (0 + (i : Int)).toNat) % 2) = V.int 1) = true then _ else _
      rw [em]
      refine ite2 (fun c => ?_) (fun c => ?_)
      · have c : m / 2 ^ i % 2 = 1 := by
          have := V.int.inj (of_decide_eq_true c)
          omega
        refine ⟨_, rfl, .inl ⟨rfl, _, SqL.of e'⟩, _, rfl, l, _, _, rfl, rfl, e', (by rw [List.length_map]; omega), ⟨_, rfl, fun b o e => ?_, ?_⟩⟩
        · rw [upd_ne (ne_of_none e hl)]; exact s' b o e
        · rw [upd_same, bitsTo_succ, tb, c, e0]
          simp
      · have c : ¬ m / 2 ^ i % 2 = 1 := fun z => c (decide_eq_true (by rw [z]; rfl))
        refine ⟨_, rfl, s', ?_⟩
        rw [e', bitsTo_succ, tb, decide_eq_false c]
        simp
    · rintro σ H' ⟨u, rfl, s', e'⟩
      exact ⟨_, rfl, q l _ s' hl e'⟩
def spIs : Sp := fun xs H Q _ => ∃ a b : Int, xs = [.int a, .int b] ∧ Q (.bl (decide (V.int a = V.int b))) H
abbrev s_law_is : Stmt := top 11
theorem sc_law_is : FnScope ["_law_found", "_law_due"] ["_law_found", "_law_due"] (defScope s_law_is) := ⟨rfl, rfl, rfl, by decide +kernel, rfl, by decide +kernel, by decide +kernel⟩
theorem ok_is (T : Txt mg) (F : TopFn K mg "_law_is" s_law_is ["_law_found", "_law_due"]) : FnAt P w K mg base "_law_is" 1 ["_law_found", "_law_due"] spIs := by
  refine F.at sc_law_is (fun vs H Q E h => ?_) (fun f cdv A outer s H xs Q E hr h => ?_)
  · obtain ⟨a, b, rfl, _⟩ := h
    rfl
  · obtain ⟨a, b, rfl, q⟩ := h
    refine ⟨_, (pss_one (ps_ret (pe_and (pe_callB call_isinst rfl T.n_isinstance boot_isinstance (pa_cons (pv 0) (pa_cons (pe_bltn (v := .ty "int") rfl T.n_int boot_int rfl) pa_nil))) (pe_and (pe_not (pe_callB call_isinst rfl T.n_isinstance boot_isinstance (pa_cons (pv 0) (pa_cons (pe_bltn (v := .ty "bool") rfl T.n_bool boot_bool rfl) pa_nil)))) (pe_one (pe_cmpR op_eq (pv 0) (pv 1) (nomark _))))))), ?_⟩
    refine ⟨_, rfl, _, _, _, _, _, rfl, rfl, .int _, kit_same, _, rfl, iteT ?_⟩
    refine ⟨_, rfl, _, _, _, _, _, rfl, rfl, .int _, kit_int_bool, _, rfl, true, rfl, iteT ?_⟩
    exact ⟨_, rfl, _, rfl, rfl, q⟩
def spLs (K : PySem.W.Frag) : Sp := fun xs H Q _ => ∃ (a b : Addr) (l : List Nat), xs = [.ref a, .ref b] ∧ H a = some (.lst (vs l)) ∧ H b = some (.lst (vs l)) ∧ l.length ≤ 1000 ∧ ∀ H', Same H H' → Q (.bl true) H'
abbrev s_law_list : Stmt := top 12
theorem sc_law_list : FnScope ["_law_found", "_law_due"] ["_law_found", "_law_due"] (defScope s_law_list) := ⟨rfl, rfl, rfl, by decide +kernel, rfl, by decide +kernel, by decide +kernel⟩
theorem ok_ls (T : Txt mg) (F : TopFn K mg "_law_list" s_law_list ["_law_found", "_law_due"]) : FnAt P w K mg base "_law_list" 1 ["_law_found", "_law_due"] (spLs K) := by
  refine F.at sc_law_list (fun vs H Q E h => ?_) (fun f cdv A outer s H xs Q E hr h => ?_)
  · obtain ⟨a, b, l, rfl, _⟩ := h
    rfl
  · obtain ⟨a, b, l, rfl, ha, hb, hz, q⟩ := h
    refine ⟨_, (pss_one (ps_ret (pe_and (pe_callB call_isinst rfl T.n_isinstance boot_isinstance (pa_cons (pv 0) (pa_cons (pe_bltn (v := .ty "list") rfl T.n_list boot_list rfl) pa_nil))) (pe_and (pe_cmpR (op_eqSame (hu0 hr)) (pv 0) (pv 1) (nomark _)) (pe_one (pe_cmpR (op_eqNil (hu0 hr)) (pe_comp (sc := defScope s_law_list) (N0 := ["_law_found", "_law_due"]) (xs := ["_law_one"]) (ys := []) (js := []) ⟨rfl, by decide +kernel, by decide +kernel, by decide +kernel, by decide +kernel⟩ rfl (pi_list (pv 0)) (fun _ _ _ _ => (pg_name (i := 0) (show (["_law_one"] : List Str).Nodup by decide +kernel) rfl (by first | exact Or.inl rfl | exact Or.inr rfl))) (fun _ _ _ _ => pq_one (pt_val (pe_callB (call_isKdK K .bl (by simp)) rfl T.n_isinstance boot_isinstance (pa_cons (pv 0) (pa_cons (pe_bltn (v := .ty "bool") rfl T.n_bool boot_bool rfl) pa_nil))))) (fun _ _ _ _ => (pv 0))) (pe_lst pa_nil) (nomark _))))))), ?_⟩
    have hs : sizeLine = 16777216 := sizeLine_eq
    refine ⟨_, rfl, _, _, _, _, _, rfl, rfl, .lst ha, kit_same, _, rfl, iteT ?_⟩
    refine ⟨_, rfl, _, rfl, a, b, _, rfl, rfl, SqL.of ha, SqL.of hb, (fun v hv => ?_), _, rfl, iteT ?_⟩
    · obtain ⟨i, _, rfl⟩ := List.mem_map.mp hv
      exact trivial
    refine ⟨_, rfl, a, rfl, ⟨_, SqL.of ha⟩, comp_list (K := K) (a := a) (xs := vs l) (fun i ys H' => ys = [] ∧ H' = H) ⟨rfl, rfl⟩ (by rw [List.length_map]; omega) ?_ ?_ ?_ ?_⟩
    · rintro i ys H' ⟨rfl, _⟩
      exact Nat.zero_le _
    · rintro i ys H' _ ⟨_, rfl⟩
      exact SqL.of ha
    · rintro i x ys H' hx ⟨rfl, rfl⟩
      rw [List.getElem?_map] at hx
      obtain ⟨p, _, rfl⟩ := Option.map_eq_some_iff.mp hx
      exact ⟨_, rfl, _, .int, rfl, TyOf.int _, _, rfl, iteF ⟨rfl, rfl⟩⟩
    · rintro ys H' ⟨rfl, rfl⟩ l2 hl2
      have s2 := Same.new (o := .lst []) hl2
      have e2 : upd H' l2 (.lst []) l2 = some (.lst []) := upd_same
      generalize upd H' l2 (.lst []) = H2 at s2 e2 ⊢
      refine ⟨(by show 0 ≤ sizeLine; decide), fun l3 hl3 => ?_⟩
      have s3 := Same.new (o := .lst []) hl3
      have e3 : upd H2 l3 (.lst []) l3 = some (.lst []) := upd_same
      exact ⟨_, _, [], rfl, rfl, SqL.of (s3 _ _ e2), SqL.of e3, q _ (s2.trans s3)⟩
end
end K02
namespace L2
open PySem PySem.Spec PyProof.Rows
theorem op_neSame {X : Cx} (hu : X.A.units < cLine) : OpR X (compareOp .NotEq) (fun x y H Q => ∃ a b xs, x = .ref a ∧ y = .ref b ∧ SqL X.K H a xs ∧ SqL X.K H b xs ∧ (∀ v ∈ xs, Plain v) ∧ Q (.bl false) H) := by
  intro pins s σ H x y v u Q I rx ry h
  obtain ⟨a, b, xs, rfl, rfl, ha, hb, hp, q⟩ := h
  cases rx
  cases ry
  obtain ⟨its, rv, pl, _⟩ := I.list ha
  obtain ⟨its', rv', pl', _⟩ := I.list hb
  have l1 := rv.length
  have l2 := rv'.length
  refine SeqAt.RcNeAt.lists (e := fun _ => true) pl.isList pl'.isList (by simp; omega) hu (fun j h1 h2 => ?_) _ _ _ _ (fin_bl I q (by simp))
  have hj : j < xs.length := by simp at h1; omega
  have e1 : xs[j]? = some xs[j] := by simp [hj]
  obtain ⟨u1, q1, r1⟩ := rv.get e1
  obtain ⟨u2, q2, r2⟩ := rv'.get e1
  have z1 : its.toArray[j] = u1 := by simpa [List.getElem?_eq_some_iff] using (List.getElem?_eq_some_iff.mp q1).2
  have z2 : its'.toArray[j] = u2 := by simpa [List.getElem?_eq_some_iff] using (List.getElem?_eq_some_iff.mp q2).2
  rw [z1, z2]
  exact eqAt_rel (hp _ (List.getElem_mem hj)) r1 r2
def tMid (t : TS) : TS := fun D σ H => ∃ M : L2.St → Hp → Prop, t { D with nx := M } σ H ∧ ∀ σ' H', M σ' H' → D.nx σ' H'
theorem ps_mid {X : Cx} {st : Stmt} {t : TS} (h : PS X st t) : PS X st (tMid t) := by
  intro pins s σ H D I ⟨M, hM, k⟩
  refine thn (h pins s σ H { D with nx := M } I hM) fun f s' hf => ?_
  cases f with
  | next => obtain ⟨σ', H', I', q⟩ := hf; exact ⟨σ', H', I', k _ _ q⟩
  | brk => exact hf
  | cont => exact hf
  | ret u => exact hf
end L2
namespace K02
open PySem L2 PyProof.Rows
theorem vs_plain (l : List Nat) : ∀ v ∈ vs l, Plain v := fun v hv => by
  obtain ⟨i, _, rfl⟩ := List.mem_map.mp hv
  exact trivial
theorem newE {H : Hp} {p : Addr} {o : HO} (h : H p = none) : ∃ H', upd H p o = H' ∧ Same H H' ∧ H' p = some o := ⟨_, rfl, Same.new h, upd_same⟩
theorem pick2 (x y : Int) {r : Int} (h0 : 0 ≤ r) (h1 : r < 2) : ∃ z, (z = x ∨ z = y) ∧ atI [V.int x, V.int y] r = some (V.int z) := by
  rcases (show r = ((0 : Nat) : Int) ∨ r = ((1 : Nat) : Int) by omega) with rfl | rfl
  · exact ⟨x, .inl rfl, atI_nat rfl⟩
  · exact ⟨y, .inr rfl, atI_nat rfl⟩
theorem once64 {ps : List Nat} (h : ∀ p ∈ ps, p < 64) : (once [] (ps.map fun (i : Nat) => (i : Int))).length ≤ 64 := by
  have nd : (once [] (ps.map fun (i : Nat) => (i : Int))).Nodup := once_nodup _ _ List.nodup_nil
  have nd2 : ((bitsN (orL ps)).map fun (i : Nat) => (i : Int)).Nodup := List.pairwise_map.mpr ((bits_rise _).imp fun h => by omega)
  have p : (once [] (ps.map fun (i : Nat) => (i : Int))).Perm ((bitsN (orL ps)).map fun (i : Nat) => (i : Int)) := (List.perm_ext_iff_of_nodup nd nd2).mpr fun a => by
    rw [once_mem, List.mem_map, List.mem_map]
    constructor
    · rintro (h0 | ⟨p, hp, rfl⟩)
      · cases h0
      · exact ⟨p, by simp [bitsN, bitsTo, orL_test, h p hp, hp], rfl⟩
    · rintro ⟨p, hp, rfl⟩
      simp [bitsN, bitsTo, orL_test] at hp
      exact .inr ⟨p, hp.2, rfl⟩
  rw [p.length_eq, List.length_map]
  exact bits_len (orL ps) 64
section
variable {P : Program} {w : World} {K : PySem.W.Frag} {mg : Str → Option Value} {base : Heap}
def spGd : Sp := fun xs H Q _ => ∃ b : Addr, xs = [.ref b] ∧ Box H b ∧ ∀ H', (∀ c o, H c = some o → c ≠ b → H' c = some o) → Q (.bl true) H'
abbrev s_law_good : Stmt := top 13
abbrev nGd : List Str := ["_law_box_here", "_law_mask_here", "_law_due", "_law_found", "_law_wide", "_law_places_here", "_law_handed", "_law_total"]
theorem sc_law_good : FnScope nGd ["_law_box_here"] (defScope s_law_good) := ⟨rfl, rfl, rfl, by decide +kernel, rfl, by decide +kernel, by decide +kernel⟩
theorem ok_gd (T : Txt mg) (F__law_take : FnAt P w K mg base "_law_take" 2 ["_law_box_here", "_law_many"] spTake) (F__law_mask : FnAt P w K mg base "_law_mask" 3 ["_law_box_here"] spMk) (F__law_places : FnAt P w K mg base "_law_places" 1 ["_law_mask_here"] spPl)
    (F_bits_of : FnAt P w K mg base "bits_of" 1 ["mask"] spBits) (F_least_bit : FnAt P w K mg base "least_bit" 2 ["mask"] spLeast) (F_mask_of : FnAt P w K mg base "mask_of" 1 ["places"] (spMaskOf K)) (F__law_is : FnAt P w K mg base "_law_is" 1 ["_law_found", "_law_due"] spIs)
    (F__law_list : FnAt P w K mg base "_law_list" 1 ["_law_found", "_law_due"] (spLs K)) (F : TopFn K mg "_law_good" s_law_good ["_law_box_here"]) : FnAt P w K mg base "_law_good" 4 ["_law_box_here"] spGd := by
  refine F.at sc_law_good (fun vs H Q E h => ?_) (fun f cdv A outer s H xs Q E hr h => ?_)
  · obtain ⟨b, rfl, _⟩ := h
    rfl
  · obtain ⟨b, rfl, hb, q⟩ := h
    refine ⟨_, (pss_cons (ps_set (i := 1) sc_law_good.nd rfl (by first | exact Or.inl rfl | exact Or.inr rfl) (pe_fn F__law_mask hr (by decide) rfl (pa_cons (pv 0) pa_nil)))
      (pss_cons (ps_set (i := 2) sc_law_good.nd rfl (by first | exact Or.inl rfl | exact Or.inr rfl) (pe_fn F__law_places hr (by decide) rfl (pa_cons (pv 1) pa_nil)))
      (pss_cons (ps_set (i := 3) sc_law_good.nd rfl (by first | exact Or.inl rfl | exact Or.inr rfl) (pe_fn F_bits_of hr (by decide) rfl (pa_cons (pv 1) pa_nil)))
      (pss_cons (ps_if (PW.pt (pw_or (pt_not (pt_val (pe_fn F__law_list hr (by decide) rfl (pa_cons (pv 3) (pa_cons (pv 2) pa_nil))))) (pw_or1 (pt_not (pt_val (pe_fn F__law_is hr (by decide) rfl (pa_cons (pe_fn F_mask_of hr (by decide) rfl (pa_cons (pv 3) pa_nil)) (pa_cons (pv 1) pa_nil)))))))) (pss_one (ps_ret pe_bl)) pss_nil)
      (pss_cons (ps_expr (pe_bm PySem.F.plainAttrs_list PySem.F.slot_list_append PySem.F.type_list_append mt_append (pv 3) (pa_cons pe_int pa_nil)))
      (pss_cons (ps_if (pt_not (pt_val (pe_fn F__law_list hr (by decide) rfl (pa_cons (pe_fn F_bits_of hr (by decide) rfl (pa_cons (pv 1) pa_nil)) (pa_cons (pv 2) pa_nil))))) (pss_one (ps_ret pe_bl)) pss_nil)
      (pss_cons (ps_mid (ps_if (PW.pt (pw_or (PW.pt (pw_and (pt_cmpR (op_eqNil (hu0 hr)) (pv 2) (pe_lst pa_nil) (nomark _)) (pw_and1 (pt_cmp (pc_notN (pe_fn F_least_bit hr (by decide) rfl (pa_cons (pv 1) pa_nil))))))) (pw_or1 (PW.pt (pw_and (pt_cmpR (op_neNil (hu0 hr)) (pv 2) (pe_lst pa_nil) (nomark _)) (pw_and1 (pt_not (pt_val (pe_fn F__law_is hr (by decide) rfl (pa_cons (pe_fn F_least_bit hr (by decide) rfl (pa_cons (pv 1) pa_nil)) (pa_cons (pe_ix ix_list (pv 2) pe_int (fun _ _ => rfl)) pa_nil))))))))))) (pss_one (ps_ret pe_bl)) pss_nil))
      (pss_cons (ps_set (i := 4) sc_law_good.nd rfl (by first | exact Or.inl rfl | exact Or.inr rfl) (pe_ix ix_list (pe_lst (pa_cons pe_int (pa_cons pe_int pa_nil))) (pe_fn F__law_take hr (by decide) rfl (pa_cons (pv 0) (pa_cons pe_int pa_nil))) (fun _ _ => rfl)))
      (pss_cons (ps_setComp (i := 5) (sc := defScope s_law_good) (N0 := ["_law_box_here", "_law_mask_here", "_law_due", "_law_found", "_law_wide", "_law_places_here", "_law_handed", "_law_total"]) (xs := ["_law_k"]) (ys := ["_law_box_here", "_law_wide"]) (js := [0, 4]) ⟨rfl, by decide +kernel, by decide +kernel, by decide +kernel, by decide +kernel⟩ rfl sc_law_good.nd rfl rfl (pi_range1 rfl T.n_range (pa_cons (pe_fn F__law_take hr (by decide) rfl (pa_cons (pv 0) (pa_cons (pe_ix ix_list (pe_lst (pa_cons pe_int (pa_cons pe_int pa_nil))) (pe_fn F__law_take hr (by decide) rfl (pa_cons (pv 0) (pa_cons pe_int pa_nil))) (fun _ _ => rfl)) pa_nil))) pa_nil)) (fun _ _ _ _ => (pg_name (i := 0) (show (["_law_k", "_law_box_here", "_law_wide"] : List Str).Nodup by decide +kernel) rfl (by first | exact Or.inl rfl | exact Or.inr rfl))) (fun _ _ _ _ => pq_nil) (fun _ _ _ _ => (pe_fn F__law_take hr (by decide) rfl (pa_cons (pv 1) (pa_cons (pv 2) pa_nil)))))
      (pss_cons (ps_set (i := 6) sc_law_good.nd rfl (by first | exact Or.inl rfl | exact Or.inr rfl) (pe_callTy call_list_of rfl T.n_list boot_list (pa_cons (pv 5) pa_nil)))
      (pss_cons (ps_set (i := 7) sc_law_good.nd rfl (by first | exact Or.inl rfl | exact Or.inr rfl) (pe_fn F_mask_of hr (by decide) rfl (pa_cons (pv 6) pa_nil)))
      (pss_cons (ps_if (PW.pt (pw_or (pt_cmpR (op_neSame (hu0 hr)) (pv 6) (pv 5) (nomark _)) (pw_or1 (pt_not (pt_val (pe_fn F__law_list hr (by decide) rfl (pa_cons (pe_fn F_bits_of hr (by decide) rfl (pa_cons (pv 7) pa_nil)) (pa_cons (pe_callB (call_sortedN hr.hd) rfl T.n_sorted boot_sorted (pa_cons (pe_callTy (call_setN hr.hd) rfl T.n_set PyProof.Rows.boot_set (pa_cons (pv 5) pa_nil)) pa_nil)) pa_nil)))))))) (pss_one (ps_ret pe_bl)) pss_nil)
      (pss_one (ps_ret (pe_fn F__law_is hr (by decide) rfl (pa_cons (pv 7) (pa_cons (pe_fn F_mask_of hr (by decide) rfl (pa_cons (pe_op op_cat (pv 5) (pv 5)) pa_nil)) pa_nil))))))))))))))))), ?_⟩
    have hs : sizeLine = 16777216 := sizeLine_eq
    refine ⟨_, rfl, b, rfl, hb, fun m H1 hm o1 => ?_⟩
    have hbz := bits_len m 64
    -- due, found
    refine ⟨_, rfl, m, hm, rfl, fun d H2 s2 d0 e2 => ?_⟩
    refine ⟨_, rfl, m, hm, rfl, fun g H3 s3 g0 e3 => ?_⟩
    have e2' := s3 _ _ e2
    have hlen : (bitsN m).length ≤ 1000 := Nat.le_trans hbz (by decide)
    refine ⟨_, rfl, _, rfl, g, d, bitsN m, rfl, e3, e2', hlen, fun H4 s4 => ⟨_, rfl, iteF ?_⟩⟩
    refine ⟨_, rfl, g, bitsN m, rfl, SqL.of (s4 _ _ e3), bits_lt m, _, rfl, _, _, rfl, _, rfl, iteNS (by rw [or_bits hm]) ?_⟩
    have e4 := s4 _ _ e3
    refine ⟨_, rfl, .inl ⟨rfl, _, SqL.of e4⟩, g, _, _, rfl, rfl, e4, (by rw [List.length_map]; omega), ?_⟩
    have S5 : Same H2 (upd H4 g (.lst (vs (bitsN m) ++ [.int 64]))) := fun c o e => by rw [upd_ne (ne_of_none e g0)]; exact s4 _ _ (s3 _ _ e)
    generalize upd H4 g (.lst (vs (bitsN m) ++ [.int 64])) = H5 at S5 ⊢
    refine ⟨_, rfl, m, hm, rfl, fun g2 H6 s6 _ e6 => ⟨_, rfl, g2, d, bitsN m, rfl, e6, s6 _ _ (S5 _ _ e2), hlen, fun H7 s7 => ⟨_, rfl, iteF ?_⟩⟩⟩
    have S7 : Same H2 H7 := (S5.trans s6).trans s7
    have d7 := S7 _ _ e2
    refine ⟨fun σ' H' => σ' = [some (.ref b), some (.int m), some (.ref d), some (.ref g), none, none, none, none] ∧ Same H2 H', ?_, ?_⟩
    · refine ⟨_, rfl, (by show 0 ≤ sizeLine; decide), fun p hp => ?_⟩
      have s8 := Same.new (o := .lst []) hp
      have e8 : upd H7 p (.lst []) p = some (.lst []) := upd_same
      generalize upd H7 p (.lst []) = H8 at s8 e8 ⊢
      have S8 := S7.trans s8
      refine ⟨d, p, vs (bitsN m), rfl, rfl, SqL.of (s8 _ _ d7), SqL.of e8, _, rfl, ?_⟩
      have ne2 : ∀ H9, Same H2 H9 → ∀ H0 : Hp, True := fun _ _ _ => trivial
      cases hbn : bitsN m with
      | nil =>
        refine iteT ⟨_, rfl, m, hm, rfl, fun H9 s9 => ?_⟩
        have lv : leastV m = .non := by unfold leastV; rw [hbn]; rfl
        rw [lv]
        refine ⟨_, rfl, iteF ?_⟩
        have S9 := S8.trans s9
        refine ⟨_, rfl, (by show 0 ≤ sizeLine; decide), fun p2 hp2 => ?_⟩
        have s10 := Same.new (o := .lst []) hp2
        have e10 : upd H9 p2 (.lst []) p2 = some (.lst []) := upd_same
        generalize upd H9 p2 (.lst []) = H10 at s10 e10 ⊢
        refine ⟨d, p2, [], rfl, rfl, SqL.of (by have := s10 _ _ (S9 _ _ e2); rw [hbn] at this; exact this), SqL.of e10, _, rfl, iteF ?_⟩
        exact ⟨rfl, S9.trans s10⟩
      | cons x r =>
        refine iteF ?_
        refine ⟨_, rfl, (by show 0 ≤ sizeLine; decide), fun p2 hp2 => ?_⟩
        have s10 := Same.new (o := .lst []) hp2
        have e10 : upd H8 p2 (.lst []) p2 = some (.lst []) := upd_same
        generalize upd H8 p2 (.lst []) = H10 at s10 e10 ⊢
        have S10 := S8.trans s10
        refine ⟨d, p2, vs (x :: r), rfl, rfl, SqL.of (by have := S10 _ _ e2; rw [hbn] at this; exact this), SqL.of e10, _, rfl, iteT ?_⟩
        refine ⟨_, rfl, m, hm, rfl, fun H11 s11 => ?_⟩
        have lv : leastV m = .int x := by unfold leastV; rw [hbn]; rfl
        rw [lv]
        have S11 := S10.trans s11
        refine ⟨_, rfl, d, vs (x :: r), _, V.int x, rfl, rfl, SqL.of (by have := S11 _ _ e2; rw [hbn] at this; exact this), atI_nat (j := 0) rfl, _, _, rfl, _, rfl, iteNS rfl ?_⟩
        exact ⟨rfl, S11⟩
    · rintro σ' H8 ⟨rfl, S8⟩
      have O8 : Oth b H H8 := by
        obtain ⟨x, y, z, hx⟩ := o1.box
        exact ⟨⟨x, y, z, S8 _ _ (s2 _ _ hx)⟩, fun c o e n => S8 _ _ (s2 _ _ (o1.oth c o e n))⟩
      -- how wide
      refine ⟨(by show 2 ≤ sizeLine; decide), fun lx hlx => ?_⟩
      have nlx : lx ≠ b := O8.box.ne hlx
      have O9 : Oth b H (upd H8 lx (.lst [.int 64, .int 10])) := O8.new hlx
      have e9 : upd H8 lx (.lst [.int 64, .int 10]) lx = some (.lst [.int 64, .int 10]) := upd_same
      generalize upd H8 lx (.lst [.int 64, .int 10]) = H9 at O9 e9 ⊢
      refine ⟨_, rfl, b, 2, rfl, O9.box, by decide, by decide, fun r H10 r0 r1 o10 => ?_⟩
      obtain ⟨wd, hw, ev⟩ := pick2 64 10 r0 r1
      refine ⟨lx, _, _, V.int wd, rfl, rfl, SqL.of (o10.oth _ _ e9 nlx), ev, ?_⟩
      have O10 := O9.trans o10
      have w0 : 0 < wd := by omega
      have w1 : wd ≤ 64 := by omega
      -- how many
      refine ⟨_, rfl, (by show 2 ≤ sizeLine; decide), fun ly hly => ?_⟩
      have nly : ly ≠ b := O10.box.ne hly
      have O11 : Oth b H (upd H10 ly (.lst [.int 9, .int 81])) := O10.new hly
      have e11 : upd H10 ly (.lst [.int 9, .int 81]) ly = some (.lst [.int 9, .int 81]) := upd_same
      generalize upd H10 ly (.lst [.int 9, .int 81]) = H11 at O11 e11 ⊢
      refine ⟨_, rfl, b, 2, rfl, O11.box, by decide, by decide, fun r2 H12 r20 r21 o12 => ?_⟩
      obtain ⟨mn, hmn, ev2⟩ := pick2 9 81 r20 r21
      have O12 := O11.trans o12
      refine ⟨ly, _, _, V.int mn, rfl, rfl, SqL.of (o12.oth _ _ e11 nly), ev2, b, mn, rfl, O12.box, by omega, (by show mn < bigLine; unfold bigLine; omega), fun n H13 n0 n1 o13 => ?_⟩
      obtain ⟨n, rfl⟩ := nat_of n0
      have O13 := O12.trans o13
      refine ⟨n, rfl, (by omega), (by omega), comp_range (n := n) (fun i ys H' => Oth b H H' ∧ ∃ ps : List Nat, ys = vs ps ∧ ps.length = i ∧ ∀ p ∈ ps, p < 64) ⟨O13, [], rfl, rfl, fun p hp => by cases hp⟩ (by omega) ?_ ?_ ?_⟩
      · rintro i ys H' ⟨_, ps, rfl, e, _⟩
        rw [List.length_map, e]; exact Nat.le_refl _
      · rintro i ys H' hi ⟨o, ps, rfl, e, hp⟩
        refine ⟨_, rfl, _, rfl, b, wd, rfl, o.box, w0, (by show wd < bigLine; unfold bigLine; omega), fun x H'' x0 x1 o' => ?_⟩
        obtain ⟨x, rfl⟩ := nat_of x0
        exact ⟨o.trans o', ps ++ [x], by simp, by simp [e], fun p hp' => by
          rcases List.mem_append.mp hp' with h | h
          · exact hp p h
          · rw [List.mem_singleton] at h; omega⟩
      · rintro ys H14 ⟨O14, ps, rfl, epl, hps⟩ l5 hl5
        have n5 : l5 ≠ b := O14.box.ne hl5
        have O15 : Oth b H (upd H14 l5 (.lst (vs ps))) := O14.new hl5
        have e15 : upd H14 l5 (.lst (vs ps)) l5 = some (.lst (vs ps)) := upd_same
        generalize upd H14 l5 (.lst (vs ps)) = H15 at O15 e15 ⊢
        have hpl : ps.length ≤ 80 := by omega
        refine ⟨_, rfl, l5, vs ps, rfl, .inl (SqL.of e15), fun l6 hl6 => ?_⟩
        have s16 := Same.new (o := .lst (vs ps)) hl6
        have e16 : upd H15 l6 (.lst (vs ps)) l6 = some (.lst (vs ps)) := upd_same
        generalize upd H15 l6 (.lst (vs ps)) = H16 at s16 e16 ⊢
        refine ⟨_, rfl, l6, ps, rfl, SqL.of e16, hps, ?_⟩
        refine ⟨_, rfl, _, rfl, l6, l5, vs ps, rfl, rfl, SqL.of e16, SqL.of (s16 _ _ e15), vs_plain ps, _, rfl, iteF ?_⟩
        refine ⟨_, rfl, orL ps, orL_lt hps, rfl, fun g3 H17 s17 _ e17 => ?_⟩
        have evs : vs ps = (ps.map fun (i : Nat) => (i : Int)).map V.int := by rw [List.map_map]; rfl
        refine ⟨_, rfl, l5, ps.map fun (i : Nat) => (i : Int), rfl, (by rw [← evs]; exact s17 _ _ (s16 _ _ e15)), (by rw [List.length_map]; omega), fun sp hsp => ?_⟩
        refine ⟨sp, _, rfl, upd_same, once_nodup _ _ List.nodup_nil, once64 hps, fun ms l7 hperm hsort hl7 => ?_⟩
        have ems := bits_or hps hperm hsort
        have emv : ms.map V.int = vs (bitsN (orL ps)) := by rw [ems, List.map_map]; rfl
        obtain ⟨H19, hEq, s19, e19⟩ := newE (o := .lst (ms.map V.int)) hl7
        rw [hEq]
        have S19 := (Same.new hsp).trans s19
        have hbo := bits_len (orL ps) 64
        refine ⟨g3, l7, bitsN (orL ps), rfl, S19 _ _ e17, (by rw [e19, emv]), Nat.le_trans hbo (by decide), fun H20 s20 => ⟨_, rfl, iteF ?_⟩⟩
        have S20 : Same H15 H20 := ((s16.trans s17).trans S19).trans s20
        have e20 := S20 _ _ e15
        refine ⟨_, rfl, _, rfl, _, rfl, l5, l5, vs ps, vs ps, rfl, rfl, e20, e20, (by rw [List.length_map]; omega), fun p9 hp9 => ?_⟩
        refine ⟨p9, ps ++ ps, rfl, SqL.of (by rw [upd_same, ← List.map_append]), (fun p hp => (List.mem_append.mp hp).elim (hps p) (hps p)), _, _, rfl, ?_⟩
        rw [or_app, decide_eq_true rfl]
        refine q _ fun c o e n => ?_
        have s21 := Same.new (o := .lst (vs ps ++ vs ps)) hp9
        exact s21 _ _ (S20 _ _ (O15.oth c o e n))
end
end K02
namespace K02
open PySem L2 PyProof.Rows
section
variable {P : Program} {w : World} {K : PySem.W.Frag} {mg : Str → Option Value} {base : Heap}
abbrev slaw : Stmt := top 14
abbrev lawN : List Str := ["_law_script", "_law_k"]
theorem sclaw : FnScope lawN ["_law_script"] (defScope slaw) := ⟨rfl, rfl, rfl, by decide +kernel, rfl, by decide +kernel, by decide +kernel⟩
theorem law_body (T : Txt mg) (F__law_cell : FnAt P w K mg base "_law_cell" 1 ["_law_script", "_law_k"] (spCell K)) (F__law_box : FnAt P w K mg base "_law_box" 1 ["_law_cell_here"] spBox) (F__law_good : FnAt P w K mg base "_law_good" 4 ["_law_box_here"] spGd)
    (F_bits_of : FnAt P w K mg base "bits_of" 1 ["mask"] spBits) (F_least_bit : FnAt P w K mg base "least_bit" 2 ["mask"] spLeast) (F_mask_of : FnAt P w K mg base "mask_of" 1 ["places"] (spMaskOf K)) (F__law_is : FnAt P w K mg base "_law_is" 1 ["_law_found", "_law_due"] spIs)
    (f : Addr) (cdv : Value) (A : Around) (outer : List Env) (s : Shared) (H : Hp) (vs : List V) (Q : VK) (E : XK) (hr : Room 4 (A.deeper (envOfC "law" (defScope slaw) s.heap.objs.size f cdv))) (h : spLaw K vs H Q E) :
    ∃ t, PSs (cxOf CX0 P w K mg base lawN "law" (defScope slaw) f cdv A outer s H E).nox (defBody slaw) t ∧ t { nx := fun _ H' => Q .non H', rt := Q } (start lawN vs) H := by
  obtain ⟨a, ns, rfl, hS, hlen, q⟩ := h
  refine ⟨_, (pss_cons (ps_for PassesOwn.never rfl (pi_range1 rfl T.n_range (pa_cons (pe_callB (call_max2 rfl) rfl T.n_max boot_max (pa_cons pe_int (pa_cons (pe_callB (call_min2 rfl) rfl T.n_min boot_min (pa_cons (pe_callB call_len rfl T.n_len boot_len (pa_cons (pv 0) pa_nil)) (pa_cons pe_int pa_nil))) pa_nil))) pa_nil)) (pg_name (i := 1) sclaw.nd rfl (by first | exact Or.inl rfl | exact Or.inr rfl)) (pss_one (ps_if (pt_not (pt_val (pe_fn F__law_good hr (by decide) rfl (pa_cons (pe_fn F__law_box hr (by decide) rfl (pa_cons (pe_fn F__law_cell hr (by decide) rfl (pa_cons (pv 0) (pa_cons (pv 1) pa_nil))) pa_nil)) pa_nil)))) (pss_one (ps_ret pe_bl)) pss_nil)))
      (pss_one (ps_ret (pe_and (pe_cmpR (op_eqNil (hu0 hr)) (pe_fn F_bits_of hr (by decide) rfl (pa_cons pe_int pa_nil)) (pe_lst pa_nil) (nomark _)) (pe_and (pe_cmp (pc_isN (pe_fn F_least_bit hr (by decide) rfl (pa_cons pe_int pa_nil)))) (pe_one (pe_fn F__law_is hr (by decide) rfl (pa_cons (pe_fn F_mask_of hr (by decide) rfl (pa_cons (pe_lst pa_nil) pa_nil)) (pa_cons pe_int pa_nil))))))))), ?_⟩
  have hs : sizeLine = 16777216 := sizeLine_eq
  refine ⟨_, rfl, _, _, rfl, .inl ⟨_, hS, rfl⟩, _, _, rfl, _, _, rfl, _, rfl, ?_, ?_, for_range (n := _) (fun i σ H' => (∃ v1 : Option V, σ = [some (.ref a), v1]) ∧ Same H H') ⟨⟨_, rfl⟩, Same.refl H⟩ ?_ ?_⟩
  · split <;> split <;> omega
  · split <;> split <;> omega
  · rintro i σ H' hi ⟨⟨v1, rfl⟩, s1⟩
    refine ⟨_, rfl, _, rfl, a, ns, i, ?_, s1.seq hS, fun c => ?_⟩
    · show [V.ref a, V.int (0 + (i : Int))] = _
      rw [Int.zero_add]
    refine ⟨c, rfl, fun b x y z hb => ?_⟩
    refine ⟨b, rfl, ⟨x, y, z, upd_same⟩, fun H2 k2 => ⟨_, rfl, iteF ⟨⟨_, rfl⟩, fun c o e => ?_⟩⟩⟩
    refine k2 c o ?_ (ne_of_none (s1 c o e) hb)
    rw [upd_ne (ne_of_none (s1 c o e) hb)]
    exact s1 c o e
  · rintro σ H' ⟨⟨v1, rfl⟩, s1⟩
    refine ⟨0, by decide, rfl, fun l H2 s2 _ e2 => ?_⟩
    refine ⟨(by show 0 ≤ sizeLine; decide), fun p hp => ?_⟩
    have s3 := Same.new (o := .lst []) hp
    have e3 : upd H2 p (.lst []) p = some (.lst []) := upd_same
    generalize upd H2 p (.lst []) = H3 at s3 e3 ⊢
    refine ⟨l, p, [], rfl, rfl, SqL.of (s3 _ _ e2), SqL.of e3, _, rfl, iteT ?_⟩
    refine ⟨0, by decide, rfl, fun H4 s4 => ?_⟩
    refine ⟨_, rfl, iteT ?_⟩
    refine ⟨(by show 0 ≤ sizeLine; decide), fun p2 hp2 => ⟨p2, [], rfl, SqL.of upd_same, (fun p hp => by cases hp), _, _, rfl, ?_⟩⟩
    exact q _
end
theorem law_fn2 {P : Program} {w : World} {K : PySem.W.Frag} {mg : Str → Option Value} {fa : Addr} (hfa : mg "law" = some (.ref fa)) (T : Txt mg)
    (tbits_of : TopFn K mg "bits_of" sbits_of ["mask"]) (tleast_bit : TopFn K mg "least_bit" sleast_bit ["mask"]) (tmask_of : TopFn K mg "mask_of" smask_of ["places"]) (t_law_cell : TopFn K mg "_law_cell" s_law_cell ["_law_script", "_law_k"]) (t_law_mixed : TopFn K mg "_law_mixed" s_law_mixed ["_law_cell_here", "_law_k"]) (t_law_box : TopFn K mg "_law_box" s_law_box ["_law_cell_here"]) (t_law_take : TopFn K mg "_law_take" s_law_take ["_law_box_here", "_law_many"]) (t_law_mask : TopFn K mg "_law_mask" s_law_mask ["_law_box_here"]) (t_law_places : TopFn K mg "_law_places" s_law_places ["_law_mask_here"]) (t_law_is : TopFn K mg "_law_is" s_law_is ["_law_found", "_law_due"]) (t_law_list : TopFn K mg "_law_list" s_law_list ["_law_found", "_law_due"]) (t_law_good : TopFn K mg "_law_good" s_law_good ["_law_box_here"]) (tlaw : TopFn K mg "law" slaw ["_law_script"]) :
    ∃ fd : FuncData, (∀ (s : Shared) (v : Value), BindsTo s fd ⟨[v], []⟩ [("_law_script", v)]) ∧ ∀ base : Heap, K.In base → base.Ns mainGlobals mg → FnOk P w K mg base CX0 5 fa fd ["_law_script"] (spLaw K) :=
  law_mk tlaw hfa sclaw fun base _ _ f cdv A outer s H vs Q E hr h =>
    have Ft := ok_take (ok_mixed t_law_mixed) t_law_take
    have Fb := ok_bits tbits_of
    have Fl := ok_least Fb tleast_bit
    have Fm := ok_mask_of tmask_of
    have Fi := ok_is T t_law_is
    have Fg := ok_gd T Ft (ok_mk T Ft t_law_mask) (ok_pl T t_law_places) Fb Fl Fm Fi (ok_ls T t_law_list) t_law_good
    law_body T (ok_cell T t_law_cell) (ok_box t_law_box) Fg Fb Fl Fm Fi f cdv A outer s H vs Q E hr h
end K02
namespace PySem.W.Fast
def tw16943123093349789160:=0
def tw9190908463124831234:=0
def tw12764779586631249517:=0
def tw4075559675522045649:=0
def tw15767576658392604147:=0
def tw16834139079309919499:=0
def tw1018349347594371320:=0
def tw5544376730499830621:=0
def tw11620315792879411914:=0
def tw6033214842587263583:=0
def tw6466739935220744650:=0
def tw10432471564188633356:=0
def tw16723610641894028838:=0
def tw2049689856088545848:=0
def tw612702602985845432:=0
def tw13738656248564902746:=0
def tw199400068887956656:=0
def tw5856113166605234523:=0
def tw14612851363862749592:=0
def tw4102801819060564325:=0
def tw7753736509867016764:=0
def tw9094015034610566433:=0
def tw14722864486788987092:=0
def tw1572024595679451365:=0
def tw8448296769495812352:=0
def tw15099189102987761286:=0
def tw8772960225446998632:=0
def tw1237948226404870912:=0
def tw466861135729911702:=0
def tw8135113062701193341:=0
def tw16508610404979461259:=0
def tw12365884533518114374:=0
def tw12973941634916217377:=0
def tw4451625476949966798:=0
def tw3230847539593707978:=0
def tw10239843364334372884:=0
def tw9722554477012255924:=0
def tw16791698459510231936:=0
def tw8420966554951852179:=0
def tw18281060530813382356:=0
def tw6628230075266479215:=0
def tw1036665197284952011:=0
def tw13423438546852732060:=0
def tw2442731897993569698:=0
def tw12618030639579177060:=0
def tw10706073643554837142:=0
def tw18063665316774687910:=0
def tw6540048965391677045:=0
def tw14868304650866472741:=0
def tw12241988121405198810:=0
def tw17761425340495647164:=0
def tw3216685512816345679:=0
def tw13585906694582909039:=0
def tw3555783941014616651:=0
def tw6360099139154568249:=0
def tw533238722864771356:=0
def tw3551731067774157648:=0
def tw3646386506940104408:=0
def tw7061368249559613061:=0
def tw5355731809193456175:=0
def tw5959074725257008827:=0
def tw13497085388667082707:=0
def tw13937273180636463421:=0
def tw9012249455605398504:=0
def tw3396927942309098738:=0
def tw17504761506783325278:=0
def tw5963415923818656797:=0
def tw49005302539166760:=0
def tw8464135639086475624:=0
def tw17424499232850983230:=0
def tw6756241515741005579:=0
def tw4520682162385145312:=0
def tw15121960719333398027:=0
def tw18037668564840362187:=0
def tw1646158307350408638:=0
def tw13512213761760639627:=0
def tw4276185374543317981:=0
def tw14465199509921450651:=0
def tw12359006915242660017:=0
def tw4116964176794884363:=0
def tw6865141784256997244:=0
def tw8784781173707233187:=0
def tw8532106210674484124:=0
def tw4643711298818316292:=0
def tw17354312661545410473:=0
def tw14975932291651624862:=0
def tw14493945159106716995:=0
def tw9176638961931795423:=0
def tw2595500406417954468:=0
def tw5959189239450108857:=0
def tw14307890673082408492:=0
end PySem.W.Fast
open PySem PySem.W PyProof.Rows
set_option maxRecDepth 100000 in
set_option maxHeartbeats 0 in
theorem PySem.Challenge.cw_grantweave_k02_bits_of_masks_holds : PySem.Challenge.rw_grantweave_k02_bits_of_masks.Holds := by
  w_on; o_law; k_head; (case hw => w_witness2)
  k_fill
  refine L2.law_walk (l := PySem.Challenge.rw_grantweave_k02_bits_of_masks) (x := "_law_script") (k := 5) rfl rfl ⟨rfl, by decide, by decide, rfl⟩ (fun w h Y => PySem.W.kIn_of Y) ?F
  case F =>
    intro w mg fa h KX G hmg
    have t_bits_of : L2.TopFn (L2.KOf KX) mg "bits_of" K02.sbits_of ["mask"] := by
      refine' L2.topFn_of KX G (fun _ _ _ _ _ _ us hl => match us, hl with | [_], _ => rfl) ?a ?l ?c ?k
      (case a => k_is); (case l => k_is); (case c => k_is); (case k => k_is)
    have t_least_bit : L2.TopFn (L2.KOf KX) mg "least_bit" K02.sleast_bit ["mask"] := by
      refine' L2.topFn_of KX G (fun _ _ _ _ _ _ us hl => match us, hl with | [_], _ => rfl) ?a ?l ?c ?k
      (case a => k_is); (case l => k_is); (case c => k_is); (case k => k_is)
    have t_mask_of : L2.TopFn (L2.KOf KX) mg "mask_of" K02.smask_of ["places"] := by
      refine' L2.topFn_of KX G (fun _ _ _ _ _ _ us hl => match us, hl with | [_], _ => rfl) ?a ?l ?c ?k
      (case a => k_is); (case l => k_is); (case c => k_is); (case k => k_is)
    have t__law_cell : L2.TopFn (L2.KOf KX) mg "_law_cell" K02.s_law_cell ["_law_script", "_law_k"] := by
      refine' L2.topFn_of KX G (fun _ _ _ _ _ _ us hl => match us, hl with | [_, _], _ => rfl) ?a ?l ?c ?k
      (case a => k_is); (case l => k_is); (case c => k_is); (case k => k_is)
    have t__law_mixed : L2.TopFn (L2.KOf KX) mg "_law_mixed" K02.s_law_mixed ["_law_cell_here", "_law_k"] := by
      refine' L2.topFn_of KX G (fun _ _ _ _ _ _ us hl => match us, hl with | [_, _], _ => rfl) ?a ?l ?c ?k
      (case a => k_is); (case l => k_is); (case c => k_is); (case k => k_is)
    have t__law_box : L2.TopFn (L2.KOf KX) mg "_law_box" K02.s_law_box ["_law_cell_here"] := by
      refine' L2.topFn_of KX G (fun _ _ _ _ _ _ us hl => match us, hl with | [_], _ => rfl) ?a ?l ?c ?k
      (case a => k_is); (case l => k_is); (case c => k_is); (case k => k_is)
    have t__law_take : L2.TopFn (L2.KOf KX) mg "_law_take" K02.s_law_take ["_law_box_here", "_law_many"] := by
      refine' L2.topFn_of KX G (fun _ _ _ _ _ _ us hl => match us, hl with | [_, _], _ => rfl) ?a ?l ?c ?k
      (case a => k_is); (case l => k_is); (case c => k_is); (case k => k_is)
    have t__law_mask : L2.TopFn (L2.KOf KX) mg "_law_mask" K02.s_law_mask ["_law_box_here"] := by
      refine' L2.topFn_of KX G (fun _ _ _ _ _ _ us hl => match us, hl with | [_], _ => rfl) ?a ?l ?c ?k
      (case a => k_is); (case l => k_is); (case c => k_is); (case k => k_is)
    have t__law_places : L2.TopFn (L2.KOf KX) mg "_law_places" K02.s_law_places ["_law_mask_here"] := by
      refine' L2.topFn_of KX G (fun _ _ _ _ _ _ us hl => match us, hl with | [_], _ => rfl) ?a ?l ?c ?k
      (case a => k_is); (case l => k_is); (case c => k_is); (case k => k_is)
    have t__law_is : L2.TopFn (L2.KOf KX) mg "_law_is" K02.s_law_is ["_law_found", "_law_due"] := by
      refine' L2.topFn_of KX G (fun _ _ _ _ _ _ us hl => match us, hl with | [_, _], _ => rfl) ?a ?l ?c ?k
      (case a => k_is); (case l => k_is); (case c => k_is); (case k => k_is)
    have t__law_list : L2.TopFn (L2.KOf KX) mg "_law_list" K02.s_law_list ["_law_found", "_law_due"] := by
      refine' L2.topFn_of KX G (fun _ _ _ _ _ _ us hl => match us, hl with | [_, _], _ => rfl) ?a ?l ?c ?k
      (case a => k_is); (case l => k_is); (case c => k_is); (case k => k_is)
    have t__law_good : L2.TopFn (L2.KOf KX) mg "_law_good" K02.s_law_good ["_law_box_here"] := by
      refine' L2.topFn_of KX G (fun _ _ _ _ _ _ us hl => match us, hl with | [_], _ => rfl) ?a ?l ?c ?k
      (case a => k_is); (case l => k_is); (case c => k_is); (case k => k_is)
    have t_law : L2.TopFn (L2.KOf KX) mg "law" K02.slaw ["_law_script"] := by
      refine' L2.topFn_of KX G (fun _ _ _ _ _ _ us hl => match us, hl with | [_], _ => rfl) ?a ?l ?c ?k
      (case a => k_is); (case l => k_is); (case c => k_is); (case k => k_is)
    have n_len : mg "len" = none := by
      refine' PySem.W.mg_none_of KX G ?a
      (case a => k_is)
    have n_isinstance : mg "isinstance" = none := by
      refine' PySem.W.mg_none_of KX G ?a
      (case a => k_is)
    have n_range : mg "range" = none := by
      refine' PySem.W.mg_none_of KX G ?a
      (case a => k_is)
    have n_int : mg "int" = none := by
      refine' PySem.W.mg_none_of KX G ?a
      (case a => k_is)
    have n_bool : mg "bool" = none := by
      refine' PySem.W.mg_none_of KX G ?a
      (case a => k_is)
    have n_list : mg "list" = none := by
      refine' PySem.W.mg_none_of KX G ?a
      (case a => k_is)
    have n_min : mg "min" = none := by
      refine' PySem.W.mg_none_of KX G ?a
      (case a => k_is)
    have n_max : mg "max" = none := by
      refine' PySem.W.mg_none_of KX G ?a
      (case a => k_is)
    have n_set : mg "set" = none := by
      refine' PySem.W.mg_none_of KX G ?a
      (case a => k_is)
    have n_sorted : mg "sorted" = none := by
      refine' PySem.W.mg_none_of KX G ?a
      (case a => k_is)
    exact K02.law_fn2 hmg ⟨n_len, n_isinstance, n_range, n_int, n_bool, n_list, n_min, n_max, n_set, n_sorted⟩ t_bits_of t_least_bit t_mask_of t__law_cell t__law_mixed t__law_box t__law_take t__law_mask t__law_places t__law_is t__law_list t__law_good t_law
