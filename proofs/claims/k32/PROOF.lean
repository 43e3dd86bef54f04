import PyProof.Rows.All
import Wide.All
import OpenK.AllK
import Wide.FinOn
import Lean
import PyProof.EqAt
import PyProof.EqKinds
import PyProof.TupleCall
import KE.KUnpack
import KE.KDictList
import KE.KIntText
import PyProof.ListMulAny
import KE.KEqDict
import PyProof.InstEq
import KE.KRevIter
import PySem.Challenge.RW_grantweave_k32_parts_refused
set_option Elab.async false
set_option linter.all false
set_option maxRecDepth 100000
set_option maxHeartbeats 4000000
local macro_rules | `(tactic| trivial) => `(tactic| first | exact True.intro | exact Or.inl rfl | exact Or.inr rfl | exact Or.inr (Or.inl rfl) | exact Or.inr (Or.inr rfl) | exact ⟨rfl, by decide +kernel, by decide +kernel, by decide +kernel, by decide +kernel⟩ | exact ⟨rfl, rfl, rfl, by decide +kernel, rfl, by decide +kernel, by decide +kernel⟩)
namespace L2
open PySem PySem.Spec PyProof.Rows
abbrev Key := Sum Int Str
def keyIs : Key → Value → Bool
 | .inl k,v => Value.isInt k v
 | .inr x,v => Value.isStrOf x v
def keyH (w : World) : Key → Int
 | .inl k => hashInt k
 | .inr x => hashStr w x
theorem Bp : ∀ {k : Key} {v : Value},keyIs k v = true → (∃ i t,k = Sum.inl i ∧ v = Value.int i t) ∨ (∃ x t,k = Sum.inr x ∧ v = Value.str x t)
 | .inl i,v,h => by
   obtain ⟨t,e⟩ := Value.isInt_shape (k := i) (v := v) h
   exact .inl ⟨i,t,rfl,e⟩
 | .inr x,v,h => by
   obtain ⟨t,e⟩ := Value.isStrOf_shape (x := x) (v := v) h
   exact .inr ⟨x,t,rfl,e⟩
theorem keyIs_int (i : Int) (t : Tok) : keyIs (.inl i) (.int i t) = true := by simp [keyIs,Value.isInt]
theorem keyIs_str (x : Str) (t : Tok) : keyIs (.inr x) (.str x t) = true := by simp [keyIs,Value.isStrOf]
theorem key_ll (a b : Int) : decide ((Sum.inl a : Key) = Sum.inl b) = (a == b) := by
 by_cases e : a = b
 ·subst e; simp
 ·have h : ¬ (Sum.inl a : Key) = Sum.inl b := fun q => e (Sum.inl.inj q)
  rw [decide_eq_false h]
  exact (beq_eq_false_iff_ne.mpr e).symm
theorem key_rr (a b : Str) : decide ((Sum.inr a : Key) = Sum.inr b) = decide (a = b) := by
 by_cases e : a = b
 ·subst e; simp
 ·have h : ¬ (Sum.inr a : Key) = Sum.inr b := fun q => e (Sum.inr.inj q)
  rw [decide_eq_false h,decide_eq_false e]
theorem key_lr (a : Int) (b : Str) : decide ((Sum.inl a : Key) = Sum.inr b) = false := decide_eq_false (fun q => nomatch q)
theorem key_rl (a : Str) (b : Int) : decide ((Sum.inr a : Key) = Sum.inl b) = false := decide_eq_false (fun q => nomatch q)
def Aw (prog : Program) (w : World) : PySem.KeyKind prog w Key where
 is := keyIs
 hash := keyH w
 inj := fun v a b ha hb => by
  rcases Bp ha with ⟨i,t,rfl,rfl⟩ | ⟨x,t,rfl,rfl⟩
  ·rcases Bp hb with ⟨j,u,rfl,e⟩ | ⟨y,u,rfl,e⟩
   ·injection e with e1 _; rw [e1]
   ·exact nomatch e
  ·rcases Bp hb with ⟨j,u,rfl,e⟩ | ⟨y,u,rfl,e⟩
   ·exact nomatch e
   ·injection e with e1 _; rw [e1]
 byValue := fun k v h => by
  rcases Bp h with ⟨i,t,rfl,rfl⟩ | ⟨x,t,rfl,rfl⟩ <;> rfl
 pyHash := fun hv h => by
  rcases Bp hv with ⟨i,t,rfl,rfl⟩ | ⟨x,t,rfl,rfl⟩
  ·exact wpAny_pyHash_int h
  ·exact wpAny_pyHash_str h
 eqBool := fun hu hv h => by
  rcases Bp hu with ⟨i,t,rfl,rfl⟩ | ⟨x,t,rfl,rfl⟩
  ·rcases Bp hv with ⟨j,u,rfl,rfl⟩ | ⟨y,u,rfl,rfl⟩
   ·rw [key_ll] at h; exact wpAny_eqBool_int h
   ·rw [key_lr] at h; exact SeqAt.EqAt.int_str i t y u _ _ _ _ h
  ·rcases Bp hv with ⟨j,u,rfl,rfl⟩ | ⟨y,u,rfl,rfl⟩
   ·rw [key_rl] at h; exact SeqAt.EqAt.str_int x t j u _ _ _ _ h
   ·rw [key_rr] at h; exact wpAny_eqBool_str h
 «strs» := fun k x t v h => by
  rcases Bp h with ⟨i,u,rfl,e⟩ | ⟨y,u,rfl,e⟩
  ·exact nomatch e
  ·injection e with e1 _
   subst e1
   cases v <;> rfl
theorem mixKind_int (prog : Program) (w : World) (i : Int) (t : Tok) : (Aw prog w).is (.inl i) (.int i t) = true := keyIs_int i t
theorem mixKind_str (prog : Program) (w : World) (x : Str) (t : Tok) : (Aw prog w).is (.inr x) (.str x t) = true := keyIs_str x t
end L2
namespace L2
open PySem PySem.Spec PyProof.Rows
inductive V where
 | non | bl (b : Bool) | int (i : Int) | str (x : Str) | byt (b : Array UInt8) | flt (b : UInt64) | ref (a : Addr) | ty (n : String)
 deriving DecidableEq
def RelV : V → Value → Prop
 | .non,u => u = Value.none
 | .bl b,u => u = Value.bool b
 | .int i,u => ∃ t,u = Value.int i t
 | .str x,u => ∃ t,u = Value.str x t
 | .byt b,u => ∃ t,u = Value.bytes b t
 | .flt b,u => ∃ t,u = Value.float b t
 | .ref a,u => u = Value.ref a
 | .ty n,u => u = Value.type n
abbrev Vals : List V → List Value → Prop := Paired RelV
theorem Vals.length {xs : List V} {us : List Value} (r : Vals xs us) : xs.length = us.length := Paired.length r
theorem Vals.get : ∀ {xs : List V} {us : List Value} {i : Nat} {x : V},Vals xs us → xs[i]? = some x → ∃ u,us[i]? = some u ∧ RelV x u
 | _,_,_,_,.nil,e => by simp at e
 | _,_,0,_,.cons r _,e => by simp at e; subst e; exact ⟨_,rfl,r⟩
 | _,_,i + 1,x,.cons _ t,e => by
   obtain ⟨u,h1,h2⟩ := Vals.get (i := i) (x := x) t (by simpa using e)
   exact ⟨u,by simpa using h1,h2⟩
theorem Vals.set {x : V} {u : Value} (r : RelV x u) : ∀ {xs : List V} {us : List Value} (i : Nat),Vals xs us → Vals (xs.set i x) (us.set i u)
 | _,_,_,.nil => .nil
 | _,_,0,.cons _ t => .cons r t
 | _,_,i + 1,.cons q t => .cons q (Vals.set r i t)
theorem Vals.append : ∀ {xs ys : List V} {us ws : List Value},Vals xs us → Vals ys ws → Vals (xs ++ ys) (us ++ ws)
 | _,_,_,_,.nil,s => s
 | _,_,_,_,.cons r t,s => .cons r (Vals.append t s)
theorem Vals.take : ∀ {xs : List V} {us : List Value} (n : Nat),Vals xs us → Vals (xs.take n) (us.take n)
 | _,_,0,_ => .nil
 | _,_,_ + 1,.nil => .nil
 | _,_,n + 1,.cons r t => .cons r (Vals.take n t)
theorem Vals.drop : ∀ {xs : List V} {us : List Value} (n : Nat),Vals xs us → Vals (xs.drop n) (us.drop n)
 | _,_,0,r => r
 | _,_,_ + 1,.nil => .nil
 | _,_,n + 1,.cons _ t => Vals.drop n t
def RelO : Option V → Option Value → Prop
 | some v,some u => RelV v u
 | none,none => True
 | _,_ => False
def KV {κ : Type} : List (κ × V) → List (κ × Value) → Prop := Paired fun (p : κ × V) (q : κ × Value) => p.1 = q.1 ∧ RelV p.2 q.2
def kV : Key → V
 | .inl i => .int i
 | .inr x => .str x
inductive HO where
 | lst (xs : List V)
 | tup (xs : List V)
 | dK (kvs : List (Key × V)) | dT (kvs : List (List Key × V))
 | set (S : Int → Bool) (n : Nat)
 | ins (C dx : Addr) (fs : List (Str × V))
 | own (x : Addr)
 | xd (fs : List (Str × V))
 | met (f x : Addr)
 | rng (lo hi : Int)
 | frz (o : Obj) (u : HO)
 | tbl (ps : Array Value)
 | ext (φ : Heap → Prop)
abbrev Hp := Addr → Option HO
def upd (H : Hp) (a : Addr) (o : HO) : Hp := fun b => if b = a then some o else H b
theorem Ac {H : Hp} {a : Addr} {o : HO} : upd H a o a = some o := by unfold upd; rw [if_pos rfl]
theorem Ak {H : Hp} {a b : Addr} {o : HO} (h : b ≠ a) : upd H a o b = H b := by unfold upd; rw [if_neg h]
theorem upd_upd {H : Hp} {a : Addr} {o u : HO} : upd (upd H a o) a u = upd H a u := by
 funext b; unfold upd; split <;> rfl
theorem ne_of {H : Hp} {a b : Addr} {o u : HO} (h : H a = some o) (h' : H b = some u) (d : o ≠ u) : a ≠ b := by
 intro e; subst e; rw [h] at h'; exact d (Option.some.inj h')
theorem Aj {H : Hp} {a b : Addr} {o : HO} (h : H a = some o) (h' : H b = none) : a ≠ b := by
 intro e; subst e; rw [h] at h'; cases h'
section
variable (P : Program) (w : World)
def Cj (H : Hp) (h : Heap) (a : Addr) : HO → Prop
 | .lst xs => xs.length ≤ sizeLine ∧ ∃ (its : List Value) (n : Nat),Vals xs its ∧ h.get? a = some { cls := .type "list",data := .seq its.toArray n }
 | .tup xs => xs.length ≤ sizeLine ∧ ∃ its : List Value,Vals xs its ∧ IsTup h a its.toArray
 | .dK kvs => kvs.length ≤ sizeLine ∧ (a == sysModules) = false ∧ ∃ vs,KV kvs vs ∧ h.DictOf (Aw P w) a vs
 | .dT kvs => kvs.length ≤ sizeLine ∧ (a == sysModules) = false ∧ ∃ xs : List (List Key × Addr × Value),
  Paired (fun (p : List Key × V) (q : List Key × Addr × Value) => p.1 = q.1 ∧ H q.2.1 = some (.tup (p.1.map kV)) ∧ RelV p.2 q.2.2) kvs xs ∧
  ∃ o es ep,h.get? a = some o ∧ o.ExactDict ∧ o.data = .dict es ep ∧ es.toList = xs.map (entryOfKey (tupleKind (Aw P w))) ∧ (xs.map (·.1)).Nodup
 | .set S n => h.SetOf (intKind P w) a S n
 | .ins C dx fs => H dx = some (.own a) ∧ fs.length ≤ 1000 ∧ dx ≠ a ∧ h.get? a = some (PySem.W.instObj C dx) ∧
  ∃ mA,h.Ns1 dx mA ∧ (∀ f,RelO (fs.lookup f) (mA f)) ∧ PySem.Within mA (fs.map (·.1))
 | .own _ => ∃ o,h.get? a = some o
 | .xd fs => ∃ mA,h.Ns1 a mA ∧ ∀ f,RelO (fs.lookup f) (mA f)
 | .rng lo hi => ∃ t u v,h.get? a = some { cls := .type "range",data := .fields #[.int lo t,.int hi u,.int 1 v] }
 | .frz o u => h.get? a = some o ∧ Cj H h a u
 | .tbl ps => h.get? a = some { cls := .none,data := .fields ps }
 | .met f x => h.get? a = some (PySem.W.methodObj (.ref f) (.ref x))
 | .ext φ => φ h ∧ (∃ o,h.get? a = some o) ∧ ∀ h1 h2 : Heap,φ h1 → (∀ o,h1.get? a = some o → h2.get? a = some o) → φ h2
def HOk (H : Hp) (h : Heap) : Prop := ∀ a o,H a = some o → Cj P w H h a o
end
section
variable {P : Program} {w : World} {H H' : Hp} {h h' : Heap} {a : Addr} {o : HO}
theorem Cj.lt (x : Cj P w H h a o) : a < h.objs.size := by
 cases o with
 | lst xs => obtain ⟨_,_,_,_,e⟩ := x; exact Heap.lt_size e
 | tup xs => obtain ⟨_,_,_,p⟩ := x; exact p.lt
 | dK kvs => obtain ⟨_,_,_,_,o,_,_,e,_⟩ := x; exact Heap.lt_size e
 | dT kvs => obtain ⟨_,_,_,_,o,_,_,e,_⟩ := x; exact Heap.lt_size e
 | set S n => obtain ⟨o,_,_,_,e,_⟩ := x; exact Heap.lt_size e
 | ins C dx fs => obtain ⟨_,_,_,e,_⟩ := x; exact Heap.lt_size e
 | own y => obtain ⟨_,e⟩ := x; exact Heap.lt_size e
 | xd fs => obtain ⟨_,⟨_,_,_,e,_⟩,_⟩ := x; exact Heap.lt_size e
 | rng lo hi => obtain ⟨_,_,_,e⟩ := x; exact Heap.lt_size e
 | frz ob u => obtain ⟨e,_⟩ := x; exact Heap.lt_size e
 | tbl ps => exact Heap.lt_size (show h.get? a = some _ from x)
 | met f y => exact Heap.lt_size (show h.get? a = some _ from x)
 | ext φ => obtain ⟨_,⟨_,e⟩,_⟩ := x; exact Heap.lt_size e
theorem Paired.mapP {α β : Type} {F G : α → β → Prop} : ∀ {l₁ : List α} {l₂ : List β},Paired F l₁ l₂ → (∀ a b,F a b → G a b) → Paired G l₁ l₂
 | _,_,.nil,_ => .nil
 | _,_,.cons r t,f => .cons (f _ _ r) (Paired.mapP t f)
theorem Cj.stay (x : Cj P w H h a o) (k : ∀ b u,(b = a ∨ H b = some (.own a)) → h.get? b = some u → h'.get? b = some u)
 (ho : ∀ b,H b = some (.own a) → H' b = some (.own a)) (ht : ∀ b xs,H b = some (.tup xs) → H' b = some (.tup xs)) : Cj P w H' h' a o := by
 induction o with
 | lst xs => obtain ⟨z,its,n,r,e⟩ := x; exact ⟨z,its,n,r,k _ _ (.inl rfl) e⟩
 | tup xs => obtain ⟨z,its,r,ob,e,c⟩ := x; exact ⟨z,its,r,ob,k _ _ (.inl rfl) e,c⟩
 | dK kvs => obtain ⟨z,y,vs,r,ob,es,ep,e,c⟩ := x; exact ⟨z,y,vs,r,ob,es,ep,k _ _ (.inl rfl) e,c⟩
 | dT kvs =>
   obtain ⟨z,y,xs,r,ob,es,ep,e,c⟩ := x
   exact ⟨z,y,xs,Paired.mapP r fun p q z => ⟨z.1,ht _ _ z.2.1,z.2.2⟩,ob,es,ep,k _ _ (.inl rfl) e,c⟩
 | set S n => obtain ⟨ob,es,ep,t,e,c⟩ := x; exact ⟨ob,es,ep,t,k _ _ (.inl rfl) e,c⟩
 | ins C dx fs =>
   obtain ⟨d,z,ne,e,mA,⟨od,es,ep,e2,c⟩,r⟩ := x
   exact ⟨ho _ d,z,ne,k _ _ (.inl rfl) e,mA,⟨od,es,ep,k _ _ (.inr d) e2,c⟩,r⟩
 | own y => obtain ⟨ob,e⟩ := x; exact ⟨ob,k _ _ (.inl rfl) e⟩
 | xd fs => obtain ⟨mA,⟨od,es,ep,e,c⟩,r⟩ := x; exact ⟨mA,⟨od,es,ep,k _ _ (.inl rfl) e,c⟩,r⟩
 | rng lo hi => obtain ⟨t,u,v,e⟩ := x; exact ⟨t,u,v,k _ _ (.inl rfl) e⟩
 | frz ob u ih => obtain ⟨e,q⟩ := x; exact ⟨k _ _ (.inl rfl) e,ih q⟩
 | tbl ps =>
   have e : h.get? a = some { cls := .none,data := .fields ps } := x
   show h'.get? a = some { cls := .none,data := .fields ps }
   exact k a _ (.inl rfl) e
 | met f y =>
   have e : h.get? a = some (PySem.W.methodObj (.ref f) (.ref y)) := x
   show h'.get? a = some (PySem.W.methodObj (.ref f) (.ref y))
   exact k a _ (.inl rfl) e
 | ext φ => obtain ⟨p,⟨o,e⟩,st⟩ := x; exact ⟨st _ _ p fun o q => k _ _ (.inl rfl) q,⟨o,k _ _ (.inl rfl) e⟩,st⟩
theorem HOk.lt (x : HOk P w H h) (e : H a = some o) : a < h.objs.size := (x a o e).lt
theorem HOk.fresh (x : HOk P w H h) (e : h.objs.size ≤ a) : H a = none := by
 cases q : H a with
 | none => rfl
 | some u => exact absurd (Nat.lt_of_lt_of_le (x.lt q) e) (Nat.lt_irrefl _)
theorem HOk.kept (x : HOk P w H h) (k : ∀ b u,h.get? b = some u → h'.get? b = some u) : HOk P w H h' := fun a o e =>
 (x a o e).stay (fun b u _ q => k b u q) (fun _ q => q) fun _ _ q => q
theorem HOk.laid (x : HOk P w H h) (k : ∀ b u,h.get? b = some u → h'.get? b = some u) (hp : h.objs.size ≤ a) (new : Cj P w (upd H a o) h' a o) : HOk P w (upd H a o) h' := fun b u e => by
 have hn := x.fresh hp
 by_cases hb : b = a
 ·subst hb; rw [Ac] at e; cases e; exact new
 ·rw [Ak hb] at e
  exact (x b u e).stay (fun c v _ q => k c v q) (fun c q => by rw [Ak (Aj q hn)]; exact q) fun c xs q => by rw [Ak (Aj q hn)]; exact q
end
def Rd (H : Hp) (a : Addr) (u : HO) : Prop := H a = some u ∨ ∃ o,H a = some (.frz o u)
theorem Rd.ok {P : Program} {w : World} {H : Hp} {h : Heap} {a : Addr} {u : HO} (r : Rd H a u) (x : HOk P w H h) : Cj P w H h a u := by
 rcases r with r | ⟨o,r⟩
 ·exact x a u r
 ·obtain ⟨_,q⟩ := x a _ r
  exact q
def Mut : Option HO → Prop
 | some (.lst _) => True
 | some (.dK _) => True
 | some (.dT _) => True
 | some (.set _ _) => True
 | some (.ins _ _ _) => True
 | some (.ext _) => True
 | _ => False
section
variable {P : Program} {w : World} {H : Hp} {h h' : Heap} {x e : Addr} {o' : HO}
theorem HOk.write (ok : HOk P w H h) (mu : Mut (H x)) (he : e = x ∨ H e = some (.own x)) (k : ∀ b u,b ≠ e → h.get? b = some u → h'.get? b = some u) (heo : ∃ u,h'.get? e = some u)
 (new : Cj P w (upd H x o') h' x o') : HOk P w (upd H x o') h' := fun b u q => by
 have nown : ∀ c y,H c = some (.own y) → c ≠ x := fun c y r z => by subst z; rw [r] at mu; exact mu
 have ntup : ∀ c xs,H c = some (.tup xs) → c ≠ x := fun c xs r z => by subst z; rw [r] at mu; exact mu
 by_cases hb : b = x
 ·subst hb; rw [Ac] at q; cases q; exact new
 ·rw [Ak hb] at q
  by_cases hbe : b = e
  ·have q' : H b = some (.own x) := by
      rcases he with z | z
      ·exact absurd (hbe.trans z) hb
      ·rw [hbe]; exact z
   rw [q] at q'; cases q'
   obtain ⟨v,hv⟩ := heo
   exact ⟨v,by rw [hbe]; exact hv⟩
  ·refine (ok b u q).stay (fun c v hc r => k c v ?_ r) (fun c r => by rw [Ak (nown c b r)]; exact r) fun c xs r => by rw [Ak (ntup c xs r)]; exact r
   rcases hc with rfl | hc
   ·exact hbe
   ·rintro rfl
    rcases he with z | z
    ·exact nown c b hc z
    ·rw [hc] at z; cases z; exact hb rfl
end
structure Un (fs ex : List Addr) (H H' : Hp) (h h' : Heap) : Prop where
 keep : ∀ b o,h.get? b = some o → H b = none → b ∉ fs → b ∉ ex → h'.get? b = some o
 slot : ∀ b o,h.get? b = some o → H b = none → b ∈ fs → b ∉ ex → ∃ sl,h'.get? b = some { o with slots := sl }
 free : ∀ b o,h.get? b = some o → H b = none → b ∉ ex → H' b = none
 there : ∀ b o,h.get? b = some o → b ∉ ex → ∃ o',h'.get? b = some o'
 tups : ∀ b xs,H b = some (.tup xs) → H' b = some (.tup xs)
 frzs : ∀ b o u,H b = some (.frz o u) → H' b = some (.frz o u)
 tbls : ∀ b ps,H b = some (.tbl ps) → ∃ more,H' b = some (.tbl (ps ++ more))
section
variable {fs fs' ex ex' : List Addr} {H H1 H2 : Hp} {h h1 h2 h' : Heap} {a x e : Addr} {o : HO}
theorem Un.any (u : Un fs ex H H1 h h1) {b : Addr} {ob : Obj} (q : h.get? b = some ob) (n : H b = none) (hx : b ∉ ex) : ∃ sl,h1.get? b = some { ob with slots := sl } := by
 by_cases hb : b ∈ fs
 ·exact u.slot b ob q n hb hx
 ·exact ⟨ob.slots,u.keep b ob q n hb hx⟩
theorem Un.kept (k : ∀ b u,h.get? b = some u → h'.get? b = some u) : Un fs ex H H h h' :=
 ⟨fun b ob q _ _ _ => k b ob q,fun b ob q _ _ _ => ⟨ob.slots,k b ob q⟩,fun _ _ _ n _ => n,fun b ob q _ => ⟨ob,k b ob q⟩,fun _ _ q => q,fun _ _ _ q => q,fun _ ps q => ⟨#[],by rw [q]; simp⟩⟩
theorem Un.refl : Un fs ex H H h h := Un.kept fun _ _ q => q
theorem Un.laid (k : ∀ b u,h.get? b = some u → h'.get? b = some u) (hp : h.objs.size ≤ a) (hn : H a = none) : Un fs ex H (upd H a o) h h' where
 keep := fun b u q _ _ _ => k b u q
 slot := fun b u q _ _ _ => ⟨u.slots,k b u q⟩
 free := fun b u q n _ => by rw [Ak (Nat.ne_of_lt (Nat.lt_of_lt_of_le (Heap.lt_size q) hp))]; exact n
 there := fun b u q _ => ⟨u,k b u q⟩
 tups := fun b xs q => by rw [Ak (Aj q hn)]; exact q
 frzs := fun b u xs q => by rw [Ak (Aj q hn)]; exact q
 tbls := fun b ps q => ⟨#[],by rw [Ak (Aj q hn),q]; simp⟩
theorem Un.write (mu : Mut (H x)) (he : e = x ∨ H e = some (.own x)) (k : ∀ b u,b ≠ e → h.get? b = some u → h'.get? b = some u) (heo : ∃ u,h'.get? e = some u) : Un fs ex H (upd H x o) h h' := by
 have hx : ∀ b,H b = none → b ≠ x := fun b n z => by subst z; rw [n] at mu; exact mu
 have hb : ∀ b,H b = none → b ≠ e := fun b n z => by
  subst z
  rcases he with r | r
  ·exact hx b n r
  ·rw [n] at r; cases r
 have hm : ∀ b u,H b = some u → ¬ Mut (some u) → b ≠ x := fun b u q nm z => by subst z; rw [q] at mu; exact nm mu
 refine ⟨fun b u q n _ _ => k b u (hb b n) q,fun b u q n _ _ => ⟨u.slots,k b u (hb b n) q⟩,fun b u q n _ => by rw [Ak (hx b n)]; exact n,fun b u q _ => ?_,
  fun b xs q => by rw [Ak (hm b _ q fun z => z)]; exact q,fun b u xs q => by rw [Ak (hm b _ q fun z => z)]; exact q,fun b ps q => ⟨#[],by rw [Ak (hm b _ q fun z => z),q]; simp⟩⟩
 by_cases hbe : b = e
 ·subst hbe; exact heo
 ·exact ⟨u,k b u hbe q⟩
end
def trk (h : Heap) (H : Hp) : List Addr := (List.range h.objs.size).filter fun a => (H a).isSome
def hidT (h : Heap) (H : Hp) : Heap := PySem.W.hideAll h (trk h H)
theorem hidT_size (h : Heap) (H : Hp) : (hidT h H).objs.size = h.objs.size := PySem.W.hideAll_size _ _
theorem hidT_get {h : Heap} {H : Hp} {b : Addr} {o : Obj} (e : h.get? b = some o) (n : H b = none) : (hidT h H).get? b = some o :=
 PySem.W.hideAll_get _ e fun hm => by
  have q : (H b).isSome = true := (List.mem_filter.mp hm).2
  rw [n] at q; simp at q
theorem of_hidT {h : Heap} {H : Hp} {b : Addr} {o : Obj} (e : (hidT h H).get? b = some o) : h.get? b = some o ∧ H b = none := by
 have e' : h.get? b = some o := PySem.W.of_hideAll (trk h H) e
 refine ⟨e',?_⟩
 cases q : H b with
 | none => rfl
 | some x =>
   have hm : b ∈ trk h H := List.mem_filter.mpr ⟨List.mem_range.mpr (Heap.lt_size e'),by simp [q]⟩
   have z : (hidT h H).get? b = none := PySem.W.hideAll_none (trk h H) hm
   rw [z] at e; cases e
def allNews (g h : Heap) (L : Addr) : List (Addr × Obj) := (List.range h.objs.size).filterMap fun a => if a = L ∨ (g.get? a).isSome = true then none else (h.get? a).map fun o => (a,o)
def rest (g h : Heap) (L d : Addr) : List (Addr × Obj) := (allNews g h L).filter fun p => decide (p.1 ≠ d)
end L2
namespace L2
open PySem PySem.Spec PyProof.Rows
structure Mod (K : PySem.W.Frag) (mg : Str → Option Value) (base : Heap) : Prop where
 kin : K.In base
 glob : base.Ns mainGlobals mg
 blt : ∃ mb,base.Ns builtinsNs mb ∧ ∀ x : Str,x ≠ "__name__" → mb x = bootBuiltins x
 nolimit : base.NoLimit
structure Cx where
 prog : Program
 w : World
 K : PySem.W.Frag
 mg : Str → Option Value
 base : Heap
 A : Around
 N : List Str
 s₀ : Shared
 H₀ : Hp
 env : Env
 outer : List Env
 stack : List Env
 ex : List Addr
 fn : Str → Bool
 calm : Bool
 pn : List (Addr × Obj)
 xe : Value → Shared → Prop
def frs (l : List Env) : List Addr := l.filterMap (·.frame)
abbrev Cx.fs (X : Cx) : List Addr := frs X.outer
def Vis (sc : Scope) (x : Str) : Prop := sc.names.lookup x = some .local ∨ sc.names.lookup x = some .cell ∨ sc.names.lookup x = some .free
def Loc (sc : Scope) (x : Str) : Prop := sc.names.lookup x = some .local ∨ sc.names.lookup x = some .cell
def Look (env : Env) (h : Heap) (m : Str → Option Value) (x : Str) (u : Value) : Prop :=
 (env.kindOf x = some .local ∧ m x = some u) ∨ ((env.kindOf x = some .cell ∨ env.kindOf x = some .free) ∧ ∃ c,env.cells.lookup x = some c ∧ h.IsCell c (some u))
structure Cx.Ok (X : Cx) : Prop where
 mod : Mod X.K X.mg X.base
 kind : X.env.scope.kind = .function
 glob : X.env.globals = mainGlobals
 blt : X.env.builtins = builtinsNs
 above : X.s₀.heap.objs.size ≤ X.env.locals
 inj : ∀ x y c,X.env.cells.lookup x = some c → X.env.cells.lookup y = some c → x = y
 has : ∀ x,(X.env.kindOf x = some .cell ∨ X.env.kindOf x = some .free) → ∃ c,X.env.cells.lookup x = some c
 cab : ∀ x c,X.fn x = true → X.env.cells.lookup x = some c → X.s₀.heap.objs.size ≤ c
 hd : X.calm = true → X.A.handled = none
 frames : X.A.frames = some X.stack
 stk : X.stack = X.outer ∨ (X.stack = X.env :: X.outer ∧ X.env.frame = some X.env.locals)
 exf : ∀ b ∈ X.ex,b ≠ X.env.locals ∧ ∀ x c,X.env.cells.lookup x = some c → c ≠ b
 bs : ∀ b o,X.base.get? b = some o → X.s₀.heap.get? b = some o ∧ X.H₀ b = none
 bsz : X.base.objs.size ≤ X.s₀.heap.objs.size
 noex : ∀ b o,X.base.get? b = some o → b ∉ X.ex
 exfs : ∀ b ∈ X.ex,b ∉ X.fs
 funs : X.s₀.heap.FunFrames X.base X.outer
 frf : ∀ b ∈ X.fs,X.H₀ b = none
structure Inv (X : Cx) (pins : List (Addr × Obj)) (σ : List (Option V)) (H : Hp) (s : Shared) : Prop where
 ok : X.Ok
 os : s.os = X.s₀.os
 bare : AllBare s.gens
 base : Un X.fs X.ex X.H₀ H X.s₀.heap s.heap
 loc : ∃ m,s.heap.Ns X.env.locals m ∧ ∀ (i : Nat) (x : Str) (v : V),X.N[i]? = some x → σ[i]? = some (some v) → Vis X.env.scope x → ∃ u,RelV v u ∧ Look X.env s.heap m x u
 cell : ∀ x c,X.env.cells.lookup x = some c → ∃ v,s.heap.IsCell c v
 free : H X.env.locals = none
 freeC : ∀ x c,X.env.cells.lookup x = some c → H c = none
 pin : ∀ p ∈ X.pn ++ pins,s.heap.get? p.1 = some p.2 ∧ H p.1 = none ∧ p.1 ≠ X.env.locals ∧ p.1 ∉ X.fs ∧ ∀ v,p.2.data ≠ .cell v
 hok : HOk X.prog X.w H s.heap
 len : σ.length = X.N.length
section
variable {X : Cx} {pins : List (Addr × Obj)} {σ : List (Option V)} {H H' : Hp} {s : Shared} {h' : Heap}
theorem Cx.Ok.nofr (ok : X.Ok) {b : Addr} {o : Obj} (e : X.base.get? b = some o) : b ∉ X.fs := fun hb => by
 have := (ok.funs.mem hb).1
 rw [e] at this; cases this
theorem Inv.bs (I : Inv X pins σ H s) : ∀ b o,X.base.get? b = some o → s.heap.get? b = some o ∧ H b = none := fun b o e =>
 ⟨I.base.keep b o (I.ok.bs b o e).1 (I.ok.bs b o e).2 (I.ok.nofr e) (I.ok.noex b o e),I.base.free b o (I.ok.bs b o e).1 (I.ok.bs b o e).2 (I.ok.noex b o e)⟩
theorem Inv.bk (I : Inv X pins σ H s) : ∀ b o,X.base.get? b = some o → s.heap.get? b = some o := fun b o e => (I.bs b o e).1
theorem Inv.mod (I : Inv X pins σ H s) : Mod X.K X.mg X.base := I.ok.mod
theorem Inv.kIn (I : Inv X pins σ H s) : X.K.In s.heap := I.ok.mod.kin.keeps I.bk
theorem Inv.lt (I : Inv X pins σ H s) : X.env.locals < s.heap.objs.size := let ⟨_,hn,_⟩ := I.loc; hn.lt
theorem Inv.sz (I : Inv X pins σ H s) : X.s₀.heap.objs.size ≤ s.heap.objs.size := Nat.le_trans I.ok.above (Nat.le_of_lt I.lt)
theorem Inv.nofs (I : Inv X pins σ H s) {a : Addr} (h : s.heap.objs.size ≤ a) : a ∉ X.fs := fun hb => by
 obtain ⟨_,o,ho,_⟩ := I.ok.funs.mem hb
 exact absurd (Nat.lt_of_lt_of_le (Heap.lt_size ho) (Nat.le_trans I.sz h)) (Nat.lt_irrefl _)
theorem Inv.cne (I : Inv X pins σ H s) : ∀ x c,X.env.cells.lookup x = some c → c ≠ X.env.locals := fun x c e z => by
 obtain ⟨v,o,ho,hd⟩ := I.cell x c e
 obtain ⟨m,⟨o',es,ep,ho',hd',_⟩,_⟩ := I.loc
 rw [z,ho'] at ho; cases ho; rw [hd'] at hd; cases hd
theorem Inv.funs (I : Inv X pins σ H s) : s.heap.FunFrames X.base X.outer := by
 have all : ∀ (l : List Env),(∀ b ∈ frs l,b ∈ X.fs) → X.s₀.heap.FunFrames X.base l → s.heap.FunFrames X.base l := by
  intro l
  induction l with
  | nil => intro _ _; trivial
  | cons env r ih =>
    intro hs hl
    obtain ⟨hk,⟨L,o,hf,hn,ho,hd⟩,hr⟩ := hl
    have hL : L ∈ X.fs := hs L (by unfold frs; rw [List.filterMap_cons,hf]; exact List.mem_cons_self)
    obtain ⟨sl,e⟩ := I.base.slot L o ho (I.ok.frf L hL) hL fun z => I.ok.exfs L z hL
    exact ⟨hk,⟨L,_,hf,hn,e,hd⟩,ih (fun b hb => hs b (by unfold frs; rw [List.filterMap_cons,hf]; exact List.mem_cons_of_mem _ hb)) hr⟩
 exact all X.outer (fun _ hb => hb) I.ok.funs
theorem Inv.stack (I : Inv X pins σ H s) : s.heap.FunFrames X.base X.stack := by
 rcases I.ok.stk with e | ⟨e,hf⟩
 ·rw [e]; exact I.funs
 ·rw [e]
  obtain ⟨m,hn,_⟩ := I.loc
  refine .cons (by rw [I.ok.kind]; decide) hf hn ?_ I.funs
  exact Heap.get?_none_of_le (Nat.le_trans I.ok.bsz I.ok.above)
theorem Inv.stkSub (I : Inv X pins σ H s) : ∀ b ∈ frs X.stack,b ∈ X.env.locals :: X.fs := fun b hb => by
 rcases I.ok.stk with e | ⟨e,hf⟩
 ·rw [e] at hb; exact List.mem_cons_of_mem _ hb
 ·rw [e] at hb
  unfold frs at hb
  rw [List.filterMap_cons,hf] at hb
  exact hb
theorem Inv.stkFree (I : Inv X pins σ H s) : ∀ b ∈ frs X.stack,H b = none := fun b hb => by
 rcases List.mem_cons.mp (I.stkSub b hb) with e | hb
 ·rw [e]; exact I.free
 ·obtain ⟨_,o,ho,_⟩ := I.ok.funs.mem hb
  exact I.base.free b o ho (I.ok.frf b hb) fun z => I.ok.exfs b z hb
theorem Inv.step {g' : Array GenState} {t' : Nat} {d' : Drawn} {ch : List Addr} (I : Inv X pins σ H s)
 (hch : ∀ b ∈ ch,(b ∈ X.ex ∨ X.s₀.heap.objs.size ≤ b) ∧ b ≠ X.env.locals ∧ (∀ x c,X.env.cells.lookup x = some c → c ≠ b) ∧ ∀ p ∈ X.pn ++ pins,p.1 ≠ b)
 (keep : ∀ b o,b ≠ X.env.locals → b ∉ X.fs → b ∉ ch → s.heap.get? b = some o → H b = none → h'.get? b = some o)
 (slot : ∀ b o,b ≠ X.env.locals → b ∈ X.fs → b ∉ ch → s.heap.get? b = some o → H b = none → ∃ sl,h'.get? b = some { o with slots := sl }) (free : ∀ b o,b ∉ ch → s.heap.get? b = some o → H b = none → H' b = none)
 (there : ∀ b o,b ∉ ch → s.heap.get? b = some o → ∃ o',h'.get? b = some o')
 (tups : ∀ b xs,H b = some (.tup xs) → H' b = some (.tup xs)) (frzs : ∀ b o u,H b = some (.frz o u) → H' b = some (.frz o u)) (tbls : ∀ b ps,H b = some (.tbl ps) → ∃ more,H' b = some (.tbl (ps ++ more)))
 (ns : ∀ m,s.heap.Ns X.env.locals m → h'.Ns X.env.locals m) (hok : HOk X.prog X.w H' h') (hg : AllBare g') :
 Inv X pins σ H' { s with heap := h',gens := g',drawn := d',toks := t' } := by
 have neL : ∀ b o,X.s₀.heap.get? b = some o → b ≠ X.env.locals := fun b o e => Nat.ne_of_lt (Nat.lt_of_lt_of_le (Heap.lt_size e) I.ok.above)
 have neC : ∀ b o,X.s₀.heap.get? b = some o → b ∉ X.ex → b ∉ ch := fun b o e hx hb => by
  rcases (hch b hb).1 with z | z
  ·exact hx z
  ·exact absurd (Nat.lt_of_lt_of_le (Heap.lt_size e) z) (Nat.lt_irrefl _)
 have cellK : ∀ x c,X.env.cells.lookup x = some c → ∀ v,s.heap.IsCell c v → h'.IsCell c v := fun x c e v ⟨o,ho,hd⟩ => by
  have nch : c ∉ ch := fun z => (hch c z).2.2.1 x c e rfl
  by_cases hc : c ∈ X.fs
  ·obtain ⟨sl,q⟩ := slot c o (I.cne x c e) hc nch ho (I.freeC x c e)
   exact ⟨_,q,hd⟩
  ·exact ⟨o,keep c o (I.cne x c e) hc nch ho (I.freeC x c e),hd⟩
 refine ⟨I.ok,I.os,hg,⟨fun b o e n hb hx => ?_,fun b o e n hb hx => ?_,fun b o e n hx => ?_,fun b o e hx => ?_,fun b xs e => tups b xs (I.base.tups b xs e),fun b o xs e => frzs b o xs (I.base.frzs b o xs e),fun b ps e => ?_⟩,?_,fun x c e => ?_,?_,fun x c e => ?_,fun p hp => ?_,hok,I.len⟩
 ·exact keep b o (neL b o e) hb (neC b o e hx) (I.base.keep b o e n hb hx) (I.base.free b o e n hx)
 ·obtain ⟨sl,e1⟩ := I.base.slot b o e n hb hx
  obtain ⟨sl',e2⟩ := slot b _ (neL b o e) hb (neC b o e hx) e1 (I.base.free b o e n hx)
  exact ⟨sl',e2⟩
 ·obtain ⟨o',e1⟩ := I.base.there b o e hx
  exact free b o' (neC b o e hx) e1 (I.base.free b o e n hx)
 ·obtain ⟨o',e1⟩ := I.base.there b o e hx
  exact there b o' (neC b o e hx) e1
 ·obtain ⟨m1,e1⟩ := I.base.tbls b ps e
  obtain ⟨m2,e2⟩ := tbls b _ e1
  exact ⟨m1 ++ m2,by rw [e2,Array.append_assoc]⟩
 ·obtain ⟨m,hn,hl⟩ := I.loc
  refine ⟨m,ns m hn,fun i x v e1 e2 e3 => ?_⟩
  obtain ⟨u,r,l⟩ := hl i x v e1 e2 e3
  refine ⟨u,r,?_⟩
  rcases l with l | ⟨k,c,e,z⟩
  ·exact .inl l
  ·exact .inr ⟨k,c,e,cellK x c e _ z⟩
 ·obtain ⟨v,z⟩ := I.cell x c e
  exact ⟨v,cellK x c e v z⟩
 ·obtain ⟨m,⟨o,_,_,ho,_⟩,_⟩ := I.loc
  exact free _ o (fun z => (hch _ z).2.1 rfl) ho I.free
 ·obtain ⟨v,o,ho,hd⟩ := I.cell x c e
  exact free c o (fun z => (hch c z).2.2.1 x c e rfl) ho (I.freeC x c e)
 ·obtain ⟨e,n,ne,nf,d⟩ := I.pin p hp
  have nch : p.1 ∉ ch := fun z => (hch p.1 z).2.2.2 p hp rfl
  exact ⟨keep p.1 p.2 ne nf nch e n,free p.1 p.2 nch e n,ne,nf,d⟩
theorem Inv.un {t' : Nat} (I : Inv X pins σ H s) (u : Un X.fs [] H H' s.heap h') (hok : HOk X.prog X.w H' h') : Inv X pins σ H' { s with heap := h',toks := t' } := by
 obtain ⟨m,⟨o,es,ep,ho,r⟩,_⟩ := id I.loc
 obtain ⟨sl,hL⟩ := u.any ho I.free (by simp)
 exact I.step (g' := s.gens) (d' := s.drawn) (ch := []) (fun _ z => nomatch z) (fun b o _ hb _ e n => u.keep b o e n hb (by simp)) (fun b o _ hb _ e n => u.slot b o e n hb (by simp)) (fun b o _ e n => u.free b o e n (by simp)) (fun b o _ e => u.there b o e (by simp)) u.tups u.frzs u.tbls (fun m' hm => by
  obtain ⟨o',es',ep',ho',r'⟩ := hm
  rw [ho] at ho'; cases ho'
  exact ⟨_,es',ep',hL,r'⟩) hok I.bare
theorem Inv.call {g' : Array GenState} {t' : Nat} {d' : Drawn} {ch : List Addr} (I : Inv X pins σ H s) (u : Un (frs X.stack) ch H H' s.heap h') (hok : HOk X.prog X.w H' h') (hg : AllBare g')
 (hch : ∀ b ∈ ch,(b ∈ X.ex ∨ X.s₀.heap.objs.size ≤ b) ∧ b ≠ X.env.locals ∧ (∀ x c,X.env.cells.lookup x = some c → c ≠ b) ∧ ∀ p ∈ X.pn ++ pins,p.1 ≠ b) :
 Inv X pins σ H' { s with heap := h',gens := g',drawn := d',toks := t' } := by
 obtain ⟨m,⟨o,es,ep,ho,r⟩,_⟩ := id I.loc
 obtain ⟨sl,hL⟩ := u.any ho I.free fun z => (hch _ z).2.1 rfl
 exact I.step (ch := ch) hch (fun b o hL hb hc e n => u.keep b o e n (fun z => (List.mem_cons.mp (I.stkSub b z)).elim hL hb) hc) (fun b o _ _ hc e n => u.any e n hc) (fun b o hc e n => u.free b o e n hc) (fun b o hc e => u.there b o e hc) u.tups u.frzs u.tbls (fun m' hm => by
  obtain ⟨o',es',ep',ho',r'⟩ := hm
  rw [ho] at ho'; cases ho'
  exact ⟨_,es',ep',hL,r'⟩) hok hg
theorem Inv.turned {t' : Nat} {it : Addr} (I : Inv X pins σ H s) (k : ∀ b o,b ≠ it → s.heap.get? b = some o → h'.get? b = some o) (hn : H it = none) (hL : it ≠ X.env.locals)
 (h1 : it ∈ X.ex ∨ X.s₀.heap.objs.size ≤ it) (h2 : ∀ x c,X.env.cells.lookup x = some c → c ≠ it) (h3 : ∀ p ∈ X.pn ++ pins,p.1 ≠ it) : Inv X pins σ H { s with heap := h',toks := t' } := by
 have nit : ∀ b u,H b = some u → b ≠ it := fun b u e z => by rw [z,hn] at e; cases e
 refine I.step (g' := s.gens) (d' := s.drawn) (ch := [it]) (fun b hb => ?_) (fun b o _ _ hc e _ => k b o (fun z => hc (by simp [z])) e) (fun b o _ _ hc e _ => ⟨o.slots,k b o (fun z => hc (by simp [z])) e⟩) (fun _ _ _ _ n => n)
  (fun b o hc e => ⟨o,k b o (fun z => hc (by simp [z])) e⟩) (fun _ _ e => e) (fun _ _ _ e => e) (fun b ps e => ⟨#[],by rw [e]; simp⟩) (fun m hm => ?_) (fun b u e => ?_) I.bare
 ·have e : b = it := by simpa using hb
  subst e
  exact ⟨h1,hL,h2,h3⟩
 ·obtain ⟨o,es,ep,ho,r⟩ := hm
  exact ⟨o,es,ep,k _ o (Ne.symm hL) ho,r⟩
 ·refine (I.hok b u e).stay (fun c v hc q => k c v ?_ q) (fun _ q => q) fun _ _ q => q
  rcases hc with z | z
  ·rw [z]; exact nit b u e
  ·exact nit c _ z
theorem Inv.tok (I : Inv X pins σ H s) (t : Nat) : Inv X pins σ H { s with toks := t } := I.un (h' := s.heap) (t' := t) Un.refl I.hok
theorem Inv.kept {t' : Nat} (I : Inv X pins σ H s) (k : ∀ b u,s.heap.get? b = some u → h'.get? b = some u) : Inv X pins σ H { s with heap := h',toks := t' } := I.un (Un.kept k) (I.hok.kept k)
theorem Inv.laid {a : Addr} {o : HO} {t' : Nat} (I : Inv X pins σ H s) (k : ∀ b u,s.heap.get? b = some u → h'.get? b = some u) (hp : s.heap.objs.size ≤ a) (new : Cj X.prog X.w (upd H a o) h' a o) :
 Inv X pins σ (upd H a o) { s with heap := h',toks := t' } := I.un (Un.laid k hp (I.hok.fresh hp)) (I.hok.laid k hp new)
theorem Inv.write {x e : Addr} {o : HO} {t' : Nat} (I : Inv X pins σ H s) (mu : Mut (H x)) (he : e = x ∨ H e = some (.own x)) (k : ∀ b u,b ≠ e → s.heap.get? b = some u → h'.get? b = some u) (heo : ∃ u,h'.get? e = some u)
 (new : Cj X.prog X.w (upd H x o) h' x o) : Inv X pins σ (upd H x o) { s with heap := h',toks := t' } := I.un (Un.write mu he k heo) (I.hok.write mu he k heo new)
theorem Inv.pins_of {pins' : List (Addr × Obj)} (I : Inv X pins σ H s) (h : ∀ p ∈ pins',s.heap.get? p.1 = some p.2 ∧ H p.1 = none ∧ p.1 ≠ X.env.locals ∧ p.1 ∉ X.fs ∧ ∀ v,p.2.data ≠ .cell v) : Inv X pins' σ H s :=
 ⟨I.ok,I.os,I.bare,I.base,I.loc,I.cell,I.free,I.freeC,fun p hp => (List.mem_append.mp hp).elim (fun z => I.pin p (List.mem_append_left _ z)) (h p),I.hok,I.len⟩
theorem nodup_ix {N : List Str} (hN : N.Nodup) {i j : Nat} {x : Str} (a : N[i]? = some x) (b : N[j]? = some x) : i = j := by
 obtain ⟨h1,e1⟩ := List.getElem?_eq_some_iff.mp a
 obtain ⟨h2,e2⟩ := List.getElem?_eq_some_iff.mp b
 exact (List.getElem_inj hN).mp (e1.trans e2.symm)
theorem store_ok2 {M : Model} {A : Around} {E : Value → Shared → Prop} {i : Nat} {x : Str} {v : V} {u : Value} {Q : Unit → Shared → Prop} (I : Inv X pins σ H s) (hN : X.N.Nodup) (hi : X.N[i]? = some x) (hx : Loc X.env.scope x) (r : RelV v u)
 (h : ∀ s',Inv X pins (σ.set i (some v)) H s' → (∃ a,Heap.SameBut a s.heap s'.heap ∧ (a = X.env.locals ∨ X.env.cells.lookup x = some a)) → Q () s') (hf : X.fn x = true ∨ X.env.scope.names.lookup x = some .local := by first | exact .inl rfl | exact .inr rfl | assumption) : wpAny M A (storeName X.env x u) Q E s := by
 obtain ⟨m,hn,hl⟩ := id I.loc
 have hcls : (X.env.scope.kind == .class || (X.env.scope.kind == .module && X.env.locals != X.env.globals)) = false := by rw [I.ok.kind]; rfl
 have hiσ : i < σ.length := by rw [I.len]; exact (List.getElem?_eq_some_iff.mp hi).1
 have cne := I.cne
 have tracked : ∀ {a : Addr} {h' : Heap},(∃ o,s.heap.get? a = some o ∧ H a = none) → Heap.SameBut a s.heap h' → HOk X.prog X.w H h' := fun {a h'} ha hs b ob e => by
  obtain ⟨_,_,hfree⟩ := ha
  refine (I.hok b ob e).stay (fun c w' hc q => (hs.2 c ?_).trans q) (fun _ q => q) fun _ _ q => q
  rintro rfl
  rcases hc with rfl | hc
  ·rw [hfree] at e; cases e
  ·rw [hfree] at hc; cases hc
 rcases hx with hk | hk
 ·refine wpAny_storeName_local hk hn (fun h' hn' hs => ?_) hcls
  obtain ⟨oL,_,_,hoL,_⟩ := id hn
  refine h _ ⟨I.ok,I.os,I.bare,⟨fun b o e n hb hx => ?_,fun b o e n hb hx => ?_,I.base.free,fun b o e hx => ?_,I.base.tups,I.base.frzs,I.base.tbls⟩,⟨_,hn',fun j y v' e1 e2 e3 => ?_⟩,fun y c e => ?_,I.free,I.freeC,fun p hp => ?_,tracked ⟨oL,hoL,I.free⟩ hs,by simpa using I.len⟩ ⟨_,hs,.inl rfl⟩
  ·exact (hs.2 b (Nat.ne_of_lt (Nat.lt_of_lt_of_le (Heap.lt_size e) I.ok.above))).trans (I.base.keep b o e n hb hx)
  ·obtain ⟨sl,e1⟩ := I.base.slot b o e n hb hx
   exact ⟨sl,(hs.2 b (Nat.ne_of_lt (Nat.lt_of_lt_of_le (Heap.lt_size e) I.ok.above))).trans e1⟩
  ·obtain ⟨o',e1⟩ := I.base.there b o e hx
   exact ⟨o',(hs.2 b (Nat.ne_of_lt (Nat.lt_of_lt_of_le (Heap.lt_size e) I.ok.above))).trans e1⟩
  ·by_cases hj : j = i
   ·subst hj
    rw [hi] at e1; cases e1
    rw [List.getElem?_set_self hiσ] at e2
    cases e2
    exact ⟨u,r,.inl ⟨hk,by simp⟩⟩
   ·rw [List.getElem?_set_ne (Ne.symm hj)] at e2
    obtain ⟨u',r',q⟩ := hl j y v' e1 e2 e3
    refine ⟨u',r',?_⟩
    rcases q with ⟨k,e⟩ | ⟨k,c,e,z⟩
    ·refine .inl ⟨k,?_⟩
     have : y ≠ x := fun e => hj (nodup_ix hN e1 (e ▸ hi))
     simp [this,e]
    ·exact .inr ⟨k,c,e,z.sameBut hs (cne y c e)⟩
  ·obtain ⟨w',z⟩ := I.cell y c e
   exact ⟨w',z.sameBut hs (cne y c e)⟩
  ·obtain ⟨e,n,ne,nf,d⟩ := I.pin p hp
   exact ⟨(hs.2 p.1 ne).trans e,n,ne,nf,d⟩
 ·have hfn : X.fn x = true := by
   rcases hf with z | z
   ·exact z
   ·rw [z] at hk; cases hk
  obtain ⟨c,hc⟩ := I.ok.has x (.inl hk)
  obtain ⟨w',z⟩ := I.cell x c hc
  refine wpAny_storeName_cell I.ok.kind hk hc z (fun h' hc' hs => ?_)
  obtain ⟨oc,hoc,hocd⟩ := id z
  refine h { s with heap := h' } ⟨I.ok,I.os,I.bare,⟨fun b o e n hb hx => ?_,fun b o e n hb hx => ?_,I.base.free,fun b o e hx => ?_,I.base.tups,I.base.frzs,I.base.tbls⟩,⟨m,hn.sameBut hs (Ne.symm (cne x c hc)),fun j y v' e1 e2 e3 => ?_⟩,fun y c' e => ?_,I.free,I.freeC,fun p hp => ?_,tracked ⟨oc,hoc,I.freeC x c hc⟩ hs,by simpa using I.len⟩ ⟨c,hs,.inr hc⟩
  ·exact (hs.2 b (Nat.ne_of_lt (Nat.lt_of_lt_of_le (Heap.lt_size e) (I.ok.cab x c hfn hc)))).trans (I.base.keep b o e n hb hx)
  ·obtain ⟨sl,e1⟩ := I.base.slot b o e n hb hx
   exact ⟨sl,(hs.2 b (Nat.ne_of_lt (Nat.lt_of_lt_of_le (Heap.lt_size e) (I.ok.cab x c hfn hc)))).trans e1⟩
  ·obtain ⟨o',e1⟩ := I.base.there b o e hx
   exact ⟨o',(hs.2 b (Nat.ne_of_lt (Nat.lt_of_lt_of_le (Heap.lt_size e) (I.ok.cab x c hfn hc)))).trans e1⟩
  ·by_cases hj : j = i
   ·subst hj
    rw [hi] at e1; cases e1
    rw [List.getElem?_set_self hiσ] at e2
    cases e2
    exact ⟨u,r,.inr ⟨.inl hk,c,hc,hc'⟩⟩
   ·rw [List.getElem?_set_ne (Ne.symm hj)] at e2
    obtain ⟨u',r',q⟩ := hl j y v' e1 e2 e3
    refine ⟨u',r',?_⟩
    rcases q with q | ⟨k,c',e,z'⟩
    ·exact .inl q
    ·refine .inr ⟨k,c',e,z'.sameBut hs ?_⟩
     rintro rfl
     exact hj (nodup_ix hN e1 (I.ok.inj _ _ _ e hc ▸ hi))
  ·by_cases hcc : c' = c
   ·subst hcc; exact ⟨_,hc'⟩
   ·obtain ⟨w2,z2⟩ := I.cell y c' e
    exact ⟨w2,z2.sameBut hs hcc⟩
  ·obtain ⟨e,n,ne,nf,d⟩ := I.pin p hp
   refine ⟨(hs.2 p.1 ?_).trans e,n,ne,nf,d⟩
   intro q
   rw [q,hoc] at e
   have q' : oc = p.2 := Option.some.inj e
   exact d w' (by rw [← q']; exact hocd)
theorem store_ok {M : Model} {A : Around} {E : Value → Shared → Prop} {i : Nat} {x : Str} {v : V} {u : Value} {Q : Unit → Shared → Prop} (I : Inv X pins σ H s) (hN : X.N.Nodup) (hi : X.N[i]? = some x) (hx : Loc X.env.scope x) (r : RelV v u)
 (h : ∀ s',Inv X pins (σ.set i (some v)) H s' → Q () s') (hf : X.fn x = true ∨ X.env.scope.names.lookup x = some .local := by first | exact .inl rfl | exact .inr rfl | assumption) : wpAny M A (storeName X.env x u) Q E s :=
 store_ok2 I hN hi hx r (fun s' I' _ => h s' I') hf
theorem Inv.call' {s' : Shared} {ch : List Addr} (I : Inv X pins σ H s) (ho : s'.os = s.os) (u : Un (frs X.stack) ch H H' s.heap s'.heap) (hok : HOk X.prog X.w H' s'.heap) (hg : AllBare s'.gens)
 (hch : ∀ b ∈ ch,(b ∈ X.ex ∨ X.s₀.heap.objs.size ≤ b) ∧ b ≠ X.env.locals ∧ (∀ x c,X.env.cells.lookup x = some c → c ≠ b) ∧ ∀ p ∈ X.pn ++ pins,p.1 ≠ b) : Inv X pins σ H' s' := by
 obtain ⟨h',g',d',t',o'⟩ := s'
 have e : o' = s.os := ho
 subst e
 exact I.call (g' := g') (t' := t') (d' := d') u hok hg hch
end
abbrev XK := Value → Option Addr → Hp → Prop
abbrev St := List (Option V)
abbrev VK := V → Hp → Prop
abbrev TE := St → Hp → VK → Prop
abbrev TT := St → Hp → (Bool → Hp → Prop) → Prop
abbrev TA := St → Hp → (List V → Hp → Prop) → Prop
structure Ends where
 nx : St → Hp → Prop
 rt : VK
 bk : St → Hp → Prop := fun _ _ => False
 ct : St → Hp → Prop := fun _ _ => False
abbrev TS := Ends → St → Hp → Prop
def EP (X : Cx) (pins : List (Addr × Obj)) (σ : St) (Q : VK) (u : Value) (s' : Shared) : Prop := ∃ v H',Inv X pins σ H' s' ∧ RelV v u ∧ Q v H'
def TP (X : Cx) (pins : List (Addr × Obj)) (σ : St) (Q : Bool → Hp → Prop) (b : Bool) (s' : Shared) : Prop := ∃ H',Inv X pins σ H' s' ∧ Q b H'
def AP (X : Cx) (pins : List (Addr × Obj)) (σ : St) (Q : List V → Hp → Prop) (us : List Value) (s' : Shared) : Prop := ∃ vs H',Inv X pins σ H' s' ∧ Vals vs us ∧ Q vs H'
def SP (X : Cx) (pins : List (Addr × Obj)) (D : Ends) (f : Flow) (s' : Shared) : Prop :=
 match f with
 | .next => ∃ σ' H',Inv X pins σ' H' s' ∧ D.nx σ' H'
 | .brk => ∃ σ' H',Inv X pins σ' H' s' ∧ D.bk σ' H'
 | .cont => ∃ σ' H',Inv X pins σ' H' s' ∧ D.ct σ' H'
 | .ret u => ∃ v σ' H',Inv X pins σ' H' s' ∧ RelV v u ∧ D.rt v H'
def PE (X : Cx) (e : Expr) (t : TE) : Prop :=
 ∀ (pins : List (Addr × Obj)) (s : Shared) (σ : St) (H : Hp) (Q : VK),Inv X pins σ H s → t σ H Q → wpAny (model X.prog X.w) X.A (eval e X.env) (EP X pins σ Q) X.xe s
def PT (X : Cx) (e : Expr) (t : TT) : Prop :=
 ∀ (pins : List (Addr × Obj)) (s : Shared) (σ : St) (H : Hp) (Q : Bool → Hp → Prop),Inv X pins σ H s → t σ H Q → wpAny (model X.prog X.w) X.A (isTrue e X.env (eval e X.env)) (TP X pins σ Q) X.xe s
def PW (X : Cx) (e : Expr) (t : TT) : Prop :=
 ∀ (whole : Sem Value) (pins : List (Addr × Obj)) (s : Shared) (σ : St) (H : Hp) (Q : Bool → Hp → Prop),Inv X pins σ H s → t σ H Q → wpAny (model X.prog X.w) X.A (isTrue e X.env whole) (TP X pins σ Q) X.xe s
theorem PW.pt {X : Cx} {e : Expr} {t : TT} (h : PW X e t) : PT X e t := h _
def PA (X : Cx) (es : List Expr) (t : TA) : Prop :=
 ∀ (pos : Pos) (pins : List (Addr × Obj)) (s : Shared) (σ : St) (H : Hp) (Q : List V → Hp → Prop),Inv X pins σ H s → t σ H Q → wpAny (model X.prog X.w) X.A (spliced (backTo pos (starEach es X.env))) (AP X pins σ Q) X.xe s
def PS (X : Cx) (st : Stmt) (t : TS) : Prop :=
 ∀ (pins : List (Addr × Obj)) (s : Shared) (σ : St) (H : Hp) (D : Ends),Inv X pins σ H s → t D σ H → wpAny (model X.prog X.w) X.A (exec st X.env) (SP X pins D) X.xe s
def PSs (X : Cx) (st : List Stmt) (t : TS) : Prop :=
 ∀ (pins : List (Addr × Obj)) (s : Shared) (σ : St) (H : Hp) (D : Ends),Inv X pins σ H s → t D σ H → wpAny (model X.prog X.w) X.A (execs st X.env) (SP X pins D) X.xe s
theorem thn {α : Type} {t : Sem α} {Q Q' : α → Shared → Prop} {M : Model} {A : Around} {E : Value → Shared → Prop} {s : Shared} (h : wpAny M A t Q E s) (hQ : ∀ a s,Q a s → Q' a s) : wpAny M A t Q' E s := wpAny_mono h hQ fun _ _ x => x
end L2
namespace L2
open PySem PySem.Spec PyProof.Rows
section
variable {X : Cx}
def tVar (i : Nat) : TE := fun σ H Q => ∃ v,σ[i]? = some (some v) ∧ Q v H
def tC (v : V) : TE := fun _ H Q => Q v H
theorem pe_var {i : Nat} {x : Str} {pos : Pos} (hN : X.N[i]? = some x) (hv : Vis X.env.scope x) (hd : (x == ("__debug__" : Str)) = false := by decide) (hcd : (x == ("__classdict__" : Str)) = false := by decide) : PE X (.Name x pos) (tVar i) := by
 intro pins s σ H Q I h
 obtain ⟨v,e,h⟩ := h
 obtain ⟨m,hn,hl⟩ := I.loc
 obtain ⟨u,r,l⟩ := hl i x v hN e hv
 have fin : EP X pins σ Q u s := ⟨v,H,I,r,h⟩
 rcases l with ⟨hk,hm⟩ | ⟨hk,c,hc,hcell⟩
 ·exact wpAny_Name (wpAny_loadName_local I.ok.kind hk hn hm fin) hd
 ·rcases hk with hk | hk
  ·exact wpAny_Name (wpAny_loadName_cell I.ok.kind hk hc hcell fin) hd
  ·exact wpAny_Name (wpAny_loadName_free I.ok.kind hk hc hcell fin hcd) hd
theorem Ag {i j pos} : PE X (.Constant (.int i) j pos) (tC (.int i)) := fun _ _ _ H _ I h => wpAny_Constant_int ⟨.int i,H,I.tok _,⟨_,rfl⟩,h⟩
theorem pe_bl {b j pos} : PE X (.Constant (.bool b) j pos) (tC (.bl b)) := fun _ _ _ H _ I h => Constant_bool ⟨.bl b,H,I,rfl,h⟩
theorem C2 {j pos} : PE X (.Constant .none j pos) (tC .non) := fun _ _ _ H _ I h => Constant_none ⟨.non,H,I,rfl,h⟩
theorem Al {x j pos} : PE X (.Constant (.str x) j pos) (tC (.str x)) := fun _ _ _ H _ I h => Calls.Constant_str ⟨.str x,H,I.tok _,⟨_,rfl⟩,h⟩
def Gl (X : Cx) (x : Str) : Prop := X.env.kindOf x = some .globalImplicit
theorem ld_glob {E : Value → Shared → Prop} {pins : List (Addr × Obj)} {s : Shared} {σ : St} {H : Hp} {x : Str} {u : Value} {pos : Pos} {Q : Value → Shared → Prop} (I : Inv X pins σ H s) (hg : Gl X x) (hm : X.mg x = some u) (h : Q u s)
 (hd : (x == ("__debug__" : Str)) = false := by decide) : wpAny (model X.prog X.w) X.A (eval (.Name x pos) X.env) Q E s :=
 Calls.Name_function_global I.ok.kind hg (Calls.loadGlobal_global (by rw [I.ok.glob]; exact I.mod.glob.keeps I.bk) hm h) hd
theorem ld_blt {E : Value → Shared → Prop} {pins : List (Addr × Obj)} {s : Shared} {σ : St} {H : Hp} {x : Str} {u : Value} {pos : Pos} {Q : Value → Shared → Prop} (I : Inv X pins σ H s) (hg : Gl X x) (hm : X.mg x = none) (hv : bootBuiltins x = some u) (h : Q u s)
 (hn : x ≠ "__name__" := by decide) (hd : (x == ("__debug__" : Str)) = false := by decide) : wpAny (model X.prog X.w) X.A (eval (.Name x pos) X.env) Q E s := by
 obtain ⟨mb,h1,h2⟩ := I.mod.blt
 exact Calls.Name_function_global I.ok.kind hg (Calls.loadGlobal_builtin (by rw [I.ok.glob]; exact I.mod.glob.keeps I.bk) hm (by rw [I.ok.blt]; exact h1.keeps I.bk) ((h2 x hn).trans hv) h) hd
theorem Dt {x : Str} {v : V} {u : Value} {pos : Pos} (hg : Gl X x) (hm : X.mg x = some u) (r : RelV v u) (hd : (x == ("__debug__" : Str)) = false := by decide) : PE X (.Name x pos) (tC v) :=
 fun _ _ _ H _ I h => ld_glob I hg hm ⟨v,H,I,r,h⟩ hd
theorem Au {x : Str} {v : V} {u : Value} {pos : Pos} (hg : Gl X x) (hm : X.mg x = none) (hv : bootBuiltins x = some u) (r : RelV v u) (hn : x ≠ "__name__" := by decide) (hd : (x == ("__debug__" : Str)) = false := by decide) : PE X (.Name x pos) (tC v) :=
 fun _ _ _ H _ I h => ld_blt I hg hm hv ⟨v,H,I,r,h⟩ hn hd
variable {a b : Expr} {ta tb : TE} {pos : Pos}
def PC (X : Cx) (op : CmpOp) (a b : Expr) (t : TE) : Prop :=
 ∀ (pins : List (Addr × Obj)) (s : Shared) (σ : St) (H : Hp) (Q : VK),Inv X pins σ H s → t σ H Q →
  wpAny (model X.prog X.w) X.A (eval a X.env) (fun v s₁ => wpAny (model X.prog X.w) X.A (eval b X.env) (fun u s₂ => wpAny (model X.prog X.w) X.A (compareOp op v u) (EP X pins σ Q) X.xe s₂) X.xe s₁) X.xe s
theorem nobehind (b : Expr) {op : CmpOp} (h : op ≠ .In) (h2 : op ≠ .NotIn) : behindInMarks op b = false := by
 have e1 : (op == CmpOp.In) = false := by cases op <;> first | rfl | exact absurd rfl h
 have e2 : (op == CmpOp.NotIn) = false := by cases op <;> first | rfl | exact absurd rfl h2
 cases b <;> simp [behindInMarks,e1,e2]
def tIsN (ta : TE) : TE := fun σ H Q => ta σ H fun x H1 => Q (.bl (decide (x = .non))) H1
def tNotN (ta : TE) : TE := fun σ H Q => ta σ H fun x H1 => Q (.bl (!decide (x = .non))) H1
theorem RelV.none_iff {x : V} {v : Value} (r : RelV x v) : (v == Value.none) = decide (x = .non) := by
 cases x with
 | non => cases r; rfl
 | bl _ => cases r; rfl
 | int _ => obtain ⟨t,rfl⟩ := r; rfl
 | str _ => obtain ⟨t,rfl⟩ := r; rfl
 | byt _ => obtain ⟨t,rfl⟩ := r; rfl
 | flt _ => obtain ⟨t,rfl⟩ := r; rfl
 | ref _ => cases r; rfl
 | ty _ => cases r; rfl
theorem pc_isN {j pos'} (ha : PE X a ta) : PC X .Is a (.Constant .none j pos') (tIsN ta) := by
 intro pins s σ H Q I h
 refine thn (ha pins s σ H _ I h) fun v s1 ⟨x,H1,I1,r1,q1⟩ => ?_
 exact Constant_none (is_none_gen ⟨.bl _,H1,I1,by rw [r1.none_iff]; rfl,q1⟩)
theorem pc_notN {j pos'} (ha : PE X a ta) : PC X .IsNot a (.Constant .none j pos') (tNotN ta) := by
 intro pins s σ H Q I h
 refine thn (ha pins s σ H _ I h) fun v s1 ⟨x,H1,I1,r1,q1⟩ => ?_
 exact Constant_none (isnot_none_gen ⟨.bl _,H1,I1,by rw [r1.none_iff]; rfl,q1⟩)
def tB (t : TE) : TT := fun σ H Q => t σ H fun x H1 => ∃ c,x = .bl c ∧ Q c H1
theorem pt_cmp {op : CmpOp} {t : TE} (h : PC X op a b t) (h1 : behindInMarks op b = false := by first | exact nobehind _ (by decide) (by decide) | rfl) : PT X (.Compare a [op] [b] pos) (tB t) := by
 intro pins s σ H Q I hw
 refine wpAny_isTrue_Compare1 (thn (h pins s σ H _ I hw) fun v s1 h1 => thn h1 fun u s2 h2 => thn h2 fun c s3 ⟨x,H1,I1,r1,q1⟩ => ?_) h1
 obtain ⟨d,rfl,q⟩ := q1
 cases r1
 exact wpAny_truthy_bool ⟨H1,I1,q⟩
theorem Bj {e : Expr} {t : TE} (h : PE X e t) (he : ∀ whole,isTrue e X.env whole = (do let v ← whole; standAt e.pos; holding [v] (truthy v)) := by intro _; rfl) : PT X e (tB t) := by
 intro pins s σ H Q I hw
 refine isTrue_plain (thn (h pins s σ H _ I hw) fun v s1 ⟨x,H1,I1,r1,q1⟩ => ?_) (he _)
 obtain ⟨d,rfl,q⟩ := q1
 cases r1
 exact wpAny_truthy_bool ⟨H1,I1,q⟩
variable {tA tB' : TT} {rest : List Expr}
def tOr (t u : TT) : TT := fun σ H Q => t σ H fun c H1 => if c = true then Q true H1 else u σ H1 Q
def tNot (t : TT) : TT := fun σ H Q => t σ H fun c H1 => Q (!c) H1
theorem Cp (ha : PT X a tA) : PW X (.BoolOp .Or [a] pos) tA := by
 intro wh pins s σ H Q I h
 refine isTrue_or (thn (ha pins s σ H Q I h) fun c s1 e => ?_)
 cases c with
 | false => exact isTrue_or_nil e
 | true => exact e
theorem pw_or (ha : PT X a tA) (hb : PW X (.BoolOp .Or (b :: rest) pos) tB') : PW X (.BoolOp .Or (a :: b :: rest) pos) (tOr tA tB') := by
 intro wh pins s σ H Q I h
 refine isTrue_or (thn (ha pins s σ H _ I h) fun c s1 ⟨H1,I1,q1⟩ => ?_)
 cases c with
 | true => exact ⟨H1,I1,q1⟩
 | false => exact hb wh pins s1 σ H1 Q I1 q1
theorem Bg (ha : PT X a tA) : PT X (.UnaryOp .Not a pos) (tNot tA) := by
 intro pins s σ H Q I h
 exact isTrue_not (ha pins s σ H (fun c H1 => Q (!c) H1) I h)
def tAndV (ta tb : TE) : TE := fun σ H Q => ta σ H fun x H1 => ∃ c,x = .bl c ∧ if c = true then tb σ H1 Q else Q (.bl false) H1
def tNotV (ta : TE) : TE := fun σ H Q => ta σ H fun x H1 => ∃ c,x = .bl c ∧ Q (.bl (!c)) H1
theorem Cq {op} {t : TE} (h : PE X a t) : PE X (.BoolOp op [a] pos) t := fun pins s σ H Q I hw => BoolOp_one (h pins s σ H Q I hw)
theorem B9 (ha : PE X a ta) (hb : PE X (.BoolOp .And (b :: rest) pos) tb) : PE X (.BoolOp .And (a :: b :: rest) pos) (tAndV ta tb) := by
 intro pins s σ H Q I h
 refine BoolOp_and (thn (ha pins s σ H _ I h) fun v s1 ⟨x,H1,I1,r1,q1⟩ => ?_)
 obtain ⟨c,rfl,q1⟩ := q1
 cases r1
 refine wpAny_truthy_bool ?_
 cases c with
 | true => exact hb pins s1 σ H1 Q I1 q1
 | false => exact ⟨.bl false,H1,I1,rfl,q1⟩
theorem pe_not (ha : PE X a ta) : PE X (.UnaryOp .Not a pos) (tNotV ta) := by
 intro pins s σ H Q I h
 refine UnaryOp_ (thn (ha pins s σ H _ I h) fun v s1 ⟨x,H1,I1,r1,q1⟩ => ?_)
 obtain ⟨c,rfl,q1⟩ := q1
 cases r1
 exact not_of (wpAny_truthy_bool ⟨.bl (!c),H1,I1,rfl,q1⟩)
end
end L2
namespace L2
open PySem PySem.Spec PyProof.Rows
def SqL (K : PySem.W.Frag) (H : Hp) (a : Addr) (xs : List V) : Prop :=
 Rd H a (.lst xs) ∨
  ∃ (o : Obj) (its : Array Value) (n : Nat),K.lookup a = some o ∧ o.cls = .type "list" ∧ o.dict = none ∧ o.data = .seq its n ∧ its.size ≤ sizeLine ∧ Vals xs its.toList
def SqT (K : PySem.W.Frag) (H : Hp) (a : Addr) (xs : List V) : Prop :=
 Rd H a (.tup xs) ∨
  ∃ (o : Obj) (its : Array Value) (n : Nat),K.lookup a = some o ∧ o.cls = .type "tuple" ∧ o.data = .seq its n ∧ its.size ≤ sizeLine ∧ Vals xs its.toList
def absV : Value → Option V
 | .none => some .non
 | .bool b => some (.bl b)
 | .int i _ => some (.int i)
 | .str x _ => some (.str x)
 | .bytes b _ => some (.byt b)
 | .float b _ => some (.flt b)
 | .ref a => some (.ref a)
 | .type n => some (.ty n)
 | _ => none
theorem RelV.abs {x : V} {u : Value} (r : RelV x u) : absV u = some x := by
 cases x with
 | non => cases r; rfl
 | bl _ => cases r; rfl
 | int _ => obtain ⟨t,rfl⟩ := r; rfl
 | str _ => obtain ⟨t,rfl⟩ := r; rfl
 | byt _ => obtain ⟨t,rfl⟩ := r; rfl
 | flt _ => obtain ⟨t,rfl⟩ := r; rfl
 | ref _ => cases r; rfl
 | ty _ => cases r; rfl
theorem RelV.inj {x y : V} {u : Value} (r : RelV x u) (q : RelV y u) : x = y := Option.some.inj (r.abs.symm.trans q.abs)
theorem Vals.inj : ∀ {xs ys : List V} {us : List Value},Vals xs us → Vals ys us → xs = ys
 | _,_,_,.nil,.nil => rfl
 | _,_,_,.cons r t,.cons r' t' => by rw [r.inj r',Vals.inj t t']
section
variable {X : Cx} {pins : List (Addr × Obj)} {σ : St} {H : Hp} {s : Shared} {a : Addr} {xs ys : List V}
theorem SqL.of {K : PySem.W.Frag} (h : H a = some (.lst xs)) : SqL K H a xs := .inl (.inl h)
theorem SqT.of {K : PySem.W.Frag} (h : H a = some (.tup xs)) : SqT K H a xs := .inl (.inl h)
theorem Inv.list (I : Inv X pins σ H s) (h : SqL X.K H a xs) : ∃ its : List Value,Vals xs its ∧ PlainL s.heap a its.toArray ∧ xs.length ≤ sizeLine := by
 rcases h with h | ⟨o,its,n,hk,hc,hd,hs,hz,r⟩
 ·obtain ⟨z,its,n,r,e⟩ := h.ok I.hok
  exact ⟨its,r,⟨_,n,e,rfl,rfl,rfl⟩,z⟩
 ·refine ⟨its.toList,r,⟨o,n,I.kIn a o hk,hc,hd,by simpa using hs⟩,?_⟩
  have e := r.length
  simp only [Array.length_toList] at e
  omega
theorem Inv.tuple (I : Inv X pins σ H s) (h : SqT X.K H a xs) : ∃ its : List Value,Vals xs its ∧ IsTup s.heap a its.toArray ∧ xs.length ≤ sizeLine := by
 rcases h with h | ⟨o,its,n,hk,hc,hs,hz,r⟩
 ·obtain ⟨z,its,r,p⟩ := h.ok I.hok
  exact ⟨its,r,p,z⟩
 ·refine ⟨its.toList,r,⟨o,I.kIn a o hk,hc,n,by simpa using hs⟩,?_⟩
  have e := r.length
  simp only [Array.length_toList] at e
  omega
theorem Inv.list_inj (I : Inv X pins σ H s) (h : SqL X.K H a xs) (h' : SqL X.K H a ys) : xs = ys := by
 obtain ⟨its,r,⟨o,n,e,_,_,d⟩,_⟩ := I.list h
 obtain ⟨its',r',⟨o',n',e',_,_,d'⟩,_⟩ := I.list h'
 rw [e] at e'; cases e'
 rw [d] at d'
 injection d' with d1 _
 have : its = its' := by simpa using congrArg Array.toList d1
 subst this
 exact r.inj r'
theorem Inv.tuple_inj (I : Inv X pins σ H s) (h : SqT X.K H a xs) (h' : SqT X.K H a ys) : xs = ys := by
 obtain ⟨its,r,⟨o,e,_,n,d⟩,_⟩ := I.tuple h
 obtain ⟨its',r',⟨o',e',_,n',d'⟩,_⟩ := I.tuple h'
 rw [e] at e'; cases e'
 rw [d] at d'
 injection d' with d1 _
 have : its = its' := by simpa using congrArg Array.toList d1
 subst this
 exact r.inj r'
end
abbrev Cx.wish (X : Cx) (E : Value → Shared → Prop) : Cx := { X with xe := E }
abbrev Cx.nox (X : Cx) : Cx := X.wish fun _ _ => False
theorem Cx.Ok.wish {X : Cx} (ok : X.Ok) (E : Value → Shared → Prop) : (X.wish E).Ok :=
 ⟨ok.mod,ok.kind,ok.glob,ok.blt,ok.above,ok.inj,ok.has,ok.cab,ok.hd,ok.frames,ok.stk,ok.exf,ok.bs,ok.bsz,ok.noex,ok.exfs,ok.funs,ok.frf⟩
theorem Cx.Ok.unwish {X : Cx} {E : Value → Shared → Prop} (ok : (X.wish E).Ok) : X.Ok :=
 ⟨ok.mod,ok.kind,ok.glob,ok.blt,ok.above,ok.inj,ok.has,ok.cab,ok.hd,ok.frames,ok.stk,ok.exf,ok.bs,ok.bsz,ok.noex,ok.exfs,ok.funs,ok.frf⟩
section
variable {X : Cx} {pins : List (Addr × Obj)} {σ : St} {H : Hp} {s : Shared} {E : Value → Shared → Prop}
theorem Inv.wish (I : Inv X pins σ H s) (E : Value → Shared → Prop) : Inv (X.wish E) pins σ H s := ⟨I.ok.wish E,I.os,I.bare,I.base,I.loc,I.cell,I.free,I.freeC,I.pin,I.hok,I.len⟩
theorem Inv.unwish (I : Inv (X.wish E) pins σ H s) : Inv X pins σ H s := ⟨I.ok.unwish,I.os,I.bare,I.base,I.loc,I.cell,I.free,I.freeC,I.pin,I.hok,I.len⟩
theorem SP.unwish {D : Ends} {f : Flow} {s' : Shared} (h : SP (X.wish E) pins D f s') : SP X pins D f s' := by
 cases f with
 | next => obtain ⟨σ',H',I,q⟩ := h; exact ⟨σ',H',I.unwish,q⟩
 | brk => obtain ⟨σ',H',I,q⟩ := h; exact ⟨σ',H',I.unwish,q⟩
 | cont => obtain ⟨σ',H',I,q⟩ := h; exact ⟨σ',H',I.unwish,q⟩
 | ret u => obtain ⟨v,σ',H',I,r,q⟩ := h; exact ⟨v,σ',H',I.unwish,r,q⟩
theorem PSs.nox {st : List Stmt} {t : TS} (h : PSs X.nox st t) : PSs X st t := fun pins s σ H D I hw =>
 wpAny_mono (h pins s σ H D (I.wish _) hw) (fun _ _ q => q.unwish) fun _ _ z => False.elim z
end
section
variable {X : Cx} {st : Stmt} {rest : List Stmt} {t u : TS} {e : Expr} {te : TE} {pos : Pos}
def tNext : TS := fun D σ H => D.nx σ H
def tSeq (t u : TS) : TS := fun D σ H => t { D with nx := u D } σ H
theorem Ap : PSs X [] tNext := fun _ _ σ H _ I h => wpAny_execs_nil ⟨σ,H,I,h⟩
theorem Ad (h1 : PS X st t) (h2 : PSs X rest u) : PSs X (st :: rest) (tSeq t u) := by
 intro pins s σ H D I h
 refine wpAny_execs_cons (thn (h1 pins s σ H { D with nx := u D } I h) fun f s1 q => ?_)
 cases f with
 | next =>
   obtain ⟨σ',H',I',q⟩ := q
   exact h2 pins s1 σ' H' D I' q
 | ret v => exact q
 | brk => exact q
 | cont => exact q
theorem Ae (h1 : PS X st t) : PSs X [st] t := by
 intro pins s σ H D I h
 refine wpAny_execs_cons (thn (h1 pins s σ H D I h) fun f s1 q => ?_)
 cases f with
 | next => exact wpAny_execs_nil q
 | ret v => exact q
 | brk => exact q
 | cont => exact q
theorem Inv.quiet {pins : List (Addr × Obj)} {σ : St} {H : Hp} {s : Shared} (I : Inv X pins σ H s) : interactive X.env = false := by simp [interactive,I.ok.kind]
def tDrop (te : TE) : TS := fun D σ H => te σ H fun _ H1 => D.nx σ H1
theorem At (he : PE X e te) (hs : swapsWith e none pos.line X.env = pure false := by rfl) : PS X (.Expr e pos) (tDrop te) := by
 intro pins s σ H D I h
 exact wpAny_Expr_any (thn (he pins s σ H _ I h) fun v s1 ⟨x,H1,I1,r1,q1⟩ => ⟨σ,H1,I1,q1⟩) I.quiet hs
def tRet (te : TE) : TS := fun D σ H => te σ H D.rt
theorem As (he : PE X e te) : PS X (.Return (some e) pos) (tRet te) := by
 intro pins s σ H D I h
 exact wpAny_Return_some (thn (he pins s σ H _ I h) fun v s1 ⟨x,H1,I1,r1,q1⟩ => ⟨x,σ,H1,I1,r1,q1⟩)
def tIfS (c : TT) (t u : TS) : TS := fun D σ H => c σ H fun b H1 => if b = true then t D σ H1 else u D σ H1
theorem Bc {c : Expr} {a b : List Stmt} {tc : TT} (hc : PT X c tc) (ha : PSs X a t) (hb : PSs X b u) : PS X (.If c a b pos) (tIfS tc t u) := by
 intro pins s σ H D I h
 refine wpAny_If (thn (hc pins s σ H _ I h) fun d s1 ⟨H1,I1,q1⟩ => ?_)
 cases d with
 | true => exact ha pins s1 σ H1 D I1 q1
 | false => exact hb pins s1 σ H1 D I1 q1
def tNever : TS := fun _ _ _ => False
theorem An : PS X st tNever := fun _ _ _ _ _ _ h => h.elim
end
abbrev TG := V → St → Hp → (St → Hp → Prop) → Prop
abbrev TGs := List V → St → Hp → (St → Hp → Prop) → Prop
def PG (X : Cx) (target : Expr) (t : TG) : Prop :=
 ∀ (pins : List (Addr × Obj)) (s : Shared) (σ : St) (H : Hp) (v : V) (u : Value) (Q : St → Hp → Prop),Inv X pins σ H s → RelV v u → t v σ H Q →
  wpAny (model X.prog X.w) X.A (assign target X.env u) (fun _ s' => ∃ σ' H',Inv X pins σ' H' s' ∧ Q σ' H') X.xe s
def PGs (X : Cx) (ts : List Expr) (t : TGs) : Prop :=
 ∀ (pins : List (Addr × Obj)) (s : Shared) (σ : St) (H : Hp) (vs : List V) (us : List Value) (Q : St → Hp → Prop),Inv X pins σ H s → Vals vs us → t vs σ H Q →
  wpAny (model X.prog X.w) X.A (assignInOrder ((assignEach ts X.env).map (·.2)) us) (fun _ s' => ∃ σ' H',Inv X pins σ' H' s' ∧ Q σ' H') X.xe s
abbrev TSet := V → V → V → Hp → (Hp → Prop) → Prop
def PSet (X : Cx) (t : TSet) : Prop :=
 ∀ (pins : List (Addr × Obj)) (s : Shared) (σ : St) (H : Hp) (o i v : V) (ov iv u : Value) (Q : Hp → Prop),Inv X pins σ H s → RelV o ov → RelV i iv → RelV v u → t o i v H Q →
  wpAny (model X.prog X.w) X.A (setItem ov iv u) (fun _ s' => ∃ H',Inv X pins σ H' s' ∧ Q H') X.xe s
section
variable {X : Cx} {pos : Pos}
def gName (i : Nat) : TG := fun v σ H Q => Q (σ.set i (some v)) H
theorem Ao {i : Nat} {x : Str} (hN : X.N.Nodup) (hi : X.N[i]? = some x) (hx : Loc X.env.scope x) (hf : X.fn x = true ∨ X.env.scope.names.lookup x = some .local := by first | exact .inl rfl | exact .inr rfl | assumption) : PG X (.Name x pos) (gName i) := by
 intro pins s σ H v u Q I r h
 exact wpAny_assign_Name (store_ok I hN hi hx r (fun s' I' => ⟨_,H,I',h⟩) hf)
def gNil : TGs := fun vs σ H Q => vs = [] ∧ Q σ H
def gCons (t : TG) (u : TGs) : TGs := fun vs σ H Q => ∃ v r,vs = v :: r ∧ t v σ H fun σ' H' => u r σ' H' Q
theorem Cl : PGs X [] gNil := by
 intro pins s σ H vs us Q I r h
 obtain ⟨e,h⟩ := h
 subst e
 cases r
 exact assignInOrder_nil ⟨σ,H,I,h⟩
theorem A4 {e : Expr} {es : List Expr} {t : TG} {u : TGs} (h1 : PG X e t) (h2 : PGs X es u)
 (hs : (assignEach (e :: es) X.env).map (·.2) = assign e X.env :: (assignEach es X.env).map (·.2) := by rfl) : PGs X (e :: es) (gCons t u) := by
 intro pins s σ H vs us Q I r h
 obtain ⟨v,vr,e1,h⟩ := h
 subst e1
 cases r with
 | cons r rr =>
   rw [hs]
   refine assignInOrder_cons (thn (h1 pins s σ H _ _ _ I r h) fun _ s1 ⟨σ1,H1,I1,q1⟩ => ?_)
   exact h2 pins s1 σ1 H1 _ _ Q I1 rr q1
def gTup (K : PySem.W.Frag) (n : Nat) (t : TGs) : TG := fun v σ H Q => ∃ a xs,v = .ref a ∧ SqT K H a xs ∧ xs.length = n ∧ t xs σ H Q
theorem pg_tup {es : List Expr} {k : Nat} {t : TGs} {n : Nat} (hc : X.calm = true) (h : PGs X es t)
 (hn : (assignEach es X.env).length = n := by rfl) (hst : (assignEach es X.env).findIdx? (·.1) = none := by rfl) : PG X (.Tuple es k pos) (gTup X.K n t) := by
 intro pins s σ H v u Q I r hw
 obtain ⟨a,xs,e1,hq,hl,hw⟩ := hw
 subst e1
 cases r
 obtain ⟨its,rv,ht,hz⟩ := I.tuple hq
 refine assign_Tuple_tuple (I.ok.hd hc) ht (by simp [hn,← hl,rv.length]) hst fun h' hx => ?_
 have I1 : Inv X pins σ H { s with heap := h' } := I.kept (t' := s.toks) fun b o e => hx b o (Nat.ne_of_lt (Heap.lt_size e)) e
 exact h pins _ σ H xs _ Q I1 (by simpa using rv) hw
def gSub (to ti : TE) (t : TSet) : TG := fun v σ H Q => to σ H fun o H1 => ti σ H1 fun i H2 => t o i v H2 fun H3 => Q σ H3
theorem pg_sub {o i : Expr} {to ti : TE} {t : TSet} (ho : PE X o to) (hi : PE X i ti) (hs : PSet X t)
 (ha : ∀ v,assign (.Subscript o i pos) X.env v = (do
   let ov ← holding [v] (eval o X.env)
   let iv ← holding [v,ov] (eval i X.env)
   standAt pos
   holding [v,ov,iv] (setItem ov iv v)
   release [v,ov,iv] []) := by intro _; rfl) : PG X (.Subscript o i pos) (gSub to ti t) := by
 intro pins s σ H v u Q I r h
 rw [ha]
 refine wpAny_bind (wpAny_holding (thn (ho pins s σ H _ I h) fun ov s1 ⟨x,H1,I1,r1,q1⟩ => ?_))
 refine wpAny_bind (wpAny_holding (thn (hi pins s1 σ H1 _ I1 q1) fun iv s2 ⟨y,H2,I2,r2,q2⟩ => ?_))
 refine wpAny_bind (wpAny_standAt (wpAny_bind (wpAny_holding (thn (hs pins s2 σ H2 x y v ov iv u _ I2 r1 r2 r q2) fun _ s3 ⟨H3,I3,q3⟩ => ?_))))
 exact wpAny_release ⟨σ,H3,I3,q3⟩
def tAsg (te : TE) (g : TG) : TS := fun D σ H => te σ H fun x H1 => g x σ H1 D.nx
theorem ps_asg {tg e : Expr} {te : TE} {g : TG} (he : PE X e te) (hg : PG X tg g) (hs : swapsWithSole [tg] e pos.line X.env = pure false := by rfl) (hw : swappedStores [tg] e X.env = pure none := by rfl)
 (h1 : (assignEach [tg] X.env).map (·.2) = [assign tg X.env] := by rfl) : PS X (.Assign [tg] e pos) (tAsg te g) := by
 intro pins s σ H D I h
 refine wpAny_Assign_stores (thn (he pins s σ H _ I h) fun v s1 ⟨x,H1,I1,r1,q1⟩ => ?_) hs hw
 rw [h1]
 exact thn (hg pins s1 σ H1 x v _ I1 r1 q1) fun _ s2 q => q
theorem A3 {i : Nat} {x : Str} {e : Expr} {te : TE} {pos' : Pos} (hN : X.N.Nodup) (hi : X.N[i]? = some x) (hx : Loc X.env.scope x) (he : PE X e te) (hs : swapsWith e (some (.Name x pos')) pos.line X.env = pure false := by rfl) (hf : X.fn x = true ∨ X.env.scope.names.lookup x = some .local := by first | exact .inl rfl | exact .inr rfl | assumption) :
 PS X (.Assign [.Name x pos'] e pos) (tAsg te (gName i)) := by
 intro pins s σ H D I h
 refine wpAny_Assign_Name (thn (he pins s σ H _ I h) fun v s1 ⟨y,H1,I1,r1,q1⟩ => ?_) hs
 exact store_ok I1 hN hi hx r1 (fun s2 I2 => ⟨_,H1,I2,q1⟩) hf
end
section
variable {X : Cx} {pos : Pos}
end
structure It where
 go : Nat → Hp → Prop
 yld : Nat → Hp → V → Hp → Prop
 stop : Nat → Hp → Prop
def FpOk (X : Cx) (pins : List (Addr × Obj)) (H : Hp) (b : Addr) : Prop :=
 H b = none ∧ b ≠ X.env.locals ∧ b ∉ X.fs ∧ (b ∈ X.ex ∨ X.s₀.heap.objs.size ≤ b) ∧ (∀ x c,X.env.cells.lookup x = some c → c ≠ b) ∧ ∀ p ∈ X.pn ++ pins,p.1 ≠ b
theorem Inv.fpOk {X : Cx} {pins : List (Addr × Obj)} {σ : St} {H H' : Hp} {s : Shared} {b : Addr} (I : Inv X pins σ H s) (hb : s.heap.objs.size ≤ b) (hn : H' b = none) : FpOk X pins H' b := by
 refine ⟨hn,Nat.ne_of_gt (Nat.lt_of_lt_of_le I.lt hb),I.nofs hb,.inr (Nat.le_trans I.sz hb),fun x c e z => ?_,fun p hp z => ?_⟩
 ·obtain ⟨v,q⟩ := I.cell x c e
  exact absurd (Nat.lt_of_lt_of_le q.lt (by rw [z]; exact hb)) (Nat.lt_irrefl _)
 ·exact absurd (Nat.lt_of_lt_of_le (Heap.lt_size (I.pin p hp).1) (by rw [z]; exact hb)) (Nat.lt_irrefl _)
structure Turn (P : Program) (w : World) (K : PySem.W.Frag) (tg : Expr) (J : It) (fp : List Addr) (it : Addr) (tn : Nat → Heap → Prop) : Prop where
 mem : it ∈ fp
 obj : ∀ i h,tn i h → ∀ b ∈ fp,∃ o,h.get? b = some o ∧ ∀ v,o.data ≠ .cell v
 keep : ∀ i h h',tn i h → (∀ b ∈ fp,∀ o,h.get? b = some o → h'.get? b = some o) → tn i h'
 item : ∀ (X : Cx),X.prog = P → X.w = w → X.K = K → X.calm = true → ∀ (i : Nat) (pins : List (Addr × Obj)) (s : Shared) (σ : St) (H : Hp) (E : Value → Shared → Prop),Inv X pins σ H s → (∀ b ∈ fp,FpOk X pins H b) → tn i s.heap → J.go i H →
  wpAny (model P w) X.A (pyNext (.ref it)) (fun r s1 => ∃ u,r = some u ∧
   wpAny (model P w) X.A (letOwnedTupleGo tg (.ref it) u) (fun _ s2 => ∃ x H',Inv X pins σ H' s2 ∧ RelV x u ∧ J.yld i H x H' ∧ tn (i + 1) s2.heap ∧ ∀ b ∈ fp,H' b = none) E s1) E s
 done : ∀ (X : Cx),X.prog = P → X.w = w → X.K = K → X.calm = true → ∀ (i : Nat) (pins : List (Addr × Obj)) (s : Shared) (σ : St) (H : Hp) (E : Value → Shared → Prop),Inv X pins σ H s → (∀ b ∈ fp,FpOk X pins H b) → tn i s.heap → J.stop i H →
  wpAny (model P w) X.A (pyNext (.ref it)) (fun r s1 => r = none ∧ Inv X pins σ H s1) E s
 self : ∀ (A : Around) (i : Nat) (s : Shared) (Q : Value → Shared → Prop) (E : Value → Shared → Prop),tn i s.heap → Q (.ref it) s → wpAny (model P w) A (pyIter (.ref it)) Q E s
abbrev TI := St → Hp → (It → Hp → Prop) → Prop
def PIE (X : Cx) (pins : List (Addr × Obj)) (σ : St) (tg : Expr) (R : It → Hp → Prop) (itv : Value) (s2 : Shared) : Prop :=
 ∃ (it : Addr) (fp : List Addr) (tn : Nat → Heap → Prop) (J : It) (H' : Hp),itv = .ref it ∧ Inv X pins σ H' s2 ∧ Turn X.prog X.w X.K tg J fp it tn ∧ tn 0 s2.heap ∧ (∀ b ∈ fp,FpOk X pins H' b) ∧ R J H'
def PI (X : Cx) (tg iter : Expr) (wi : TI) : Prop :=
 ∀ (pins : List (Addr × Obj)) (s : Shared) (σ : St) (H : Hp) (R : It → Hp → Prop),Inv X pins σ H s → wi σ H R →
  wpAny (model X.prog X.w) X.A (eval iter X.env) (fun v s1 => wpAny (model X.prog X.w) X.A (pyIter v) (PIE X pins σ tg R) X.xe s1) X.xe s
theorem go_of {M : Model} {A : Around} {E : Value → Shared → Prop} {s : Shared} {tg : Expr} {it : Addr} {u : Value} {o : Obj} {n : String} {vs : Array Value} {Q : Unit → Shared → Prop} (ho : s.heap.get? it = some o) (hc : o.cls = .type n) (hd : o.data = .fields vs)
 (hn : ["enumerate","zip","dict_itemiterator","dict_reverseitemiterator","odict_iterator","itertools.zip_longest","itertools.pairwise"].contains n = false) (hQ : Q () s) : wpAny M A (letOwnedTupleGo tg (.ref it) u) Q E s := by
 unfold letOwnedTupleGo
 cases tg <;> first
  | exact wpAny_pure hQ
  | (cases u <;> first
      | exact wpAny_pure hQ
      | (refine wpAny_bind (wpAny_load ho ?_)
         rw [hc,hd]
         show wpAny M A (if (["enumerate","zip","dict_itemiterator","dict_reverseitemiterator","odict_iterator","itertools.zip_longest","itertools.pairwise"].contains n && vs[0]? == some (rawInt _)) = true then _ else _) Q E s
         rw [if_neg (by intro h; rw [hn,Bool.false_and] at h; cases h)]
         exact wpAny_pure hQ))
def Itl (K : PySem.W.Frag) (a : Addr) : It :=
 ⟨fun i H => ∃ xs x,SqL K H a xs ∧ xs[i]? = some x,fun i H x H' => H' = H ∧ ∀ xs,SqL K H a xs → xs[i]? = some x,fun i H => ∃ xs,SqL K H a xs ∧ xs.length ≤ i⟩
def Itt (K : PySem.W.Frag) (a : Addr) : It :=
 ⟨fun i H => ∃ xs x,SqT K H a xs ∧ xs[i]? = some x,fun i H x H' => H' = H ∧ ∀ xs,SqT K H a xs → xs[i]? = some x,fun i H => ∃ xs,SqT K H a xs ∧ xs.length ≤ i⟩
def Itr (lo : Int) (n : Nat) : It := ⟨fun i _ => i < n,fun i H x H' => H' = H ∧ x = .int (lo + i),fun i _ => n ≤ i⟩
theorem turn_list {P : Program} {w : World} {K : PySem.W.Frag} {tg : Expr} (a it : Addr) : Turn P w K tg (Itl K a) [it] it (fun i h => h.IsListIter it a i) where
 mem := by simp
 obj := fun i h st b hb => by
  have e : b = it := by simpa using hb
  subst e
  obtain ⟨o,e,c,d⟩ := st
  exact ⟨o,e,fun v z => by rw [d] at z; cases z⟩
 keep := fun i h h' st k => st.at fun o e => k it (by simp) o e
 item := by
  intro X hP hw hK hc i pins s σ H E I hf st hg
  subst hP hw hK
  obtain ⟨xs,x,hq,hx⟩ := hg
  obtain ⟨its,rv,p,hz⟩ := I.list hq
  obtain ⟨u,hu,ru⟩ := rv.get hx
  obtain ⟨f0,f1,f2,f3,f4,f5⟩ := hf it (by simp)
  refine wpAny_pyNext_list_item st p.isList (x := u) (by simpa using hu) fun h' st' sb => ?_
  have I1 : Inv X pins σ H { s with heap := h' } := I.turned (t' := s.toks) (fun b o hb e => (sb.2 b hb).trans e) f0 f1 f3 f4 f5
  obtain ⟨o,e,c,d⟩ := id st'
  exact ⟨u,rfl,go_of (s := { s with heap := h' }) e c d (by decide) ⟨x,H,I1,ru,⟨rfl,fun ys hy => by rw [I.list_inj hy hq]; exact hx⟩,st',fun b hb => (hf b hb).1⟩⟩
 done := by
  intro X hP hw hK hc i pins s σ H E I hf st hg
  subst hP hw hK
  obtain ⟨xs,hq,hx⟩ := hg
  obtain ⟨its,rv,p,hz⟩ := I.list hq
  obtain ⟨f0,f1,f2,f3,f4,f5⟩ := hf it (by simp)
  have hl := rv.length
  exact wpAny_pyNext_list_end (I.ok.hd hc) st p.isList (by simp; omega) fun h' eb => ⟨rfl,I.turned (t' := s.toks) (fun b o hb e => eb b o hb e) f0 f1 f3 f4 f5⟩
 self := fun _ _ _ _ _ st h => wpAny_pyIter_listiter st h
theorem turn_tuple {P : Program} {w : World} {K : PySem.W.Frag} {tg : Expr} (a it : Addr) : Turn P w K tg (Itt K a) [it] it (fun i h => h.IsTupleIter it a i) where
 mem := by simp
 obj := fun i h st b hb => by
  have e : b = it := by simpa using hb
  subst e
  obtain ⟨o,e,c,d⟩ := st
  exact ⟨o,e,fun v z => by rw [d] at z; cases z⟩
 keep := fun i h h' st k => st.at fun o e => k it (by simp) o e
 item := by
  intro X hP hw hK hc i pins s σ H E I hf st hg
  subst hP hw hK
  obtain ⟨xs,x,hq,hx⟩ := hg
  obtain ⟨its,rv,p,hz⟩ := I.tuple hq
  obtain ⟨u,hu,ru⟩ := rv.get hx
  obtain ⟨f0,f1,f2,f3,f4,f5⟩ := hf it (by simp)
  refine wpAny_pyNext_tuple_item st (show s.heap.IsTuple a its.toArray from p) (x := u) (by simpa using hu) fun h' st' sb => ?_
  have I1 : Inv X pins σ H { s with heap := h' } := I.turned (t' := s.toks) (fun b o hb e => (sb.2 b hb).trans e) f0 f1 f3 f4 f5
  obtain ⟨o,e,c,d⟩ := id st'
  exact ⟨u,rfl,go_of (s := { s with heap := h' }) e c d (by decide) ⟨x,H,I1,ru,⟨rfl,fun ys hy => by rw [I.tuple_inj hy hq]; exact hx⟩,st',fun b hb => (hf b hb).1⟩⟩
 done := by
  intro X hP hw hK hc i pins s σ H E I hf st hg
  subst hP hw hK
  obtain ⟨xs,hq,hx⟩ := hg
  obtain ⟨its,rv,p,hz⟩ := I.tuple hq
  obtain ⟨f0,f1,f2,f3,f4,f5⟩ := hf it (by simp)
  have hl := rv.length
  exact wpAny_pyNext_tuple_end (I.ok.hd hc) st (show s.heap.IsTuple a its.toArray from p) (by simp; omega) fun h' eb => ⟨rfl,I.turned (t' := s.toks) (fun b o hb e => eb b o hb e) f0 f1 f3 f4 f5⟩
 self := fun _ _ _ _ _ st h => wpAny_pyIter_tupleiter st h
theorem turn_range {P : Program} {w : World} {K : PySem.W.Frag} {tg : Expr} (it : Addr) (lo : Int) (n : Nat) : Turn P w K tg (Itr lo n) [it] it (fun i h => IsRangeIter h it (lo + (i : Nat) * 1) ((n : Int) - (i : Nat)) 1) where
 mem := by simp
 obj := fun i h st b hb => by
  have e : b = it := by simpa using hb
  subst e
  exact ⟨_,st,fun v z => by
   have z' : Data.fields _ = Data.cell v := z
   cases z'⟩
 keep := fun i h h' st k => k it (by simp) _ st
 item := by
  intro X hP hw hK hc i pins s σ H E I hf st hg
  subst hP hw hK
  obtain ⟨f0,f1,f2,f3,f4,f5⟩ := hf it (by simp)
  have W := Walks.range (prog := X.prog) (w := X.w) (I.ok.hd hc) it lo 1 n
  refine W.item i s _ _ hg st fun v h' tk hv st' kk => ?_
  obtain ⟨t,rfl⟩ := hv
  have I1 : Inv X pins σ H { s with heap := h',toks := tk } := I.turned (fun b o hb e => kk b o (by simpa using hb) e) f0 f1 f3 f4 f5
  refine ⟨_,rfl,go_of (s := { s with heap := h',toks := tk }) (n := "range_iterator") st' rfl rfl (by decide) ⟨.int (lo + i),H,I1,⟨t,?_⟩,⟨rfl,rfl⟩,st',fun b hb => (hf b hb).1⟩⟩
  rw [Int.mul_one]
 done := by
  intro X hP hw hK hc i pins s σ H E I hf st hg
  subst hP hw hK
  obtain ⟨f0,f1,f2,f3,f4,f5⟩ := hf it (by simp)
  exact wpAny_pyNext_range_end (I.ok.hd hc) st (by have : n ≤ i := hg; omega) fun h' eb => ⟨rfl,I.turned (t' := s.toks) (fun b o hb e => eb b o hb e) f0 f1 f3 f4 f5⟩
 self := fun _ _ _ _ _ st h => wpAny_pyIter_rangeiter st h
end L2
namespace L2
open PySem PySem.Spec PyProof.Rows
section
variable {X : Cx} {tg : Expr}
def iList (K : PySem.W.Frag) (tl : TE) : TI := fun σ H R => tl σ H fun x H1 => ∃ a,x = .ref a ∧ (∃ xs,SqL K H1 a xs) ∧ R (Itl K a) H1
def iTup (K : PySem.W.Frag) (tl : TE) : TI := fun σ H R => tl σ H fun x H1 => ∃ a,x = .ref a ∧ (∃ xs,SqT K H1 a xs) ∧ R (Itt K a) H1
theorem Be {l : Expr} {tl : TE} (hl : PE X l tl) : PI X tg l (iList X.K tl) := by
 intro pins s σ H R I h
 refine thn (hl pins s σ H _ I h) fun v s1 ⟨x,H1,I1,r1,q1⟩ => ?_
 obtain ⟨a,e,⟨xs,hq⟩,q⟩ := q1
 subst e
 cases r1
 obtain ⟨its,rv,p,hz⟩ := I1.list hq
 refine wpAny_pyIter_list p.isList ?_
 refine ⟨s1.heap.objs.size,[s1.heap.objs.size],_,_,H1,rfl,I1.kept (t' := s1.toks) fun b o e => Heap.get?_push_of_some _ e,turn_list a _,⟨_,Heap.get?_push_size _ rfl,rfl,rfl⟩,fun b hb => ?_,q⟩
 have e : b = s1.heap.objs.size := by simpa using hb
 subst e
 exact I1.fpOk (Nat.le_refl _) (I1.hok.fresh (Nat.le_refl _))
theorem pi_tup {l : Expr} {tl : TE} (hl : PE X l tl) : PI X tg l (iTup X.K tl) := by
 intro pins s σ H R I h
 refine thn (hl pins s σ H _ I h) fun v s1 ⟨x,H1,I1,r1,q1⟩ => ?_
 obtain ⟨a,e,⟨xs,hq⟩,q⟩ := q1
 subst e
 cases r1
 obtain ⟨its,rv,p,hz⟩ := I1.tuple hq
 refine wpAny_pyIter_tuple (show s1.heap.IsTuple a its.toArray from p) ?_
 refine ⟨s1.heap.objs.size,[s1.heap.objs.size],_,_,H1,rfl,I1.kept (t' := s1.toks) fun b o e => Heap.get?_push_of_some _ e,turn_tuple a _,⟨_,Heap.get?_push_size _ rfl,rfl,rfl⟩,fun b hb => ?_,q⟩
 have e : b = s1.heap.objs.size := by simpa using hb
 subst e
 exact I1.fpOk (Nat.le_refl _) (I1.hok.fresh (Nat.le_refl _))
theorem range_it {pins : List (Addr × Obj)} {σ : St} {H : Hp} {s : Shared} {R : It → Hp → Prop} {E : Value → Shared → Prop} {lo hi : Int} {t u v : Tok} {tk : Nat} (I : Inv X pins σ H s) (h1 : -(2 ^ 62) ≤ lo) (h2 : lo < 2 ^ 62) (h3 : -(2 ^ 62) ≤ hi) (h4 : hi < 2 ^ 62)
 (q : R (Itr lo (hi - lo).toNat) H) : wpAny (model X.prog X.w) X.A (pyIter (.ref s.heap.objs.size)) (PIE X pins σ tg R) E { s with heap := s.heap.push { cls := .type "range",data := .fields #[.int lo t,.int hi u,.int 1 v] },toks := tk } := by
 refine wpAny_pyIter_range (IsRange.new ..) (small_one h1 h2 h3 h4) ?_
 have I1 : Inv X pins σ H { s with heap := s.heap.push { cls := .type "range",data := .fields #[.int lo t,.int hi u,.int 1 v] },toks := tk } := I.kept fun b o e => Heap.get?_push_of_some _ e
 refine ⟨(s.heap.push { cls := .type "range",data := .fields #[.int lo t,.int hi u,.int 1 v] }).objs.size,[(s.heap.push { cls := .type "range",data := .fields #[.int lo t,.int hi u,.int 1 v] }).objs.size],_,_,H,rfl,
  I1.kept (t' := tk) fun b o e => Heap.get?_push_of_some _ e,turn_range _ lo (hi - lo).toNat,?_,fun b hb => ?_,q⟩
 ·have e1 : lo + ((0 : Nat) : Int) * 1 = lo := by simp
  have e2 : (((hi - lo).toNat : Nat) : Int) - ((0 : Nat) : Int) = Builtin.Range.rangeSize lo hi 1 := by rw [rangeSize_one]; split <;> omega
  show IsRangeIter _ _ (lo + ((0 : Nat) : Int) * 1) ((((hi - lo).toNat : Nat) : Int) - ((0 : Nat) : Int)) 1
  rw [e1,e2]
  exact Heap.get?_push_size _ rfl
 ·have e : b = (s.heap.push { cls := .type "range",data := .fields #[.int lo t,.int hi u,.int 1 v] }).objs.size := by simpa using hb
  subst e
  exact I1.fpOk (Nat.le_refl _) (I1.hok.fresh (Nat.le_refl _))
def iRng1 (ta : TA) : TI := fun σ H R => ta σ H fun vs H1 => ∃ j : Int,vs = [.int j] ∧ -(2 ^ 62) ≤ j ∧ j < 2 ^ 62 ∧ R (Itr 0 j.toNat) H1
theorem pi_range1 {a : Expr} {ta : TA} {p pos : Pos} (hg : Gl X "range") (hm : X.mg "range" = none) (ha : PA X [a] ta) (hs : starEach [a] X.env = [(false,eval a X.env)] := by rfl) : PI X tg (.Call (.Name "range" p) [a] [] pos) (iRng1 ta) := by
 intro pins s σ H R I h
 refine Call_ (ld_blt I hg hm boot_range (PyProof.Rows.callWith_type1 (thn (ha pos pins s σ H _ I h) fun us s1 ⟨vs,H1,I1,r1,q1⟩ => ?_) hs rfl))
 obtain ⟨j,e,q1,q2,q⟩ := q1
 subst e
 cases r1 with
 | cons r rr =>
   cases rr
   obtain ⟨t,rfl⟩ := r
   exact call_range_1 (range_it I1 (by omega) (by omega) q1 q2 (by simpa using q))
def tFor (wi : TI) (g : TG) (tb : TS) : TS := fun D σ H => wi σ H fun J H1 => ∃ W : Nat → Nat → St → Hp → Prop,(∃ m,W 0 m σ H1) ∧ ∀ i m σ H,W i m σ H →
 (J.stop i H ∧ D.nx σ H) ∨ (J.go i H ∧ ∃ N : St → Hp → Prop,(∀ σ' H',N σ' H' → ∃ m',m' < m ∧ W (i + 1) m' σ' H') ∧ ∀ x H',J.yld i H x H' → g x σ H' fun σ2 H2 => tb { D with nx := N,ct := N,bk := D.nx } σ2 H2)
def pinsAt (fp : List Addr) (h : Heap) : List (Addr × Obj) := fp.filterMap fun b => (h.get? b).map fun o => (b,o)
theorem mem_pinsAt {fp : List Addr} {h : Heap} {b : Addr} {o : Obj} (hb : b ∈ fp) (e : h.get? b = some o) : (b,o) ∈ pinsAt fp h := List.mem_filterMap.mpr ⟨b,hb,by rw [e]; rfl⟩
theorem of_pinsAt {fp : List Addr} {h : Heap} {p : Addr × Obj} (hp : p ∈ pinsAt fp h) : p.1 ∈ fp ∧ h.get? p.1 = some p.2 := by
 obtain ⟨b,hb,e⟩ := List.mem_filterMap.mp hp
 cases q : h.get? b with
 | none => rw [q] at e; cases e
 | some o =>
   rw [q] at e
   have e' : (b,o) = p := Option.some.inj e
   subst e'
   exact ⟨hb,q⟩
theorem Inv.pinned {pins : List (Addr × Obj)} {σ : St} {H : Hp} {s : Shared} {fp : List Addr} (I : Inv X pins σ H s) (hf : ∀ b ∈ fp,FpOk X pins H b) (ho : ∀ b ∈ fp,∃ o,s.heap.get? b = some o ∧ ∀ v,o.data ≠ .cell v) : Inv X (pins ++ pinsAt fp s.heap) σ H s :=
 I.pins_of fun p hp => (List.mem_append.mp hp).elim (fun z => I.pin p (List.mem_append_right _ z)) fun z => by
  obtain ⟨hb,e⟩ := of_pinsAt z
  obtain ⟨f0,f1,f2,_⟩ := hf p.1 hb
  obtain ⟨o,e',d⟩ := ho p.1 hb
  rw [e] at e'; cases e'
  exact ⟨e,f0,f1,f2,d⟩
theorem Inv.unpinned {pins pl : List (Addr × Obj)} {σ : St} {H : Hp} {s : Shared} (I : Inv X (pins ++ pl) σ H s) : Inv X pins σ H s := I.pins_of fun p hp => I.pin p (List.mem_append_right _ (List.mem_append_left _ hp))
theorem Ck {iter : Expr} {body : List Stmt} {wi : TI} {g : TG} {tb : TS} {pos : Pos} (hp : PassesOwn (model X.prog X.w) X.A X.env X.xe) (hc : X.calm = true) (hi : PI X tg iter wi) (hg : PG X tg g) (hb : PSs X body tb)
 (hs : ∀ x,foldedSetIterable iter X.env x = pure x := by intro _; rfl) : PS X (.For tg iter body [] pos) (tFor wi g tb) := by
 intro pins s σ H D I h
 refine wpAny_For (thn (hi pins s σ H _ I h) fun v s1 h1 => thn h1 fun itv s2 h2 => ?_) hs
 obtain ⟨it,fp,tn,J,H2,e,I2,T,st2,f2,W,⟨m0,w0⟩,turn⟩ := h2
 subst e
 have stat : ∀ {H' : Hp},(∀ b ∈ fp,H' b = none) → ∀ b ∈ fp,FpOk X pins H' b := fun hn b hb => ⟨hn b hb,(f2 b hb).2⟩
 refine codeAny_forLoop_any (fun n s' => ∃ i σ' H',Inv X pins σ' H' s' ∧ tn i s'.heap ∧ (∀ b ∈ fp,H' b = none) ∧ W i n σ' H') ?_ m0 ⟨0,σ,H2,I2,st2,fun b hb => (f2 b hb).1,w0⟩
 rintro n s3 ⟨i,σ3,H3,I3,st3,fr3,w3⟩
 rcases turn i n σ3 H3 w3 with ⟨stop,qn⟩ | ⟨go,N,hN,step⟩
 ·refine wpAny_passesOwn hp (thn (T.done X rfl rfl rfl hc i pins s3 σ3 H3 X.xe I3 (stat fr3) st3 stop) fun r s4 ⟨hr,I4⟩ => ?_)
  subst hr
  exact wpAny_execs_nil ⟨σ3,H3,I4,qn⟩
 ·refine wpAny_passesOwn hp (thn (T.item X rfl rfl rfl hc i pins s3 σ3 H3 X.xe I3 (stat fr3) st3 go) fun r s4 ⟨u,hr,h4⟩ => ?_)
  subst hr
  refine wpAny_passesOwn hp (thn h4 fun _ s5 ⟨x,H5,I5,r5,y5,st5,fr5⟩ => ?_)
  have I5' := I5.pinned (stat fr5) (T.obj _ _ st5)
  refine wpAny_passesOwn hp (thn (hg _ s5 σ3 H5 x u _ I5' r5 (step x H5 y5)) fun _ s6 ⟨σ6,H6,I6,q6⟩ => ?_)
  refine wpAny_passesOwn hp (thn (hb _ s6 σ6 H6 _ I6 q6) fun f s7 q7 => ?_)
  have again : ∀ {σ7 : St} {H7 : Hp},Inv X (pins ++ pinsAt fp s5.heap) σ7 H7 s7 → N σ7 H7 → ∃ m,m < n ∧ ∃ i σ' H',Inv X pins σ' H' s7 ∧ tn i s7.heap ∧ (∀ b ∈ fp,H' b = none) ∧ W i m σ' H' := fun {σ7 H7} I7 n7 => by
   obtain ⟨m',hm,w7⟩ := hN σ7 H7 n7
   refine ⟨m',hm,i + 1,σ7,H7,I7.unpinned,T.keep _ _ _ st5 fun b hb o e => (I7.pin (b,o) (List.mem_append_right _ (List.mem_append_right _ (mem_pinsAt hb e)))).1,fun b hb => ?_,w7⟩
   obtain ⟨o,e,d⟩ := T.obj _ _ st5 b hb
   exact (I7.pin (b,o) (List.mem_append_right _ (List.mem_append_right _ (mem_pinsAt hb e)))).2.1
  cases f with
  | next => obtain ⟨σ7,H7,I7,n7⟩ := q7; exact again I7 n7
  | cont => obtain ⟨σ7,H7,I7,n7⟩ := q7; exact again I7 n7
  | brk => obtain ⟨σ7,H7,I7,q7⟩ := q7; exact ⟨σ7,H7,I7.unpinned,q7⟩
  | ret v => obtain ⟨x7,σ7,H7,I7,r7,q7⟩ := q7; exact ⟨x7,σ7,H7,I7.unpinned,r7,q7⟩
end
theorem B0 {K : PySem.W.Frag} {a : Addr} {xs : List V} {g : TG} {tb : TS} {D : Ends} {σ : St} {H : Hp} (Pv : Nat → St → Hp → Prop) (h0 : Pv 0 σ H) (hl : ∀ i σ H,i ≤ xs.length → Pv i σ H → SqL K H a xs)
 (hs : ∀ i x σ H,xs[i]? = some x → Pv i σ H → g x σ H fun σ2 H2 => tb { D with nx := Pv (i + 1),ct := Pv (i + 1),bk := D.nx } σ2 H2) (hd : ∀ σ H,Pv xs.length σ H → D.nx σ H) :
 ∃ W : Nat → Nat → St → Hp → Prop,(∃ m,W 0 m σ H) ∧ ∀ i m σ H,W i m σ H →
  ((Itl K a).stop i H ∧ D.nx σ H) ∨ ((Itl K a).go i H ∧ ∃ N : St → Hp → Prop,(∀ σ' H',N σ' H' → ∃ m',m' < m ∧ W (i + 1) m' σ' H') ∧ ∀ x H',(Itl K a).yld i H x H' → g x σ H' fun σ2 H2 => tb { D with nx := N,ct := N,bk := D.nx } σ2 H2) := by
 refine ⟨fun i m σ H => m = xs.length - i ∧ i ≤ xs.length ∧ Pv i σ H,⟨xs.length,by simp,Nat.zero_le _,h0⟩,?_⟩
 rintro i m σ H ⟨rfl,hi,p⟩
 have q := hl i σ H hi p
 by_cases hlt : i < xs.length
 ·refine .inr ⟨⟨xs,xs[i],q,by simp [hlt]⟩,Pv (i + 1),fun σ' H' p' => ⟨xs.length - (i + 1),by omega,rfl,hlt,p'⟩,fun x H' y => ?_⟩
  obtain ⟨e,y⟩ := y
  subst e
  exact hs i x σ _ (y xs q) p
 ·have e : i = xs.length := by omega
  subst e
  exact .inl ⟨⟨xs,q,Nat.le_refl _⟩,hd σ H p⟩
theorem for_tup {K : PySem.W.Frag} {a : Addr} {xs : List V} {g : TG} {tb : TS} {D : Ends} {σ : St} {H : Hp} (Pv : Nat → St → Hp → Prop) (h0 : Pv 0 σ H) (hl : ∀ i σ H,i ≤ xs.length → Pv i σ H → SqT K H a xs)
 (hs : ∀ i x σ H,xs[i]? = some x → Pv i σ H → g x σ H fun σ2 H2 => tb { D with nx := Pv (i + 1),ct := Pv (i + 1),bk := D.nx } σ2 H2) (hd : ∀ σ H,Pv xs.length σ H → D.nx σ H) :
 ∃ W : Nat → Nat → St → Hp → Prop,(∃ m,W 0 m σ H) ∧ ∀ i m σ H,W i m σ H →
  ((Itt K a).stop i H ∧ D.nx σ H) ∨ ((Itt K a).go i H ∧ ∃ N : St → Hp → Prop,(∀ σ' H',N σ' H' → ∃ m',m' < m ∧ W (i + 1) m' σ' H') ∧ ∀ x H',(Itt K a).yld i H x H' → g x σ H' fun σ2 H2 => tb { D with nx := N,ct := N,bk := D.nx } σ2 H2) := by
 refine ⟨fun i m σ H => m = xs.length - i ∧ i ≤ xs.length ∧ Pv i σ H,⟨xs.length,by simp,Nat.zero_le _,h0⟩,?_⟩
 rintro i m σ H ⟨rfl,hi,p⟩
 have q := hl i σ H hi p
 by_cases hlt : i < xs.length
 ·refine .inr ⟨⟨xs,xs[i],q,by simp [hlt]⟩,Pv (i + 1),fun σ' H' p' => ⟨xs.length - (i + 1),by omega,rfl,hlt,p'⟩,fun x H' y => ?_⟩
  obtain ⟨e,y⟩ := y
  subst e
  exact hs i x σ _ (y xs q) p
 ·have e : i = xs.length := by omega
  subst e
  exact .inl ⟨⟨xs,q,Nat.le_refl _⟩,hd σ H p⟩
theorem for_range {lo : Int} {n : Nat} {g : TG} {tb : TS} {D : Ends} {σ : St} {H : Hp} (Pv : Nat → St → Hp → Prop) (h0 : Pv 0 σ H)
 (hs : ∀ i σ H,i < n → Pv i σ H → g (.int (lo + i)) σ H fun σ2 H2 => tb { D with nx := Pv (i + 1),ct := Pv (i + 1),bk := D.nx } σ2 H2) (hd : ∀ σ H,Pv n σ H → D.nx σ H) :
 ∃ W : Nat → Nat → St → Hp → Prop,(∃ m,W 0 m σ H) ∧ ∀ i m σ H,W i m σ H →
  ((Itr lo n).stop i H ∧ D.nx σ H) ∨ ((Itr lo n).go i H ∧ ∃ N : St → Hp → Prop,(∀ σ' H',N σ' H' → ∃ m',m' < m ∧ W (i + 1) m' σ' H') ∧ ∀ x H',(Itr lo n).yld i H x H' → g x σ H' fun σ2 H2 => tb { D with nx := N,ct := N,bk := D.nx } σ2 H2) := by
 refine ⟨fun i m σ H => m = n - i ∧ i ≤ n ∧ Pv i σ H,⟨n,by simp,Nat.zero_le _,h0⟩,?_⟩
 rintro i m σ H ⟨rfl,hi,p⟩
 by_cases hlt : i < n
 ·refine .inr ⟨hlt,Pv (i + 1),fun σ' H' p' => ⟨n - (i + 1),by omega,rfl,hlt,p'⟩,fun x H' y => ?_⟩
  obtain ⟨e,y⟩ := y
  subst e y
  exact hs i σ _ hlt p
 ·have e : i = n := by omega
  subst e
  exact .inl ⟨Nat.le_refl _,hd σ H p⟩
end L2
namespace L2
open PySem PySem.Spec PyProof.Rows
abbrev R2 := V → V → Hp → VK → Prop
def OpR (X : Cx) (f : Value → Value → Sem Value) (r : R2) : Prop :=
 ∀ (pins : List (Addr × Obj)) (s : Shared) (σ : St) (H : Hp) (x y : V) (v u : Value) (Q : VK),Inv X pins σ H s → RelV x v → RelV y u → r x y H Q →
  wpAny (model X.prog X.w) X.A (f v u) (EP X pins σ Q) X.xe s
def UnR (X : Cx) (f : Value → Sem Value) (r : V → Hp → VK → Prop) : Prop :=
 ∀ (pins : List (Addr × Obj)) (s : Shared) (σ : St) (H : Hp) (x : V) (v : Value) (Q : VK),Inv X pins σ H s → RelV x v → r x H Q →
  wpAny (model X.prog X.w) X.A (f v) (EP X pins σ Q) X.xe s
def CallR (X : Cx) (f : Value) (r : List V → Hp → VK → Prop) : Prop :=
 ∀ (pins : List (Addr × Obj)) (s : Shared) (σ : St) (H : Hp) (xs : List V) (us : List Value) (Q : VK),Inv X pins σ H s → Vals xs us → r xs H Q →
  wpAny (model X.prog X.w) X.A (call f us) (EP X pins σ Q) X.xe s
def TruR (X : Cx) (r : V → Hp → (Bool → Hp → Prop) → Prop) : Prop :=
 ∀ (pins : List (Addr × Obj)) (s : Shared) (σ : St) (H : Hp) (x : V) (v : Value) (Q : Bool → Hp → Prop),Inv X pins σ H s → RelV x v → r x H Q →
  wpAny (model X.prog X.w) X.A (truthy v) (TP X pins σ Q) X.xe s
def tOp (r : R2) (ta tb : TE) : TE := fun σ H Q => ta σ H fun x H1 => tb σ H1 fun y H2 => r x y H2 Q
def tUn (r : V → Hp → VK → Prop) (ta : TE) : TE := fun σ H Q => ta σ H fun x H1 => r x H1 Q
def rI (C : Int → Int → Prop) (g : Int → Int → V) : R2 := fun x y H Q => ∃ i j,x = .int i ∧ y = .int j ∧ C i j ∧ Q (g i j) H
def rI0 (g : Int → Int → V) : R2 := fun x y H Q => ∃ i j,x = .int i ∧ y = .int j ∧ Q (g i j) H
def rU (g : Int → V) : V → Hp → VK → Prop := fun x H Q => ∃ i,x = .int i ∧ Q (g i) H
section
variable {X : Cx} {a b c : Expr} {ta tb tc : TE} {pos : Pos}
theorem binT (ha : PE X a ta) (hb : PE X b tb) {pins : List (Addr × Obj)} {s : Shared} {σ : St} {H : Hp} {R : V → V → Hp → Prop} (I : Inv X pins σ H s)
 (h : ta σ H fun x H1 => tb σ H1 fun y H2 => R x y H2) {Q : Value → Shared → Prop} {f : Value → Value → Sem Value}
 (hf : ∀ v u s2 x y H2,Inv X pins σ H2 s2 → RelV x v → RelV y u → R x y H2 → wpAny (model X.prog X.w) X.A (f v u) Q X.xe s2) :
 wpAny (model X.prog X.w) X.A (eval a X.env) (fun v s₁ => wpAny (model X.prog X.w) X.A (eval b X.env) (fun u s₂ => wpAny (model X.prog X.w) X.A (f v u) Q X.xe s₂) X.xe s₁) X.xe s := by
 refine thn (ha pins s σ H _ I h) fun v s1 ⟨x,H1,I1,r1,q1⟩ => ?_
 refine thn (hb pins s1 σ H1 _ I1 q1) fun u s2 ⟨y,H2,I2,r2,q2⟩ => ?_
 exact hf v u s2 x y H2 I2 r1 r2 q2
theorem A7 {op : Operator} {r : R2} (ho : OpR X (binaryOp op) r) (ha : PE X a ta) (hb : PE X b tb) : PE X (.BinOp a op b pos) (tOp r ta tb) := by
 intro pins s σ H Q I h
 exact wpAny_BinOp (binT ha hb I h fun v u s2 x y H2 I2 rx ry q => ho pins s2 σ H2 x y v u Q I2 rx ry q)
theorem pe_un {op : UnaryOp} {r : V → Hp → VK → Prop} (ho : UnR X (unaryOp op) r) (ha : PE X a ta) : PE X (.UnaryOp op a pos) (tUn r ta) := by
 intro pins s σ H Q I h
 exact UnaryOp_ (thn (ha pins s σ H _ I h) fun v s1 ⟨x,H1,I1,r1,q1⟩ => ho pins s1 σ H1 x v Q I1 r1 q1)
theorem opI {f : Value → Value → Sem Value} {C : Int → Int → Prop} {g : Int → Int → Int}
 (rule : ∀ (i j : Int) (t u : Tok) (s : Shared) (Q : Value → Shared → Prop) (E : Value → Shared → Prop),C i j → Q (.int (g i j) s.toks) { s with toks := s.toks + 1 } → wpAny (model X.prog X.w) X.A (f (.int i t) (.int j u)) Q E s) :
 OpR X f (rI C fun i j => .int (g i j)) := by
 intro pins s σ H x y v u Q I rx ry h
 obtain ⟨i,j,rfl,rfl,hc,q⟩ := h
 obtain ⟨t,rfl⟩ := rx
 obtain ⟨t',rfl⟩ := ry
 exact rule i j t t' s _ _ hc ⟨.int (g i j),H,I.tok _,⟨_,rfl⟩,q⟩
theorem opI0 {f : Value → Value → Sem Value} {g : Int → Int → Int}
 (rule : ∀ (i j : Int) (t u : Tok) (s : Shared) (Q : Value → Shared → Prop) (E : Value → Shared → Prop),Q (.int (g i j) s.toks) { s with toks := s.toks + 1 } → wpAny (model X.prog X.w) X.A (f (.int i t) (.int j u)) Q E s) :
 OpR X f (rI0 fun i j => .int (g i j)) := by
 intro pins s σ H x y v u Q I rx ry h
 obtain ⟨i,j,rfl,rfl,q⟩ := h
 obtain ⟨t,rfl⟩ := rx
 obtain ⟨t',rfl⟩ := ry
 exact rule i j t t' s _ _ ⟨.int (g i j),H,I.tok _,⟨_,rfl⟩,q⟩
theorem opB0 {f : Value → Value → Sem Value} {g : Int → Int → Bool}
 (rule : ∀ (i j : Int) (t u : Tok) (s : Shared) (Q : Value → Shared → Prop) (E : Value → Shared → Prop),Q (.bool (g i j)) s → wpAny (model X.prog X.w) X.A (f (.int i t) (.int j u)) Q E s) :
 OpR X f (rI0 fun i j => .bl (g i j)) := by
 intro pins s σ H x y v u Q I rx ry h
 obtain ⟨i,j,rfl,rfl,q⟩ := h
 obtain ⟨t,rfl⟩ := rx
 obtain ⟨t',rfl⟩ := ry
 exact rule i j t t' s _ _ ⟨.bl (g i j),H,I,rfl,q⟩
def CDiv (i j : Int) : Prop := 0 < j ∧ j < 1073741824
def CPow (i j : Int) : Prop := 0 ≤ j ∧ j ≤ 1000000 ∧ i.natAbs < 2 ^ 64
def CMul (i j : Int) : Prop := (-(2 ^ 64) < i ∧ i < 2 ^ 64) ∨ (-(2 ^ 64) < j ∧ j < 2 ^ 64)
theorem CMul.ok {i j : Int} (h : CMul i j) : IntMulOk i j := by
 rcases h with ⟨h1,h2⟩ | ⟨h1,h2⟩
 ·exact .of_left (intBits_le_64 h1 h2)
 ·exact .of_right (intBits_le_64 h1 h2)
theorem Ds : OpR X (binaryOp .Add) (rI0 fun i j => .int (i + j)) := opI0 fun _ _ _ _ _ _ _ q => add_int q
theorem op_mul : OpR X (binaryOp .Mult) (rI CMul fun i j => .int (i * j)) := opI fun _ _ _ _ _ _ _ hc q => mul_int q hc.ok
theorem op_fdiv : OpR X (binaryOp .FloorDiv) (rI CDiv fun i j => .int (i / j)) := opI fun i j _ _ _ _ _ hc q => by
 have h1 : (0 : Int) < j := hc.1
 have h2 : j < 1073741824 := hc.2
 exact floordiv_int (by omega) (by rw [Int.fdiv_eq_ediv_of_nonneg i (by omega)]; exact q) (.inl (PyProof.noPylong_small (by omega)))
theorem Cf : OpR X (binaryOp .Mod) (rI (fun _ j => 0 < j) fun i j => .int (i % j)) := opI fun i j _ _ _ _ _ hc q => by
 have h1 : (0 : Int) < j := hc
 exact mod_int' (by omega) (by rw [Int.fmod_eq_emod_of_nonneg i (by omega)]; exact q)
theorem op_pow : OpR X (binaryOp .Pow) (rI CPow fun i j => .int (i ^ j.toNat)) := opI fun _ _ _ _ _ _ _ hc q => pow_int_small hc.1 hc.2.1 hc.2.2 q
theorem unI {f : Value → Sem Value} {g : Int → Int}
 (rule : ∀ (i : Int) (t : Tok) (s : Shared) (Q : Value → Shared → Prop) (E : Value → Shared → Prop),Q (.int (g i) s.toks) { s with toks := s.toks + 1 } → wpAny (model X.prog X.w) X.A (f (.int i t)) Q E s) :
 UnR X f (rU fun i => .int (g i)) := by
 intro pins s σ H x v Q I rx h
 obtain ⟨i,rfl,q⟩ := h
 obtain ⟨t,rfl⟩ := rx
 exact rule i t s _ _ ⟨.int (g i),H,I.tok _,⟨_,rfl⟩,q⟩
theorem un_neg : UnR X (unaryOp .USub) (rU fun i => .int (-i)) := unI fun _ _ _ _ _ q => neg_int q
end
def scal : V → V → Bool
 | .non,.non => true | .non,.int _ => true | .int _,.non => true | .non,.bl _ => true | .bl _,.non => true | .non,.str _ => true | .str _,.non => true
 | .int _,.int _ => true | .bl _,.bl _ => true | .str _,.str _ => true | .byt _,.byt _ => true
 | .int _,.str _ => true | .str _,.int _ => true | .bl _,.str _ => true | .str _,.bl _ => true
 | _,_ => false
def rEq : R2 := fun x y H Q => scal x y = true ∧ Q (.bl (decide (x = y))) H
def rNe : R2 := fun x y H Q => scal x y = true ∧ Q (.bl (!decide (x = y))) H
theorem dec_int {i j : Int} : decide (V.int i = V.int j) = (i == j) := by
 rw [Bool.eq_iff_iff]
 simp
theorem dec_bl {i j : Bool} : decide (V.bl i = V.bl j) = (i == j) := by
 rw [Bool.eq_iff_iff]
 simp
theorem dec_str {i j : Str} : decide (V.str i = V.str j) = (i == j) := by
 rw [Bool.eq_iff_iff]
 simp
theorem dec_byt {i j : Array UInt8} : decide (V.byt i = V.byt j) = (i.toList == j.toList) := by
 rw [Bool.eq_iff_iff]
 cases i
 cases j
 simp
section
variable {X : Cx} {a b c : Expr} {ta tb tc : TE} {pos : Pos}
theorem Bf {pins : List (Addr × Obj)} {σ : St} {H : Hp} {s : Shared} {Q : VK} {k k' : Bool} (I : Inv X pins σ H s) (q : Q (.bl k) H) (e : k = k') : EP X pins σ Q (.bool k') s := by
 subst e
 exact ⟨.bl k,H,I,rfl,q⟩
theorem Dw : OpR X (compareOp .Eq) rEq := by
 intro pins s σ H x y v u Q I rx ry h
 obtain ⟨hs,q⟩ := h
 cases x with
 | non =>
   cases rx
   cases y with
   | non => cases ry; exact PySem.EqNone.eq_none_none (Bf I q (by simp))
   | bl j => cases ry; exact PySem.EqNone.eq_none_bool (Bf I q (by simp))
   | int j => obtain ⟨t',rfl⟩ := ry; exact PySem.EqNone.eq_none_int (Bf I q (by simp))
   | str j => obtain ⟨t',rfl⟩ := ry; exact PySem.EqNone.eq_none_str (Bf I q (by simp))
   | _ => exact absurd (show false = true from hs) Bool.false_ne_true
 | bl i =>
   cases rx
   cases y with
   | non => cases ry; exact PySem.EqNone.eq_bool_none (Bf I q (by simp))
   | bl j => cases ry; exact eq_bool (Bf I q dec_bl)
   | str j => obtain ⟨t',rfl⟩ := ry; exact PySem.EqMixed.eq_bool_str (Bf I q (by simp))
   | _ => exact absurd (show false = true from hs) Bool.false_ne_true
 | int i =>
   obtain ⟨t,rfl⟩ := rx
   cases y with
   | non => cases ry; exact PySem.EqNone.eq_int_none (Bf I q (by simp))
   | int j => obtain ⟨t',rfl⟩ := ry; exact eq_int (Bf I q dec_int)
   | str j => obtain ⟨t',rfl⟩ := ry; exact PySem.EqMixed.eq_int_str (Bf I q (by simp))
   | _ => exact absurd (show false = true from hs) Bool.false_ne_true
 | str i =>
   obtain ⟨t,rfl⟩ := rx
   cases y with
   | non => cases ry; exact PySem.EqNone.eq_str_none (Bf I q (by simp))
   | bl j => cases ry; exact PySem.EqMixed.eq_str_bool (Bf I q (by simp))
   | int j => obtain ⟨t',rfl⟩ := ry; exact PySem.EqMixed.eq_str_int (Bf I q (by simp))
   | str j => obtain ⟨t',rfl⟩ := ry; exact eq_str (Bf I q dec_str)
   | _ => exact absurd (show false = true from hs) Bool.false_ne_true
 | byt i =>
   obtain ⟨t,rfl⟩ := rx
   cases y with
   | byt j => obtain ⟨t',rfl⟩ := ry; exact PySem.W.eq_bytes (Bf I q dec_byt)
   | _ => exact absurd (show false = true from hs) Bool.false_ne_true
 | _ => cases y <;> exact absurd (show false = true from hs) Bool.false_ne_true
theorem op_ne : OpR X (compareOp .NotEq) rNe := by
 intro pins s σ H x y v u Q I rx ry h
 obtain ⟨hs,q⟩ := h
 cases x with
 | non =>
   cases rx
   cases y with
   | non => cases ry; exact PySem.EqNone.ne_none_none (Bf I q (by simp))
   | bl j => cases ry; exact PySem.EqNone.ne_none_bool (Bf I q (by simp))
   | int j => obtain ⟨t',rfl⟩ := ry; exact PySem.EqNone.ne_none_int (Bf I q (by simp))
   | str j => obtain ⟨t',rfl⟩ := ry; exact PySem.EqNone.ne_none_str (Bf I q (by simp))
   | _ => exact absurd (show false = true from hs) Bool.false_ne_true
 | bl i =>
   cases rx
   cases y with
   | non => cases ry; exact PySem.EqNone.ne_bool_none (Bf I q (by simp))
   | bl j => cases ry; exact ne_bool (Bf I q (congrArg not dec_bl))
   | str j => obtain ⟨t',rfl⟩ := ry; exact PySem.EqMixed.ne_bool_str (Bf I q (by simp))
   | _ => exact absurd (show false = true from hs) Bool.false_ne_true
 | int i =>
   obtain ⟨t,rfl⟩ := rx
   cases y with
   | non => cases ry; exact PySem.EqNone.ne_int_none (Bf I q (by simp))
   | int j => obtain ⟨t',rfl⟩ := ry; exact ne_int (Bf I q (congrArg not dec_int))
   | str j => obtain ⟨t',rfl⟩ := ry; exact PySem.EqMixed.ne_int_str (Bf I q (by simp))
   | _ => exact absurd (show false = true from hs) Bool.false_ne_true
 | str i =>
   obtain ⟨t,rfl⟩ := rx
   cases y with
   | non => cases ry; exact PySem.EqNone.ne_str_none (Bf I q (by simp))
   | bl j => cases ry; exact PySem.EqMixed.ne_str_bool (Bf I q (by simp))
   | int j => obtain ⟨t',rfl⟩ := ry; exact PySem.EqMixed.ne_str_int (Bf I q (by simp))
   | str j => obtain ⟨t',rfl⟩ := ry; exact ne_str (Bf I q (congrArg not dec_str))
   | _ => exact absurd (show false = true from hs) Bool.false_ne_true
 | byt i =>
   obtain ⟨t,rfl⟩ := rx
   cases y with
   | byt j => obtain ⟨t',rfl⟩ := ry; exact PySem.W.ne_bytes (Bf I q (congrArg not dec_byt))
   | _ => exact absurd (show false = true from hs) Bool.false_ne_true
 | _ => cases y <;> exact absurd (show false = true from hs) Bool.false_ne_true
theorem op_lt : OpR X (compareOp .Lt) (rI0 fun i j => .bl (decide (i < j))) := opB0 fun _ _ _ _ _ _ _ q => lt_int q
theorem op_le : OpR X (compareOp .LtE) (rI0 fun i j => .bl (decide (i ≤ j))) := opB0 fun _ _ _ _ _ _ _ q => le_int q
theorem op_gt : OpR X (compareOp .Gt) (rI0 fun i j => .bl (decide (j < i))) := opB0 fun _ _ _ _ _ _ _ q => gt_int q
theorem op_ge : OpR X (compareOp .GtE) (rI0 fun i j => .bl (decide (j ≤ i))) := opB0 fun _ _ _ _ _ _ _ q => ge_int q
theorem op_in_str : OpR X (compareOp .In) (fun x y H Q => ∃ i j,x = .str i ∧ y = .str j ∧ Q (.bl (!(Builtin.Str.occurrences j i 0 j.length 1).isEmpty)) H) := by
 intro pins s σ H x y v u Q I rx ry h
 obtain ⟨i,j,rfl,rfl,q⟩ := h
 obtain ⟨t,rfl⟩ := rx
 obtain ⟨t',rfl⟩ := ry
 exact in_str (Bf I q rfl)
theorem Ba (b : Expr) {op : CmpOp} (h : op ≠ .In := by decide) (h2 : op ≠ .NotIn := by decide) : behindInMarks op b = false := by
 have e1 : (op == CmpOp.In) = false := by cases op <;> first | rfl | exact absurd rfl h
 have e2 : (op == CmpOp.NotIn) = false := by cases op <;> first | rfl | exact absurd rfl h2
 cases b <;> simp [behindInMarks,e1,e2]
theorem Cc {op : CmpOp} {r : R2} (ho : OpR X (compareOp op) r) (ha : PE X a ta) (hb : PE X b tb) (hm : behindInMarks op b = false) : PE X (.Compare a [op] [b] pos) (tOp r ta tb) := by
 intro pins s σ H Q I h
 exact wpAny_Compare1 (binT ha hb I h fun v u s2 x y H2 I2 rx ry q => ho pins s2 σ H2 x y v u Q I2 rx ry q) hm
def tTest (t : TE) : TT := fun σ H Q => t σ H fun x H' => ∃ k,x = .bl k ∧ Q k H'
theorem Bb {op : CmpOp} {r : R2} (ho : OpR X (compareOp op) r) (ha : PE X a ta) (hb : PE X b tb) (hm : behindInMarks op b = false) : PT X (.Compare a [op] [b] pos) (tTest (tOp r ta tb)) := by
 intro pins s σ H Q I h
 refine wpAny_isTrue_Compare1 (thn (ha pins s σ H _ I h) fun v s1 ⟨x,H1,I1,r1,q1⟩ => thn (hb pins s1 σ H1 _ I1 q1) fun u s2 ⟨y,H2,I2,r2,q2⟩ =>
  thn (ho pins s2 σ H2 x y v u _ I2 r1 r2 q2) fun c s3 ⟨z,H3,I3,r3,k,e,q3⟩ => ?_) hm
 subst e
 cases r3
 exact wpAny_truthy_bool ⟨H3,I3,q3⟩
def tChain (r r' : R2) (ta tb tc : TE) : TE := fun σ H Q => ta σ H fun x H1 => tb σ H1 fun y H2 => r x y H2 fun z H3 => ∃ k,z = .bl k ∧
 (if k = true then tc σ H3 fun w' H4 => r' y w' H4 Q else Q (.bl false) H3)
theorem pe_chain {op op' : CmpOp} {r r' : R2} (ho : OpR X (compareOp op) r) (ho' : OpR X (compareOp op') r') (ha : PE X a ta) (hb : PE X b tb) (hc : PE X c tc)
 (hm : lastMarks [op,op'] [b,c] = false := by with_unfolding_all rfl) : PE X (.Compare a [op,op'] [b,c] pos) (tChain r r' ta tb tc) := by
 intro pins s σ H Q I h
 refine Compare_chain (thn (ha pins s σ H _ I h) fun v s1 ⟨x,H1,I1,r1,q1⟩ => chain_link (thn (hb pins s1 σ H1 _ I1 q1) fun u s2 ⟨y,H2,I2,r2,q2⟩ =>
  thn (ho pins s2 σ H2 x y v u _ I2 r1 r2 q2) fun d s3 ⟨z,H3,I3,r3,k,e,q3⟩ => ?_)) hm
 subst e
 cases r3
 refine wpAny_truthy_bool ?_
 cases k with
 | false => exact ite_ff ⟨.bl false,H3,I3,rfl,q3⟩
 | true => exact ite_tt (chain_last (thn (hc pins s3 σ H3 _ I3 q3) fun w' s4 ⟨z',H4,I4,r4,q4⟩ => ho' pins s4 σ H4 y z' u w' Q I4 r2 r4 q4))
theorem pt_chain {op op' : CmpOp} {r r' : R2} (ho : OpR X (compareOp op) r) (ho' : OpR X (compareOp op') r') (ha : PE X a ta) (hb : PE X b tb) (hc : PE X c tc)
 (hm : lastMarks [op,op'] [b,c] = false := by with_unfolding_all rfl) : PT X (.Compare a [op,op'] [b,c] pos) (tTest (tChain r r' ta tb tc)) := by
 intro pins s σ H Q I h
 refine isTrue_chain (thn (ha pins s σ H _ I h) fun v s1 ⟨x,H1,I1,r1,q1⟩ => test_link (thn (hb pins s1 σ H1 _ I1 q1) fun u s2 ⟨y,H2,I2,r2,q2⟩ =>
  thn (ho pins s2 σ H2 x y v u _ I2 r1 r2 q2) fun d s3 ⟨z,H3,I3,r3,k,e,q3⟩ => ?_)) hm
 subst e
 cases r3
 refine wpAny_truthy_bool ?_
 cases k with
 | false =>
   obtain ⟨k',e',q'⟩ := q3
   cases e'
   exact ite_ff ⟨H3,I3,q'⟩
 | true =>
   refine ite_tt (test_last (thn (hc pins s3 σ H3 _ I3 q3) fun w' s4 ⟨z',H4,I4,r4,q4⟩ => thn (ho' pins s4 σ H4 y z' u w' _ I4 r2 r4 q4) fun d' s5 ⟨z2,H5,I5,r5,k2,e2,q5⟩ => ?_))
   subst e2
   cases r5
   exact wpAny_truthy_bool ⟨H5,I5,q5⟩
def TruV (K : PySem.W.Frag) (x : V) (H : Hp) (k : Bool) : Prop :=
 match x with
 | .non => k = false
 | .bl b => k = b
 | .int i => k = (i != 0)
 | .str y => y.length ≤ sizeLine ∧ k = ((y.length : Int) != 0)
 | .byt y => y.size ≤ sizeLine ∧ k = ((y.size : Int) != 0)
 | .ref p => (∃ xs,SqL K H p xs ∧ k = !xs.isEmpty) ∨ (∃ xs,SqT K H p xs ∧ k = !xs.isEmpty) ∨ ∃ kvs,H p = some (.dK kvs) ∧ k = !kvs.isEmpty
 | _ => False
theorem isEmpty_kv {κ : Type} {kvs : List (κ × V)} {vs : List (κ × Value)} (r : KV kvs vs) : (!vs.isEmpty) = !kvs.isEmpty := by
 cases r <;> rfl
theorem isEmpty_of {xs : List V} {its : List Value} (r : Vals xs its) : (!its.toArray.isEmpty) = !xs.isEmpty := by
 cases r <;> simp
theorem line63 : (sizeLine : Nat) < 2 ^ 63 := by rw [sizeLine_eq]; decide
theorem tru_ok : TruR X (fun x H Q => ∃ k,TruV X.K x H k ∧ Q k H) := by
 intro pins s σ H x v Q I rx h
 obtain ⟨k,e,q⟩ := h
 have hl := line63
 have hs : sizeLine = 16777216 := sizeLine_eq
 cases x with
 | non =>
   cases rx
   have e' : k = false := e
   subst e'
   exact truthy_none ⟨H,I,q⟩
 | bl b =>
   cases rx
   have e' : k = b := e
   subst e'
   exact wpAny_truthy_bool ⟨H,I,q⟩
 | int i =>
   obtain ⟨t,rfl⟩ := rx
   have e' : k = (i != 0) := e
   subst e'
   exact PySem.P.truthy_int ⟨H,I,q⟩
 | str y =>
   obtain ⟨t,rfl⟩ := rx
   obtain ⟨hy,e'⟩ : y.length ≤ sizeLine ∧ k = ((y.length : Int) != 0) := e
   subst e'
   exact PySem.P.truthy_str (by omega) ⟨H,I.tok _,q⟩
 | byt y =>
   obtain ⟨t,rfl⟩ := rx
   obtain ⟨hy,e'⟩ : y.size ≤ sizeLine ∧ k = ((y.size : Int) != 0) := e
   subst e'
   exact PySem.W.truthy_bytes (by omega) ⟨H,I.tok _,q⟩
 | ref p =>
   cases rx
   have e' : (∃ xs,SqL X.K H p xs ∧ k = !xs.isEmpty) ∨ (∃ xs,SqT X.K H p xs ∧ k = !xs.isEmpty) ∨ ∃ kvs,H p = some (.dK kvs) ∧ k = !kvs.isEmpty := e
   rcases e' with ⟨xs,hx,e'⟩ | ⟨xs,hx,e'⟩ | ⟨kvs,hx,e'⟩
   ·subst e'
    obtain ⟨its,r,pl,hz⟩ := I.list hx
    have hlen := r.length
    exact wpAny_truthy_list pl.isList (by simp only [List.size_toArray]; omega) ⟨H,I.tok _,by rw [isEmpty_of r]; exact q⟩
   ·subst e'
    obtain ⟨its,r,pl,hz⟩ := I.tuple hx
    have hlen := r.length
    exact truthy_tuple pl (by simp only [List.size_toArray]; omega) ⟨H,I.tok _,by rw [isEmpty_of r]; exact q⟩
   ·subst e'
    obtain ⟨hz,hS,vs,r,m⟩ : kvs.length ≤ sizeLine ∧ (p == sysModules) = false ∧ ∃ vs,KV kvs vs ∧ s.heap.DictOf (Aw X.prog X.w) p vs := I.hok p _ hx
    have hlen : kvs.length = vs.length := Paired.length r
    exact wpAny_truthy_dict hS m (by omega) ⟨H,I.tok _,by rw [isEmpty_kv r]; exact q⟩
 | _ => exact (show False from e).elim
theorem Cv : OpR X (binaryOp .Add) (fun x y H Q => ∃ i j,x = .str i ∧ y = .str j ∧ i.length + j.length ≤ sizeLine ∧ Q (.str (i ++ j)) H) := by
 intro pins s σ H x y v u Q I rx ry h
 obtain ⟨i,j,rfl,rfl,hz,q⟩ := h
 obtain ⟨t,rfl⟩ := rx
 obtain ⟨t',rfl⟩ := ry
 exact add_str (fun t' tk => ⟨.str (i ++ j),H,I.tok _,⟨_,rfl⟩,q⟩) hz
theorem vals1 {x : V} {us : List Value} (r : Vals [x] us) : ∃ u,us = [u] ∧ RelV x u := by
 cases r with
 | cons r1 r2 => cases r2; exact ⟨_,rfl,r1⟩
theorem vals2 {x y : V} {us : List Value} (r : Vals [x,y] us) : ∃ u w',us = [u,w'] ∧ RelV x u ∧ RelV y w' := by
 cases r with
 | cons r1 r2 =>
   cases r2 with
   | cons r3 r4 => cases r4; exact ⟨_,_,rfl,r1,r3⟩
theorem call_max2 (hc : X.calm = true) : CallR X (.builtin "max") (fun xs H Q => ∃ i j,xs = [.int i,.int j] ∧ Q (.int (if j > i then j else i)) H) := by
 intro pins s σ H xs us Q I r h
 obtain ⟨i,j,rfl,q⟩ := h
 obtain ⟨u,w',rfl,⟨t,rfl⟩,⟨t',rfl⟩⟩ := vals2 r
 refine max_two_ints (I.ok.hd hc) fun h' tk k => ⟨_,H,I.kept k,?_,q⟩
 by_cases hj : j > i
 ·rw [if_pos hj,if_pos hj]; exact ⟨_,rfl⟩
 ·rw [if_neg hj,if_neg hj]; exact ⟨_,rfl⟩
theorem call_min2 (hc : X.calm = true) : CallR X (.builtin "min") (fun xs H Q => ∃ i j,xs = [.int i,.int j] ∧ Q (.int (if j < i then j else i)) H) := by
 intro pins s σ H xs us Q I r h
 obtain ⟨i,j,rfl,q⟩ := h
 obtain ⟨u,w',rfl,⟨t,rfl⟩,⟨t',rfl⟩⟩ := vals2 r
 refine min_two_ints (I.ok.hd hc) fun h' tk k => ⟨_,H,I.kept k,?_,q⟩
 by_cases hj : j < i
 ·rw [if_pos hj,if_pos hj]; exact ⟨_,rfl⟩
 ·rw [if_neg hj,if_neg hj]; exact ⟨_,rfl⟩
theorem call_int1 : CallR X (.type "int") (fun xs H Q => (∃ i,xs = [.int i] ∧ Q (.int i) H) ∨ ∃ k,xs = [.bl k] ∧ Q (.int (if k then 1 else 0)) H) := by
 intro pins s σ H xs us Q I r h
 rcases h with ⟨i,rfl,q⟩ | ⟨k,rfl,q⟩
 ·obtain ⟨u,rfl,t,rfl⟩ := vals1 r
  exact call_int_int ⟨.int i,H,I,⟨_,rfl⟩,q⟩
 ·obtain ⟨u,rfl,r1⟩ := vals1 r
  cases r1
  exact call_int_bool ⟨.int (if k then 1 else 0),H,I.tok _,⟨_,rfl⟩,q⟩
def LenV (K : PySem.W.Frag) (x : V) (H : Hp) (n : Nat) : Prop :=
 match x with
 | .str y => y.length ≤ sizeLine ∧ n = y.length
 | .byt y => y.size ≤ sizeLine ∧ n = y.size
 | .ref p => (∃ xs,SqL K H p xs ∧ n = xs.length) ∨ ∃ xs,SqT K H p xs ∧ n = xs.length
 | _ => False
theorem Av : CallR X (.builtin "len") (fun xs H Q => ∃ x n,xs = [x] ∧ LenV X.K x H n ∧ Q (.int n) H) := by
 intro pins s σ H xs us Q I r h
 obtain ⟨x,n,rfl,e,q⟩ := h
 obtain ⟨u,rfl,rx⟩ := vals1 r
 have hl := line63
 have hs : sizeLine = 16777216 := sizeLine_eq
 cases x with
 | str y =>
   obtain ⟨t,rfl⟩ := rx
   obtain ⟨hy,e'⟩ : y.length ≤ sizeLine ∧ n = y.length := e
   subst e'
   exact len_str (by omega) ⟨.int _,H,I.tok _,⟨_,rfl⟩,q⟩
 | byt y =>
   obtain ⟨t,rfl⟩ := rx
   obtain ⟨hy,e'⟩ : y.size ≤ sizeLine ∧ n = y.size := e
   subst e'
   exact PySem.W.len_bytes (by omega) ⟨.int _,H,I.tok _,⟨_,rfl⟩,q⟩
 | ref p =>
   cases rx
   have e' : (∃ xs,SqL X.K H p xs ∧ n = xs.length) ∨ ∃ xs,SqT X.K H p xs ∧ n = xs.length := e
   rcases e' with ⟨xs,hx,e'⟩ | ⟨xs,hx,e'⟩
   ·subst e'
    obtain ⟨its,r',pl,hz⟩ := I.list hx
    have hlen := r'.length
    exact Calls.call_len_list pl.isList (by simp only [List.size_toArray]; omega) ⟨.int xs.length,H,I.tok _,⟨_,by simp only [List.size_toArray]; rw [hlen]⟩,q⟩
   ·subst e'
    obtain ⟨its,r',pl,hz⟩ := I.tuple hx
    have hlen := r'.length
    exact len_tuple pl (by simp only [List.size_toArray]; omega) ⟨.int xs.length,H,I.tok _,⟨_,by simp only [List.size_toArray]; rw [hlen]⟩,q⟩
 | _ => exact (show False from e).elim
end
end L2
namespace L2
open PySem PySem.Spec PyProof.Rows
structure ObjM (h : Heap) (x dx C : Addr) (mA : Str → Option Value) : Prop where
 obj : h.get? x = some (PySem.W.instObj C dx)
 ns : h.Ns1 dx mA
 ne : dx ≠ x
theorem lookIn_ns {h : Heap} {dx : Addr} {mA : Str → Option Value} (n : h.Ns1 dx mA) : ∃ od,h.get? dx = some od ∧ ∀ name,PySem.W.lookIn name od = some (mA name) := by
 obtain ⟨o,es,ep,ho,hd,hk,_,hm⟩ := n
 refine ⟨o,ho,fun name => ?_⟩
 have e := hm name
 unfold nsFind findBy at e
 rw [← Array.find?_toList] at e
 unfold PySem.W.lookIn
 rw [hd]
 dsimp only
 split
 ·rename_i y q
  rw [q] at e
  exact congrArg some e
 ·rename_i q
  rw [q] at e
  have a : es.toList.any (·.refKey) = false := by
   rw [List.any_eq_false]
   intro y hy
   obtain ⟨z,t,hkey⟩ := hk y (Array.mem_toList_iff.mp hy)
   simp [DictEntry.refKey,hkey]
  have a' : ¬ es.toList.any (·.refKey) = true := by rw [a]; exact Bool.false_ne_true
  rw [if_neg a']
  exact congrArg some e
theorem ObjM.look {h : Heap} {x dx C : Addr} {mA : Str → Option Value} (I : ObjM h x dx C mA) : ∃ od,PySem.W.InstAt h x (PySem.W.instObj C dx) C (some od) ∧ ∀ name,PySem.W.lookIn name od = some (mA name) :=
 let ⟨od,ho,hl⟩ := lookIn_ns I.ns
 ⟨od,⟨I.obj,rfl,rfl,ho⟩,hl⟩
section
variable {prog : Program} {w : World} {A : Around} {E : Value → Shared → Prop} {s : Shared} {K : PySem.W.Frag} {x dx C f : Addr} {mA : Str → Option Value} {name : Str} {v : Value}
theorem get_map {expr : Bool} {Q : Value → Shared → Prop} (X : K.In s.heap) (I : ObjM s.heap x dx C mA) (hg : PySem.W.plainGet K C name = true) (hh : PySem.W.hasDictIn K C = true)
 (ha : PySem.W.findIn K (.ref C) name = some none) (hv : mA name = some v) (hv' : PySem.W.handedIn v = true) (h : Q v { s with toks := s.toks + 1 }) :
 wpAny (model prog w) A (getAttr (.ref x) name expr) Q E s := by
 obtain ⟨od,J,hl⟩ := I.look
 exact PySem.W.get_value X J (PySem.W.plainGet_of hg).1 (PySem.W.findObj_own hh ha rfl (by rw [hl,hv])) hv' h
theorem get_meth {pl : Sem Bool} {Q : Value × List Value → Shared → Prop} (X : K.In s.heap) (I : ObjM s.heap x dx C mA) (hg : PySem.W.plainGet K C name = true)
 (hf : PySem.W.findIn K (.ref C) name = some (some (.ref f))) (ht : PySem.W.isFn K (.ref f) = true) (hv : mA name = none) (h : Q (.ref f,[.ref x]) s) :
 wpAny (model prog w) A (getMethod (.ref x) name pl) Q E s := by
 obtain ⟨od,J,hl⟩ := I.look
 exact PySem.W.method_fn X J (PySem.W.plainGet_of hg).1 (PySem.W.plainGet_of hg).2 hf (beq_iff_eq.mp ht) (by show (PySem.W.lookIn name od).map (·.isSome) = some false; rw [hl,hv]; rfl) h
theorem set_map {ns : List Str} {Q : Unit → Shared → Prop} (X : K.In s.heap) (I : ObjM s.heap x dx C mA)
 (hs : PySem.W.findIn K (.ref C) "__setattr__" = some (some (.builtin "object.__setattr__"))) (hp : PySem.W.plainOver K C = true) (ht : PySem.W.takerIn K C name = some none) (hh : PySem.W.hasDictIn K C = true)
 (hw : PySem.Within mA ns) (hsz : ns.length ≤ sizeLine)
 (h : ∀ h',ObjM h' x dx C (fun y => if y = name then some v else mA y) → Heap.SameBut dx s.heap h' → Q () { s with heap := h',toks := s.toks + 2 }) :
 wpAny (model prog w) A (setAttr (.ref x) name v) Q E s := by
 obtain ⟨od,J,hl⟩ := I.look
 refine PySem.W.set_plain X J hs (PySem.W.osa_open (s := { s with toks := s.toks + 1 }) (r := none) X J hp ht fun b => ?_)
 obtain ⟨cd,hc,hd'⟩ := PySem.W.any_some hh
 have hx : s.heap.get? x = some ⟨.ref C,some dx,.plain,#[]⟩ := I.obj
 refine wpAny_bind (wpAny_pure (wpAny_bind (wpAny_bind (wpAny_loadPart hx (wpAny_bind (PySem.W.Looks.here (s := { s with toks := s.toks + 1 }) (PySem.W.looks_clsIn X hc) ?_))))))
 rw [hd']
 refine wpAny_pure (a := some dx) (wpAny_bind (wpAny_pure (wpAny_bind ?_)))
 refine wpAny_nsSet1 (s := { s with toks := s.toks + 1 }) I.ns fun h' hn2 hs2 => ?_
 obtain ⟨oD,esD,epD,hoD,hdD,hcD⟩ := hn2.count (PySem.Within.cons name v hw)
 refine wpAny_bind (wpAny_lookBehind hoD (by rw [hdD]; exact pastItsLine_dict (Nat.le_trans hcD (by rw [List.length_cons]; omega))) ?_)
 exact wpAny_pure (h _ ⟨(hs2.2 _ (Ne.symm I.ne)).trans I.obj,hn2,I.ne⟩ hs2)
theorem make_map {R : Result → Shared → Prop} {vs : List Value} {kw : List (Str × Value)} (X : K.In s.heap) (hm : PySem.W.makesIn K C = true)
 (hi : PySem.W.findIn K (.ref C) "__init__" = some (some (.ref f))) (hf : PySem.W.typeIn K (.ref f) = some (.type "function"))
 (h : codeAny (model prog w) (A.under (.builtin "type.__call__" ⟨.ref C :: vs,kw⟩)) (.call (.ref f) ⟨.ref (s.heap.objs.size + 1) :: vs,kw⟩) (PySem.W.InitBack (s.heap.objs.size + 1) R)
   { s with heap := (s.heap.push PySem.W.emptyDict).push (PySem.W.instObj C s.heap.objs.size) }) :
 codeAny (model prog w) A (.call (.ref C) ⟨vs,kw⟩) R s := by
 obtain ⟨hh,g,d,t,os⟩ := s
 exact PySem.W.make_core (PySem.W.makes_of X hm) (PySem.W.looks_findIn X hi) (fun self => PySem.W.bind_fn X self hf) (.inl rfl) h
theorem make_map0 {R : Result → Shared → Prop} (X : K.In s.heap) (hm : PySem.W.makesIn K C = true)
 (hi : PySem.W.findIn K (.ref C) "__init__" = some (some (.builtin "object.__init__")))
 (hb : ∀ self,PySem.W.Looks (model prog w) s.heap (bindSpecial (.builtin "object.__init__") self) (.builtin "object.__init__",[self]))
 (h : codeAny (model prog w) (A.under (.builtin "type.__call__" ⟨[.ref C],[]⟩)) (.call (.builtin "object.__init__") ⟨[.ref (s.heap.objs.size + 1)],[]⟩) (PySem.W.InitBack (s.heap.objs.size + 1) R)
   { s with heap := (s.heap.push PySem.W.emptyDict).push (PySem.W.instObj C s.heap.objs.size) }) :
 codeAny (model prog w) A (.call (.ref C) ⟨[],[]⟩) R s := by
 obtain ⟨hh,g,d,t,os⟩ := s
 exact PySem.W.make_core (PySem.W.makes_of X hm) (PySem.W.looks_findIn X hi) hb (.inr ⟨rfl,rfl⟩) h
end
def putF (f : Str) (v : V) : List (Str × V) → List (Str × V)
 | [] => [(f,v)]
 | (g,x) :: r => if g = f then (g,v) :: r else (g,x) :: putF f v r
theorem Bo (f g : Str) (v : V) : ∀ fs : List (Str × V),(putF f v fs).lookup g = if g = f then some v else fs.lookup g
 | [] => by
   show List.lookup g [(f,v)] = _
   by_cases h : g = f
   ·have hb : (g == f) = true := beq_iff_eq.mpr h
    simp only [List.lookup,hb,if_pos h]
   ·have hb : (g == f) = false := beq_eq_false_iff_ne.mpr h
    simp only [List.lookup,hb,if_neg h]
 | (k,x) :: r => by
   have ih := Bo f g v r
   rw [show putF f v ((k,x) :: r) = (if k = f then (k,v) :: r else (k,x) :: putF f v r) from rfl]
   by_cases hk : k = f
   ·rw [if_pos hk]
    by_cases h : g = k
    ·have hb : (g == k) = true := beq_iff_eq.mpr h
     simp only [List.lookup,hb,if_pos (h.trans hk)]
    ·have hb : (g == k) = false := beq_eq_false_iff_ne.mpr h
     simp only [List.lookup,hb,if_neg (fun e : g = f => h (e.trans hk.symm))]
   ·rw [if_neg hk]
    by_cases h : g = k
    ·have hb : (g == k) = true := beq_iff_eq.mpr h
     simp only [List.lookup,hb,if_neg (fun e : g = f => hk (h.symm.trans e))]
    ·have hb : (g == k) = false := beq_eq_false_iff_ne.mpr h
     simp only [List.lookup,hb]
     exact ih
theorem keys_putF (f : Str) (v : V) : ∀ fs : List (Str × V),f ∈ (putF f v fs).map (·.1) ∧ ∀ g,g ∈ fs.map (·.1) → g ∈ (putF f v fs).map (·.1)
 | [] => ⟨by simp [putF],fun g h => by simp at h⟩
 | (k,x) :: r => by
   obtain ⟨i1,i2⟩ := keys_putF f v r
   rw [show putF f v ((k,x) :: r) = (if k = f then (k,v) :: r else (k,x) :: putF f v r) from rfl]
   by_cases hk : k = f
   ·rw [if_pos hk]
    subst hk
    exact ⟨by simp,fun g h => by simpa using h⟩
   ·rw [if_neg hk]
    refine ⟨?_,fun g h => ?_⟩
    ·rw [List.map_cons]
     exact List.mem_cons_of_mem _ i1
    ·rw [List.map_cons] at h ⊢
     rcases List.mem_cons.mp h with e | e
     ·exact List.mem_cons.mpr (.inl e)
     ·exact List.mem_cons_of_mem _ (i2 g e)
theorem length_putF (f : Str) (v : V) : ∀ fs : List (Str × V),(putF f v fs).length ≤ fs.length + 1
 | [] => by simp [putF]
 | (k,x) :: r => by
   have ih := length_putF f v r
   rw [show putF f v ((k,x) :: r) = (if k = f then (k,v) :: r else (k,x) :: putF f v r) from rfl]
   by_cases hk : k = f
   ·rw [if_pos hk,List.length_cons,List.length_cons]; omega
   ·rw [if_neg hk,List.length_cons,List.length_cons]; omega
theorem RelO.some_of {v : V} {o : Option Value} (r : RelO (some v) o) : ∃ u,o = some u ∧ RelV v u := by
 cases o with
 | none => exact (show False from r).elim
 | some u => exact ⟨u,rfl,r⟩
theorem RelO.none_of {o : Option Value} (r : RelO none o) : o = none := by
 cases o with
 | none => rfl
 | some u => exact (show False from r).elim
theorem handed_of {v : V} {u : Value} (r : RelV v u) : PySem.W.handedIn u = true := by
 cases v with
 | non => cases (show u = Value.none from r); rfl
 | bl b => cases (show u = Value.bool b from r); rfl
 | int i => obtain ⟨t,e⟩ := (show ∃ t,u = Value.int i t from r); cases e; rfl
 | str x => obtain ⟨t,e⟩ := (show ∃ t,u = Value.str x t from r); cases e; rfl
 | byt b => obtain ⟨t,e⟩ := (show ∃ t,u = Value.bytes b t from r); cases e; rfl
 | flt b => obtain ⟨t,e⟩ := (show ∃ t,u = Value.float b t from r); cases e; rfl
 | ref a => cases (show u = Value.ref a from r); rfl
 | ty n => cases (show u = Value.type n from r); rfl
section
variable {P : Program} {w : World} {H H' : Hp} {h h' : Heap} {a C dx : Addr} {fs fs' : List (Str × V)}
theorem ins_get (hok : HOk P w H h) (e : H a = some (.ins C dx fs)) : ∃ mA,ObjM h a dx C mA ∧ (∀ f,RelO (fs.lookup f) (mA f)) ∧ PySem.Within mA (fs.map (·.1)) ∧ fs.length ≤ 1000 ∧ H dx = some (.own a) := by
 obtain ⟨d,z,ne,ob,mA,n,r,q⟩ := (show Cj P w H h a (.ins C dx fs) from hok a _ e)
 exact ⟨mA,⟨ob,n,ne⟩,r,q,z,d⟩
end
structure Cls (K : PySem.W.Frag) (C : Addr) : Prop where
 pg : PySem.W.plainGet K C Str.empty = true
 hd : PySem.W.hasDictIn K C = true
 po : PySem.W.plainOver K C = true
 sa : PySem.W.findIn K (.ref C) "__setattr__" = some (some (.builtin "object.__setattr__"))
theorem Cls.get {K : PySem.W.Frag} {C : Addr} (c : Cls K C) (f : Str) : PySem.W.plainGet K C f = true := c.pg
def NoAttr (K : PySem.W.Frag) (C : Addr) (f : Str) : Prop := PySem.W.findIn K (.ref C) f = some none
theorem NoAttr.taker {K : PySem.W.Frag} {C : Addr} {f : Str} (n : NoAttr K C f) : PySem.W.takerIn K C f = some none := by
 unfold PySem.W.takerIn
 rw [show PySem.W.findIn K (.ref C) f = some none from n]
 rfl
structure Meth (K : PySem.W.Frag) (C : Addr) (m : Str) (f : Addr) : Prop where
 at_ : PySem.W.findIn K (.ref C) m = some (some (.ref f))
 fn : PySem.W.isFn K (.ref f) = true
 kp : PySem.W.keepIn K (.ref f) = true
section
variable {X : Cx} {pins : List (Addr × Obj)} {σ : St} {H : Hp} {s : Shared} {a C dx : Addr} {fs : List (Str × V)} {f : Str} {v : V} {A : Around} {E : Value → Shared → Prop}
theorem getattr_ok {b : Bool} {Q : Value → Shared → Prop} (I : Inv X pins σ H s) (e : H a = some (.ins C dx fs)) (c : Cls X.K C) (n : NoAttr X.K C f) (l : fs.lookup f = some v)
 (h : ∀ u s',Inv X pins σ H s' → RelV v u → Q u s') : wpAny (model X.prog X.w) A (getAttr (.ref a) f b) Q E s := by
 obtain ⟨mA,O,r,_,_,_⟩ := ins_get I.hok e
 obtain ⟨u,hu,ru⟩ := RelO.some_of (v := v) (o := mA f) (by rw [← l]; exact r f)
 exact get_map I.kIn O (c.get f) c.hd n hu (handed_of ru) (h u _ (I.tok _) ru)
theorem getmeth_ok {m : Str} {g : Addr} {pl : Sem Bool} {Q : Value × List Value → Shared → Prop} (I : Inv X pins σ H s) (e : H a = some (.ins C dx fs)) (c : Cls X.K C) (k : Meth X.K C m g) (l : fs.lookup m = none)
 (h : Q (.ref g,[.ref a]) s) : wpAny (model X.prog X.w) A (getMethod (.ref a) m pl) Q E s := by
 obtain ⟨mA,O,r,_,_,_⟩ := ins_get I.hok e
 have hn : mA m = none := RelO.none_of (by rw [← l]; exact r m)
 exact get_meth I.kIn O (c.get m) k.at_ k.fn hn h
theorem setattr_ok {y : V} {u : Value} {Q : Unit → Shared → Prop} (I : Inv X pins σ H s) (e : H a = some (.ins C dx fs)) (c : Cls X.K C) (n : NoAttr X.K C f) (hl : fs.length < 1000) (ry : RelV y u)
 (h : ∀ s',Inv X pins σ (upd H a (.ins C dx (putF f y fs))) s' → Q () s') : wpAny (model X.prog X.w) A (setAttr (.ref a) f u) Q E s := by
 obtain ⟨mA,O,r,wi,_,ho⟩ := ins_get I.hok e
 have hz : (fs.map (·.1)).length ≤ sizeLine := by rw [List.length_map,sizeLine_eq]; omega
 refine set_map I.kIn O c.sa c.po n.taker c.hd wi hz fun h' O' sb => h _ ?_
 have hd : ∃ o,h'.get? dx = some o := let ⟨o,_,_,e',_⟩ := O'.ns; ⟨o,e'⟩
 refine I.write (x := a) (e := dx) (by rw [e]; exact True.intro) (.inr ho) (fun b q hb z => (sb.2 b hb).trans z) hd ?_
 refine ⟨by rw [Ak O.ne]; exact ho,?_,O.ne,O'.obj,_,O'.ns,fun g => ?_,fun g hg => ?_⟩
 ·have := length_putF f y fs; omega
 ·show RelO ((putF f y fs).lookup g) (if g = f then some u else mA g)
  rw [Bo]
  by_cases q : g = f
  ·rw [if_pos q,if_pos q]; exact ry
  ·rw [if_neg q,if_neg q]; exact r g
 ·by_cases q : g = f
  ·rw [q]; exact (keys_putF f y fs).1
  ·refine (keys_putF f y fs).2 g (wi g fun z => hg ?_)
   show (if g = f then some u else mA g) = none
   rw [if_neg q]; exact z
theorem Inv.made (I : Inv X pins σ H s) : Inv X pins σ (upd (upd H s.heap.objs.size (.own (s.heap.objs.size + 1))) (s.heap.objs.size + 1) (.ins C s.heap.objs.size []))
 { s with heap := (s.heap.push PySem.W.emptyDict).push (PySem.W.instObj C s.heap.objs.size) } := by
 have e1 : (s.heap.push PySem.W.emptyDict).get? s.heap.objs.size = some PySem.W.emptyDict := Heap.get?_push_size s.heap rfl
 have e2 : ((s.heap.push PySem.W.emptyDict).push (PySem.W.instObj C s.heap.objs.size)).get? (s.heap.objs.size + 1) = some (PySem.W.instObj C s.heap.objs.size) := by
  have := Heap.get?_push_size (s.heap.push PySem.W.emptyDict) (o := PySem.W.instObj C s.heap.objs.size) rfl
  rwa [Heap.size_push] at this
 have e3 : (s.heap.push PySem.W.emptyDict).Ns s.heap.objs.size (fun _ => none) := ⟨PySem.W.emptyDict,#[],_,e1,rfl,(fun e he => absurd he (by simp)),fun _ => rfl⟩
 have I1 := I.laid (a := s.heap.objs.size) (o := .own (s.heap.objs.size + 1)) (h' := s.heap.push PySem.W.emptyDict) (t' := s.toks) (fun b u q => Heap.get?_push_of_some _ q) (Nat.le_refl _) ⟨_,e1⟩
 refine I1.laid (a := s.heap.objs.size + 1) (o := .ins C s.heap.objs.size []) (t' := s.toks) (fun b u q => Heap.get?_push_of_some _ q) (Nat.le_of_eq (Heap.size_push _ _)) ?_
 have ne : s.heap.objs.size ≠ s.heap.objs.size + 1 := Nat.ne_of_lt (Nat.lt_succ_self _)
 refine ⟨by rw [Ak ne,Ac],Nat.zero_le _,ne,e2,fun _ => none,(Heap.Ns1.of_empty e3).at fun o q => Heap.get?_push_of_some _ q,fun _ => True.intro,fun y hy => absurd rfl hy⟩
theorem attr_of {prog : Program} {w : World} {env : Env} {e : Expr} {f : Str} {pos : Pos} {s : Shared} {Q : Value → Shared → Prop} (hb : attributeBase e f env (eval e env) = eval e env)
 (h : wpAny (model prog w) A (eval e env) (fun o s₁ => wpAny (model prog w) A (getAttr o f true) Q E s₁) E s) : wpAny (model prog w) A (eval (.Attribute e f pos) env) Q E s :=
 Attribute_any_ h (by rw [arm_eval_Attribute,hb])
end
def tFld (K : PySem.W.Frag) (ta : TE) (f : Str) : TE := fun σ H Q => ta σ H fun x H1 => ∃ a C dx fs v,x = .ref a ∧ H1 a = some (.ins C dx fs) ∧ Cls K C ∧ NoAttr K C f ∧ fs.lookup f = some v ∧ Q v H1
def sFld (K : PySem.W.Frag) (ta tv : TE) (f : Str) : TS := fun D σ H => tv σ H fun y H1 => ta σ H1 fun x H2 => ∃ a C dx fs,x = .ref a ∧ H2 a = some (.ins C dx fs) ∧ Cls K C ∧ NoAttr K C f ∧ fs.length < 1000 ∧
 D.nx σ (upd H2 a (.ins C dx (putF f y fs)))
section
variable {X : Cx} {o e value : Expr} {f : Str} {pos pos' tpos : Pos} {ta tv : TE}
theorem Cm (he : PE X e ta) (hb : attributeBase e f X.env (eval e X.env) = eval e X.env) : PE X (.Attribute e f pos) (tFld X.K ta f) := by
 intro pins s σ H Q I h
 refine attr_of hb (thn (he pins s σ H _ I h) fun u s1 ⟨x,H1,I1,rx,a,C,dx,fs,v,ex,ea,c,n,l,q⟩ => ?_)
 subst ex
 obtain rfl : u = Value.ref a := rx
 exact getattr_ok I1 ea c n l fun u' s2 I2 ru => ⟨v,H1,I2,ru,q⟩
theorem ps_fld (ha : PE X o ta) (hv : PE X value tv) (hs : swapsWith value (some (.Attribute o f pos')) pos.line X.env = pure false) : PS X (.Assign [.Attribute o f pos'] value pos) (sFld X.K ta tv f) := by
 intro pins s σ H D I h
 refine plainObj_wpAny_Assign_Attribute (thn (hv pins s σ H _ I h) fun u s1 ⟨y,H1,I1,ry,q⟩ => thn (ha pins s1 σ H1 _ I1 q) fun ov s2 ⟨x,H2,I2,rx,a,C,dx,fs,ex,ea,c,n,l,q2⟩ => ?_) hs
 subst ex
 obtain rfl : ov = Value.ref a := rx
 exact setattr_ok I2 ea c n l ry fun s3 I3 => ⟨σ,_,I3,q2⟩
end
section
variable {X : Cx} {pins : List (Addr × Obj)} {σ : St} {H : Hp} {s : Shared} {A : Around} {E : Value → Shared → Prop} {Q : Value → Shared → Prop} {c : Value} {b : Bool}
inductive TyOf (K : PySem.W.Frag) (H : Hp) : V → Value → Prop where
 | non : TyOf K H .non (.type "NoneType")
 | bl (x : Bool) : TyOf K H (.bl x) (.type "bool")
 | int (i : Int) : TyOf K H (.int i) (.type "int")
 | str (x : Str) : TyOf K H (.str x) (.type "str")
 | flt (x : UInt64) : TyOf K H (.flt x) (.type "float")
 | lst {a : Addr} {xs : List V} (e : H a = some (.lst xs)) : TyOf K H (.ref a) (.type "list")
 | frz {a : Addr} {o : Obj} {xs : List V} (e : H a = some (.frz o (.lst xs))) : TyOf K H (.ref a) (.type "list")
 | tup {a : Addr} {xs : List V} (e : H a = some (.tup xs)) : TyOf K H (.ref a) (.type "tuple")
 | dK {a : Addr} {kvs : List (Key × V)} (e : H a = some (.dK kvs)) : TyOf K H (.ref a) (.type "dict")
 | dT {a : Addr} {kvs : List (List Key × V)} (e : H a = some (.dT kvs)) : TyOf K H (.ref a) (.type "dict")
 | ins {a C dx : Addr} {fs : List (Str × V)} (e : H a = some (.ins C dx fs)) (cl : Cls K C) (ha : PySem.W.findIn K (.ref C) "__class__" = some (some (.builtin "object.__class__")))
  (hn : PySem.W.specialIn K (.builtin "object.__class__") "__get__" = some (some (.builtin "getset_descriptor.__get__"))) (htk : PySem.W.takesIn K (.builtin "object.__class__") = some true)
  (hm : PySem.W.mroIn K C (.type "object") = some true) : TyOf K H (.ref a) (.ref C)
theorem isinst_ok {x : V} {u t : Value} (I : Inv X pins σ H s) (rx : RelV x u) (ty : TyOf X.K H x t) (e : PySem.W.kitOne X.K t c = some b) (h : ∀ tk,Q (.bool b) { s with toks := tk }) :
 wpAny (model X.prog X.w) A (call (.builtin "isinstance") [u,c]) Q E s := by
 cases ty with
 | non => cases (show u = Value.none from rx); exact PySem.W.kia_one PySem.W.kitx_none I.kIn True.intro e (fun z => nomatch z) h
 | bl y => cases (show u = Value.bool y from rx); exact PySem.W.kia_one PySem.W.kitx_bool I.kIn True.intro e (fun z => nomatch z) h
 | int i => obtain ⟨t,q⟩ := (show ∃ t,u = Value.int i t from rx); cases q; exact PySem.W.kia_one PySem.W.kitx_int I.kIn True.intro e (fun z => nomatch z) h
 | str y => obtain ⟨t,q⟩ := (show ∃ t,u = Value.str y t from rx); cases q; exact PySem.W.kia_one PySem.W.kitx_str I.kIn True.intro e (fun z => nomatch z) h
 | flt y => obtain ⟨t,q⟩ := (show ∃ t,u = Value.float y t from rx); cases q; exact PySem.W.kia_one PySem.W.kitx_float I.kIn True.intro e (fun z => nomatch z) h
 | @lst a xs ea =>
   cases (show u = Value.ref a from rx)
   obtain ⟨_,_,n,_,h1⟩ := (show Cj X.prog X.w H s.heap a (.lst xs) from I.hok a _ ea)
   exact PySem.W.kia_one PySem.W.kitx_list I.kIn ⟨_,h1,rfl⟩ e (fun z => nomatch z) h
 | @frz a ob xs ea =>
   cases (show u = Value.ref a from rx)
   obtain ⟨_,_,_,n,_,h1⟩ := (show Cj X.prog X.w H s.heap a (.frz ob (.lst xs)) from I.hok a _ ea)
   exact PySem.W.kia_one PySem.W.kitx_list I.kIn ⟨_,h1,rfl⟩ e (fun z => nomatch z) h
 | @tup a xs ea =>
   cases (show u = Value.ref a from rx)
   obtain ⟨_,_,_,p⟩ := (show Cj X.prog X.w H s.heap a (.tup xs) from I.hok a _ ea)
   obtain ⟨o,h1,h2,_⟩ := p
   exact PySem.W.kia_one PySem.W.kitx_tuple I.kIn ⟨o,h1,h2⟩ e (fun z => nomatch z) h
 | @dK a kvs ea =>
   cases (show u = Value.ref a from rx)
   obtain ⟨_,_,vs,_,p⟩ := (show Cj X.prog X.w H s.heap a (.dK kvs) from I.hok a _ ea)
   obtain ⟨o,es,ep,h1,h2,_⟩ := p
   exact PySem.W.kia_one PySem.W.kitx_dict I.kIn ⟨o,h1,h2.1⟩ e (fun z => nomatch z) h
 | @dT a kvs ea =>
   cases (show u = Value.ref a from rx)
   obtain ⟨_,_,xs,_,o,es,ep,h1,h2,_⟩ := (show Cj X.prog X.w H s.heap a (.dT kvs) from I.hok a _ ea)
   exact PySem.W.kia_one PySem.W.kitx_dict I.kIn ⟨o,h1,h2.1⟩ e (fun z => nomatch z) h
 | @ins a C dx fs ea cl ha hn htk hm =>
   cases (show u = Value.ref a from rx)
   obtain ⟨mA,O,_⟩ := ins_get I.hok ea
   obtain ⟨od,J,_⟩ := O.look
   exact PySem.W.kia_one (PySem.W.kitx_own (cl.get _) cl.hd ha hn htk hm) I.kIn J e (fun z => nomatch z) h
end
end L2
namespace L2
open PySem PySem.Spec PyProof.Rows
structure Room (k : Nat) (A : Around) : Prop where
 hd : A.handled = none
 dp : A.depth + 3 * k + 5 < recursionLimit
 un : A.units + 16 * k + 200 < cLine
 gd : A.guards = some []
theorem Room.mono {j k : Nat} {A : Around} (r : Room k A) (h : j ≤ k) : Room j A := ⟨r.hd,by have := r.dp; omega,by have := r.un; omega,r.gd⟩
theorem Room.deeper {k : Nat} {A : Around} (r : Room (k + 1) A) (env : Env) : Room k (A.deeper env) :=
 ⟨r.hd,by have := r.dp; show A.depth + 1 + 3 * k + 5 < _; omega,by have := r.un; show A.units + 3 + 16 * k + 200 < _; omega,by have := r.gd; first | exact this | simpa [Around.deeper] using this⟩
theorem make_depth {A : Around} {C : Addr} {us : List Value} {kw : List (Str × Value)} : (A.under (.builtin "type.__call__" ⟨.ref C :: us,kw⟩)).depth = A.depth + 1 := by
 first | rfl | simp [Around.under,Code.weight,Code.isCreation,Code.isGuard,Code.isCaller,Code.frames,Code.isFrame,guardIds]
theorem make_units {A : Around} {C : Addr} {us : List Value} {kw : List (Str × Value)} : (A.under (.builtin "type.__call__" ⟨.ref C :: us,kw⟩)).units = A.units + 1 := by
 first | rfl | simp [Around.under,Code.cUnits,Code.frames,Code.isFrame]
theorem Room.make {k : Nat} {A : Around} (r : Room (k + 1) A) (C : Addr) (us : List Value) (kw : List (Str × Value)) : Room k (A.under (.builtin "type.__call__" ⟨.ref C :: us,kw⟩)) :=
 ⟨r.hd,by have := r.dp; rw [make_depth]; omega,by have := r.un; rw [make_units]; omega,by have := r.gd; first | exact this | simpa [Around.under,Code.guards,Code.isGuard,guardIds,pushGuards] using this⟩
theorem Room.depth {k : Nat} {A : Around} (r : Room k A) : A.depth < recursionLimit := by have := r.dp; omega
theorem Room.units {k : Nat} {A : Around} (r : Room k A) : A.units + 64 < cLine := by have := r.un; omega
def tNil : TA := fun _ H Q => Q [] H
def tCons (ta : TE) (tr : TA) : TA := fun σ H Q => ta σ H fun x H1 => tr σ H1 fun xs H2 => Q (x :: xs) H2
section
variable {X : Cx} {e : Expr} {es : List Expr} {te : TE} {t : TA} {pos : Pos}
theorem Ab : PA X [] tNil := fun _ _ _ _ H Q I h => Calls.spliced_nil ⟨[],H,I,.nil,h⟩
theorem Aa (ha : PE X e te) (hr : PA X es t) (hs : starEach (e :: es) X.env = (false,eval e X.env) :: starEach es X.env := by rfl) : PA X (e :: es) (tCons te t) := by
 intro pos pins s σ H Q I h
 rw [hs]
 show wpAny _ _ (spliced ((false,eval e X.env) :: backTo pos (starEach es X.env))) _ _ s
 refine Calls.spliced_cons (thn (ha pins s σ H _ I h) fun u s1 ⟨x,H1,I1,r1,q1⟩ => ?_)
 exact thn (hr pos pins s1 σ H1 _ I1 q1) fun us s2 ⟨xs,H2,I2,r2,q2⟩ => ⟨x :: xs,H2,I2,.cons r1 r2,q2⟩
def tTup (t : TA) : TE := fun σ H Q => t σ H fun xs H1 => xs.length ≤ sizeLine ∧ ∀ p,H1 p = none → Q (.ref p) (upd H1 p (.tup xs))
def tLst (t : TA) : TE := fun σ H Q => t σ H fun xs H1 => xs.length ≤ sizeLine ∧ ∀ p,H1 p = none → Q (.ref p) (upd H1 p (.lst xs))
theorem Ai {x1} (h : PA X es t) : PE X (.Tuple es x1 pos) (tTup t) := by
 intro pins s σ H Q I hq
 refine wpAny_Tuple_spliced (thn (h pos pins s σ H _ I hq) fun us s1 ⟨xs,H1,I1,r,z,q⟩ => ⟨by rw [← r.length]; exact z,?_⟩)
 have hf : H1 s1.heap.objs.size = none := I1.hok.fresh (Nat.le_refl _)
 refine ⟨.ref s1.heap.objs.size,upd H1 s1.heap.objs.size (.tup xs),I1.laid (t' := s1.toks) (fun b u e => Heap.get?_push_of_some _ e) (Nat.le_refl _) ?_,rfl,q _ hf⟩
 exact ⟨z,us,r,⟨_,Heap.get?_push_size _ rfl,rfl,_,rfl⟩⟩
theorem Am (h : PA X es t) : PE X (.List es pos) (tLst t) := by
 intro pins s σ H Q I hq
 refine wpAny_List_spliced (thn (h pos pins s σ H _ I hq) fun us s1 ⟨xs,H1,I1,r,z,q⟩ => ⟨by rw [← r.length]; exact z,?_⟩)
 have hf : H1 s1.heap.objs.size = none := I1.hok.fresh (Nat.le_refl _)
 refine ⟨.ref s1.heap.objs.size,upd H1 s1.heap.objs.size (.lst xs),I1.laid (t' := s1.toks) (fun b u e => Heap.get?_push_of_some _ e) (Nat.le_refl _) ?_,rfl,q _ hf⟩
 exact ⟨z,us,0,r,Heap.get?_push_size _ rfl⟩
end
abbrev Sp := List V → Hp → VK → XK → Prop
abbrev CXT := List Env → Hp → Shared → XK → Value → Shared → Prop
structure Env0 (P : Program) (w : World) (K : PySem.W.Frag) (mg : Str → Option Value) (base : Heap) (A : Around) (outer : List Env) (s : Shared) (H : Hp) : Prop where
 frames : A.frames = some outer
 mod : Mod K mg base
 bs : ∀ b o,base.get? b = some o → s.heap.get? b = some o ∧ H b = none
 bsz : base.objs.size ≤ s.heap.objs.size
 funs : s.heap.FunFrames base outer
 frf : ∀ b ∈ frs outer,H b = none
 hok : HOk P w H s.heap
 bare : AllBare s.gens
def CE (outer : List Env) (P : Program) (w : World) (H : Hp) (s : Shared) (Q : VK) (u : Value) (s' : Shared) : Prop :=
 ∃ v H',s'.os = s.os ∧ AllBare s'.gens ∧ Un (frs outer) [] H H' s.heap s'.heap ∧ HOk P w H' s'.heap ∧ RelV v u ∧ Q v H'
def CR (CX : CXT) (outer : List Env) (P : Program) (w : World) (H : Hp) (s : Shared) (Q : VK) (E : XK) (r : Result) (s' : Shared) : Prop :=
 match r with
 | .ok (.ret u) => CE outer P w H s Q u s'
 | .ok _ => False
 | .error e => CX outer H s E e s'
structure FnOk (P : Program) (w : World) (K : PySem.W.Frag) (mg : Str → Option Value) (base : Heap) (CX : CXT) (k : Nat) (f : Addr) (fd : FuncData) (ps : List Str) (sp : Sp) : Prop where
 len : ∀ vs H Q E,sp vs H Q E → vs.length = ps.length
 run : ∀ (A : Around) (outer : List Env) (s : Shared) (H : Hp) (args : Args) (us : List Value) (vs : List V) (Q : VK) (E : XK),Room k A → Env0 P w K mg base A outer s H → BindsTo s fd args (ps.zip us) → Vals vs us → sp vs H Q E →
  codeAny (model P w) A (.call (.ref f) args) (CR CX outer P w H s Q E) s
theorem Env0.make {P : Program} {w : World} {K : PySem.W.Frag} {mg : Str → Option Value} {base : Heap} {A : Around} {outer : List Env} {s : Shared} {H : Hp} (e : Env0 P w K mg base A outer s H) (C : Addr) (us : List Value) (kw : List (Str × Value)) :
 Env0 P w K mg base (A.under (.builtin "type.__call__" ⟨.ref C :: us,kw⟩)) outer s H := ⟨by first | exact e.frames | (simpa [Around.under,Code.envs,Code.isFrame,pushEnvs] using e.frames),e.mod,e.bs,e.bsz,e.funs,e.frf,e.hok,e.bare⟩
section
variable {X : Cx} {pins : List (Addr × Obj)} {σ : St} {H : Hp} {s s' : Shared}
theorem Inv.env0 (I : Inv X pins σ H s) : Env0 X.prog X.w X.K X.mg X.base X.A X.stack s H :=
 ⟨I.ok.frames,I.ok.mod,I.bs,Nat.le_trans I.ok.bsz I.sz,I.stack,I.stkFree,I.hok,I.bare⟩
theorem Inv.after {Q : VK} {u : Value} (I : Inv X pins σ H s) (h : CE X.stack X.prog X.w H s Q u s') : EP X pins σ Q u s' := by
 obtain ⟨v,H',os,bare,un,hok,r,q⟩ := h
 obtain ⟨hh,g,d,t,os'⟩ := s'
 obtain rfl : os' = s.os := os
 exact ⟨v,H',I.call (h' := hh) (g' := g) (d' := d) (t' := t) (ch := []) un hok bare (fun b z => absurd z (by simp)),r,q⟩
end
def tCall (sp : Sp) (dvs : List V) (E : XK) (t : TA) : TE := fun σ H Q => t σ H fun vs H1 => sp (vs ++ dvs) H1 Q E
def tMake (C : Addr) (sp : Sp) (dvs : List V) (E : XK) (t : TA) : TE := fun σ H Q => t σ H fun vs H1 => ∀ x dx,H1 x = none → H1 dx = none → dx ≠ x →
 sp (.ref x :: (vs ++ dvs)) (upd (upd H1 dx (.own x)) x (.ins C dx [])) (fun v H2 => v = .non ∧ Q (.ref x) H2) E
def Df (K : PySem.W.Frag) (fd : FuncData) (ps : List Str) (ds : List Value) : Prop :=
 ∀ (s : Shared) (us : List Value),K.In s.heap → (us ++ ds).length = ps.length → BindsTo s fd ⟨us,[]⟩ (ps.zip (us ++ ds))
theorem Df.all {K : PySem.W.Frag} {fd : FuncData} {ps : List Str} (h : ∀ us : List Value,us.length = ps.length → bindArgs fd ⟨us,[]⟩ = pure (ps.zip us)) : Df K fd ps [] := fun s us _ hl => by
 rw [List.append_nil] at hl ⊢
 exact .of_eq (h us hl)
def Dx (CX : CXT) (X : Cx) (E : XK) : Prop := ∀ (pins : List (Addr × Obj)) (σ : St) (H : Hp) (s : Shared) (e : Value) (s' : Shared),Inv X pins σ H s → CX X.stack H s E e s' → X.xe e s'
section
variable {X : Cx} {CX : CXT} {k : Nat} {f C : Addr} {fd : FuncData} {ps : List Str} {sp : Sp} {dvs : List V} {ds : List Value} {E : XK} {x m : Str} {p pos apos : Pos} {e o : Expr} {es : List Expr} {ta : TE} {t : TA}
theorem run_fn {pins : List (Addr × Obj)} {σ : St} {H : Hp} {s : Shared} {Q : VK} {us : List Value} {vs : List V} (F : FnOk X.prog X.w X.K X.mg X.base CX k f fd ps sp) (hr : Room k X.A) (hb : Df X.K fd ps ds) (hd : Vals dvs ds) (hx : Dx CX X E)
 (I : Inv X pins σ H s) (r : Vals vs us) (h : sp (vs ++ dvs) H Q E) : wpAny (model X.prog X.w) X.A (call (.ref f) us) (EP X pins σ Q) X.xe s := by
 have r2 : Vals (vs ++ dvs) (us ++ ds) := r.append hd
 have hl : (us ++ ds).length = ps.length := by rw [← r2.length]; exact F.len _ _ _ _ h
 refine wpAny_call (codeAny_mono (F.run X.A X.stack s H ⟨us,[]⟩ (us ++ ds) (vs ++ dvs) Q E hr I.env0 (hb s us I.kIn hl) r2 h) fun r s' hq => ?_)
 cases r with
 | error e => exact hx pins σ H s e s' I hq
 | ok fl =>
   cases fl with
   | ret u => exact I.after hq
   | next => exact False.elim hq
   | brk => exact False.elim hq
   | cont => exact False.elim hq
theorem pe_call (F : FnOk X.prog X.w X.K X.mg X.base CX k f fd ps sp) (hr : Room k X.A) (hg : Gl X x) (hm : X.mg x = some (.ref f)) (hk : PySem.W.keepIn X.K (.ref f) = true) (hb : Df X.K fd ps ds) (hd : Vals dvs ds) (hx : Dx CX X E)
 (ha : PA X (e :: es) t) (hdb : (x == ("__debug__" : Str)) = false := by decide) (he : starEach (e :: es) X.env = (false,eval e X.env) :: starEach es X.env := by rfl) (hpl : (backTo pos (starEach es X.env)).any (·.1) = false := by rfl) :
 PE X (.Call (.Name x p) (e :: es) [] pos) (tCall sp dvs E t) := by
 intro pins s σ H Q I h
 refine wpAny_Call_Name_kw (ld_glob I hg hm ?_ hdb)
 refine PySem.W.callWith_K (h₀ := X.base) I.ok.mod.kin hk (thn (ha pos pins s σ H _ I h) fun us s1 ⟨vs,H1,I1,r,q⟩ => ⟨I1.kIn,?_⟩) he hpl
 exact run_fn F hr hb hd hx I1 r q
theorem pe_call0 (F : FnOk X.prog X.w X.K X.mg X.base CX k f fd ps sp) (hr : Room k X.A) (hg : Gl X x) (hm : X.mg x = some (.ref f)) (hk : PySem.W.keepIn X.K (.ref f) = true) (hb : Df X.K fd ps ds) (hd : Vals dvs ds) (hx : Dx CX X E)
 (hdb : (x == ("__debug__" : Str)) = false := by decide) : PE X (.Call (.Name x p) [] [] pos) (tCall sp dvs E tNil) := by
 intro pins s σ H Q I h
 refine wpAny_Call_Name_kw (ld_glob I hg hm ?_ hdb)
 exact PySem.W.callWith_K0 I.kIn hk (run_fn (us := []) F hr hb hd hx I .nil h)
structure Mk (K : PySem.W.Frag) (C f : Addr) : Prop where
 makes : PySem.W.makesIn K C = true
 init : PySem.W.findIn K (.ref C) "__init__" = some (some (.ref f))
 fn : PySem.W.isFn K (.ref f) = true
 kp : PySem.W.keepIn K (.ref C) = true
theorem run_make {pins : List (Addr × Obj)} {σ : St} {H : Hp} {s : Shared} {Q : VK} {us : List Value} {vs : List V} (M : Mk X.K C f) (F : FnOk X.prog X.w X.K X.mg X.base CX k f fd ps sp) (hr : Room (k + 1) X.A) (hb : Df X.K fd ps ds) (hd : Vals dvs ds)
 (hx : Dx CX X E) (I : Inv X pins σ H s) (r : Vals vs us)
 (h : ∀ x dx,H x = none → H dx = none → dx ≠ x → sp (.ref x :: (vs ++ dvs)) (upd (upd H dx (.own x)) x (.ins C dx [])) (fun v H2 => v = .non ∧ Q (.ref x) H2) E) :
 wpAny (model X.prog X.w) X.A (call (.ref C) us) (EP X pins σ Q) X.xe s := by
 have hq := h (s.heap.objs.size + 1) s.heap.objs.size (I.hok.fresh (Nat.le_succ _)) (I.hok.fresh (Nat.le_refl _)) (Nat.ne_of_lt (Nat.lt_succ_self _))
 have I2 := Inv.made (C := C) I
 have r2 : Vals (V.ref (s.heap.objs.size + 1) :: (vs ++ dvs)) (Value.ref (s.heap.objs.size + 1) :: (us ++ ds)) := .cons rfl (r.append hd)
 have hl : (Value.ref (s.heap.objs.size + 1) :: us ++ ds).length = ps.length := by
  have e := r2.length
  rw [F.len _ _ _ _ hq] at e
  exact e.symm
 refine wpAny_call (make_map (f := f) I.kIn M.makes M.init (beq_iff_eq.mp M.fn) (codeAny_mono (F.run _ X.stack _ _ ⟨Value.ref (s.heap.objs.size + 1) :: us,[]⟩ (Value.ref (s.heap.objs.size + 1) :: (us ++ ds)) _ _ E (hr.make C us [])
  (I2.env0.make C us []) (hb _ (Value.ref (s.heap.objs.size + 1) :: us) I2.kIn hl) r2 hq) fun r s' hq' => ?_))
 cases r with
 | error e => exact hx pins σ _ _ e s' I2 hq'
 | ok fl =>
   cases fl with
   | ret u =>
     obtain ⟨v,H',I3,rv,ev,q3⟩ := I2.after hq'
     subst ev
     exact ⟨rv,⟨V.ref (s.heap.objs.size + 1),H',I3,rfl,q3⟩⟩
   | next => exact False.elim hq'
   | brk => exact False.elim hq'
   | cont => exact False.elim hq'
theorem Ch (M : Mk X.K C f) (F : FnOk X.prog X.w X.K X.mg X.base CX k f fd ps sp) (hr : Room (k + 1) X.A) (hg : Gl X x) (hm : X.mg x = some (.ref C)) (hb : Df X.K fd ps ds) (hd : Vals dvs ds) (hx : Dx CX X E)
 (ha : PA X (e :: es) t) (hdb : (x == ("__debug__" : Str)) = false := by decide) (he : starEach (e :: es) X.env = (false,eval e X.env) :: starEach es X.env := by rfl) (hpl : (backTo pos (starEach es X.env)).any (·.1) = false := by rfl) :
 PE X (.Call (.Name x p) (e :: es) [] pos) (tMake C sp dvs E t) := by
 intro pins s σ H Q I h
 refine wpAny_Call_Name_kw (ld_glob I hg hm ?_ hdb)
 refine PySem.W.callWith_K (h₀ := X.base) I.ok.mod.kin M.kp (thn (ha pos pins s σ H _ I h) fun us s1 ⟨vs,H1,I1,r,q⟩ => ⟨I1.kIn,?_⟩) he hpl
 exact run_make M F hr hb hd hx I1 r q
end
section
variable {X : Cx} {CX : CXT} {k : Nat} {f C : Addr} {fd : FuncData} {ps ks : List Str} {sp : Sp} {E : XK} {x m : Str} {p pos apos kpos : Pos} {e o : Expr} {es : List Expr} {kws : List Keyword} {te ta : TE} {t tk : TA} {nm : Option Str}
variable {g : List Value → List Value → List Value} {gV : List V → List V → List V}
end
structure Ar (N P : List Str) (sc : Scope) : Prop where
 kind : sc.kind = .function
 co : sc.isCoroutine = false
 gen : sc.isGenerator = false
 nd : N.Nodup
 pre : N.take P.length = P
 par : ∀ x ∈ P,sc.names.lookup x = some .local ∨ sc.names.lookup x = some .cell
 nofree : ∀ y ∈ sc.names,y.2 ≠ .free
theorem bindL_out {kindOf : Str → Option NameKind} {x : Str} : ∀ {binds : List (Str × Value)} {m : Str → Option Value},(∀ v,(x,v) ∉ binds) → bindL kindOf binds m x = m x
 | [],_,_ => rfl
 | (n,v) :: r,m,h => by
   unfold bindL
   rw [bindL_out fun w hw => h w (List.mem_cons_of_mem _ hw)]
   split
   ·have : x ≠ n := by rintro rfl; exact h v List.mem_cons_self
    simp [this]
   ·rfl
theorem bindC_out {kindOf : Str → Option NameKind} {x : Str} : ∀ {binds : List (Str × Value)} {m : Str → Option Value},(∀ v,(x,v) ∉ binds) → bindC kindOf binds m x = m x
 | [],_,_ => rfl
 | (n,v) :: r,m,h => by
   unfold bindC
   rw [bindC_out fun w hw => h w (List.mem_cons_of_mem _ hw)]
   split
   ·rfl
   ·have : x ≠ n := by rintro rfl; exact h v List.mem_cons_self
    simp [this]
theorem bindL_get {kindOf : Str → Option NameKind} {x : Str} {v : Value} : ∀ {P : List Str} {vs : List Value} {i : Nat} {m : Str → Option Value},P.Nodup → P[i]? = some x → vs[i]? = some v → kindOf x = some .local →
 bindL kindOf (P.zip vs) m x = some v
 | [],_,_,_,_,h,_,_ => by simp at h
 | _ :: _,[],_,_,_,_,h,_ => by simp at h
 | p :: P,w :: vs,0,m,nd,h1,h2,hk => by
   simp at h1 h2; subst h1; subst h2
   show bindL kindOf ((p,w) :: P.zip vs) m p = _
   unfold bindL
   rw [bindL_out fun v hv => (List.nodup_cons.mp nd).1 (List.of_mem_zip hv).1,if_pos hk]
   simp
 | p :: P,w :: vs,i + 1,m,nd,h1,h2,hk => by
   show bindL kindOf ((p,w) :: P.zip vs) m x = _
   unfold bindL
   exact bindL_get (i := i) (List.nodup_cons.mp nd).2 (by simpa using h1) (by simpa using h2) hk
theorem bindC_get {kindOf : Str → Option NameKind} {x : Str} {v : Value} : ∀ {P : List Str} {vs : List Value} {i : Nat} {m : Str → Option Value},P.Nodup → P[i]? = some x → vs[i]? = some v → kindOf x ≠ some .local →
 bindC kindOf (P.zip vs) m x = some v
 | [],_,_,_,_,h,_,_ => by simp at h
 | _ :: _,[],_,_,_,_,h,_ => by simp at h
 | p :: P,w :: vs,0,m,nd,h1,h2,hk => by
   simp at h1 h2; subst h1; subst h2
   show bindC kindOf ((p,w) :: P.zip vs) m p = _
   unfold bindC
   rw [bindC_out fun v hv => (List.nodup_cons.mp nd).1 (List.of_mem_zip hv).1,if_neg hk]
   simp
 | p :: P,w :: vs,i + 1,m,nd,h1,h2,hk => by
   show bindC kindOf ((p,w) :: P.zip vs) m x = _
   unfold bindC
   exact bindC_get (i := i) (List.nodup_cons.mp nd).2 (by simpa using h1) (by simpa using h2) hk
def start (N : List Str) (vs : List V) : St := vs.map some ++ List.replicate (N.length - vs.length) none
def cxOf (CX : CXT) (P : Program) (w : World) (K : PySem.W.Frag) (mg : Str → Option Value) (base : Heap) (N : List Str) (qual : Str) (scope : Scope) (f : Addr) (cd : Value) (A : Around) (outer : List Env) (s : Shared) (H : Hp) (E : XK) : Cx where
 prog := P
 w := w
 K := K
 mg := mg
 base := base
 A := A.deeper (envOfC qual scope s.heap.objs.size f cd)
 N := N
 s₀ := s
 H₀ := H
 env := envOfC qual scope s.heap.objs.size f cd
 outer := outer
 stack := envOfC qual scope s.heap.objs.size f cd :: outer
 ex := []
 calm := true
 fn := fun _ => true
 pn := []
 xe := fun e s' => wpAny (model P w) (A.deeper (envOfC qual scope s.heap.objs.size f cd)) (leaving (envOfC qual scope s.heap.objs.size f cd) e) (fun _ s'' => CX outer H s E e s'') (fun e' s'' => CX outer H s E e' s'') s'
theorem cell_has {sc : Scope} {n : Nat} {x : Str} (h : sc.names.lookup x = some .cell) : ∃ c,(cellsFrom n sc.names []).lookup x = some c := by
 have q := PySem.W.cellsFrom_some sc.names n [] (.inl h)
 exact Option.isSome_iff_exists.mp q
theorem inv_start {CX : CXT} {P : Program} {w : World} {K : PySem.W.Frag} {mg : Str → Option Value} {base : Heap} {N ps : List Str} {qual : Str} {scope : Scope} {f : Addr} {cd : Value} {A : Around} {outer : List Env} {s s1 : Shared} {H : Hp} {E : XK} {us : List Value} {vs : List V}
 (S : Ar N ps scope) (hd : A.handled = none) (e0 : Env0 P w K mg base A outer s H) (hl : vs.length = ps.length) (r : Vals vs us)
 (x : InCallC s s.heap.objs.size (bindL (envOfC qual scope s.heap.objs.size f cd).kindOf (ps.zip us) fun _ => none) (cellsFrom (s.heap.objs.size + 1) scope.names []) (bindC (envOfC qual scope s.heap.objs.size f cd).kindOf (ps.zip us) fun _ => none) s1) :
 Inv (cxOf CX P w K mg base N qual scope f cd A outer s H E) [] (start N vs) H s1 := by
 have hpl : ps.length ≤ N.length := by have := congrArg List.length S.pre; rw [List.length_take] at this; omega
 obtain ⟨h1,tk,rfl,hk⟩ := x.done
 have noA : ∀ b : Addr,b ∉ (cxOf CX P w K mg base N qual scope f cd A outer s H E).ex := fun b z => absurd (show b ∈ ([] : List Addr) from z) (by simp)
 refine ⟨⟨e0.mod,S.kind,rfl,rfl,Nat.le_refl _,fun y z c h1 h2 => ?_,fun y hy => ?_,fun y c _ h => ?_,fun _ => hd,Around.frames_deeper e0.frames,.inr ⟨rfl,rfl⟩,fun b z => absurd z (noA b),e0.bs,e0.bsz,fun b _ _ => noA b,fun b z => absurd z (noA b),e0.funs,e0.frf⟩,
  rfl,e0.bare,Un.kept hk,⟨_,x.toInCall.ns,fun i y v h1 h2 h3 => ?_⟩,fun y c h => ⟨_,x.cell y c h⟩,e0.hok.fresh (Nat.le_refl _),fun y c h => ?_,fun p hp => absurd (show p ∈ ([] : List (Addr × Obj)) from hp) (by simp),e0.hok.kept hk,?_⟩
 ·exact name_of_addr x.apart (PySem.mem_of_lookup h1) (PySem.mem_of_lookup h2)
 ·have hy : scope.names.lookup y = some .cell ∨ scope.names.lookup y = some .free := hy
  rcases hy with hy | hy
  ·exact cell_has hy
  ·exact absurd rfl (S.nofree _ (PySem.mem_of_lookup hy))
 ·exact Nat.le_of_lt (x.above y c (PySem.mem_of_lookup h))
 ·have hi : i < vs.length := by
   unfold start at h2
   by_cases hi : i < vs.length
   ·exact hi
   ·rw [List.getElem?_append_right (by simpa using hi)] at h2
    rw [List.getElem?_replicate] at h2
    split at h2 <;> cases h2
  have ha : vs[i]? = some v := by
   unfold start at h2
   rw [List.getElem?_append_left (by simpa using hi),List.getElem?_map] at h2
   cases e : vs[i]? with
   | none => rw [e] at h2; cases h2
   | some a => rw [e] at h2; cases h2; rfl
  obtain ⟨u,hu,rv⟩ := r.get ha
  have hp : ps[i]? = some y := by
   rw [← S.pre,List.getElem?_take_of_lt (by omega)]; exact h1
  have ndP : ps.Nodup := by rw [← S.pre]; exact S.nd.sublist (List.take_sublist _ _)
  refine ⟨u,rv,?_⟩
  rcases S.par y (List.mem_of_getElem? hp) with k | k
  ·exact .inl ⟨k,bindL_get ndP hp hu k⟩
  ·obtain ⟨c,e⟩ := cell_has (n := s.heap.objs.size + 1) k
   refine .inr ⟨.inl k,c,e,?_⟩
   have q := x.cell y c e
   rw [bindC_get ndP hp hu (by show scope.names.lookup y ≠ _; rw [k]; decide)] at q
   exact q
 ·exact e0.hok.fresh (Nat.le_of_lt (x.above y c (PySem.mem_of_lookup h)))
 ·unfold start
  show _ = N.length
  rw [List.length_append,List.length_map,List.length_replicate]
  omega
theorem fn_of {CX : CXT} {P : Program} {w : World} {K : PySem.W.Frag} {mg : Str → Option Value} {base : Heap} {k : Nat} {f : Addr} {name qual : Str} {params : Arguments} {body : List Stmt} {scope : Scope} {dV kV doc pm cdv ct oc : Value} {an od : Option Addr}
 {osl : Array (Option Value)} {N ps : List Str} {sp : Sp} (lk : K.lookup f = some ⟨oc,od,.func (PySem.W.fnOf name qual params body scope dV kV doc pm an cdv ct),osl⟩) (hcd : PySem.W.codeIn K cdv qual = true) (S : Ar N ps scope)
 (len : ∀ vs H Q E,sp vs H Q E → vs.length = ps.length)
 (hbody : ∀ (A : Around) (outer : List Env) (s : Shared) (H : Hp) (vs : List V) (Q : VK) (E : XK),Room k (A.deeper (envOfC qual scope s.heap.objs.size f cdv)) → sp vs H Q E →
   ∃ t,PSs (cxOf CX P w K mg base N qual scope f cdv A outer s H E) body t ∧ t { nx := fun _ H' => Q .non H',rt := Q } (start N vs) H) :
 FnOk P w K mg base CX (k + 1) f (PySem.W.fnOf name qual params body scope dV kV doc pm an cdv ct) ps sp := by
 refine ⟨len,fun A outer s H args us vs Q E hr e0 hb r hsp => ?_⟩
 have hl := len _ _ _ _ hsp
 have KX : K.In s.heap := e0.mod.kin.keeps fun b o e => (e0.bs b o e).1
 have lim : s.heap.NoLimit := e0.mod.nolimit.keeps fun b o e => (e0.bs b o e).1
 have hkind : ∀ y ∈ ps.zip us,scope.names.lookup y.1 = some .local ∨ (scope.names.lookup y.1 = some .cell ∧ ((cellsFrom (s.heap.objs.size + 1) scope.names []).lookup y.1).isSome = true) := fun ⟨n,v⟩ hy => by
  rcases S.par n (List.of_mem_zip hy).1 with q | q
  ·exact .inl q
  ·exact .inr ⟨q,PySem.W.cellsFrom_some _ _ _ (.inl q)⟩
 refine codeAny_call_function hr.depth (KX _ _ lk) rfl S.co S.gen rfl (PySem.W.codeRec_of KX hcd) (hb _ _ _ _ ?_)
 refine wpAny_newFunctionEnv_cells S.kind hkind fun env he s1 x => ?_
 subst he
 refine ⟨lim.keeps x.toInCall.keep,codeAny_func ?_⟩
 obtain ⟨t,ht,hq⟩ := hbody A outer s H vs Q E (hr.deeper _) hsp
 have I : Inv (cxOf CX P w K mg base N qual scope f cdv A outer s H E) [] (start N vs) H s1 := inv_start S hr.hd e0 hl r x
 refine wpAny_mono (ht [] s1 (start N vs) H _ I hq) (fun fl s' hs => ?_) fun e s' hs => hs
 have fin : ∀ {σ' : St} {H' : Hp} {v : V} {u : Value},Inv (cxOf CX P w K mg base N qual scope f cdv A outer s H E) [] σ' H' s' → RelV v u → Q v H' → CE outer P w H s Q u s' :=
  fun {σ' H' v u} J rv q => ⟨v,H',J.os,J.bare,J.base,J.hok,rv,q⟩
 cases fl with
 | ret u =>
   obtain ⟨v,σ',H',J,rv,q⟩ := hs
   exact fin J rv q
 | next =>
   obtain ⟨σ',H',J,q⟩ := hs
   exact fin (v := V.non) (u := Value.none) J rfl q
 | brk =>
   obtain ⟨_,_,_,q⟩ := hs
   exact False.elim q
 | cont =>
   obtain ⟨_,_,_,q⟩ := hs
   exact False.elim q
end L2
namespace L2
open PySem PySem.Spec PyProof.Rows
section
variable {X : Cx} {x : Str} {p pos : Pos} {e : Expr} {es : List Expr} {t : TA} {id T : String} {r : List V → Hp → VK → Prop}
def tCB (r : List V → Hp → VK → Prop) (t : TA) : TE := fun σ H Q => t σ H fun vs H1 => r vs H1 Q
theorem Ah (hc : CallR X (.builtin id) r) (hg : Gl X x) (hm : X.mg x = none) (hv : bootBuiltins x = some (.builtin id)) (ha : PA X (e :: es) t) (hn : x ≠ "__name__" := by decide) (hdb : (x == ("__debug__" : Str)) = false := by decide)
 (he : starEach (e :: es) X.env = (false,eval e X.env) :: starEach es X.env := by rfl) (hpl : (backTo pos (starEach es X.env)).any (·.1) = false := by rfl) : PE X (.Call (.Name x p) (e :: es) [] pos) (tCB r t) := by
 intro pins s σ H Q I h
 refine wpAny_Call_Name_kw (ld_blt I hg hm hv ?_ hn hdb)
 exact PyProof.Rows.callWith_builtin1 (thn (ha pos pins s σ H _ I h) fun us s1 ⟨vs,H1,I1,r1,q1⟩ => hc pins s1 σ H1 vs us Q I1 r1 q1) he hpl
theorem Cn (hc : CallR X (.type T) r) (hg : Gl X x) (hm : X.mg x = none) (hv : bootBuiltins x = some (.type T)) (ha : PA X (e :: es) t) (hn : x ≠ "__name__" := by decide) (hdb : (x == ("__debug__" : Str)) = false := by decide)
 (he : starEach (e :: es) X.env = (false,eval e X.env) :: starEach es X.env := by rfl) (hpl : (backTo pos (starEach es X.env)).any (·.1) = false := by rfl) : PE X (.Call (.Name x p) (e :: es) [] pos) (tCB r t) := by
 intro pins s σ H Q I h
 refine wpAny_Call_Name_kw (ld_blt I hg hm hv ?_ hn hdb)
 exact PyProof.Rows.callWith_type1 (thn (ha pos pins s σ H _ I h) fun us s1 ⟨vs,H1,I1,r1,q1⟩ => hc pins s1 σ H1 vs us Q I1 r1 q1) he hpl
end
end L2
namespace HT
open PySem PyProof.Rows
section
open PySem.SeqAt
open PySem.AutoSeq1 (wpAny_loadPart')
open PySem.MeetsSeq PySem.MeetsSeq2 PySem.MeetsSeq3
end
section
variable {prog : Program} {w : World} {A : Around} {E : Value → Shared → Prop} {s : Shared}
def sIx (n d : Nat) : Option Int → Nat
 | none => d
 | some v => if v < 0 then (v + (n : Int)).toNat else min v.toNat n
theorem sIx_none (n d : Nat) : sIx n d none = d := rfl
theorem sIx_nat (n d k : Nat) : sIx n d (some (k : Int)) = min k n := by
 show (if (k : Int) < 0 then ((k : Int) + (n : Int)).toNat else min (k : Int).toNat n) = min k n
 rw [if_neg (by omega),Int.toNat_natCast]
end
end HT
namespace L2
open PySem PySem.Spec PyProof.Rows
abbrev TO := St → Hp → (Option Int → Hp → Prop) → Prop
def PO (X : Cx) (e : Option Expr) (t : TO) : Prop :=
 ∀ (pins : List (Addr × Obj)) (s : Shared) (σ : St) (H : Hp) (Q : Option Int → Hp → Prop),Inv X pins σ H s → t σ H Q →
  wpAny (model X.prog X.w) X.A (evalPart e X.env) (fun u s' => ∃ o H',Inv X pins σ H' s' ∧ IsPart u o ∧ Q o H') X.xe s
def tNoPart : TO := fun _ H Q => Q none H
def tPart (t : TE) : TO := fun σ H Q => t σ H fun x H1 => ∃ i,x = .int i ∧ Q (some i) H1
theorem intsAre_of {ns : List Int} : ∀ {us : List Value},Vals (ns.map V.int) us → IntsAre us ns := by
 induction ns with
 | nil => intro us r; rw [List.map_nil] at r; cases r; exact .nil
 | cons n ns ih =>
   intro us r
   rw [List.map_cons] at r
   cases r with
   | cons r1 r2 =>
     obtain ⟨t,e⟩ := r1
     subst e
     exact .cons n t (ih r2)
section
variable {X : Cx} {e : Expr} {te : TE} {lo hi : Option Expr} {tl th : TO} {pos p2 : Pos}
theorem Cb : PO X none tNoPart := by
 intro pins s σ H Q I h
 rw [evalPart_none]
 exact wpAny_pure ⟨none,H,I,.none,h⟩
theorem Br (h : PE X e te) : PO X (some e) (tPart te) := by
 intro pins s σ H Q I hw
 rw [evalPart_some]
 refine thn (h pins s σ H _ I hw) fun u s1 ⟨x,H1,I1,r1,q1⟩ => ?_
 obtain ⟨i,rfl,q⟩ := q1
 obtain ⟨t,rfl⟩ := r1
 exact ⟨some i,H1,I1,.int i t,q⟩
def SlR (X : Cx) (r : V → Option Int → Option Int → Hp → VK → Prop) : Prop :=
 ∀ (pins : List (Addr × Obj)) (s : Shared) (σ : St) (H : Hp) (x : V) (v vl vu : Value) (lo hi : Option Int) (sl : Addr) (Q : VK),Inv X pins σ H s → RelV x v → s.heap.IsSliceOf sl vl vu .none → IsPart vl lo → IsPart vu hi → r x lo hi H Q →
  ∃ T id,typeLookup (.type T) "__getitem__" = pure (some (.builtin id)) ∧ s.TypeIs v T ∧ wpAny (model X.prog X.w) X.A (getItem v (.ref sl)) (EP X pins σ Q) X.xe s
def tSl (r : V → Option Int → Option Int → Hp → VK → Prop) (te : TE) (tl th : TO) : TE := fun σ H Q => te σ H fun x H1 => tl σ H1 fun l H2 => th σ H2 fun u H3 => r x l u H3 Q
theorem Bl {r : V → Option Int → Option Int → Hp → VK → Prop} (hr : SlR X r) (he : PE X e te) (hl : PO X lo tl) (hu : PO X hi th) : PE X (.Subscript e (.Slice lo hi none p2) pos) (tSl r te tl th) := by
 intro pins s σ H Q I h
 refine Subscript_ (thn (he pins s σ H _ I h) fun v s1 ⟨x,H1,I1,r1,q1⟩ => ?_)
 refine wpAny_Slice (thn (hl pins s1 σ H1 _ I1 q1) fun vl s2 ⟨l,H2,I2,pl,q2⟩ => thn (hu pins s2 σ H2 _ I2 q2) fun vu s3 ⟨u,H3,I3,pu,q3⟩ => ?_)
 rw [evalPart_none]
 refine wpAny_pure ?_
 have I4 : Inv X pins σ H3 { s3 with heap := s3.heap.push { cls := .type "slice",data := .fields #[vl,vu,.none] } } := I3.kept (t' := s3.toks) fun b ob q => Heap.get?_push_of_some _ q
 obtain ⟨T,id,hT,ht,hg⟩ := hr pins { s3 with heap := s3.heap.push { cls := .type "slice",data := .fields #[vl,vu,.none] } } σ H3 x v vl vu l u s3.heap.objs.size Q I4 r1 (Heap.IsSliceOf.new ..) pl pu q3
 show wpAny (model X.prog X.w) X.A (subscriptTail e (.Slice lo hi none p2) v (.ref s3.heap.objs.size)) (EP X pins σ Q) X.xe { s3 with heap := s3.heap.push { cls := .type "slice",data := .fields #[vl,vu,.none] } }
 exact tail_any (ops := [.ref s3.heap.objs.size,v]) ht hT hg (by with_unfolding_all rfl)
def cutV (xs : List V) (lo hi : Option Int) : List V := (xs.drop (HT.sIx xs.length 0 lo)).take (HT.sIx xs.length xs.length hi - HT.sIx xs.length 0 lo)
theorem cutV_length (xs : List V) (lo hi : Option Int) : (cutV xs lo hi).length ≤ xs.length := by
 unfold cutV
 rw [List.length_take,List.length_drop]
 omega
end
end L2
namespace L2
open PySem PySem.Spec PyProof.Rows
def ixN (n : Nat) (i : Int) : Option Nat := if 0 ≤ i then (if i < n then some i.toNat else none) else if -(n : Int) ≤ i then some (i + n).toNat else none
def atI {α : Type} (xs : List α) (i : Int) : Option α := (ixN xs.length i).bind fun j => xs[j]?
theorem ixN_seq {n : Nat} {i : Int} {j : Nat} (h : ixN n i = some j) : seqIndex? i n = some j ∧ j < n ∧ -(n : Int) ≤ i ∧ i < n := by
 unfold ixN at h
 by_cases h0 : 0 ≤ i
 ·rw [if_pos h0] at h
  by_cases h1 : i < n
  ·rw [if_pos h1] at h
   have e : i.toNat = j := Option.some.inj h
   exact ⟨by rw [seqIndex_of h0 h1,e],by omega,by omega,h1⟩
  ·rw [if_neg h1] at h; cases h
 ·rw [if_neg h0] at h
  by_cases h1 : -(n : Int) ≤ i
  ·rw [if_pos h1] at h
   have e : (i + n).toNat = j := Option.some.inj h
   exact ⟨by rw [seqIndex_neg (by omega) h1,e],by omega,h1,by omega⟩
  ·rw [if_neg h1] at h; cases h
theorem atI_get {α : Type} {xs : List α} {i : Int} {v : α} (h : atI xs i = some v) : ∃ j,seqIndex? i xs.length = some j ∧ xs[j]? = some v ∧ j < xs.length ∧ -(xs.length : Int) ≤ i ∧ i < xs.length := by
 unfold atI at h
 cases e : ixN xs.length i with
 | none => rw [e] at h; cases h
 | some j =>
   rw [e] at h
   obtain ⟨h1,h2,h3,h4⟩ := ixN_seq e
   exact ⟨j,h1,h,h2,h3,h4⟩
theorem atI_nat {α : Type} {xs : List α} {j : Nat} {v : α} (h : xs[j]? = some v) : atI xs (j : Int) = some v := by
 have hj : j < xs.length := (List.getElem?_eq_some_iff.mp h).1
 have e : ixN xs.length (j : Int) = some j := by
  unfold ixN
  rw [if_pos (by omega),if_pos (by omega)]; simp
 unfold atI; rw [e]; exact h
def PlainIx (b : Expr) : Prop := ∀ o i,subscripted b false o i = operate [o,i] (getItem o i)
def IxR (X : Cx) (r : R2) : Prop :=
 ∀ (value slice : Expr) (pins : List (Addr × Obj)) (s : Shared) (σ : St) (H : Hp) (x y : V) (v u : Value) (Q : VK),Inv X pins σ H s → RelV x v → RelV y u → r x y H Q →
  subscripted slice false v u = operate [v,u] (getItem v u) → wpAny (model X.prog X.w) X.A (subscriptTail value slice v u) (EP X pins σ Q) X.xe s
def MtR (X : Cx) (id : String) (r : V → List V → Hp → VK → Prop) : Prop :=
 ∀ (pins : List (Addr × Obj)) (s : Shared) (σ : St) (H : Hp) (x : V) (xs : List V) (v : Value) (us : List Value) (Q : VK),Inv X pins σ H s → RelV x v → Vals xs us → r x xs H Q →
  wpAny (model X.prog X.w) X.A (call (.builtin id) (v :: us)) (EP X pins σ Q) X.xe s
section
variable {X : Cx} {a b : Expr} {ta tb : TE} {pos : Pos}
theorem Bk {r : R2} (hr : IxR X r) (ha : PE X a ta) (hb : PE X b tb) (hs : PlainIx b) : PE X (.Subscript a b pos) (tOp r ta tb) := by
 intro pins s σ H Q I h
 exact Subscript_ (binT ha hb I h fun v u s2 x y H2 I2 rx ry q => hr a b pins s2 σ H2 x y v u Q I2 rx ry q (hs _ _))
def rIxL (K : PySem.W.Frag) : R2 := fun x y H Q => ∃ p xs i v,x = .ref p ∧ y = .int i ∧ SqL K H p xs ∧ atI xs i = some v ∧ Q v H
def rIxT (K : PySem.W.Frag) : R2 := fun x y H Q => ∃ p xs i v,x = .ref p ∧ y = .int i ∧ SqT K H p xs ∧ atI xs i = some v ∧ Q v H
def rIxS : R2 := fun x y H Q => ∃ z i c,x = .str z ∧ y = .int i ∧ z.length ≤ sizeLine ∧ atI z.cps.toList i = some c ∧ Q (.str ⟨#[c]⟩) H
theorem A5 : IxR X (rIxL X.K) := by
 intro value slice pins s σ H x y v u Q I rx ry h hs
 obtain ⟨p,xs,i,z,rfl,rfl,hq,he,q⟩ := h
 cases rx
 obtain ⟨t,rfl⟩ := ry
 obtain ⟨its,r,pl,hz⟩ := I.list hq
 obtain ⟨j,h1,h2,h3,h4,h5⟩ := atI_get he
 obtain ⟨w,ew,rw'⟩ := r.get h2
 have hl := r.length
 have hn := line63
 have fin : EP X pins σ Q w s := ⟨z,H,I,rw',q⟩
 by_cases h0 : 0 ≤ i
 ·have hj : i.toNat = j := by
   rw [seqIndex_of h0 h5] at h1
   exact Option.some.inj h1
  exact item_listR pl.isList h0 (by omega) (by rw [hj]; simpa using ew) fin hs
 ·have hj : (i + (its.toArray.size : Int)).toNat = j := by
   rw [seqIndex_neg (by omega) h4] at h1
   rw [List.size_toArray,← hl]
   exact Option.some.inj h1
  exact subscriptTail_builtinR (x := w) pl.isList.typeIs slot_list_getitem.lookup
   (wpAny_getItem_list_neg (Q := fun r s' => r = w ∧ EP X pins σ Q r s') pl.isList (by omega) (by rw [List.size_toArray] <;> omega) (by omega) (by rw [hj]; simpa using ew) ⟨rfl,fin⟩) hs
theorem Di : IxR X (rIxT X.K) := by
 intro value slice pins s σ H x y v u Q I rx ry h hs
 obtain ⟨p,xs,i,z,rfl,rfl,hq,he,q⟩ := h
 cases rx
 obtain ⟨t,rfl⟩ := ry
 obtain ⟨its,r,pl,hz⟩ := I.tuple hq
 obtain ⟨j,h1,h2,h3,h4,h5⟩ := atI_get he
 obtain ⟨w,ew,rw'⟩ := r.get h2
 have hl := r.length
 have hn := line63
 have fin : EP X pins σ Q w s := ⟨z,H,I,rw',q⟩
 exact subscriptTail_builtinR (x := w) pl.typeIs slot_tuple_getitem.lookup
  (getItem_tuple (j := j) (Q := fun r s' => r = w ∧ EP X pins σ Q r s') pl (by omega) (by omega) (by rw [List.size_toArray,← hl]; exact h1) (by simpa using ew) ⟨rfl,fin⟩) hs
theorem ix_str : IxR X rIxS := by
 intro value slice pins s σ H x y v u Q I rx ry h hs
 obtain ⟨z,i,c,rfl,rfl,hz,he,q⟩ := h
 obtain ⟨t,rfl⟩ := rx
 obtain ⟨t',rfl⟩ := ry
 obtain ⟨j,h1,h2,h3,h4,h5⟩ := atI_get he
 have hl : z.cps.toList.length = z.length := by simp [Str.length]
 rw [hl] at h1 h4 h5
 have hn := line63
 exact tail_any (typeIs_str s z t) slot_str_getitem.lookup (getItem_str (c := c) (by
  have e1 : decide (i < -(2 ^ 63 : Int)) = false := decide_eq_false (by omega)
  have e2 : decide (i ≥ 2 ^ 63) = false := decide_eq_false (by omega)
  rw [e1,e2,Bool.or_false]) (by rw [h1]; simpa using h2) ⟨.str ⟨#[c]⟩,H,I.tok _,⟨_,rfl⟩,q⟩) hs
theorem mapSeq_set (its : List Value) (n j : Nat) (u : Value) : Obj.mapSeq (·.setIfInBounds j u) { cls := .type "list",data := .seq its.toArray n } = { cls := .type "list",data := .seq (its.set j u).toArray n } := by
 simp [Obj.mapSeq]
theorem Inv.lst {pins : List (Addr × Obj)} {σ : St} {H : Hp} {s : Shared} {p : Addr} {xs : List V} (I : Inv X pins σ H s) (h : H p = some (.lst xs)) :
 ∃ (its : List Value) (n : Nat),Vals xs its ∧ s.heap.get? p = some { cls := .type "list",data := .seq its.toArray n } ∧ xs.length ≤ sizeLine := by
 obtain ⟨z,its,n,r,e⟩ := I.hok p _ h
 exact ⟨its,n,r,e,z⟩
theorem Inv.lstUpd {pins : List (Addr × Obj)} {σ : St} {H : Hp} {s : Shared} {p : Addr} {xs ys : List V} {its its' : List Value} {n n' : Nat} {f : Obj → Obj} (I : Inv X pins σ H s) (h : H p = some (.lst xs))
 (ho : s.heap.get? p = some { cls := .type "list",data := .seq its.toArray n }) (hf : f { cls := .type "list",data := .seq its.toArray n } = { cls := .type "list",data := .seq its'.toArray n' }) (r : Vals ys its') (hz : ys.length ≤ sizeLine) (t : Nat) :
 Inv X pins σ (upd H p (.lst ys)) { s with heap := s.heap.update p f,toks := t } := by
 have e : (s.heap.update p f).get? p = some { cls := .type "list",data := .seq its'.toArray n' } := by
  rw [Heap.get?_update_self f ho (by rw [hf] <;> rfl),hf]
 refine I.write (x := p) (e := p) (by rw [h]; trivial) (.inl rfl) (fun b u hb q => (Heap.get?_update_other _ _ (Ne.symm hb)).trans q) ⟨_,e⟩ ?_
 exact ⟨hz,its',n',r,e⟩
def rSetL : V → V → V → Hp → (Hp → Prop) → Prop := fun o i v H Q => ∃ p xs k j,o = .ref p ∧ i = .int k ∧ H p = some (.lst xs) ∧ ixN xs.length k = some j ∧ Q (upd H p (.lst (xs.set j v)))
theorem set_list : PSet X rSetL := by
 intro pins s σ H o i v ov iv u Q I ro ri rv h
 obtain ⟨p,xs,k,j,rfl,rfl,hp,hj,q⟩ := h
 cases ro
 obtain ⟨t,rfl⟩ := ri
 obtain ⟨its,n,r,ho,hz⟩ := I.lst hp
 obtain ⟨h1,h2,h3,h4⟩ := ixN_seq hj
 have hl := r.length
 have hn := line63
 have I' : Inv X pins σ (upd H p (.lst (xs.set j v))) { s with heap := s.heap.update p (Obj.mapSeq (·.setIfInBounds j u)) } :=
  I.lstUpd hp ho (mapSeq_set its n j u) (r.set rv j) (by rw [List.length_set]; exact hz) s.toks
 by_cases h0 : 0 ≤ k
 ·have hk : k.toNat = j := by
   rw [seqIndex_of h0 h4] at h1
   exact Option.some.inj h1
  exact PySem.W.ki_setAt ho h0 (by omega) (by rw [List.size_toArray,← hl]; exact h4) (by rw [hk]; exact ⟨_,I',q⟩)
 ·have hk : (k + (its.toArray.size : Int)).toNat = j := by
   rw [seqIndex_neg (by omega) h3] at h1
   rw [List.size_toArray,← hl]
   exact Option.some.inj h1
  exact PySem.W.ki_setBack ho (by omega) (by rw [List.size_toArray,← hl]; exact h3) (by omega) (by rw [hk]; exact ⟨_,I',q⟩)
theorem slice_bounds (lo hi : Option Int) (n : Nat) : (sliceBounds lo hi none n).1 = ((HT.sIx n 0 lo : Nat) : Int) ∧ (sliceBounds lo hi none n).2.1 = ((HT.sIx n n hi : Nat) : Int) ∧ (sliceBounds lo hi none n).2.2 = 1 := by
 refine ⟨?_,?_,rfl⟩
 ·cases lo with
  | none => simp [sliceBounds,HT.sIx]
  | some i =>
    simp only [sliceBounds,HT.sIx,Option.getD_none,show (1 : Int) > 0 by decide,if_true]
    by_cases h : i < 0
    ·simp only [h,if_true] <;> omega
    ·simp only [h,if_false] <;> omega
 ·cases hi with
  | none => simp [sliceBounds,HT.sIx]
  | some i =>
    simp only [sliceBounds,HT.sIx,Option.getD_none,show (1 : Int) > 0 by decide,if_true]
    by_cases h : i < 0
    ·simp only [h,if_true] <;> omega
    ·simp only [h,if_false] <;> omega
theorem slicePick_cut (its : List Value) (lo hi : Option Int) : slicePick its.toArray lo hi none = ((its.drop (HT.sIx its.length 0 lo)).take (HT.sIx its.length its.length hi - HT.sIx its.length 0 lo)).toArray := by
 obtain ⟨h1,h2,h3⟩ := slice_bounds lo hi its.toArray.size
 unfold slicePick
 rw [h1,h2,h3]
 simp only [sliceRange_one,pick_run,List.size_toArray] <;> rfl
def rSlL (K : PySem.W.Frag) : V → Option Int → Option Int → Hp → VK → Prop := fun x lo hi H Q => ∃ a xs,x = .ref a ∧ SqL K H a xs ∧ ∀ p,H p = none → Q (.ref p) (upd H p (.lst (cutV xs lo hi)))
theorem Ca : SlR X (rSlL X.K) := by
 intro pins s σ H x v vl vu lo hi sl Q I rx hs pl pu h
 obtain ⟨a,xs,rfl,hx,q⟩ := h
 cases rx
 obtain ⟨its,r,ht,hz⟩ := I.list hx
 have hlen := r.length
 refine ⟨"list",_,slot_list_getitem.lookup,ht.isList.typeIs,?_⟩
 refine wpAny_getItem_list_slice ht.isList hs pl pu .none (by simp) ?_ (by rw [List.size_toArray] <;> omega)
 rw [slicePick_cut,← hlen]
 refine ⟨.ref s.heap.objs.size,_,I.laid (t' := s.toks) (o := .lst (cutV xs lo hi)) (fun b ob q => Heap.get?_push_of_some _ q) (Nat.le_refl _) ?_,rfl,q _ (I.hok.fresh (Nat.le_refl _))⟩
 exact ⟨Nat.le_trans (cutV_length xs lo hi) hz,_,0,(r.drop (HT.sIx xs.length 0 lo)).take (HT.sIx xs.length xs.length hi - HT.sIx xs.length 0 lo),Heap.get?_push_size _ rfl⟩
def flatV : V → Bool
 | .non => true
 | .bl _ => true
 | .int _ => true
 | .str _ => true
 | _ => false
def eqV : V → V → Bool
 | .non,.non => true
 | .bl a,.bl b => a == b
 | .bl a,.int b => (if a then 1 else 0) == b
 | .int a,.bl b => a == (if b then 1 else 0)
 | .int a,.int b => a == b
 | .str a,.str b => a == b
 | _,_ => false
theorem eqAt_V {A : Around} {s : Shared} {y x : V} {u v : Value} (ry : RelV y u) (rx : RelV x v) (fy : flatV y = true) (fx : flatV x = true) : SeqAt.EqAt A s u v (eqV y x) := by
 cases y with
 | non =>
   cases ry
   cases x with
   | non => cases rx; exact SeqAt.EqAt.same _
   | bl b => cases rx; exact SeqAt.EqAt.none_bool b
   | int b => obtain ⟨t,rfl⟩ := rx; exact SeqAt.EqAt.none_int b t
   | str b => obtain ⟨t,rfl⟩ := rx; exact SeqAt.EqAt.none_str b t
   | _ => exact absurd (show false = true from fx) Bool.false_ne_true
 | bl a =>
   cases ry
   cases x with
   | non => cases rx; exact SeqAt.EqAt.bool_none a
   | bl b => cases rx; exact SeqAt.EqAt.bool_bool a b
   | int b => obtain ⟨t,rfl⟩ := rx; exact SeqAt.EqAt.bool_int a b t
   | str b => obtain ⟨t,rfl⟩ := rx; exact SeqAt.EqAt.bool_str a b t
   | _ => exact absurd (show false = true from fx) Bool.false_ne_true
 | int a =>
   obtain ⟨t',rfl⟩ := ry
   cases x with
   | non => cases rx; exact SeqAt.EqAt.int_none a t'
   | bl b => cases rx; exact SeqAt.EqAt.int_bool a t' b
   | int b => obtain ⟨t,rfl⟩ := rx; exact SeqAt.EqAt.int_int a t' b t
   | str b => obtain ⟨t,rfl⟩ := rx; exact SeqAt.EqAt.int_str a t' b t
   | _ => exact absurd (show false = true from fx) Bool.false_ne_true
 | str a =>
   obtain ⟨t',rfl⟩ := ry
   cases x with
   | non => cases rx; exact SeqAt.EqAt.str_none a t'
   | bl b => cases rx; exact SeqAt.EqAt.str_bool a t' b
   | int b => obtain ⟨t,rfl⟩ := rx; exact SeqAt.EqAt.str_int a t' b t
   | str b => obtain ⟨t,rfl⟩ := rx; exact SeqAt.EqAt.str_str a t' b t
   | _ => exact absurd (show false = true from fx) Bool.false_ne_true
 | _ => exact absurd (show false = true from fy) Bool.false_ne_true
def eqU (x : V) (u : Value) : Bool := match u with
 | .none => eqV .non x
 | .bool b => eqV (.bl b) x
 | .int i _ => eqV (.int i) x
 | .str z _ => eqV (.str z) x
 | _ => false
theorem eqU_of {x y : V} {u : Value} (r : RelV y u) (f : flatV y = true) : eqU x u = eqV y x := by
 cases y with
 | non => cases r; rfl
 | bl b => cases r; rfl
 | int i => obtain ⟨t,rfl⟩ := r; rfl
 | str z => obtain ⟨t,rfl⟩ := r; rfl
 | _ => exact absurd (show false = true from f) Bool.false_ne_true
theorem any_eqU {x : V} : ∀ {xs : List V} {us : List Value},Vals xs us → xs.all flatV = true → us.any (eqU x) = xs.any fun y => eqV y x
 | _,_,.nil,_ => rfl
 | y :: xs,u :: us,.cons r t,f => by
   rw [List.all_cons,Bool.and_eq_true] at f
   rw [List.any_cons,List.any_cons,eqU_of r f.1,any_eqU t f.2]
theorem mem_eqAt {A : Around} {s : Shared} {x : V} {v : Value} (rx : RelV x v) (fx : flatV x = true) : ∀ {xs : List V} {us : List Value},Vals xs us → xs.all flatV = true → ∀ u ∈ us,SeqAt.EqAt A s u v (eqU x u)
 | _,_,.nil,_ => fun u hu => by cases hu
 | y :: xs,u :: us,.cons r t,f => fun u' hu => by
   rw [List.all_cons,Bool.and_eq_true] at f
   rcases List.mem_cons.mp hu with rfl | hu
   ·rw [eqU_of r f.1]; exact eqAt_V r rx f.1 fx
   ·exact mem_eqAt rx fx t f.2 u' hu
def inV (x : V) (xs : List V) : Bool := xs.any fun y => eqV y x
def rIn (K : PySem.W.Frag) (neg : Bool) : R2 := fun x y H Q => ∃ p xs,y = .ref p ∧ (SqL K H p xs ∨ SqT K H p xs) ∧ flatV x = true ∧ xs.all flatV = true ∧ Q (.bl (if neg then !inV x xs else inV x xs)) H
theorem op_in_seq : OpR X (compareOp .In) (rIn X.K false) := by
 intro pins s σ H x y v u Q I rx ry h
 obtain ⟨p,xs,rfl,hq,fx,fs,q⟩ := h
 cases ry
 rcases hq with hq | hq
 ·obtain ⟨its,r,pl,hz⟩ := I.list hq
  refine SeqAt.in_listAt (eqU x) pl.isList (fun w hw => mem_eqAt rx fx r fs w (by simpa using hw)) ⟨.bl _,H,I,rfl,?_⟩
  rw [show its.toArray.any (eqU x) = its.any (eqU x) by simp,any_eqU r fs]
  exact q
 ·obtain ⟨its,r,pl,hz⟩ := I.tuple hq
  refine SeqAt.in_tupleAt (eqU x) pl (fun w hw => mem_eqAt rx fx r fs w (by simpa using hw)) ⟨.bl _,H,I,rfl,?_⟩
  rw [show its.toArray.any (eqU x) = its.any (eqU x) by simp,any_eqU r fs]
  exact q
theorem Bs : CallR X (.type "tuple") (fun xs H Q => ∃ p ys,xs = [.ref p] ∧ ((SqL X.K H p ys ∧ ∀ l,H l = none → Q (.ref l) (upd H l (.tup ys))) ∨ (SqT X.K H p ys ∧ Q (.ref p) H))) := by
 intro pins s σ H xs us Q I r h
 obtain ⟨p,ys,rfl,h⟩ := h
 obtain ⟨u,rfl,rx⟩ := vals1 r
 cases rx
 rcases h with ⟨hq,q⟩ | ⟨hq,q⟩
 ·obtain ⟨its,r',pl,hz⟩ := I.list hq
  have hlen := r'.length
  refine call_tuple_list pl.isList (fun h' kp => ?_) (by simp only [List.size_toArray] <;> omega)
  have I1 : Inv X pins σ H { s with heap := h' } := I.kept (t' := s.toks) kp
  have I2 : Inv X pins σ (upd H h'.objs.size (.tup ys)) { s with heap := h'.push { cls := .type "tuple",data := .seq its.toArray } } :=
   I1.laid (t' := s.toks) (fun b o e => Heap.get?_push_of_some _ e) (Nat.le_refl _) (show Cj X.prog X.w _ _ _ (.tup ys) from ⟨hz,its,r',IsTup.new _ _⟩)
  exact ⟨.ref h'.objs.size,_,I2,rfl,q _ (I1.hok.fresh (Nat.le_refl _))⟩
 ·obtain ⟨its,r',pl,hz⟩ := I.tuple hq
  exact call_tuple_same pl ⟨.ref p,H,I,rfl,q⟩
def tyV (K : PySem.W.Frag) (T : String) (x : V) (H : Hp) : Prop := match x with
 | .str _ => T = "str"
 | .int _ => T = "int"
 | .ref p => (T = "list" ∧ ∃ xs,SqL K H p xs) ∨ (T = "tuple" ∧ ∃ o,K.lookup p = some o ∧ o.cls = .type "tuple" ∧ o.dict = none) ∨
  (T = "dict" ∧ ((∃ kvs,H p = some (.dK kvs)) ∨ ∃ kvs,H p = some (.dT kvs))) ∨ (T = "set" ∧ ∃ S n,H p = some (.set S n))
 | _ => False
theorem tyV_is {pins : List (Addr × Obj)} {σ : St} {H : Hp} {s : Shared} {T : String} {x : V} {v : Value} (I : Inv X pins σ H s) (r : RelV x v) (ty : tyV X.K T x H) :
 s.TypeIs v T ∧ ∀ a,v = .ref a → ∃ ob,s.heap.get? a = some ob ∧ ob.dict = none := by
 cases x with
 | str z =>
   obtain ⟨t,rfl⟩ := r
   cases (show T = "str" from ty)
   exact ⟨typeIs_str s z t,fun _ e => nomatch e⟩
 | int i =>
   obtain ⟨t,rfl⟩ := r
   cases (show T = "int" from ty)
   exact ⟨typeIs_int s i t,fun _ e => nomatch e⟩
 | ref p =>
   cases r
   rcases ty with ⟨rfl,xs,hq⟩ | ⟨rfl,o,hk,hc,hd⟩ | ⟨rfl,hk⟩ | ⟨rfl,S,n,hk⟩
   ·obtain ⟨its,_,pl,_⟩ := I.list hq
    refine ⟨pl.isList.typeIs,fun a e => ?_⟩
    cases e
    obtain ⟨o,n,e,c,hd,_⟩ := pl
    exact ⟨o,e,hd⟩
   ·refine ⟨⟨o,I.kIn p o hk,hc⟩,fun a e => ?_⟩
    cases e
    exact ⟨o,I.kIn _ o hk,hd⟩
   ·have z : ∃ o,s.heap.get? p = some o ∧ o.ExactDict := by
     rcases hk with ⟨kvs,hk⟩ | ⟨kvs,hk⟩
     ·obtain ⟨_,_,_,_,o,_,_,e,ex,_⟩ := I.hok p _ hk
      exact ⟨o,e,ex⟩
     ·obtain ⟨_,_,_,_,o,_,_,e,ex,_⟩ := I.hok p _ hk
      exact ⟨o,e,ex⟩
    obtain ⟨o,e,ex⟩ := z
    refine ⟨⟨o,e,ex.1⟩,fun a e2 => ?_⟩
    cases e2
    exact ⟨o,e,ex.2.1⟩
   ·obtain ⟨o,_,_,_,e,ex,_⟩ := I.hok p _ hk
    refine ⟨⟨o,e,ex.1⟩,fun a e2 => ?_⟩
    cases e2
    exact ⟨o,e,ex.2.1⟩
 | _ => exact False.elim ty
def tBM (K : PySem.W.Frag) (T : String) (r : V → List V → Hp → VK → Prop) (to : TE) (t : TA) : TE := fun σ H Q => to σ H fun x H1 => tyV K T x H1 ∧ t σ H1 fun xs H2 => r x xs H2 Q
variable {o e : Expr} {es : List Expr} {to : TE} {t : TA} {name : Str} {apos cpos : Pos} {T id : String} {r : V → List V → Hp → VK → Prop}
theorem C3 (pa : PlainAttrs T) (slot : Slot T name id) (hty : typeOf (.builtin id) = pure (.type "method_descriptor")) (hm : MtR X id r) (ho : PE X o to) (ha : PA X (e :: es) t)
 (hbase : attributeBase o name X.env (eval o X.env) = eval o X.env := by rfl)
 (hfew : ((backTo cpos (starEach (e :: es) X.env)).all (fun x => !x.1) && (backToKw cpos (keywordEach [] X.env)).all (fun x => x.1.isSome)
   && decide ((e :: es).length + ([] : List Keyword).length + (if ([] : List Keyword).isEmpty then 0 else 1) < 30)) = true := by rfl)
 (hline : (apos.endLine == cpos.line) = true := by rfl) (hs : starEach (e :: es) X.env = (false,eval e X.env) :: starEach es X.env := by rfl) (hplain : (backTo cpos (starEach es X.env)).any (·.1) = false := by rfl) :
 PE X (.Call (.Attribute o name apos) (e :: es) [] cpos) (tBM X.K T r to t) := by
 intro pins s σ H Q I h
 refine wpAny_Call_method_late hbase hfew hline rfl (thn (ho pins s σ H _ I h) fun v s1 ⟨x,H1,I1,r1,ty,q1⟩ => ?_)
 obtain ⟨h1,h2⟩ := tyV_is I1 r1 ty
 refine ⟨T,id,pa,slot,hty,h1,h2,?_⟩
 have hA := ha cpos pins s1 σ H1 _ I1 q1
 rw [hs] at hA ⊢
 refine Calls.callWith_builtin (by show (false || (backTo cpos (starEach es X.env)).any (·.1)) = false; rw [hplain] <;> rfl) (Calls.evalArgs_plain ?_)
 exact thn hA fun us s2 ⟨vs,H2,I2,r2,q2⟩ => hm pins s2 σ H2 x vs v us Q I2 r1 r2 q2
/- xs.append(e),list.index on a module's tuple .. are MtR facts of 06m -/
end
end L2
namespace L2
open PySem PySem.Spec PyProof.Rows
def MtM (X : Cx) (id : String) (r : V → List V → Hp → VK → Prop) : Prop :=
 ∀ (pins : List (Addr × Obj)) (s : Shared) (σ : St) (H : Hp) (x : V) (xs : List V) (v : Value) (us : List Value) (Q : VK),Inv X pins σ H s → RelV x v → Vals xs us → r x xs H Q →
  wpAny (model X.prog X.w) X.A (call (.builtin id) (v :: us)) (EP X pins σ Q) X.xe s
theorem Vals.one : ∀ {x : V} {us : List Value},Vals [x] us → ∃ u,us = [u] ∧ RelV x u
 | _,_,.cons r .nil => ⟨_,rfl,r⟩
section
variable {X : Cx} {pins : List (Addr × Obj)} {σ : St} {H : Hp} {s : Shared} {l b : Addr} {xs ys zs : List V}
theorem Inv.lset {its its' : List Value} {n : Nat} {f : Array Value → Array Value} {t' : Nat} (I : Inv X pins σ H s) (hH : H l = some (.lst xs))
 (e : s.heap.get? l = some { cls := .type "list",data := .seq its.toArray n }) (hf : f its.toArray = its'.toArray) (hv : Vals ys its') (hz : ys.length ≤ sizeLine) :
 Inv X pins σ (upd H l (.lst ys)) { s with heap := s.heap.update l (Obj.mapSeq f),toks := t' } := by
 have q := PySem.IsL.update e f
 rw [hf] at q
 refine I.write (x := l) (e := l) (by rw [hH]; exact trivial) (.inl rfl) (fun b' u hb hu => (Heap.get?_update_other s.heap (Obj.mapSeq f) (Ne.symm hb)).trans hu) ⟨_,q⟩ ?_
 exact ⟨hz,its',_,hv,q⟩
theorem Inv.lnew {its : List Value} {t' : Nat} (I : Inv X pins σ H s) (hv : Vals ys its) (hz : ys.length ≤ sizeLine) :
 Inv X pins σ (upd H s.heap.objs.size (.lst ys)) { s with heap := s.heap.push { cls := .type "list",data := .seq its.toArray },toks := t' } :=
 I.laid (fun _ _ q => Heap.get?_push_of_some _ q) (Nat.le_refl _) ⟨hz,its,0,hv,Heap.get?_push_size _ rfl⟩
theorem Inv.fresh (I : Inv X pins σ H s) : H s.heap.objs.size = none := I.hok.fresh (Nat.le_refl _)
theorem Inv.lstM (I : Inv X pins σ H s) (hH : H l = some (.lst xs)) : xs.length ≤ sizeLine ∧ ∃ (its : List Value) (n : Nat),Vals xs its ∧ xs.length = its.length ∧ s.heap.get? l = some { cls := .type "list",data := .seq its.toArray n } := by
 obtain ⟨z,its,n,r,e⟩ := I.hok l _ hH
 exact ⟨z,its,n,r,r.length,e⟩
end
section
variable {X : Cx}
def rAppend : V → List V → Hp → VK → Prop := fun x vs H Q => ∃ l xs y,x = .ref l ∧ vs = [y] ∧ H l = some (.lst xs) ∧ xs.length < sizeLine ∧ Q .non (upd H l (.lst (xs ++ [y])))
theorem Az : MtM X "list.append" rAppend := by
 intro pins s σ H x vs v us Q I rx rv h
 obtain ⟨l,xs,y,rfl,rfl,hH,hz,q⟩ := h
 cases rx
 obtain ⟨u,rfl,ru⟩ := rv.one
 obtain ⟨z,its,n,r,hl,e⟩ := I.lstM hH
 refine call_meets F.slot_list_append ⟨_,e,rfl⟩ F.entry_list_append (F.args_list_append_2 _ _) (PySem.list_append l its.toArray n u (by rw [List.size_toArray]; omega)) ⟨e,?_⟩
 refine ⟨.non,_,I.lset (its' := its ++ [u]) hH e (by simp) (r.append (.cons ru .nil)) ?_,rfl,q⟩
 rw [List.length_append,List.length_singleton]
 omega
def rCat : R2 := fun x y H Q => ∃ l b xs zs,x = .ref l ∧ y = .ref b ∧ H l = some (.lst xs) ∧ H b = some (.lst zs) ∧ xs.length + zs.length ≤ sizeLine ∧ ∀ p,H p = none → Q (.ref p) (upd H p (.lst (xs ++ zs)))
theorem op_cat : OpR X (binaryOp .Add) rCat := by
 intro pins s σ H x y v u Q I rx ry h
 obtain ⟨l,b,xs,zs,rfl,rfl,hH,hB,hz,q⟩ := h
 cases rx
 cases ry
 obtain ⟨z,its,n,r,hl,e⟩ := I.lstM hH
 obtain ⟨z2,its2,n2,r2,hl2,e2⟩ := I.lstM hB
 refine PySem.P.add_list e e2 ?_ (by rw [List.size_toArray,List.size_toArray]; omega)
 have ea : its.toArray ++ its2.toArray = (its ++ its2).toArray := by simp
 rw [ea]
 exact ⟨.ref _,_,I.lnew (t' := s.toks) (r.append r2) (by rw [List.length_append]; omega),rfl,q _ I.fresh⟩
end
section
variable {prog : Program} {w : World} {A : Around} {E : Value → Shared → Prop} {s : Shared}
set_option maxRecDepth 100000 in
end
section
variable {X : Cx}
end
end L2
namespace Att
open PySem PySem.W PySem.Calls PyProof.Rows
theorem ints_of_wellAll {P : Params} {h : Heap} : ∀ (ns : List Int) (vs : List Value),WellAll P h vs (ns.map WData.int) → IntsAre vs ns := by
 intro ns
 induction ns with
 | nil =>
   intro vs w
   rw [List.map_nil] at w
   cases w
   exact .nil
 | cons n ns ih =>
   intro vs w
   rw [List.map_cons] at w
   cases w with
   | cons a b =>
     cases a
     exact .cons _ _ (ih _ b)
theorem script_of {l : OpenLaw} {n : Nat} (hn : l.most = some n) {P : Params} {h : Heap} {args : List WData} {vals : List Value}
 (hpre : l.row.toRowW.claim.pre args = true) (hwl : WellAll P h vals args) :
 ∃ a vs ns,vals = [Value.ref a] ∧ args = [WData.list (ns.map WData.int)] ∧ h.get? a = some { cls := .type "list",data := .seq vs.toArray } ∧ IntsAre vs ns ∧ ns.length ≤ n := by
 have hsh : WShape.hasAll [] args [.list .int] = true := (pre_splitW hpre).1
 have hc : l.pre.holds [] { args := args } = true := (pre_splitW hpre).2
 obtain ⟨d,r,rfl,h1,h2⟩ := hasAllW_cons hsh
 obtain rfl := hasAllW_nil h2
 obtain ⟨xs,rfl,h3⟩ := hasW_list h1
 obtain ⟨ns,rfl⟩ := items_int h3
 have hlen : ns.length ≤ n := by
  unfold OpenLaw.pre at hc
  have h4 : (WTm.not (.lt (.lit (.int (n : Int))) (.len (.arg 0)))).holds [] { args := [.list (ns.map .int)] } = true := by
   have h4 := (holds_andW hc).1
   rw [hn] at h4
   exact h4
  have h5 := condW_of h4 (w_not (w_lt w_lit (w_len_list (w_arg rfl))))
  rw [List.length_map] at h5
  refine Nat.le_of_not_lt fun q => ?_
  have q' : (n : Int) < ((ns.length : Nat) : Int) := by omega
  first
   | (rw [decide_eq_true q'] at h5; exact absurd h5 (by decide))
   | (simp at h5; omega)
 cases hwl with
 | cons w1 w2 =>
   cases w2
   cases w1 with
   | list ho hall => exact ⟨_,_,ns,rfl,rfl,ho,ints_of_wellAll ns _ hall,hlen⟩
theorem post_true (l : OpenLaw) (args : List WData) : l.row.toRowW.claim.post args (.bool true) args = true :=
 postW_of (r := l.row.toRowW) (X := (true == true))
  (show WShape.has [] (.bool true) .bool = true by first | rfl | decide | simp [WShape.has,WShape.arms,WShape.armsAll])
  (show (WTm.eq .res (.lit (.bool true))).value [] { args := args,res := some (.bool true),after := args } = some (.bool (true == true)) from w_eq_bool (w_res rfl) w_lit) rfl
theorem attach_call {l : OpenLaw} {n : Nat} {q : Program} {loose : List Str} {XP : (Str → Option Value) → Heap → Prop} {YP : World → Heap → Prop} {d : DefRec}
 (hn : l.most = some n) (hdf : d.params.defaults = [])
 (call : ∀ (w : World) (s₀ s₁ : Shared) (mg mb : Str → Option Value) (fa : Addr) (o : Obj) (pm cd doc : Value) (a : Addr) (vs : List Value) (ns : List Int),
   Ground q loose [] XP w s₀ mg mb s₁.heap → YP w s₁.heap →
   s₁.heap.get? fa = some o → o.data = .func (docDef d.name d.params d.body d.scope pm cd doc) → s₁.heap.CodeRec cd d.name → mg d.name = some (.ref fa) →
   s₁.heap.get? a = some { cls := .type "list",data := .seq vs.toArray } → IntsAre vs ns → ns.length ≤ n → s₁.gens = #[] →
   codeAny (model l.prog w) callerA (.call (.ref fa) ⟨[.ref a],[]⟩) (fun r s' => r = .ok (.ret (.bool true)) ∧ OldK s₁.heap s'.heap ∧ s'.os = s₁.os ∧ AllBare s'.gens) s₁) :
 WalkO q loose XP YP l.row.toRowW d [] (fun f vs => PySem.call f vs) := by
 intro w s₀ s₁ mg mb G Y fa o pm cd doc dV kV ho hd hcd hD hmg hg args vals as hpre hlay hrd hwl hlo
 obtain rfl : dV = .none := Dflts.none hD hdf
 obtain rfl : kV = .none := Dflts.noKw hD
 obtain ⟨a,vs,ns,rfl,rfl,hobj,hints,hlen⟩ := script_of hn hpre hwl
 refine enter_call (codeAny_mono (call w s₀ s₁ mg mb fa o pm cd doc a vs ns G Y ho (fd_plain hd) hcd hmg hobj hints hlen hg) fun r s' hq => ?_)
 obtain ⟨rfl,h2,h3,h4⟩ := hq
 exact ⟨.inl ⟨.bool true,.bool true,[],rfl,fun _ => rfl,.bool true,post_true l _,fun _ => ⟨List.Pairwise.nil,fun _ hm => (nomatch hm)⟩⟩,h2,h3,h4⟩
section
variable {prog : Program} {w : World} {A : Around} {E : Value → Shared → Prop} {s : Shared} {K : Frag}
end
end Att
namespace L2
open PySem PySem.Spec PyProof.Rows
theorem vals_ints : ∀ {vs : List Value} {ns : List Int},IntsAre vs ns → Vals (ns.map V.int) vs
 | _,_,.nil => .nil
 | _,_,.cons n t h => .cons ⟨t,rfl⟩ (vals_ints h)
def Only (H : Hp) : Prop := ∀ b,H b = none ∨ ∃ o xs,H b = some (.frz o (.lst xs))
theorem law_call {P : Program} {w : World} {K : PySem.W.Frag} {mg mb : Str → Option Value} {CX : CXT} {k : Nat} {fa a : Addr} {fd : FuncData} {x : Str} {sp : Sp} {s₁ : Shared} {vs : List Value} {ns : List Int}
 (KX : K.In s₁.heap) (hns : s₁.heap.Ns mainGlobals mg) (hb : s₁.heap.Ns builtinsNs mb) (hbb : ∀ x : Str,x ≠ "__name__" → mb x = bootBuiltins x) (hlim : s₁.heap.NoLimit) (hg : s₁.gens = #[])
 (ha : s₁.heap.get? a = some { cls := .type "list",data := .seq vs.toArray }) (hi : IntsAre vs ns) (hl : ns.length ≤ sizeLine) (hr : Room k callerA)
 (F : ∀ base : Heap,K.In base → base.Ns mainGlobals mg → FnOk P w K mg base CX k fa fd [x] sp) (hbind : ∀ (s : Shared) (u : Value),BindsTo s fd ⟨[u],[]⟩ [(x,u)])
 (hsp : ∀ H : Hp,Only H → SqL K H a (ns.map V.int) → sp [.ref a] H (fun v _ => v = .bl true) fun _ _ _ => False)
 (hCX : ∀ H e s',CX [] H s₁ (fun _ _ _ => False) e s' → False) :
 codeAny (model P w) callerA (.call (.ref fa) ⟨[.ref a],[]⟩) (fun r s' => r = .ok (.ret (.bool true)) ∧ OldK s₁.heap s'.heap ∧ s'.os = s₁.os ∧ AllBare s'.gens) s₁ := by
 have rv := vals_ints hi
 have lenV := hi.length
 have core : ∀ H : Hp,Only H → SqL K H a (ns.map V.int) → HOk P w H s₁.heap → (∀ b,H b ≠ none → b = a) → (H a ≠ none → K.lookup a = none) →
  codeAny (model P w) callerA (.call (.ref fa) ⟨[.ref a],[]⟩) (fun r s' => r = .ok (.ret (.bool true)) ∧ OldK s₁.heap s'.heap ∧ s'.os = s₁.os ∧ AllBare s'.gens) s₁ := by
  intro H hO hS hok hA hK
  have base_of : ∀ {b : Addr} {o : Obj},s₁.heap.get? b = some o → H b = none → (hidT s₁.heap H).get? b = some o := fun e n => hidT_get e n
  have noA : ∀ {b : Addr} {o : Obj} {es : Array DictEntry} {ep : Nat},s₁.heap.get? b = some o → o.data = .dict es ep → H b = none := fun {b o es ep} e d => by
   cases q : H b with
   | none => rfl
   | some u =>
     have e' : b = a := hA b (by rw [q]; simp)
     subst e'
     rw [ha] at e; cases e
     have d' : Data.seq vs.toArray _ = Data.dict es ep := d
     cases d'
  have nsK : ∀ {b : Addr} {m : Str → Option Value},s₁.heap.Ns b m → (hidT s₁.heap H).Ns b m := fun {b m} ⟨o,es,ep,e,d,r⟩ => ⟨o,es,ep,base_of e (noA e d),d,r⟩
  have hKb : K.In (hidT s₁.heap H) := fun b o e => base_of (KX b o e) (by
   cases q : H b with
   | none => rfl
   | some u =>
     have e' : b = a := hA b (by rw [q]; simp)
     subst e'
     rw [hK (by rw [q]; simp)] at e; cases e)
  have hM : Mod K mg (hidT s₁.heap H) := ⟨hKb,nsK hns,⟨mb,nsK hb,hbb⟩,let ⟨mc,h1,h2⟩ := hlim; ⟨mc,nsK h1,h2⟩⟩
  have e0 : Env0 P w K mg (hidT s₁.heap H) callerA [] s₁ H := ⟨rfl,hM,fun b o e => of_hidT e,Nat.le_of_eq (hidT_size _ _),trivial,fun b hb => absurd (show b ∈ ([] : List Addr) from hb) (by simp),hok,.of_eq hg⟩
  refine codeAny_mono ((F _ hKb (nsK hns)).run callerA [] s₁ H ⟨[.ref a],[]⟩ [.ref a] [.ref a] _ _ hr e0 (hbind s₁ (.ref a)) (.cons rfl .nil) (hsp H hO hS)) fun r s' h => ?_
  cases r with
  | error e => exact (hCX H e s' h).elim
  | ok fl =>
    cases fl with
    | next => exact False.elim h
    | brk => exact False.elim h
    | cont => exact False.elim h
    | ret u =>
      obtain ⟨v,H',os,bare,un,hok',r',q⟩ := h
      have q' : v = .bl true := q
      subst q'
      obtain rfl : u = Value.bool true := r'
      refine ⟨rfl,OldK.of_keep fun b o e => ?_,os,bare⟩
      cases q : H b with
      | none => exact un.keep b o e q (by intro z; exact absurd (show b ∈ ([] : List Addr) from z) (by simp)) (by simp)
      | some u =>
        rcases hO b with z | ⟨ob,xs,z⟩
        ·rw [q] at z; cases z
        ·have z2 := un.frzs b ob _ z
         obtain ⟨e1,_⟩ := hok b _ z
         obtain ⟨e2,_⟩ := hok' b _ z2
         rw [e] at e1; cases e1
         exact e2
 cases hk : K.lookup a with
 | some o =>
   have e := KX a o hk
   rw [ha] at e
   cases e
   refine core (fun _ => none) (fun _ => .inl rfl) (.inr ⟨_,vs.toArray,_,hk,rfl,rfl,rfl,by rw [List.size_toArray,lenV]; exact hl,by simpa using rv⟩) (fun b u z => by have z' : (none : Option HO) = some u := z; cases z') (fun b z => absurd rfl z) fun z => absurd rfl z
 | none =>
   refine core (fun b => if b = a then some (.frz { cls := .type "list",data := .seq vs.toArray } (.lst (ns.map V.int))) else none) (fun b => ?_) (.inl (.inr ⟨{ cls := .type "list",data := .seq vs.toArray },if_pos rfl⟩)) (fun b u z => ?_) (fun b z => ?_) fun _ => hk
   ·by_cases hb : b = a
    ·exact .inr ⟨_,_,if_pos hb⟩
    ·exact .inl (if_neg hb)
   ·by_cases hb : b = a
    ·have z' := (if_pos hb).symm.trans z
     cases z'
     subst hb
     exact ⟨ha,by rw [List.length_map]; exact hl,vs,_,rv,ha⟩
    ·have z' := (if_neg hb).symm.trans z
     cases z'
   ·by_cases hb : b = a
    ·exact hb
    ·exact absurd (if_neg hb) z
end L2
namespace L2
open PySem PySem.Spec PyProof.Rows
abbrev KOf {K : PySem.W.Frag} {h : Heap} (_ : K.In h) : PySem.W.Frag := K
theorem walk_of {l : PySem.W.OpenLaw} {n k : Nat} {q : Program} {loose : List Str} {XP : (Str → Option Value) → Heap → Prop} {YP : World → Heap → Prop} {d : DefRec} {K : Params → PySem.W.Frag} {CX : World → CXT} {sp : World → Sp} {x : Str}
 (hn : l.most = some n) (hn2 : n ≤ sizeLine) (hdf : d.params.defaults = []) (hr : Room k callerA)
 (hY : ∀ (w : World) (h : Heap),YP w h → (K w.params).In h)
 (F : ∀ (w : World) (mg : Str → Option Value) (fa : Addr) (h : Heap),(K w.params).In h → h.Ns mainGlobals mg → mg d.name = some (.ref fa) →
   ∃ fd : FuncData,(∀ (s : Shared) (u : Value),BindsTo s fd ⟨[u],[]⟩ [(x,u)]) ∧
    ∀ base : Heap,(K w.params).In base → base.Ns mainGlobals mg → FnOk l.prog w (K w.params) mg base (CX w) k fa fd [x] (sp w))
 (hsp : ∀ (w : World) (H : Hp) (a : Addr) (ns : List Int),ns.length ≤ n → Only H → SqL (K w.params) H a (ns.map V.int) → sp w [.ref a] H (fun v _ => v = .bl true) fun _ _ _ => False)
 (hCX : ∀ (w : World) (H : Hp) (s : Shared) (e : Value) (s' : Shared),CX w [] H s (fun _ _ _ => False) e s' → False) :
 PySem.W.WalkO q loose XP YP l.row.toRowW d [] (fun f vs => PySem.call f vs) := by
 refine Att.attach_call hn hdf fun w s₀ s₁ mg mb fa o pm cd doc a vs ns G Y ho hd hcd hmg hobj hints hlen hg => ?_
 have KX := hY w _ Y
 obtain ⟨fd,hb,hF⟩ := F w mg fa _ KX G.T.g hmg
 exact law_call KX G.T.g G.T.b G.T.builtins G.T.nolimit hg hobj hints (Nat.le_trans hlen hn2) hr hF hb (fun H hO hS => hsp w H a ns hlen hO hS) fun H e s' => hCX w H s₁ e s'
end L2
namespace L2
open PySem PySem.Spec PyProof.Rows
def Cw (s : Stmt) (j : Nat) : Stmt := match s with
 | .ClassDef _ _ _ body _ _ _ _ _ _ _ => body.getD j (.Pass ⟨0,0,0,0⟩)
 | _ => .Pass ⟨0,0,0,0⟩
def Cy (s : Stmt) : Arguments := match s with
 | .FunctionDef _ a _ _ _ _ _ _ _ _ => a
 | _ => { posonlyargs := [],args := [],vararg := none,kwonlyargs := [],kw_defaults := [],kwarg := none,defaults := [] }
def Bu (s : Stmt) : List Stmt := match s with
 | .FunctionDef _ _ b _ _ _ _ _ _ _ => b
 | _ => []
def Af (s : Stmt) : Scope := match s with
 | .FunctionDef _ _ _ _ _ _ sc _ _ _ => sc
 | _ => { kind := .function,names := [],isGenerator := false,isCoroutine := false }
abbrev CX0 : CXT := fun _ _ _ _ _ _ => False
abbrev E0 : XK := fun _ _ _ => False
theorem Db {X : Cx} : Dx CX0 X E0 := fun _ _ _ _ _ _ _ h => h.elim
structure Fun (K : PySem.W.Frag) (x qual : Str) (st : Stmt) (f : Addr) (fd : FuncData) : Prop where
 ex : ∃ (oc : Value) (od : Option Addr) (kV doc pm : Value) (an : Option Addr) (cdv ct : Value) (osl : Array (Option Value)),
  fd = PySem.W.fnOf x qual (Cy st) (Bu st) (Af st) .none kV doc pm an cdv ct ∧ K.lookup f = some ⟨oc,od,.func fd,osl⟩ ∧ PySem.W.codeIn K cdv qual = true
 kp : PySem.W.keepIn K (.ref f) = true
section
variable {P : Program} {w : World} {K : PySem.W.Frag} {mg : Str → Option Value} {base : Heap}
theorem Fun.ok {x qual : Str} {st : Stmt} {f : Addr} {fd : FuncData} {N ps : List Str} {k : Nat} {sp : Sp} (F : Fun K x qual st f fd) (S : Ar N ps (Af st)) (len : ∀ vs H Q E,sp vs H Q E → vs.length = ps.length)
 (hbody : ∀ (cdv : Value) (A : Around) (outer : List Env) (s : Shared) (H : Hp) (vs : List V) (Q : VK) (E : XK),Room k (A.deeper (envOfC qual (Af st) s.heap.objs.size f cdv)) → sp vs H Q E →
   ∃ t,PSs (cxOf CX0 P w K mg base N qual (Af st) f cdv A outer s H E).nox (Bu st) t ∧ t { nx := fun _ H' => Q .non H',rt := Q } (start N vs) H) : FnOk P w K mg base CX0 (k + 1) f fd ps sp := by
 obtain ⟨oc,od,kV,doc,pm,an,cdv,ct,osl,rfl,lk,hcd⟩ := F.ex
 refine fn_of lk hcd S len fun A outer s H vs Q E hr hsp => ?_
 obtain ⟨t,h,q⟩ := hbody cdv A outer s H vs Q E hr hsp
 exact ⟨t,h.nox,q⟩
theorem fun_mk {x qual : Str} {st : Stmt} {f : Addr} {oc : Value} {od an : Option Addr} {osl : Array (Option Value)} {kV doc pm cdv ct : Value} (l : K.lookup f = some ⟨oc,od,.func (PySem.W.fnOf x qual (Cy st) (Bu st) (Af st) .none kV doc pm an cdv ct),osl⟩)
 (c : PySem.W.codeIn K cdv qual = true) (k : PySem.W.keepIn K (.ref f) = true) : Fun K x qual st f (PySem.W.fnOf x qual (Cy st) (Bu st) (Af st) .none kV doc pm an cdv ct) := ⟨⟨oc,od,kV,doc,pm,an,cdv,ct,osl,rfl,l,c⟩,k⟩
end
section
variable {X : Cx}
theorem pv (i : Nat) {x : Str} {pos : Pos} (hN : X.N[i]? = some x := by rfl) (hv : Vis X.env.scope x := by first | exact Or.inl rfl | exact Or.inr (Or.inl rfl) | exact Or.inr (Or.inr rfl)) (hd : (x == ("__debug__" : Str)) = false := by decide)
 (hcd : (x == ("__classdict__" : Str)) = false := by decide) : PE X (.Name x pos) (tVar i) := pe_var hN hv hd hcd
end
theorem iteF {A B : Prop} (h : B) : if false = true then A else B := by
 rw [if_neg Bool.false_ne_true]
 exact h
theorem iteT {A B : Prop} (h : A) : if true = true then A else B := by
 rw [if_pos rfl]
 exact h
theorem ite2 {c A B : Prop} [Decidable c] (h1 : c → A) (h2 : ¬ c → B) : if c then A else B := by
 by_cases h : c
 ·rw [if_pos h]
  exact h1 h
 ·rw [if_neg h]
  exact h2 h
def Same (H H' : Hp) : Prop := ∀ b o,H b = some o → H' b = some o
theorem Same.refl (H : Hp) : Same H H := fun _ _ h => h
theorem Same.trans {H H1 H2 : Hp} (a : Same H H1) (b : Same H1 H2) : Same H H2 := fun c o h => b c o (a c o h)
theorem Same.free {H H' : Hp} (e : Same H H') {l : Addr} (h : H' l = Option.none) : H l = Option.none := by
 cases q : H l with
 | none => rfl
 | some o =>
   rw [e l o q] at h
   cases h
theorem Same.seq {K : PySem.W.Frag} {H H' : Hp} {a : Addr} {xs : List V} (e : Same H H') (h : SqL K H a xs) : SqL K H' a xs := by
 rcases h with (h | ⟨o,h⟩) | h
 ·exact .inl (.inl (e _ _ h))
 ·exact .inl (.inr ⟨o,e _ _ h⟩)
 ·exact .inr h
section
variable {prog : Program} {w : World} {A : Around} {R : Result → Shared → Prop} {s : Shared}
theorem comp_loop {elt target iter : Expr} {ifs : List Expr} {scope : Scope} {pos : Pos} {it acc : Value} {env : Env} (I : Nat → Shared → Prop)
 (turn : ∀ n s,I n s → wpAny (model prog w) A (pyNext it) (fun r s1 => match r with
   | none => R (.ok .next) s1
   | some v => wpAny (model prog w) A (letOwnedTupleGo target it v) (fun _ s2 => wpAny (model prog w) A (assign target env v) (fun _ s3 =>
    wpAny (model prog w) A (forIn ifs true fun c r => if r = true then do let ok ← isTrue c env (eval c env); pure (ForInStep.yield ok) else pure (ForInStep.yield r)) (fun ok s4 =>
     if ok = true then wpAny (model prog w) A (eval elt env) (fun x s5 =>
      wpAny (model prog w) A (call (.builtin "list.append") [acc,x]) (fun _ s6 => ∃ m,m < n ∧ I m s6) (notedBy (model prog w) A env fun e s' => R (.error e) s') s5) (notedBy (model prog w) A env fun e s' => R (.error e) s') s4
     else ∃ m,m < n ∧ I m s4) (notedBy (model prog w) A env fun e s' => R (.error e) s') s3) (notedBy (model prog w) A env fun e s' => R (.error e) s') s2) (notedBy (model prog w) A env fun e s' => R (.error e) s') s1)
     (notedBy (model prog w) A env fun e s' => R (.error e) s') s)
 (n : Nat) (h : I n s) :
 codeAny (model prog w) A (.compLoop (.ListComp elt [⟨target,iter,ifs,0⟩] scope pos) 0 it acc env) R s := by
 refine codeAny_loop rfl I (fun n s hI => ?_) n h
 show wpAny _ A ((compTurn (.ListComp elt [⟨target,iter,ifs,0⟩] scope pos) 0 it acc env).onRaise (fun x => do noteFrame x env; theTreesLotGoes x)) _ _ s
 refine wpAny_noted ?_
 rw [compTurn_list]
 refine wpAny_bind (wpAny_standAt (wpAny_bind (wpAny_mono (turn n s hI) (fun r s1 h1 => ?_) fun _ _ h' => h')))
 cases r with
 | none => exact wpAny_pure h1
 | some v =>
   refine wpAny_bind (wpAny_mono h1 (fun _ s2 h2 => ?_) fun _ _ h' => h')
   refine wpAny_bind (wpAny_mono h2 (fun _ s3 h3 => wpAny_bind (wpAny_mono h3 (fun ok s4 h4 => ?_) fun _ _ h' => h')) fun _ _ h' => h')
   cases ok with
   | false => exact wpAny_pure ⟨rfl,h4⟩
   | true =>
     exact wpAny_bind (wpAny_bind (wpAny_mono h4 (fun x s5 h5 => wpAny_bind (wpAny_mono h5 (fun _ s6 h6 => wpAny_pure (wpAny_pure ⟨rfl,h6⟩)) fun _ _ h' => h')) fun _ _ h' => h'))
end
def clOf (cells : List (Str × Addr)) : List (Str × NameKind) → List (Str × Addr) → List (Str × Addr)
 | [],acc => acc
 | (n,k) :: r,acc => if k == .free then (match cells.lookup n with
  | some a => clOf cells r ((n,a) :: acc)
  | none => clOf cells r acc) else clOf cells r acc
theorem clos_go {env : Env} : ∀ (names : List (Str × NameKind)) (acc : List (Str × Addr)),(∀ y ∈ names,y.2 = .free → ∃ a,env.cells.lookup y.1 = some a) →
 (forIn names acc fun (x : Str × NameKind) r => (if x.2 == .free then do let a ← cellOf env x.1; pure (ForInStep.yield ((x.1,a) :: r)) else pure (ForInStep.yield r) : Sem (ForInStep (List (Str × Addr))))) = pure (clOf env.cells names acc)
 | [],acc,_ => rfl
 | (n,k) :: r,acc,h => by
   rw [List.forIn_cons]
   have ih := fun acc => clos_go r acc fun y hy => h y (List.mem_cons_of_mem _ hy)
   by_cases hk : k = .free
   ·subst hk
    obtain ⟨a,e⟩ := h (n,.free) List.mem_cons_self rfl
    have e : env.cells.lookup n = some a := e
    simp only [beq_self_eq_true,if_true,cellOf,e,clOf,pure_bind]
    exact ih _
   ·have hb : (k == NameKind.free) = false := by simpa using hk
    simp only [hb,Bool.false_eq_true,if_false,clOf,pure_bind]
    exact ih _
theorem clos_ok {env : Env} {scope : Scope} (h : ∀ y ∈ scope.names,y.2 = .free → ∃ a,env.cells.lookup y.1 = some a) : closureFor scope env = pure (clOf env.cells scope.names []) := by
 unfold closureFor
 have e := clos_go (env := env) scope.names [] h
 simp only [bind_pure]
 exact e
theorem clOf_sub {cells : List (Str × Addr)} {x : Str} {c : Addr} : ∀ (names : List (Str × NameKind)) (acc : List (Str × Addr)),(∀ y b,(y,b) ∈ acc → cells.lookup y = some b) → (x,c) ∈ clOf cells names acc → cells.lookup x = some c
 | [],acc,ha,hm => ha x c hm
 | (n,k) :: r,acc,ha,hm => by
   unfold clOf at hm
   split at hm
   ·split at hm
    ·rename_i a e
     refine clOf_sub r _ (fun y b hb => ?_) hm
     rcases List.mem_cons.mp hb with q | q
     ·cases q; exact e
     ·exact ha y b q
    ·exact clOf_sub r _ ha hm
   ·exact clOf_sub r _ ha hm
theorem lookup_mem {x : Str} {c : Addr} {l : List (Str × Addr)} (h : l.lookup x = some c) : (x,c) ∈ l := PySem.mem_of_lookup h
theorem clOf_in {cells : List (Str × Addr)} {x : Str} {c : Addr} (hx : cells.lookup x = some c) : ∀ (names : List (Str × NameKind)) (acc : List (Str × Addr)),((x,NameKind.free) ∈ names ∨ (x,c) ∈ acc) → (x,c) ∈ clOf cells names acc
 | [],acc,hm => by
   rcases hm with q | q
   ·exact absurd q (by simp)
   ·exact q
 | (n,k) :: r,acc,hm => by
   unfold clOf
   by_cases hk : k = .free
   ·subst hk
    simp only [beq_self_eq_true,if_true]
    split
    ·rename_i a e
     refine clOf_in hx r _ ?_
     rcases hm with q | q
     ·rcases List.mem_cons.mp q with q | q
      ·cases q
       rw [hx] at e; cases e
       exact .inr List.mem_cons_self
      ·exact .inl q
     ·exact .inr (List.mem_cons_of_mem _ q)
    ·rename_i e
     refine clOf_in hx r _ ?_
     rcases hm with q | q
     ·rcases List.mem_cons.mp q with q | q
      ·cases q
       rw [hx] at e; cases e
      ·exact .inl q
     ·exact .inr q
   ·have hb : (k == NameKind.free) = false := by simpa using hk
    simp only [hb,Bool.false_eq_true,if_false]
    refine clOf_in hx r _ ?_
    rcases hm with q | q
    ·rcases List.mem_cons.mp q with q | q
     ·cases q; exact absurd rfl hk
     ·exact .inl q
    ·exact .inr q
theorem lookup_of_mem {x : Str} {c : Addr} : ∀ {l : List (Str × Addr)},(x,c) ∈ l → ∃ d,l.lookup x = some d ∧ (x,d) ∈ l
 | [],h => absurd h (by simp)
 | (y,b) :: r,h => by
   by_cases e : x = y
   ·subst e
    exact ⟨b,by simp,List.mem_cons_self⟩
   ·rcases List.mem_cons.mp h with q | q
    ·cases q; exact absurd rfl e
    ·obtain ⟨d,e1,e2⟩ := lookup_of_mem q
     refine ⟨d,?_,List.mem_cons_of_mem _ e2⟩
     rw [List.lookup_cons]
     have : (x == y) = false := by simpa using e
     rw [this]
     exact e1
theorem clOf_lookup {cells : List (Str × Addr)} {names : List (Str × NameKind)} {x : Str} {c : Addr} (hf : (x,NameKind.free) ∈ names) (hx : cells.lookup x = some c) : (clOf cells names []).lookup x = some c := by
 obtain ⟨d,e1,e2⟩ := lookup_of_mem (clOf_in hx names [] (.inl hf))
 have e3 := clOf_sub names [] (fun _ _ h => absurd h (by simp)) e2
 rw [hx] at e3; cases e3
 exact e1
theorem Dk {cells : List (Str × Addr)} {names : List (Str × NameKind)} {x : Str} {c : Addr} (h : (clOf cells names []).lookup x = some c) : cells.lookup x = some c :=
 clOf_sub names [] (fun _ _ h => absurd h (by simp)) (lookup_mem h)
theorem relab_free {env : Env} : ∀ {names : List (Str × NameKind)} {x : Str},names.lookup x = some .free →
 (names.map fun (n,k) => if (k == NameKind.free && env.scope.kind == .function && env.kindOf n == some .cell) then (n,NameKind.cell) else (n,k)).lookup x = some .cell ∨
 (names.map fun (n,k) => if (k == NameKind.free && env.scope.kind == .function && env.kindOf n == some .cell) then (n,NameKind.cell) else (n,k)).lookup x = some .free
 | [],_,h => by simp at h
 | (n,k) :: r,x,h => by
   have ih := @relab_free env r x
   rw [List.map_cons]
   cases hx : x == n with
   | true =>
     simp only [List.lookup_cons,hx] at h
     cases h
     dsimp only
     by_cases hc : (NameKind.free == NameKind.free && env.scope.kind == .function && env.kindOf n == some .cell) = true
     ·rw [if_pos hc]; simp [List.lookup_cons,hx]
     ·rw [if_neg hc]; simp [List.lookup_cons,hx]
   | false =>
     simp only [List.lookup_cons,hx] at h
     dsimp only
     by_cases hc : (k == NameKind.free && env.scope.kind == .function && env.kindOf n == some .cell) = true
     ·rw [if_pos hc]; simp only [List.lookup_cons,hx]; exact ih h
     ·rw [if_neg hc]; simp only [List.lookup_cons,hx]; exact ih h
theorem relab_back {env : Env} : ∀ {names : List (Str × NameKind)} {x : Str},(∀ y ∈ names,y.2 ≠ .cell) →
 ((names.map fun (n,k) => if (k == NameKind.free && env.scope.kind == .function && env.kindOf n == some .cell) then (n,NameKind.cell) else (n,k)).lookup x = some .cell ∨
 (names.map fun (n,k) => if (k == NameKind.free && env.scope.kind == .function && env.kindOf n == some .cell) then (n,NameKind.cell) else (n,k)).lookup x = some .free) → names.lookup x = some .free
 | [],_,_,h => by simp at h
 | (n,k) :: r,x,hn,h => by
   have ih := @relab_back env r x fun y hy => hn y (List.mem_cons_of_mem _ hy)
   rw [List.map_cons] at h
   dsimp only at h
   have hk : k ≠ .cell := hn (n,k) List.mem_cons_self
   cases hx : x == n with
   | true =>
     by_cases hc : (k == NameKind.free && env.scope.kind == .function && env.kindOf n == some .cell) = true
     ·simp only [Bool.and_eq_true,beq_iff_eq] at hc
      obtain ⟨⟨hc,_⟩,_⟩ := hc
      subst hc
      simp only [List.lookup_cons,hx]
     ·rw [if_neg hc] at h
      simp only [List.lookup_cons,hx] at h ⊢
      rcases h with h | h
      ·cases h; exact absurd rfl hk
      ·exact h
   | false =>
     by_cases hc : (k == NameKind.free && env.scope.kind == .function && env.kindOf n == some .cell) = true
     ·rw [if_pos hc] at h
      simp only [List.lookup_cons,hx] at h ⊢
      exact ih h
     ·rw [if_neg hc] at h
      simp only [List.lookup_cons,hx] at h ⊢
      exact ih h
structure CompSc (scope sc : Scope) (N0 xs ys : List Str) (js : List Nat) : Prop where
 kind : scope.kind = .function
 nocell : ∀ y ∈ scope.names,y.2 ≠ .cell
 loc : ∀ y ∈ scope.names,y.2 = .local → scope.names.lookup y.1 = some .local
 fr : ∀ y ∈ scope.names,y.2 = .free → sc.names.lookup y.1 = some .cell ∨ sc.names.lookup y.1 = some .free
 cap : ys.length = js.length ∧ ∀ p ∈ ys.zip js,N0[p.2]? = some p.1 ∧ scope.names.lookup p.1 = some .free ∧ (p.1,NameKind.free) ∈ scope.names ∧ (sc.names.lookup p.1 = some .cell ∨ sc.names.lookup p.1 = some .free)
def sigC (k : Nat) (js : List Nat) (σ : St) : St := List.replicate k none ++ js.map fun j => (σ[j]?).join
def cxC (X : Cx) (N : List Str) (scope : Scope) (C : Addr) (s2 : Shared) (H2 : Hp) (fp : List Addr) : Cx where
 prog := X.prog
 w := X.w
 K := X.K
 mg := X.mg
 base := X.base
 A := X.A
 N := N
 s₀ := s2
 H₀ := H2
 env := compEnvC scope (clOf X.env.cells scope.names []) C X.env
 outer := X.stack
 stack := X.stack
 ex := fp
 fn := fun _ => false
 calm := X.calm
 pn := []
 xe := fun _ _ => False
section
variable {X : Cx} {pins : List (Addr × Obj)} {σ : St} {H : Hp} {s2 : Shared} {scope sc : Scope} {N0 xs ys : List Str} {js : List Nat} {C D : Addr} {fp : List Addr} {h1 : Heap} {tk : Nat}
theorem fp_stk {b : Addr} (I : Inv X pins σ H s2) (f : FpOk X pins H b) : b ∉ frs X.stack := fun hb => by
 rcases List.mem_cons.mp (I.stkSub b hb) with e | e
 ·exact f.2.1 e
 ·exact f.2.2.1 e
theorem cxC_ok (I : Inv X pins σ H s2) (CS : CompSc scope sc N0 xs ys js) (hsc : X.env.scope = sc) (hC : s2.heap.objs.size ≤ C) (f : ∀ b ∈ fp,FpOk X pins H b) (fl : ∀ b ∈ fp,b < s2.heap.objs.size) :
 (cxC X (xs ++ ys) scope C s2 H fp).Ok where
 mod := I.ok.mod
 kind := CS.kind
 glob := I.ok.glob
 blt := I.ok.blt
 above := hC
 inj := fun x y c e1 e2 => I.ok.inj x y c (Dk e1) (Dk e2)
 has := fun x hx => by
  have hx : (relabel scope X.env).names.lookup x = some .cell ∨ (relabel scope X.env).names.lookup x = some .free := hx
  have q := relab_back (env := X.env) CS.nocell hx
  have m := PySem.mem_of_lookup q
  have hk := CS.fr _ m rfl
  rw [← hsc] at hk
  obtain ⟨c,e⟩ := I.ok.has x hk
  exact ⟨c,clOf_lookup m e⟩
 cab := fun x c e _ => by cases e
 hd := I.ok.hd
 frames := I.ok.frames
 stk := .inl rfl
 exf := fun b hb => ⟨Nat.ne_of_lt (Nat.lt_of_lt_of_le (fl b hb) hC),fun x c e => (f b hb).2.2.2.2.1 x c (Dk e)⟩
 bs := I.bs
 bsz := Nat.le_trans I.ok.bsz I.sz
 noex := fun b o e hb => by
  rcases (f b hb).2.2.2.1 with q | q
  ·exact I.ok.noex b o e q
  ·exact absurd (Nat.lt_of_lt_of_le (Heap.lt_size e) (Nat.le_trans I.ok.bsz q)) (Nat.lt_irrefl _)
 exfs := fun b hb => fp_stk I (f b hb)
 funs := I.stack
 frf := I.stkFree
theorem inv_comp {oD : Obj} (I : Inv X pins σ H s2) (CS : CompSc scope sc N0 xs ys js) (hsc : X.env.scope = sc) (hN : X.N = N0) (f : ∀ b ∈ fp,FpOk X pins H b) (fl : ∀ b ∈ fp,b < s2.heap.objs.size)
 (hC : s2.heap.objs.size ≤ C) (hD : s2.heap.objs.size ≤ D) (hDC : D ≠ C) {m : Str → Option Value} (hns : h1.Ns C m) (old : ∀ b o,s2.heap.get? b = some o → h1.get? b = some o) (hacc : h1.get? D = some oD) (hod : ∀ v,oD.data ≠ .cell v) :
 Inv (cxC X (xs ++ ys) scope C s2 H fp) [(D,oD)] (sigC xs.length js σ) H { s2 with heap := h1,toks := tk } where
 ok := cxC_ok I CS hsc hC f fl
 os := rfl
 bare := I.bare
 base := Un.kept old
 loc := by
  refine ⟨m,hns,fun i x v e1 e2 e3 => ?_⟩
  have e1 : (xs ++ ys)[i]? = some x := e1
  have hi : xs.length ≤ i := by
   refine Nat.le_of_not_lt fun q => ?_
   unfold sigC at e2
   rw [List.getElem?_append_left (by simpa using q),List.getElem?_replicate,if_pos q] at e2
   cases e2
  rw [List.getElem?_append_right hi] at e1
  unfold sigC at e2
  rw [List.getElem?_append_right (by simpa using hi),List.length_replicate,List.getElem?_map] at e2
  obtain ⟨j,ej⟩ : ∃ j,js[i - xs.length]? = some j := by
   cases e : js[i - xs.length]? with
   | none => rw [e] at e2; cases e2
   | some j => exact ⟨j,rfl⟩
  rw [ej] at e2
  have e2 : (σ[j]?).join = some v := Option.some.inj e2
  have e2' : σ[j]? = some (some v) := by
   cases e : σ[j]? with
   | none => rw [e] at e2; cases e2
   | some o => rw [e] at e2; exact congrArg some e2
  have hz : (x,j) ∈ ys.zip js := by
   have : (ys.zip js)[i - xs.length]? = some (x,j) := by rw [List.getElem?_zip_eq_some]; exact ⟨e1,ej⟩
   exact List.mem_of_getElem? this
  obtain ⟨c1,c2,c3,c4⟩ := CS.cap.2 _ hz
  have c1 : N0[j]? = some x := c1
  have c4' : X.env.kindOf x = some .cell ∨ X.env.kindOf x = some .free := by
   show X.env.scope.names.lookup x = some .cell ∨ X.env.scope.names.lookup x = some .free
   rw [hsc]; exact c4
  obtain ⟨m0,hn0,hl0⟩ := I.loc
  obtain ⟨u,ru,lu⟩ := hl0 j x v (by rw [hN]; exact c1) e2' (.inr c4')
  refine ⟨u,ru,.inr ⟨?_,?_⟩⟩
  ·exact relab_free c2
  ·rcases lu with ⟨k,_⟩ | ⟨_,c,ec,hc⟩
   ·rcases c4' with z | z <;> (rw [k] at z; cases z)
   ·refine ⟨c,clOf_lookup c3 ec,?_⟩
    obtain ⟨o,ho,hd⟩ := hc
    exact ⟨o,old _ _ ho,hd⟩
 cell := fun x c e => by
  obtain ⟨v,o,ho,hd⟩ := I.cell x c (Dk e)
  exact ⟨v,o,old _ _ ho,hd⟩
 free := I.hok.fresh hC
 freeC := fun x c e => I.freeC x c (Dk e)
 pin := fun p hp => by
  have hp : p ∈ ([] : List (Addr × Obj)) ++ [(D,oD)] := hp
  have e : p = (D,oD) := by simpa using hp
  subst e
  refine ⟨hacc,I.hok.fresh hD,hDC,fun hb => ?_,hod⟩
  obtain ⟨_,o,ho,_⟩ := I.stack.mem (show D ∈ frs X.stack from hb)
  exact absurd (Nat.lt_of_lt_of_le (Heap.lt_size ho) hD) (Nat.lt_irrefl _)
 hok := I.hok.kept old
 len := by
  unfold sigC
  show _ = (xs ++ ys).length
  rw [List.length_append,List.length_append,List.length_replicate,List.length_map,CS.cap.1]
end
theorem inv_reset {X : Cx} {pins pp : List (Addr × Obj)} {σ σ' : St} {H H' : Hp} {s2 s' : Shared} {scope sc : Scope} {N0 xs ys : List Str} {js : List Nat} {C : Addr} {fp : List Addr} (I : Inv X pins σ H s2) (CS : CompSc scope sc N0 xs ys js) (hsc : X.env.scope = sc) (hN : X.N = N0)
 (f : ∀ b ∈ fp,FpOk X pins H b) (J : Inv (cxC X (xs ++ ys) scope C s2 H fp) pp σ' H' s') : Inv (cxC X (xs ++ ys) scope C s2 H fp) pp (sigC xs.length js σ) H' s' where
 ok := J.ok
 os := J.os
 bare := J.bare
 base := J.base
 loc := by
  obtain ⟨m,hns,_⟩ := J.loc
  refine ⟨m,hns,fun i x v e1 e2 e3 => ?_⟩
  have e1 : (xs ++ ys)[i]? = some x := e1
  have hi : xs.length ≤ i := by
   refine Nat.le_of_not_lt fun q => ?_
   unfold sigC at e2
   rw [List.getElem?_append_left (by simpa using q),List.getElem?_replicate,if_pos q] at e2
   cases e2
  rw [List.getElem?_append_right hi] at e1
  unfold sigC at e2
  rw [List.getElem?_append_right (by simpa using hi),List.length_replicate,List.getElem?_map] at e2
  obtain ⟨j,ej⟩ : ∃ j,js[i - xs.length]? = some j := by
   cases e : js[i - xs.length]? with
   | none => rw [e] at e2; cases e2
   | some j => exact ⟨j,rfl⟩
  rw [ej] at e2
  have e2 : (σ[j]?).join = some v := Option.some.inj e2
  have e2' : σ[j]? = some (some v) := by
   cases e : σ[j]? with
   | none => rw [e] at e2; cases e2
   | some o => rw [e] at e2; exact congrArg some e2
  have hz : (x,j) ∈ ys.zip js := by
   have : (ys.zip js)[i - xs.length]? = some (x,j) := by rw [List.getElem?_zip_eq_some]; exact ⟨e1,ej⟩
   exact List.mem_of_getElem? this
  obtain ⟨c1,c2,c3,c4⟩ := CS.cap.2 _ hz
  have c1 : N0[j]? = some x := c1
  have c4' : X.env.kindOf x = some .cell ∨ X.env.kindOf x = some .free := by
   show X.env.scope.names.lookup x = some .cell ∨ X.env.scope.names.lookup x = some .free
   rw [hsc]; exact c4
  obtain ⟨m0,hn0,hl0⟩ := I.loc
  obtain ⟨u,ru,lu⟩ := hl0 j x v (by rw [hN]; exact c1) e2' (.inr c4')
  refine ⟨u,ru,.inr ⟨relab_free c2,?_⟩⟩
  rcases lu with ⟨k,_⟩ | ⟨_,c,ec,hc⟩
  ·rcases c4' with z | z <;> (rw [k] at z; cases z)
  ·refine ⟨c,clOf_lookup c3 ec,?_⟩
   obtain ⟨o,ho,hd⟩ := hc
   obtain ⟨sl,e⟩ := J.base.any ho (I.freeC x c ec) fun hb => (f c hb).2.2.2.2.1 x c ec rfl
   exact ⟨_,e,hd⟩
 cell := J.cell
 free := J.free
 freeC := J.freeC
 pin := J.pin
 hok := J.hok
 len := by
  unfold sigC
  show _ = (xs ++ ys).length
  rw [List.length_append,List.length_append,List.length_replicate,List.length_map,CS.cap.1]
def PQ (X : Cx) (ifs : List Expr) (t : TT) : Prop :=
 ∀ (pins : List (Addr × Obj)) (s : Shared) (σ : St) (H : Hp) (Q : Bool → Hp → Prop),Inv X pins σ H s → t σ H Q →
  wpAny (model X.prog X.w) X.A (forIn ifs true fun c r => if r = true then do let ok ← isTrue c X.env (eval c X.env); pure (ForInStep.yield ok) else pure (ForInStep.yield r)) (TP X pins σ Q) X.xe s
def tAlways : TT := fun _ H Q => Q true H
theorem B7 {X : Cx} : PQ X [] tAlways := fun _ _ _ H _ I h => wpAny_tests_nil ⟨H,I,h⟩
def compW (k : Nat) (js : List Nat) (g : TG) (tc : TT) (te : TE) (σ : St) (J : It) (H1 : Hp) (fin : List V → Hp → Prop) : Prop :=
 ∃ W : Nat → Nat → List V → Hp → Prop,(∃ m,W 0 m [] H1) ∧ ∀ i m ys H,W i m ys H →
  (J.stop i H ∧ ys.length ≤ sizeLine ∧ fin ys H) ∨
  (J.go i H ∧ ys.length < sizeLine ∧ ∃ N : List V → Hp → Prop,(∀ ys' H',N ys' H' → ∃ m',m' < m ∧ W (i + 1) m' ys' H') ∧ ∀ x H2,J.yld i H x H2 → g x (sigC k js σ) H2 fun σ2 H3 => tc σ2 H3 fun b H4 =>
    if b = true then te σ2 H4 fun y H5 => N (ys ++ [y]) H5 else N ys H4)
def tComp (k : Nat) (js : List Nat) (wi : TI) (g : TG) (tc : TT) (te : TE) : TE := fun σ H Q => wi σ H fun J H1 => compW k js g tc te σ J H1 fun ys H' => ∀ p,H' p = none → Q (.ref p) (upd H' p (.lst ys))
section
variable {X : Cx} {scope sc : Scope} {N0 xs ys : List Str} {js : List Nat} {elt tg iter : Expr} {ifs : List Expr} {pos : Pos} {wi : TI} {g : TG} {tc : TT} {te : TE}
theorem lst_push (its : List Value) (y : Value) : its.toArray.push y = (its ++ [y]).toArray := by simp
theorem comp_block {pins : List (Addr × Obj)} {σ : St} {H : Hp} {s2 : Shared} {it : Addr} {fp : List Addr} {tn : Nat → Heap → Prop} {J : It} {RR : Value → Addr → Result → Shared → Prop} {fin : List V → Hp → Prop} {E : Value → Shared → Prop}
 (CS : CompSc scope sc N0 xs ys js) (hsc : X.env.scope = sc) (hN : X.N = N0) (hc : X.calm = true)
 (I : Inv X pins σ H s2) (T : Turn X.prog X.w X.K tg J fp it tn) (t0 : tn 0 s2.heap) (f : ∀ b ∈ fp,FpOk X pins H b)
 (hg : ∀ C s2 H fp,PG (cxC X (xs ++ ys) scope C s2 H fp) tg g) (hq : ∀ C s2 H fp,PQ (cxC X (xs ++ ys) scope C s2 H fp) ifs tc) (he : ∀ C s2 H fp,PE (cxC X (xs ++ ys) scope C s2 H fp) elt te)
 (hw : compW xs.length js g tc te σ J H fin)
 (hR : ∀ (D C : Addr) (H' : Hp) (vs : List V) (s' : Shared),(∃ m,s'.heap.Ns C m) → Inv X pins σ (upd H' D (.lst vs)) s' → H' D = none → C ≠ D → H' C = none → C ≠ X.env.locals → X.s₀.heap.objs.size ≤ C → (∀ x c,X.env.cells.lookup x = some c → c ≠ C) → (∀ p ∈ X.pn ++ pins,p.1 ≠ C) → fin vs H' →
   RR (.ref D) C (.ok .next) s') :
 wpAny (model X.prog X.w) X.A (newList []) (fun acc s3 => wpAny (model X.prog X.w) X.A (newFunctionEnv scope X.env.globals (clOf X.env.cells scope.names []) [] X.env.qual none .none (some X.env)) (fun cenv s4 =>
  codeAny (model X.prog X.w) X.A (.compStart (.ListComp elt [⟨tg,iter,ifs,0⟩] scope pos) 0 (.ref it) acc { cenv with scope := relabel scope X.env }) (RR acc cenv.locals) s4) E s3) E s2 := by
 obtain ⟨W,⟨m0,w0⟩,turn⟩ := hw
 have fl : ∀ b ∈ fp,b < s2.heap.objs.size := fun b hb => by
  obtain ⟨o,e,_⟩ := T.obj 0 _ t0 b hb
  exact Heap.lt_size e
 refine wpAny_newObj_type (wpAny_newFunctionEnv CS.nocell (by intro y hy; simp at hy) (fun h1 hns1 hsb1 => ?_) CS.kind)
 dsimp only at hns1 hsb1 ⊢
 generalize hH2 : s2.heap.push { cls := .type "list",dict := none,data := .seq ([] : List Value).toArray } = H2 at hns1 hsb1 ⊢
 have hC : H2.objs.size = s2.heap.objs.size + 1 := by rw [← hH2,Heap.size_push]
 have hDC : s2.heap.objs.size ≠ H2.objs.size := by rw [hC]; exact Nat.ne_of_lt (Nat.lt_succ_self _)
 have hCle : s2.heap.objs.size ≤ H2.objs.size := by rw [hC]; exact Nat.le_succ _
 have below : ∀ b,b < s2.heap.objs.size → b ≠ H2.objs.size ∧ b ≠ s2.heap.objs.size := fun b hb => ⟨by rw [hC]; exact Nat.ne_of_lt (Nat.lt_succ_of_lt hb),Nat.ne_of_lt hb⟩
 have old : ∀ b o,s2.heap.get? b = some o → h1.get? b = some o := fun b o e => hsb1.extBut b o (below b (Heap.lt_size e)).1 (Heap.get?_push_of_some _ (hH2 ▸ Heap.get?_push_of_some _ e))
 have hacc : h1.get? s2.heap.objs.size = some { cls := .type "list",data := .seq ([] : List Value).toArray 0 } := hsb1.extBut _ _ hDC (Heap.get?_push_of_some _ (hH2 ▸ Heap.get?_push_size _ rfl))
 have t1 : tn 0 h1 := T.keep _ _ _ t0 fun b _ o e => old b o e
 have fC : ∀ {H' : Hp} {oD : Obj},(∀ b ∈ fp,H' b = none) → ∀ b ∈ fp,FpOk (cxC X (xs ++ ys) scope H2.objs.size s2 H fp) [(s2.heap.objs.size,oD)] H' b := fun {H' oD} hn b hb =>
  ⟨hn b hb,(below b (fl b hb)).1,fp_stk I (f b hb),.inl hb,fun x c e => (f b hb).2.2.2.2.1 x c (Dk e),fun p hp => by
    have hp : p ∈ ([] : List (Addr × Obj)) ++ [(s2.heap.objs.size,oD)] := hp
    have e : p = (s2.heap.objs.size,oD) := by simpa using hp
    subst e
    exact Ne.symm (below b (fl b hb)).2⟩
 have loop : ∀ s3 : Shared,s3 = { s2 with heap := h1,toks := s2.toks + ([] : List (Str × Value)).length } →
  codeAny (model X.prog X.w) X.A (.compLoop (.ListComp elt [⟨tg,iter,ifs,0⟩] scope pos) 0 (.ref it) (.ref s2.heap.objs.size) (compEnvC scope (clOf X.env.cells scope.names []) H2.objs.size X.env))
   (RR (.ref s2.heap.objs.size) H2.objs.size) s3 := by
  rintro s3 rfl
  refine comp_loop (fun k s' => ∃ (i : Nat) (vs : List V) (its : List Value) (n : Nat) (H' : Hp),Inv (cxC X (xs ++ ys) scope H2.objs.size s2 H fp) [(s2.heap.objs.size,{ cls := .type "list",data := .seq its.toArray n })] (sigC xs.length js σ) H' s' ∧
   Vals vs its ∧ tn i s'.heap ∧ (∀ b ∈ fp,H' b = none) ∧ W i k vs H') ?_ m0 ⟨0,[],[],0,H,?_,.nil,t1,fun b hb => (f b hb).1,w0⟩
  ·rintro k s3 ⟨i,vs,its,n,H3,I3,rv,t3,fr3,w3⟩
   have hno : ∀ (e : Value) (s' : Shared),False → notedBy (model X.prog X.w) X.A (compEnvC scope (clOf X.env.cells scope.names []) H2.objs.size X.env) (fun e s' => RR (.ref s2.heap.objs.size) H2.objs.size (.error e) s') e s' := fun _ _ z => z.elim
   rcases turn i k vs H3 w3 with ⟨stop,hz,fn⟩ | ⟨go,hz,N,hN',step⟩
   ·refine wpAny_mono (T.done (cxC X (xs ++ ys) scope H2.objs.size s2 H fp) rfl rfl rfl hc i _ s3 _ H3 (fun _ _ => False) I3 (fC fr3) t3 stop) (fun r s4 ⟨hr,I4⟩ => ?_) hno
    subst hr
    have pD := I4.pin (s2.heap.objs.size,_) (List.mem_append_right _ List.mem_cons_self)
    obtain ⟨mC,hnC,_⟩ := I4.loc
    have u4 : Un (frs X.stack) fp H (upd H3 s2.heap.objs.size (.lst vs)) s2.heap s4.heap :=
     ⟨I4.base.keep,I4.base.slot,fun b o e n hb => by rw [Ak (below b (Heap.lt_size e)).2]; exact I4.base.free b o e n hb,I4.base.there,
       fun b x e => by rw [Ak (below b (I.hok.lt e)).2]; exact I4.base.tups b x e,fun b o x e => by rw [Ak (below b (I.hok.lt e)).2]; exact I4.base.frzs b o x e,
       fun b p e => by rw [Ak (below b (I.hok.lt e)).2]; exact I4.base.tbls b p e⟩
    have hk4 : HOk X.prog X.w (upd H3 s2.heap.objs.size (.lst vs)) s4.heap := fun b o e => by
     by_cases hb : b = s2.heap.objs.size
     ·subst hb
      rw [Ac] at e
      cases e
      exact ⟨hz,its,n,rv,pD.1⟩
     ·rw [Ak hb] at e
      exact (I4.hok b o e).stay (fun _ _ _ q => q) (fun c q => by rw [Ak (Aj q pD.2.1)]; exact q) fun c x q => by rw [Ak (Aj q pD.2.1)]; exact q
    refine hR _ _ H3 vs s4 ⟨mC,hnC⟩ (I.call' I4.os u4 hk4 I4.bare fun b hb => ⟨(f b hb).2.2.2.1,(f b hb).2.1,(f b hb).2.2.2.2.1,(f b hb).2.2.2.2.2⟩) pD.2.1 (Ne.symm hDC) I4.free ?_ ?_ ?_ ?_ fn
    ·exact Ne.symm (below _ I.lt).1
    ·exact Nat.le_trans I.sz hCle
    ·intro x c e
     obtain ⟨v,o,ho,_⟩ := I.cell x c e
     exact (below c (Heap.lt_size ho)).1
    ·intro p hp
     exact (below p.1 (Heap.lt_size (I.pin p hp).1)).1
   ·refine wpAny_mono (T.item (cxC X (xs ++ ys) scope H2.objs.size s2 H fp) rfl rfl rfl hc i _ s3 _ H3 (fun _ _ => False) I3 (fC fr3) t3 go) (fun r s4 ⟨u,hr,h4⟩ => ?_) hno
    subst hr
    refine wpAny_mono h4 (fun _ s5 ⟨x,H5,I5,r5,y5,t5,fr5⟩ => ?_) hno
    have I5' := I5.pinned (fC fr5) (T.obj _ _ t5)
    refine wpAny_mono (hg H2.objs.size s2 H fp _ s5 _ H5 x u _ I5' r5 (step x H5 y5)) (fun _ s6 ⟨σ6,H6,I6,q6⟩ => ?_) hno
    refine wpAny_mono (hq H2.objs.size s2 H fp _ s6 σ6 H6 _ I6 q6) (fun b s7 ⟨H7,I7,q7⟩ => ?_) hno
    have keepI : ∀ {σ' : St} {H' : Hp} {s' : Shared},Inv (cxC X (xs ++ ys) scope H2.objs.size s2 H fp) ([(s2.heap.objs.size,{ cls := .type "list",data := .seq its.toArray n })] ++ pinsAt fp s5.heap) σ' H' s' → tn (i + 1) s'.heap ∧ ∀ b ∈ fp,H' b = none := fun {σ' H' s'} J' =>
     ⟨T.keep _ _ _ t5 fun b hb o e => (J'.pin (b,o) (List.mem_append_right _ (List.mem_append_right _ (mem_pinsAt hb e)))).1,fun b hb => by
       obtain ⟨o,e,d⟩ := T.obj _ _ t5 b hb
       exact (J'.pin (b,o) (List.mem_append_right _ (List.mem_append_right _ (mem_pinsAt hb e)))).2.1⟩
    cases b with
    | false =>
      obtain ⟨m',hm,w7⟩ := hN' _ _ q7
      exact ⟨m',hm,i + 1,vs,its,n,H7,inv_reset I CS hsc hN f I7.unpinned,rv,(keepI I7).1,(keepI I7).2,w7⟩
    | true =>
      refine wpAny_mono (he H2.objs.size s2 H fp _ s7 σ6 H7 _ I7 q7) (fun y s8 ⟨yv,H8,I8,r8,n8⟩ => ?_) hno
      obtain ⟨m',hm,w8⟩ := hN' _ _ n8
      have pD := I8.pin (s2.heap.objs.size,_) (List.mem_append_right _ (List.mem_append_left _ List.mem_cons_self))
      refine append_at (hsz := by show its.toArray.size ≤ sizeLine; rw [List.size_toArray,← rv.length]; exact Nat.le_of_lt hz) pD.1 fun h9 hs9 hD9 => ?_
      have hD9' : h9.get? s2.heap.objs.size = some { cls := .type "list",data := .seq (its ++ [y]).toArray (n + 1) } := by rw [hD9,lst_push]
      have J8 := inv_reset I CS hsc hN f I8.unpinned
      have hDf : s2.heap.objs.size ∉ fp := fun hb => Nat.lt_irrefl _ (fl _ hb)
      refine ⟨m',hm,i + 1,vs ++ [yv],its ++ [y],n + 1,H8,?_,rv.append (.cons r8 .nil),T.keep _ _ _ (keepI I8).1 fun b hb o e => hs9.extBut b o (fun q => hDf (q ▸ hb)) e,(keepI I8).2,w8⟩
      have J9 : Inv (cxC X (xs ++ ys) scope H2.objs.size s2 H fp) [] (sigC xs.length js σ) H8 s8 := J8.pins_of fun p hp => absurd hp (by simp)
      have J9' : Inv (cxC X (xs ++ ys) scope H2.objs.size s2 H fp) [] (sigC xs.length js σ) H8 { s8 with heap := h9,toks := s8.toks } := J9.turned (it := s2.heap.objs.size) (fun b o hb e => hs9.extBut b o hb e) pD.2.1 hDC (.inr (Nat.le_refl _))
       (fun x c e z => by
         obtain ⟨v,o,ho,_⟩ := I.cell x c (Dk e)
         exact (below c (Heap.lt_size ho)).2 z) (fun p hp => absurd (show p ∈ ([] : List (Addr × Obj)) ++ [] from hp) (by simp))
      refine J9'.pins_of fun p hp => ?_
      have e : p = (s2.heap.objs.size,{ cls := .type "list",data := .seq (its ++ [y]).toArray (n + 1) }) := by simpa using hp
      subst e
      exact ⟨hD9',pD.2.1,hDC,pD.2.2.2.1,fun v z => by cases z⟩
  ·exact inv_comp (fp := fp) I CS hsc hN f fl hCle (Nat.le_refl _) hDC hns1 old hacc (fun v z => by cases z)
 exact codeAny_compStart_list (loop _ rfl) (T.self X.A 0 _ _ _ t1 (loop _ rfl))
theorem comp_clos (ok : X.Ok) (CS : CompSc scope sc N0 xs ys js) (hsc : X.env.scope = sc) : closureFor scope X.env = pure (clOf X.env.cells scope.names []) := clos_ok fun y hy e => by
 have h := CS.fr y hy e
 rw [← hsc] at h
 exact ok.has y.1 h
theorem inv_gone {pins : List (Addr × Obj)} {σ : St} {H : Hp} {s : Shared} {C : Addr} {h' : Heap} (I : Inv X pins σ H s) (hn : H C = none) (hL : C ≠ X.env.locals) (h0 : X.s₀.heap.objs.size ≤ C) (hcl : ∀ x c,X.env.cells.lookup x = some c → c ≠ C) (hp : ∀ p ∈ X.pn ++ pins,p.1 ≠ C)
 (hs : Heap.SameBut C s.heap h') : Inv X pins σ H { s with heap := h' } := I.turned (t' := s.toks) (it := C) (fun b o hb e => hs.extBut b o hb e) hn hL (.inr h0) hcl hp
theorem Bz (CS : CompSc scope sc N0 xs ys js) (hc : X.calm = true) (hi : PI X tg iter wi) (hg : ∀ C s2 H fp,PG (cxC X (xs ++ ys) scope C s2 H fp) tg g) (hq : ∀ C s2 H fp,PQ (cxC X (xs ++ ys) scope C s2 H fp) ifs tc)
 (he : ∀ C s2 H fp,PE (cxC X (xs ++ ys) scope C s2 H fp) elt te) (hsc : X.env.scope = sc := by rfl) (hN : X.N = N0 := by rfl) (hs : ∀ x,foldedSetIterable iter X.env x = pure x := by intro _; rfl) :
 PE X (.ListComp elt [⟨tg,iter,ifs,0⟩] scope pos) (tComp xs.length js wi g tc te) := by
 intro pins s σ H Q I h
 rw [eval_ListComp]
 refine wpAny_comprehension_free (use := none) rfl hs (comp_clos I.ok CS hsc) CS.kind CS.loc (thn (hi pins s σ H _ I h) fun v s1 h1 => thn h1 fun itv s2 h2 => ?_)
 obtain ⟨it,fp,tn,J,H2,e,I2,T,t2,f2,hw⟩ := h2
 subst e
 refine comp_block (RR := fun acc C => compPost (model X.prog X.w) X.A X.xe none (EP X pins σ Q) acc C) CS hsc hN hc I2 T t2 f2 hg hq he hw ?_
 intro D C H' vs s' hm I' hD hCD hC hL h0 hcl hp fn
 obtain ⟨m,hm⟩ := hm
 refine ⟨m,hm,fun h' hs' => ⟨.ref D,_,inv_gone I' (by rw [Ak hCD]; exact hC) hL h0 hcl hp hs',rfl,fn D hD⟩⟩
theorem ps_setComp {i : Nat} {y : Str} {py spos : Pos} (CS : CompSc scope sc N0 xs ys js) (hc : X.calm = true) (hNd : X.N.Nodup) (hiy : X.N[i]? = some y) (hy : X.env.scope.names.lookup y = some .local)
 (hi : PI X tg iter wi) (hg : ∀ C s2 H fp,PG (cxC X (xs ++ ys) scope C s2 H fp) tg g) (hq : ∀ C s2 H fp,PQ (cxC X (xs ++ ys) scope C s2 H fp) ifs tc)
 (he : ∀ C s2 H fp,PE (cxC X (xs ++ ys) scope C s2 H fp) elt te) (hsc : X.env.scope = sc := by rfl) (hN : X.N = N0 := by rfl) (hs : ∀ x,foldedSetIterable iter X.env x = pure x := by intro _; rfl)
 (hsw : swapsWith (.ListComp elt [⟨tg,iter,ifs,0⟩] scope pos) (some (.Name y py)) spos.line X.env = pure true := by rfl) :
 PS X (.Assign [.Name y py] (.ListComp elt [⟨tg,iter,ifs,0⟩] scope pos) spos) (tAsg (tComp xs.length js wi g tc te) (gName i)) := by
 intro pins s σ H Dn I h
 rw [exec_Assign_Name_used _ _ _ _ hsw]
 refine wpAny_bind (wpAny_standAt (wpAny_bind ?_))
 show wpAny _ X.A (do let _ ← comprehension (.ListComp elt [⟨tg,iter,ifs,0⟩] scope pos) scope X.env _ (newList []) false (eval iter X.env) (some (assign (.Name y py) X.env))) _ _ s
 refine wpAny_bind (wpAny_mono (wpAny_comprehension_free (use := some (assign (.Name y py) X.env)) (Q := fun _ s' => SP X pins Dn .next s') rfl hs (comp_clos I.ok CS hsc) CS.kind CS.loc
  (thn (hi pins s σ H _ I h) fun v s1 h1 => thn h1 fun itv s2 h2 => ?_)) (fun _ s' hq => wpAny_pure (wpAny_pure hq)) fun _ _ e => e)
 obtain ⟨it,fp,tn,J,H2,e,I2,T,t2,f2,hw⟩ := h2
 subst e
 refine comp_block (RR := fun acc C => compPost (model X.prog X.w) X.A X.xe (some (assign (.Name y py) X.env)) (fun _ s' => SP X pins Dn .next s') acc C) CS hsc hN hc I2 T t2 f2 hg hq he hw ?_
 intro D C H' vs s' hm I' hD hCD hC hL h0 hcl hp fn
 obtain ⟨m,hm⟩ := hm
 show wpAny _ X.A (assign (.Name y py) X.env (.ref D)) _ _ _
 refine wpAny_assign_Name (store_ok2 (v := .ref D) I' hNd hiy (.inl hy) rfl (fun s2 I2 hch => ?_) (.inr hy))
 obtain ⟨a,sb,ha⟩ := hch
 have hCa : C ≠ a := by
  rcases ha with ha | ha
  ·rw [ha]; exact hL
  ·exact fun z => hcl y a ha z.symm
 refine ⟨m,hm.sameBut sb hCa,fun h' hs' => ?_⟩
 exact ⟨_,_,inv_gone I2 (by rw [Ak hCD]; exact hC) hL h0 hcl hp hs',fn D hD⟩
end
section
variable {k : Nat} {js : List Nat} {g : TG} {tc : TT} {te : TE} {σ : St} {fin : List V → Hp → Prop} {H : Hp}
theorem comp_range {lo : Int} {n : Nat} (Pv : Nat → List V → Hp → Prop) (h0 : Pv 0 [] H) (hn : n ≤ sizeLine) (hl : ∀ i ys H,Pv i ys H → ys.length ≤ i)
 (hs : ∀ i ys H,i < n → Pv i ys H → g (.int (lo + i)) (sigC k js σ) H fun σ2 H3 => tc σ2 H3 fun b H4 => if b = true then te σ2 H4 fun y H5 => Pv (i + 1) (ys ++ [y]) H5 else Pv (i + 1) ys H4)
 (hd : ∀ ys H,Pv n ys H → fin ys H) : compW k js g tc te σ (Itr lo n) H fin := by
 refine ⟨fun i m ys H => m = n - i ∧ i ≤ n ∧ Pv i ys H,⟨n,by simp,Nat.zero_le _,h0⟩,?_⟩
 rintro i m ys H ⟨rfl,hi,p⟩
 have hy := hl i ys H p
 by_cases hlt : i < n
 ·refine .inr ⟨hlt,by omega,Pv (i + 1),fun ys' H' p' => ⟨n - (i + 1),by omega,rfl,hlt,p'⟩,fun x H' y => ?_⟩
  obtain ⟨e,y⟩ := y
  subst e y
  exact hs i ys _ hlt p
 ·have e : i = n := by omega
  subst e
  exact .inl ⟨Nat.le_refl _,by omega,hd ys H p⟩
theorem B2 {K : PySem.W.Frag} {a : Addr} {xs : List V} (Pv : Nat → List V → Hp → Prop) (h0 : Pv 0 [] H) (hn : xs.length ≤ sizeLine) (hl : ∀ i ys H,Pv i ys H → ys.length ≤ i) (hq : ∀ i ys H,i ≤ xs.length → Pv i ys H → SqL K H a xs)
 (hs : ∀ i x ys H,xs[i]? = some x → Pv i ys H → g x (sigC k js σ) H fun σ2 H3 => tc σ2 H3 fun b H4 => if b = true then te σ2 H4 fun y H5 => Pv (i + 1) (ys ++ [y]) H5 else Pv (i + 1) ys H4)
 (hd : ∀ ys H,Pv xs.length ys H → fin ys H) : compW k js g tc te σ (Itl K a) H fin := by
 refine ⟨fun i m ys H => m = xs.length - i ∧ i ≤ xs.length ∧ Pv i ys H,⟨xs.length,by simp,Nat.zero_le _,h0⟩,?_⟩
 rintro i m ys H ⟨rfl,hi,p⟩
 have hy := hl i ys H p
 have q := hq i ys H hi p
 by_cases hlt : i < xs.length
 ·refine .inr ⟨⟨xs,xs[i],q,by simp [hlt]⟩,by omega,Pv (i + 1),fun ys' H' p' => ⟨xs.length - (i + 1),by omega,rfl,hlt,p'⟩,fun x H' y => ?_⟩
  obtain ⟨e,y⟩ := y
  subst e
  exact hs i x ys _ (y xs q) p
 ·have e : i = xs.length := by omega
  subst e
  exact .inl ⟨⟨xs,q,Nat.le_refl _⟩,by omega,hd ys H p⟩
theorem De {K : PySem.W.Frag} {a : Addr} {xs : List V} (Pv : Nat → List V → Hp → Prop) (h0 : Pv 0 [] H) (hn : xs.length ≤ sizeLine) (hl : ∀ i ys H,Pv i ys H → ys.length ≤ i) (hq : ∀ i ys H,i ≤ xs.length → Pv i ys H → SqT K H a xs)
 (hs : ∀ i x ys H,xs[i]? = some x → Pv i ys H → g x (sigC k js σ) H fun σ2 H3 => tc σ2 H3 fun b H4 => if b = true then te σ2 H4 fun y H5 => Pv (i + 1) (ys ++ [y]) H5 else Pv (i + 1) ys H4)
 (hd : ∀ ys H,Pv xs.length ys H → fin ys H) : compW k js g tc te σ (Itt K a) H fin := by
 refine ⟨fun i m ys H => m = xs.length - i ∧ i ≤ xs.length ∧ Pv i ys H,⟨xs.length,by simp,Nat.zero_le _,h0⟩,?_⟩
 rintro i m ys H ⟨rfl,hi,p⟩
 have hy := hl i ys H p
 have q := hq i ys H hi p
 by_cases hlt : i < xs.length
 ·refine .inr ⟨⟨xs,xs[i],q,by simp [hlt]⟩,by omega,Pv (i + 1),fun ys' H' p' => ⟨xs.length - (i + 1),by omega,rfl,hlt,p'⟩,fun x H' y => ?_⟩
  obtain ⟨e,y⟩ := y
  subst e
  exact hs i x ys _ (y xs q) p
 ·have e : i = xs.length := by omega
  subst e
  exact .inl ⟨⟨xs,q,Nat.le_refl _⟩,by omega,hd ys H p⟩
end
def CDivB (i j : Int) : Prop := 0 < j ∧ j < 10000000000000000000000000000000000000000
theorem cdivB_no {i j : Int} (h : CDivB i j) : Builtin.divisionGoesByPylong i j = false := by
 obtain ⟨h1,h2⟩ := h
 refine PyProof.noPylong_of_log2 ?_
 have h0 : j.natAbs ≠ 0 := by omega
 have h3 : j.natAbs < 2 ^ 200 := by
  have e : (2 : Nat) ^ 200 = 1606938044258990275541962092341162602522202993782792835301376 := by decide
  rw [e]
  omega
 have := (Nat.log2_lt h0).mpr h3
 omega
section
variable {X : Cx}
theorem op_fdivB : OpR X (binaryOp .FloorDiv) (rI CDivB fun i j => .int (i / j)) := opI fun i j _ _ _ _ _ hc q => by
 have h1 : (0 : Int) < j := hc.1
 exact floordiv_int (by omega) (by rw [Int.fdiv_eq_ediv_of_nonneg i (by omega)]; exact q) (.inl (cdivB_no hc))
def clsV : V → Option Value
 | .ty n => some (.type n)
 | .ref C => some (.ref C)
 | _ => none
theorem clsV_rel {c : V} {cv u : Value} (h : clsV c = some cv) (r : RelV c u) : u = cv := by
 cases c with
 | ty n => cases h; exact r
 | ref C => cases h; exact r
 | _ => cases h
theorem B1 : CallR X (.builtin "isinstance") (fun xs H Q => ∃ x c t cv b,xs = [x,c] ∧ clsV c = some cv ∧ TyOf X.K H x t ∧ PySem.W.kitOne X.K t cv = some b ∧ Q (.bl b) H) := by
 intro pins s σ H xs us Q I r h
 obtain ⟨x,c,t,cv,b,rfl,hc,ht,hk,q⟩ := h
 obtain ⟨u,w',rfl,rx,rc⟩ := vals2 r
 have e := clsV_rel hc rc
 subst e
 exact isinst_ok I rx ht hk fun tk => ⟨.bl b,H,I.tok _,rfl,q⟩
theorem kit_same {K : PySem.W.Frag} {n : String} : PySem.W.kitOne K (.type n) (.type n) = some true := by
 unfold PySem.W.kitOne
 rw [if_pos (beq_self_eq_true _)]
theorem Bq {K : PySem.W.Frag} {a c : String} {b : Bool} (h1 : (Value.type a == Value.type c) = false) (h2 : PySem.W.kitMeta c = true) (h3 : (fastBuiltinMro a).map (·.contains (Value.type c)) = some b) :
 PySem.W.kitOne K (.type a) (.type c) = some b := by
 unfold PySem.W.kitOne
 rw [if_neg (by rw [h1]; exact Bool.false_ne_true)]
 show (if PySem.W.kitMeta c = true then PySem.W.subIn K (.type a) (.type c) else none) = some b
 rw [if_pos h2]
 exact h3
section
variable {K : PySem.W.Frag}
theorem kit_bool_int : PySem.W.kitOne K (.type "bool") (.type "int") = some true := Bq (by decide +kernel) (by decide +kernel) (by decide +kernel)
theorem kit_none_int : PySem.W.kitOne K (.type "NoneType") (.type "int") = some false := Bq (by decide +kernel) (by decide +kernel) (by decide +kernel)
theorem kit_str_int : PySem.W.kitOne K (.type "str") (.type "int") = some false := Bq (by decide +kernel) (by decide +kernel) (by decide +kernel)
theorem kit_list_int : PySem.W.kitOne K (.type "list") (.type "int") = some false := Bq (by decide +kernel) (by decide +kernel) (by decide +kernel)
theorem kit_tuple_int : PySem.W.kitOne K (.type "tuple") (.type "int") = some false := Bq (by decide +kernel) (by decide +kernel) (by decide +kernel)
theorem kit_dict_int : PySem.W.kitOne K (.type "dict") (.type "int") = some false := Bq (by decide +kernel) (by decide +kernel) (by decide +kernel)
theorem kit_int_bool : PySem.W.kitOne K (.type "int") (.type "bool") = some false := Bq (by decide +kernel) (by decide +kernel) (by decide +kernel)
theorem kit_none_bool : PySem.W.kitOne K (.type "NoneType") (.type "bool") = some false := Bq (by decide +kernel) (by decide +kernel) (by decide +kernel)
theorem kit_str_bool : PySem.W.kitOne K (.type "str") (.type "bool") = some false := Bq (by decide +kernel) (by decide +kernel) (by decide +kernel)
theorem kit_list_bool : PySem.W.kitOne K (.type "list") (.type "bool") = some false := Bq (by decide +kernel) (by decide +kernel) (by decide +kernel)
theorem kit_tuple_bool : PySem.W.kitOne K (.type "tuple") (.type "bool") = some false := Bq (by decide +kernel) (by decide +kernel) (by decide +kernel)
theorem kit_dict_bool : PySem.W.kitOne K (.type "dict") (.type "bool") = some false := Bq (by decide +kernel) (by decide +kernel) (by decide +kernel)
theorem kit_int_str : PySem.W.kitOne K (.type "int") (.type "str") = some false := Bq (by decide +kernel) (by decide +kernel) (by decide +kernel)
theorem kit_bool_str : PySem.W.kitOne K (.type "bool") (.type "str") = some false := Bq (by decide +kernel) (by decide +kernel) (by decide +kernel)
theorem kit_none_str : PySem.W.kitOne K (.type "NoneType") (.type "str") = some false := Bq (by decide +kernel) (by decide +kernel) (by decide +kernel)
theorem kit_list_str : PySem.W.kitOne K (.type "list") (.type "str") = some false := Bq (by decide +kernel) (by decide +kernel) (by decide +kernel)
theorem kit_tuple_str : PySem.W.kitOne K (.type "tuple") (.type "str") = some false := Bq (by decide +kernel) (by decide +kernel) (by decide +kernel)
theorem kit_dict_str : PySem.W.kitOne K (.type "dict") (.type "str") = some false := Bq (by decide +kernel) (by decide +kernel) (by decide +kernel)
theorem kit_int_tuple : PySem.W.kitOne K (.type "int") (.type "tuple") = some false := Bq (by decide +kernel) (by decide +kernel) (by decide +kernel)
theorem kit_bool_tuple : PySem.W.kitOne K (.type "bool") (.type "tuple") = some false := Bq (by decide +kernel) (by decide +kernel) (by decide +kernel)
theorem kit_none_tuple : PySem.W.kitOne K (.type "NoneType") (.type "tuple") = some false := Bq (by decide +kernel) (by decide +kernel) (by decide +kernel)
theorem kit_list_tuple : PySem.W.kitOne K (.type "list") (.type "tuple") = some false := Bq (by decide +kernel) (by decide +kernel) (by decide +kernel)
theorem kit_str_tuple : PySem.W.kitOne K (.type "str") (.type "tuple") = some false := Bq (by decide +kernel) (by decide +kernel) (by decide +kernel)
theorem kit_dict_tuple : PySem.W.kitOne K (.type "dict") (.type "tuple") = some false := Bq (by decide +kernel) (by decide +kernel) (by decide +kernel)
end
inductive Kd where
 | non | bl | int | str | lst | tup | dct
 deriving DecidableEq
def Kd.nm : Kd → String
 | .non => "NoneType" | .bl => "bool" | .int => "int" | .str => "str" | .lst => "list" | .tup => "tuple" | .dct => "dict"
def KdOf (K : PySem.W.Frag) (H : Hp) (x : V) (k : Kd) : Prop := TyOf K H x (.type k.nm)
def Kd.isA : Kd → Kd → Bool
 | .bl,.int => true
 | a,b => decide (a = b)
theorem kit_kd {K : PySem.W.Frag} {a c : Kd} (hc : c = .int ∨ c = .bl ∨ c = .str ∨ c = .tup) : PySem.W.kitOne K (.type a.nm) (.type c.nm) = some (a.isA c) := by
 rcases hc with rfl | rfl | rfl | rfl
 ·cases a <;> first | exact kit_same | exact kit_bool_int | exact kit_none_int | exact kit_str_int | exact kit_list_int | exact kit_tuple_int | exact kit_dict_int
 ·cases a <;> first | exact kit_same | exact kit_int_bool | exact kit_none_bool | exact kit_str_bool | exact kit_list_bool | exact kit_tuple_bool | exact kit_dict_bool
 ·cases a <;> first | exact kit_same | exact kit_int_str | exact kit_none_str | exact kit_bool_str | exact kit_list_str | exact kit_tuple_str | exact kit_dict_str
 ·cases a <;> first | exact kit_same | exact kit_int_tuple | exact kit_none_tuple | exact kit_bool_tuple | exact kit_list_tuple | exact kit_str_tuple | exact kit_dict_tuple
theorem Bt (c : Kd) (hc : c = .int ∨ c = .bl ∨ c = .str ∨ c = .tup) : CallR X (.builtin "isinstance") (fun xs H Q => ∃ x k,xs = [x,.ty c.nm] ∧ KdOf X.K H x k ∧ Q (.bl (k.isA c)) H) := by
 intro pins s σ H xs us Q I r h
 obtain ⟨x,k,rfl,hk,q⟩ := h
 exact B1 pins s σ H _ us Q I r ⟨x,_,_,_,_,rfl,rfl,hk,kit_kd hc,q⟩
end
def Its (x : Str) : It := ⟨fun i _ => i < x.cps.size,fun i H v H' => H' = H ∧ ∃ c,x.cps[i]? = some c ∧ v = .str ⟨#[c]⟩,fun i _ => i = x.cps.size⟩
theorem turn_str {P : Program} {w : World} {K : PySem.W.Frag} {tg : Expr} (it : Addr) (ty : String) (x : Str) (t : Tok) (hty : ["enumerate","zip","dict_itemiterator","dict_reverseitemiterator","odict_iterator","itertools.zip_longest","itertools.pairwise"].contains ty = false)
 (W : ∀ A' : Around,A'.handled = none → Walks P w A' it [it] [it] x.cps.size (SignAt x) (fun i h => h.IsStrIter it ty x t i))
 (slf : ∀ (A : Around) (i : Nat) (s : Shared) (Q : Value → Shared → Prop) (E : Value → Shared → Prop),s.heap.IsStrIter it ty x t i → Q (.ref it) s → wpAny (model P w) A (pyIter (.ref it)) Q E s) :
 Turn P w K tg (Its x) [it] it (fun i h => h.IsStrIter it ty x t i) where
 mem := by simp
 obj := fun i h st b hb => by
  have e : b = it := by simpa using hb
  subst e
  obtain ⟨o,e,c,d⟩ := st
  exact ⟨o,e,fun v z => by rw [d] at z; cases z⟩
 keep := fun i h h' st k => by
  obtain ⟨o,e,r⟩ := st
  exact ⟨o,k it (by simp) o e,r⟩
 item := by
  intro X hP hw hK hc i pins s σ H E I hf st hg
  subst hP hw hK
  obtain ⟨f0,f1,f2,f3,f4,f5⟩ := hf it (by simp)
  refine (W X.A (I.ok.hd hc)).item i s _ _ hg st fun v h' tk hv st' kk => ?_
  obtain ⟨c,u,ec,rfl⟩ := hv
  have I1 : Inv X pins σ H { s with heap := h',toks := tk } := I.turned (fun b o hb e => kk b o (by simpa using hb) e) f0 f1 f3 f4 f5
  obtain ⟨o,e,cc,d⟩ := id st'
  exact ⟨_,rfl,go_of (s := { s with heap := h',toks := tk }) e cc d hty ⟨.str ⟨#[c]⟩,H,I1,⟨u,rfl⟩,⟨rfl,c,ec,rfl⟩,st',fun b hb => (hf b hb).1⟩⟩
 done := by
  intro X hP hw hK hc i pins s σ H E I hf st hg
  subst hP hw hK
  obtain ⟨f0,f1,f2,f3,f4,f5⟩ := hf it (by simp)
  have e : i = x.cps.size := hg
  subst e
  exact (W X.A (I.ok.hd hc)).done s _ _ st fun h' tk kk => ⟨rfl,I.turned (fun b o hb e => kk b o (by simpa using hb) e) f0 f1 f3 f4 f5⟩
 self := slf
def iStr (tl : TE) : TI := fun σ H R => tl σ H fun x H1 => ∃ z,x = .str z ∧ R (Its z) H1
section
variable {X : Cx} {tg : Expr}
theorem pi_str {l : Expr} {tl : TE} (hl : PE X l tl) : PI X tg l (iStr tl) := by
 intro pins s σ H R I h
 refine thn (hl pins s σ H _ I h) fun v s1 ⟨x,H1,I1,r1,q1⟩ => ?_
 obtain ⟨z,e,q⟩ := q1
 subst e
 obtain ⟨t,rfl⟩ := r1
 have fp : ∀ b ∈ [s1.heap.objs.size],FpOk X pins H1 b := fun b hb => by
  have e : b = s1.heap.objs.size := by simpa using hb
  subst e
  exact I1.fpOk (Nat.le_refl _) (I1.hok.fresh (Nat.le_refl _))
 cases ha : z.cps.all (· < 128)
 ·refine wpAny_pyIter_wide ha ?_
  exact ⟨s1.heap.objs.size,[s1.heap.objs.size],_,_,H1,rfl,I1.kept (t' := s1.toks) fun b o e => Heap.get?_push_of_some _ e,turn_str _ _ z t (by decide) (fun A' hA => Walks.strWide hA _ z t) (fun _ _ _ _ _ st h => wpAny_pyIter_striter_wide st h),
   ⟨_,Heap.get?_push_size _ rfl,rfl,rfl⟩,fp,q⟩
 ·refine wpAny_pyIter_ascii ha ?_
  exact ⟨s1.heap.objs.size,[s1.heap.objs.size],_,_,H1,rfl,I1.kept (t' := s1.toks) fun b o e => Heap.get?_push_of_some _ e,turn_str _ _ z t (by decide) (fun A' hA => Walks.strAscii hA _ z t) (fun _ _ _ _ _ st h => wpAny_pyIter_striter_ascii st h),
   ⟨_,Heap.get?_push_size _ rfl,rfl,rfl⟩,fp,q⟩
def sgn (x : Str) (i : Nat) : Str := ⟨#[x.cps.getD i 0]⟩
theorem comp_str {k : Nat} {js : List Nat} {g : TG} {tc : TT} {te : TE} {σ : St} {fin : List V → Hp → Prop} {H : Hp} {z : Str} (Pv : Nat → List V → Hp → Prop) (h0 : Pv 0 [] H) (hn : z.cps.size ≤ sizeLine) (hl : ∀ i ys H,Pv i ys H → ys.length ≤ i)
 (hs : ∀ i ys H,i < z.cps.size → Pv i ys H → g (.str (sgn z i)) (sigC k js σ) H fun σ2 H3 => tc σ2 H3 fun b H4 => if b = true then te σ2 H4 fun y H5 => Pv (i + 1) (ys ++ [y]) H5 else Pv (i + 1) ys H4)
 (hd : ∀ ys H,Pv z.cps.size ys H → fin ys H) : compW k js g tc te σ (Its z) H fin := by
 refine ⟨fun i m ys H => m = z.cps.size - i ∧ i ≤ z.cps.size ∧ Pv i ys H,⟨z.cps.size,by simp,Nat.zero_le _,h0⟩,?_⟩
 rintro i m ys H ⟨rfl,hi,p⟩
 have hy := hl i ys H p
 by_cases hlt : i < z.cps.size
 ·refine .inr ⟨hlt,by omega,Pv (i + 1),fun ys' H' p' => ⟨z.cps.size - (i + 1),by omega,rfl,hlt,p'⟩,fun x H' y => ?_⟩
  obtain ⟨e,c,ec,ex⟩ := y
  subst e ex
  have hh := hs i ys _ hlt p
  have e2 : sgn z i = ⟨#[c]⟩ := by unfold sgn; rw [Array.getD_eq_getD_getElem?,ec]; rfl
  rw [e2] at hh
  exact hh
 ·have e : i = z.cps.size := by omega
  subst e
  exact .inl ⟨rfl,by omega,hd ys H p⟩
theorem vals_bl : ∀ {bs : List Bool} {its : List Value},Vals (bs.map V.bl) its → its = bs.map Value.bool
 | [],_,.nil => rfl
 | b :: bs,_,.cons r t => by
   cases r
   rw [vals_bl t]
   rfl
theorem Bw (hc : X.calm = true) : CallR X (.builtin "all") (fun xs H Q => ∃ (p : Addr) (bs : List Bool),xs = [.ref p] ∧ SqL X.K H p (bs.map V.bl) ∧ Q (.bl (bs.all id)) H) := by
 intro pins s σ H xs us Q I r h
 obtain ⟨p,bs,rfl,hq,q⟩ := h
 obtain ⟨u,rfl,ru⟩ := vals1 r
 cases ru
 obtain ⟨its,rv,pl,hz⟩ := I.list hq
 have e := vals_bl rv
 subst e
 have hlt : p < s.heap.objs.size := by obtain ⟨o,n,e,_⟩ := pl; exact Heap.lt_size e
 refine call_all_walk (wpAny_pyIter_list pl.isList ?_)
 refine ⟨s.heap.objs.size,_,[s.heap.objs.size],_,_,_,fun i => bs.getD i true,rfl,Walks.list (A := X.A.in1) (show X.A.in1.handled = none from I.ok.hd hc) s.heap.objs.size p (Nat.ne_of_lt hlt) (bs.map Value.bool).toArray,⟨⟨_,Heap.get?_push_size _ rfl,rfl,rfl⟩,pl.isList.push _⟩,?_,fun h' tk hk => ?_⟩
 ·intro i v s' Q' E' hP hQ'
  have hP : ((bs.map Value.bool).toArray)[i]? = some v := hP
  rw [List.getElem?_toArray,List.getElem?_map] at hP
  cases e : bs[i]? with
  | none => rw [e] at hP; cases hP
  | some b =>
    rw [e] at hP
    cases hP
    refine wpAny_truthy_bool ?_
    have e' : bs.getD i true = b := by rw [List.getD_eq_getElem?_getD,e]; rfl
    have hQ' : Q' (bs.getD i true) s' := hQ'
    rw [e'] at hQ'
    exact hQ'
 ·have e : (List.range (bs.map Value.bool).toArray.size).all (fun i => bs.getD i true) = bs.all id := by
   rw [Bool.eq_iff_iff]
   simp only [List.size_toArray,List.length_map,List.all_eq_true,List.mem_range,id]
   constructor
   ·intro h b hb
    obtain ⟨i,hi,e⟩ := List.mem_iff_getElem.mp hb
    have := h i hi
    rw [List.getD_eq_getElem?_getD,List.getElem?_eq_getElem hi,e] at this
    exact this
   ·intro h i hi
    rw [List.getD_eq_getElem?_getD,List.getElem?_eq_getElem hi]
    exact h _ (List.getElem_mem hi)
  rw [e]
  exact ⟨.bl (bs.all id),H,I.kept fun b o e => hk b o (by simp; exact Nat.ne_of_lt (Heap.lt_size e)) (Heap.get?_push_of_some _ e),rfl,q⟩
end
section
variable {κ : Type} [DecidableEq κ]
end
theorem kV_is {P : Program} {w : World} {k : Key} {u : Value} (r : RelV (kV k) u) : (Aw P w).is k u = true := by
 cases k with
 | inl i => obtain ⟨t,e⟩ := (show ∃ t,u = Value.int i t from r); subst e; exact mixKind_int P w i t
 | inr x => obtain ⟨t,e⟩ := (show ∃ t,u = Value.str x t from r); subst e; exact mixKind_str P w x t
theorem items_are {P : Program} {w : World} : ∀ {ks : List Key} {us : List Value},Vals (ks.map kV) us → ItemsAre (Aw P w) ks us
 | [],_,r => by rw [List.map_nil] at r; cases r; exact .nil
 | k :: ks,_,r => by
   rw [List.map_cons] at r
   cases r with
   | cons h t => exact .cons (kV_is h) (items_are t)
section
variable {P : Program} {w : World} {H : Hp} {h : Heap} {a : Addr}
theorem key_of {ks : List Key} (ok : HOk P w H h) (e : H a = some (.tup (ks.map kV))) : (tupleKind (Aw P w)).is h ks a := by
 obtain ⟨_,its,r,o,h1,h2,n,h3⟩ := (show Cj P w H h a (.tup (ks.map kV)) from ok a _ e)
 exact ⟨o,its.toArray,n,h1,h2,h3,by simpa using items_are r⟩
end
section
variable {X : Cx} {pins : List (Addr × Obj)} {σ : St} {H : Hp} {s : Shared} {a : Addr} {y v : V} {u r : Value} {o : Option V} {A : Around} {E : Value → Shared → Prop}
theorem Inv.big (I : Inv X pins σ H s) : sysModules < s.heap.objs.size := by
 have h : mainGlobals < s.heap.objs.size := (I.mod.glob.keeps I.bk).lt
 exact Nat.lt_trans (by decide) h
end
section
variable {X : Cx} {pins : List (Addr × Obj)} {σ : St} {H : Hp} {s : Shared} {a : Addr} {kvs : List (Key × V)} {k : Key} {u : Value} {A : Around} {E : Value → Shared → Prop}
end
section
variable {X : Cx} {o i e value : Expr} {pos pos' tpos : Pos} {td ty tv : TE}
end
theorem dk_empty {P : Program} {w : World} {H : Hp} (h : Heap) (hb : sysModules < h.objs.size) : Cj P w H (h.push { cls := .type "dict",data := .dict #[] }) h.objs.size (.dK []) :=
 ⟨Nat.zero_le _,beq_eq_false_iff_ne.mpr (Ne.symm (Nat.ne_of_lt hb)),[],.nil,Heap.DictOf.new h⟩
def tDNewK : TE := fun _ H Q => ∀ p,H p = none → Q (.ref p) (upd H p (.dK []))
section
variable {X : Cx} {pos : Pos}
theorem pe_dnewK : PE X (.Dict [] [] pos) tDNewK := fun pins s σ H Q I h =>
 wpAny_Dict_empty ⟨.ref s.heap.objs.size,_,I.laid (a := s.heap.objs.size) (o := .dK []) (t' := s.toks) (fun _ _ q => Heap.get?_push_of_some _ q) (Nat.le_refl _) (dk_empty s.heap I.big),rfl,h _ (I.hok.fresh (Nat.le_refl _))⟩
end
section
variable {X : Cx} {pins : List (Addr × Obj)} {σ : St} {H : Hp} {s : Shared} {a : Addr} {y d : V} {u r : Value} {o : Option V} {A : Around} {E : Value → Shared → Prop}
end
section
variable {X : Cx} {o e f : Expr} {apos cpos : Pos} {td ty tx : TE}
end
section
variable {X : Cx} {pins : List (Addr × Obj)} {σ : St} {H : Hp} {s : Shared} {a : Addr} {kvs : List (Key × V)} {A : Around} {E : Value → Shared → Prop}
end
section
variable {X : Cx} {pins : List (Addr × Obj)} {σ : St} {H : Hp} {s : Shared} {a : Addr} {y : V} {u : Value} {A : Around} {E : Value → Shared → Prop}
end
section
variable {X : Cx}
end
section
variable {κ : Type} [DecidableEq κ]
end
open PySem PySem.Spec PyProof.Rows PySem.SeqAt
mutual
inductive RdD (K : PySem.W.Frag) (H : Hp) : V → PyData → Prop
 | non : RdD K H .non .none
 | bl (b : Bool) : RdD K H (.bl b) (.bool b)
 | int (i : Int) : RdD K H (.int i) (.int i)
 | str (x : Str) : RdD K H (.str x) (.str x)
 | lst {a : Addr} {xs : List V} {ds : List PyData} : SqL K H a xs → RdDs K H xs ds → RdD K H (.ref a) (.list ds)
 | tup {a : Addr} {xs : List V} {ds : List PyData} : SqT K H a xs → RdDs K H xs ds → RdD K H (.ref a) (.tuple ds)
inductive RdDs (K : PySem.W.Frag) (H : Hp) : List V → List PyData → Prop
 | nil : RdDs K H [] []
 | cons {x : V} {d : PyData} {xs : List V} {ds : List PyData} : RdD K H x d → RdDs K H xs ds → RdDs K H (x :: xs) (d :: ds)
end
section
variable {X : Cx} {pins : List (Addr × Obj)} {σ : St} {H : Hp} {s : Shared}
mutual
theorem RdD.reads (I : Inv X pins σ H s) : ∀ {x : V} {d : PyData} {u : Value},RdD X.K H x d → RelV x u → ∃ as,Reads s.heap u d as
 | _,_,_,.non,r => by cases r; exact ⟨_,.none⟩
 | _,_,_,.bl b,r => by cases r; exact ⟨_,.bool b⟩
 | _,_,_,.int i,r => by obtain ⟨t,rfl⟩ := r; exact ⟨_,.int i t⟩
 | _,_,_,.str x,r => by obtain ⟨t,rfl⟩ := r; exact ⟨_,.str x t⟩
 | _,_,_,.lst hq hs,r => by
   cases r
   obtain ⟨its,rv,pl,hz⟩ := I.list hq
   obtain ⟨as,ra⟩ := RdDs.reads I hs rv
   obtain ⟨o,n,e,hc,hd,dd⟩ := pl
   exact ⟨_,.list e hc dd (by simpa using ra)⟩
 | _,_,_,.tup hq hs,r => by
   cases r
   obtain ⟨its,rv,pl,hz⟩ := I.tuple hq
   obtain ⟨as,ra⟩ := RdDs.reads I hs rv
   obtain ⟨o,e,hc,n,dd⟩ := pl
   exact ⟨_,.tuple e hc dd (by simpa using ra)⟩
theorem RdDs.reads (I : Inv X pins σ H s) : ∀ {xs : List V} {ds : List PyData} {us : List Value},RdDs X.K H xs ds → Vals xs us → ∃ as,ReadsAll s.heap us ds as
 | _,_,_,.nil,.nil => ⟨_,.nil⟩
 | _,_,_,.cons h hs,.cons r rs => by
   obtain ⟨as,ra⟩ := RdD.reads I h r
   obtain ⟨bs,rb⟩ := RdDs.reads I hs rs
   exact ⟨_,.cons ra rb⟩
end
end
section
variable {X : Cx}
def rEqD (K : PySem.W.Frag) (neg : Bool) : R2 := fun x y H Q => ∃ dx dy,RdD K H x dx ∧ RdD K H y dy ∧ shaped dx = true ∧ shaped dy = true ∧ Q (.bl (if neg then !PyData.eqv dx dy else PyData.eqv dx dy)) H
theorem op_eqD (hu : X.A.units + 64 < cLine) : OpR X (compareOp .Eq) (rEqD X.K false) := by
 intro pins s σ H x y v u Q I rx ry h
 obtain ⟨dx,dy,hx,hy,sx,sy,q⟩ := h
 obtain ⟨as,ra⟩ := hx.reads I rx
 obtain ⟨bs,rb⟩ := hy.reads I ry
 exact eq_dataH ra rb sx sy hu (Bf I q rfl)
theorem op_neD (hu : X.A.units + 64 < cLine) : OpR X (compareOp .NotEq) (rEqD X.K true) := by
 intro pins s σ H x y v u Q I rx ry h
 obtain ⟨dx,dy,hx,hy,sx,sy,q⟩ := h
 obtain ⟨as,ra⟩ := hx.reads I rx
 obtain ⟨bs,rb⟩ := hy.reads I ry
 exact ne_dataH ra rb sx sy hu (Bf I q rfl)
end
section
variable {X : Cx}
end
structure FnAt (P : Program) (w : World) (K : PySem.W.Frag) (mg : Str → Option Value) (base : Heap) (x : Str) (k : Nat) (ps : List Str) (sp : Sp) : Prop where
 ex : ∃ (f : Addr) (fd : FuncData),FnOk P w K mg base CX0 k f fd ps sp ∧ mg x = some (.ref f) ∧ PySem.W.keepIn K (.ref f) = true ∧ Df K fd ps []
theorem Ay {X : Cx} {x : Str} {ps : List Str} {sp : Sp} {k j : Nat} {p pos : Pos} {e : Expr} {es : List Expr} {t : TA} (F : FnAt X.prog X.w X.K X.mg X.base x k ps sp) (hr : Room j X.A) (hj : k ≤ j) (hg : Gl X x) (ha : PA X (e :: es) t)
 (hdb : (x == ("__debug__" : Str)) = false := by decide) (he : starEach (e :: es) X.env = (false,eval e X.env) :: starEach es X.env := by rfl) (hpl : (backTo pos (starEach es X.env)).any (·.1) = false := by rfl) :
 PE X (.Call (.Name x p) (e :: es) [] pos) (tCall sp [] E0 t) := by
 obtain ⟨f,fd,G,hm,hk,hb⟩ := F.ex
 exact pe_call G (hr.mono hj) hg hm hk hb .nil Db ha hdb he hpl
structure Aq (K : PySem.W.Frag) (mg : Str → Option Value) (x : Str) (st : Stmt) (ps : List Str) : Prop where
 ex : ∃ (f : Addr) (fd : FuncData),Fun K x x st f fd ∧ mg x = some (.ref f) ∧ ∀ us : List Value,us.length = ps.length → bindArgs fd ⟨us,[]⟩ = pure (ps.zip us)
theorem topFn_mk {K : PySem.W.Frag} {mg : Str → Option Value} {h : Heap} {x : Str} {st : Stmt} {ps : List Str} {f : Addr} {oc : Value} {od an : Option Addr} {osl : Array (Option Value)} {kV doc pm cdv ct : Value} (X : K.In h) (G : h.Ns mainGlobals mg)
 (hb : ∀ (kV doc pm : Value) (an : Option Addr) (cdv ct : Value) (us : List Value),us.length = ps.length → bindArgs (PySem.W.fnOf x x (Cy st) (Bu st) (Af st) .none kV doc pm an cdv ct) ⟨us,[]⟩ = pure (ps.zip us))
 (a : PySem.W.nsIn K mainGlobals x = some (some (.ref f))) (l : K.lookup f = some ⟨oc,od,.func (PySem.W.fnOf x x (Cy st) (Bu st) (Af st) .none kV doc pm an cdv ct),osl⟩)
 (c : PySem.W.codeIn K cdv x = true) (k : PySem.W.keepIn K (.ref f) = true) : Aq K mg x st ps :=
 ⟨f,_,fun_mk l c k,PySem.W.mg_of X G a,fun us => hb kV doc pm an cdv ct us⟩
theorem A0 {K : PySem.W.Frag} {mg : Str → Option Value} {h : Heap} {x : Str} {st : Stmt} {ps : List Str} {f : Addr} {oc : Value} {od an : Option Addr} {osl : Array (Option Value)} {kV doc pm cdv ct : Value} (X : K.In h) (G : h.Ns mainGlobals mg)
 (hb : ∀ (kV doc pm : Value) (an : Option Addr) (cdv ct : Value) (us : List Value),us.length = ps.length → bindArgs (PySem.W.fnOf x x (Cy st) (Bu st) (Af st) .none kV doc pm an cdv ct) ⟨us,[]⟩ = pure (ps.zip us))
 (a : PySem.W.nsIn K mainGlobals x = some (some (.ref f))) (l : K.lookup f = some ⟨oc,od,.func (PySem.W.fnOf x x (Cy st) (Bu st) (Af st) .none kV doc pm an cdv ct),osl⟩)
 (c : PySem.W.codeIn K cdv x = true) (k : PySem.W.keepIn K (.ref f) = true) : Aq (KOf X) mg x st ps := topFn_mk X G hb a l c k
section
variable {P : Program} {w : World} {K : PySem.W.Frag} {mg : Str → Option Value} {base : Heap}
theorem Aq.at {x : Str} {st : Stmt} {N ps : List Str} {k : Nat} {sp : Sp} (T : Aq K mg x st ps) (S : Ar N ps (Af st)) (len : ∀ vs H Q E,sp vs H Q E → vs.length = ps.length)
 (hbody : ∀ (f : Addr) (cdv : Value) (A : Around) (outer : List Env) (s : Shared) (H : Hp) (vs : List V) (Q : VK) (E : XK),Room k (A.deeper (envOfC x (Af st) s.heap.objs.size f cdv)) → sp vs H Q E →
   ∃ t,PSs (cxOf CX0 P w K mg base N x (Af st) f cdv A outer s H E).nox (Bu st) t ∧ t { nx := fun _ H' => Q .non H',rt := Q } (start N vs) H) : FnAt P w K mg base x (k + 1) ps sp := by
 obtain ⟨f,fd,F,hm,hb⟩ := T.ex
 exact ⟨f,fd,F.ok S len fun cdv A outer s H vs Q E hr h => hbody f cdv A outer s H vs Q E hr h,hm,F.kp,.all hb⟩
end
theorem hu64 {A : Around} {k : Nat} (hr : Room k A) : A.units + 64 < cLine := hr.units
def Box (H : Hp) (b : Addr) : Prop := ∃ x y z : Int,H b = some (.lst [.int x,.int y,.int z])
structure Oth (b : Addr) (H H' : Hp) : Prop where
 box : Box H' b
 oth : ∀ c o,H c = some o → c ≠ b → H' c = some o
theorem Oth.refl {b : Addr} {H : Hp} (h : Box H b) : Oth b H H := ⟨h,fun _ _ h _ => h⟩
theorem Oth.trans {b : Addr} {H H1 H2 : Hp} (a : Oth b H H1) (c : Oth b H1 H2) : Oth b H H2 := ⟨c.box,fun d o h n => c.oth d o (a.oth d o h n) n⟩
theorem Box.ne {H : Hp} {b c : Addr} (h : Box H b) (n : H c = none) : c ≠ b := fun e => by
 subst e
 obtain ⟨x,y,z,q⟩ := h
 rw [q] at n; cases n
theorem Oth.new {b p : Addr} {H H1 : Hp} {o : HO} (a : Oth b H H1) (h : H1 p = none) : Oth b H (upd H1 p o) := by
 have hb := a.box.ne h
 refine ⟨?_,fun c u e n => ?_⟩
 ·obtain ⟨x,y,z,q⟩ := a.box
  exact ⟨x,y,z,by rw [Ak (Ne.symm hb)]; exact q⟩
 ·rw [Ak (Aj (a.oth c u e n) h)]
  exact a.oth c u e n
theorem Same.new {H : Hp} {p : Addr} {o : HO} (h : H p = none) : Same H (upd H p o) := fun b u e => by
 rw [Ak (Aj e h)]
 exact e
theorem Z0 : 0 ≤ sizeLine := by decide
theorem Z1 : 1 ≤ sizeLine := by decide
theorem Z2 : 2 ≤ sizeLine := by decide
theorem Z3 : 3 ≤ sizeLine := by decide
theorem Z4 : 4 ≤ sizeLine := by decide
theorem Z5 : 5 ≤ sizeLine := by decide
theorem Z6 : 6 ≤ sizeLine := by decide
theorem Z7 : 7 ≤ sizeLine := by decide
theorem Z9 : 9 ≤ sizeLine := by decide
theorem Z10 : 10 ≤ sizeLine := by decide
theorem Z14 : 14 ≤ sizeLine := by decide
theorem Nw {H H1 : Hp} {p : Addr} {o : HO} (e : upd H p o = H1) (h : H p = none) : Same H H1 := e ▸ Same.new h
theorem Ns {H H1 : Hp} {p : Addr} {o : HO} (e : upd H p o = H1) : H1 p = some o := e ▸ Ac
def bigLine : Int := 10000000000000000000000000000000000000000
def spCell (K : PySem.W.Frag) : Sp := fun vs H Q _ => ∃ (a : Addr) (ns : List Int) (k : Nat),vs = [.ref a,.int k] ∧ SqL K H a (ns.map V.int) ∧ ∀ c : Int,Q (.int c) H
def spMixed : Sp := fun vs H Q _ => ∃ a k : Int,vs = [.int a,.int k] ∧ ∀ r : Int,Q (.int r) H
def spBox : Sp := fun vs H Q _ => ∃ c : Int,vs = [.int c] ∧ ∀ (b : Addr) (x y z : Int),H b = none → Q (.ref b) (upd H b (.lst [.int x,.int y,.int z]))
def spTake : Sp := fun vs H Q _ => ∃ (b : Addr) (n : Int),vs = [.ref b,.int n] ∧ Box H b ∧ 0 < n ∧ n < bigLine ∧ ∀ (r : Int) (H' : Hp),0 ≤ r → r < n → Oth b H H' → Q (.int r) H'
section
variable {X : Cx} {x : Str} {pos : Pos}
theorem pe_globS {z : Str} (hg : Gl X x) (h : ∃ t,X.mg x = some (.str z t)) (hd : (x == ("__debug__" : Str)) = false := by decide) : PE X (.Name x pos) (tC (.str z)) := by
 obtain ⟨t,e⟩ := h
 exact Dt hg e ⟨t,rfl⟩ hd
theorem By {i : Int} (hg : Gl X x) (h : ∃ t,X.mg x = some (.int i t)) (hd : (x == ("__debug__" : Str)) = false := by decide) : PE X (.Name x pos) (tC (.int i)) := by
 obtain ⟨t,e⟩ := h
 exact Dt hg e ⟨t,rfl⟩ hd
end
def spLaw (K : PySem.W.Frag) : Sp := fun vs H Q _ => ∃ (a : Addr) (ns : List Int),vs = [.ref a] ∧ SqL K H a (ns.map V.int) ∧ ns.length ≤ 63 ∧ ∀ H',Q (.bl true) H'
theorem law_len {K : PySem.W.Frag} {x : Str} : ∀ vs H Q E,spLaw K vs H Q E → vs.length = [x].length := fun vs H Q E h => by
 obtain ⟨a,ns,rfl,_⟩ := h
 rfl
theorem law_mk {P : Program} {w : World} {K : PySem.W.Frag} {mg : Str → Option Value} {fa : Addr} {st : Stmt} {x : Str} {N : List Str} {k : Nat} (T : Aq K mg "law" st [x]) (hfa : mg "law" = some (.ref fa)) (S : Ar N [x] (Af st))
 (body : ∀ (base : Heap),K.In base → base.Ns mainGlobals mg → ∀ (f : Addr) (cdv : Value) (A : Around) (outer : List Env) (s : Shared) (H : Hp) (vs : List V) (Q : VK) (E : XK),Room k (A.deeper (envOfC "law" (Af st) s.heap.objs.size f cdv)) → spLaw K vs H Q E →
   ∃ t,PSs (cxOf CX0 P w K mg base N "law" (Af st) f cdv A outer s H E).nox (Bu st) t ∧ t { nx := fun _ H' => Q .non H',rt := Q } (start N vs) H) :
 ∃ fd : FuncData,(∀ (s : Shared) (v : Value),BindsTo s fd ⟨[v],[]⟩ [(x,v)]) ∧ ∀ base : Heap,K.In base → base.Ns mainGlobals mg → FnOk P w K mg base CX0 (k + 1) fa fd [x] (spLaw K) := by
 obtain ⟨f,fd,F,hm,hb⟩ := T.ex
 rw [hfa] at hm
 cases hm
 exact ⟨fd,fun s v => .of_eq (hb [v] rfl),fun base h1 h2 => F.ok S law_len fun cdv A outer s H vs Q E hr h => body base h1 h2 fa cdv A outer s H vs Q E hr h⟩
theorem law_walk {l : PySem.W.OpenLaw} {q : Program} {loose : List Str} {XP : (Str → Option Value) → Heap → Prop} {YP : World → Heap → Prop} {d : DefRec} {K : Params → PySem.W.Frag} {x : Str} {k : Nat} (hn : l.most = some 63) (hdf : d.params.defaults = []) (hk : Room k callerA)
 (hY : ∀ (w : World) (h : Heap),YP w h → (K w.params).In h)
 (F : ∀ (w : World) (mg : Str → Option Value) (fa : Addr) (h : Heap),(K w.params).In h → h.Ns mainGlobals mg → mg d.name = some (.ref fa) →
   ∃ fd : FuncData,(∀ (s : Shared) (u : Value),BindsTo s fd ⟨[u],[]⟩ [(x,u)]) ∧ ∀ base : Heap,(K w.params).In base → base.Ns mainGlobals mg → FnOk l.prog w (K w.params) mg base CX0 k fa fd [x] (spLaw (K w.params))) :
 PySem.W.WalkO q loose XP YP l.row.toRowW d [] (fun f vs => PySem.call f vs) :=
 L2.walk_of (n := 63) (k := k) (x := x) (CX := fun _ => CX0) (sp := fun w => spLaw (K w.params)) hn (by decide) hdf hk hY F (fun _ _ a ns hl _ hS => ⟨a,ns,rfl,hS,hl,fun _ => rfl⟩) fun _ _ _ _ _ z => z
theorem glob_I {K : PySem.W.Frag} {h : Heap} {mg : Str → Option Value} {n : Str} {v : Value} {i : Int} (X : K.In h) (G : h.Ns mainGlobals mg) (e : PySem.W.nsIn K mainGlobals n = some (some v)) (hv : ∃ t,v = .int i t) : ∃ t,mg n = some (.int i t) := by
 obtain ⟨t,rfl⟩ := hv
 exact ⟨t,PySem.W.mg_of X G e⟩
theorem glob_S {K : PySem.W.Frag} {h : Heap} {mg : Str → Option Value} {n : Str} {x z : Str} {t : Tok} (X : K.In h) (G : h.Ns mainGlobals mg) (e : PySem.W.nsIn K mainGlobals n = some (some (.str x t))) (hv : x = z) : ∃ t,mg n = some (.str z t) := by
 subst hv
 exact ⟨t,PySem.W.mg_of X G e⟩
open PySem PySem.Spec PyProof.Rows PySem.W
open Builtin Builtin.ObjectAttr
abbrev bmVE : List Value := [.type "ValueError",.type "Exception",.type "BaseException",.type "object"]
def excMk (K : Frag) (C : Addr) : Bool := match K.lookup C with
 | some ⟨.type "type",_,.cls cd,sl⟩ => (match cd.mro,sl.toList with
   | .ref C' :: bm,[_,_,_,_,some (.builtin n),_] => C' == C && n == "ValueError.__new__" && !cd.hasDel && cd.hasDict && tailIn K bmVE bm
   | _,_ => false) && specialIn K (.ref C) "__call__" == some (some (.builtin "type.__call__")) && instIn K (.ref C) (.type "type") == some true
 | _ => false
structure ExcCls (h : Heap) (C : Addr) (bm : List Value) : Prop where
 at_ : ∃ (N : Addr) (nm qn : Str) (bs : List Value) (sn : List Str) (sub : List Value) (ab : Bool) (col : Option Bool) (dd : Option Addr) (k0 k1 k2 k3 k5 : Option Value),
  h.get? C = some (excClassObj nm qn C N bs bm true sn sub ab col dd k0 k1 k2 k3 k5 "ValueError.__new__")
 tl : OwnTail h bmVE bm
theorem excMk_of {K : Frag} {h : Heap} {C : Addr} (X : K.In h) (q : excMk K C = true) :
 ∃ bm,ExcCls h C bm ∧ specialIn K (.ref C) "__call__" = some (some (.builtin "type.__call__")) ∧ instIn K (.ref C) (.type "type") = some true := by
 unfold excMk at q
 split at q
 ·rename_i dd cd sl ho
  simp only [Bool.and_eq_true,beq_iff_eq] at q
  obtain ⟨⟨q,hcall⟩,hinst⟩ := q
  split at q
  ·rename_i C' bm k0 k1 k2 k3 n k5 hm hs
   simp only [Bool.and_eq_true,beq_iff_eq,Bool.not_eq_true'] at q
   obtain ⟨⟨⟨⟨rfl,rfl⟩,hdel⟩,hhd⟩,ht⟩ := q
   obtain ⟨nm,bs,mro,ns,qn,hd,sn,sub,ab,col,del⟩ := cd
   dsimp only at hm hdel hhd
   subst hm hdel hhd
   have hsl : sl = #[k0,k1,k2,k3,some (.builtin "ValueError.__new__"),k5] := by
    obtain ⟨l⟩ := sl
    simp only at hs
    rw [hs]
   subst hsl
   exact ⟨bm,⟨⟨ns,nm,qn,bs,sn,sub,ab,col,dd,k0,k1,k2,k3,k5,X _ _ ho⟩,tail_of_in X ht⟩,hcall,hinst⟩
  ·cases q
 ·cases q
abbrev excObj (C t : Addr) : Obj := { cls := .ref C,data := .fields #[.ref t,.none,.none,.none,.bool false,.none] }
abbrev argsObj (vs : List Value) : Obj := { cls := .type "tuple",data := .seq vs.toArray }
section
variable {prog : Program} {w : World} {A : Around} {E : Value → Shared → Prop} {K : Frag} {C f : Addr} {R : Result → Shared → Prop} {h : Heap} {g : Array GenState} {d : Drawn} {t : Nat} {os : OsState}
theorem exc_make {vs : List Value} (X : K.In h) (hm : excMk K C = true) (hi : findIn K (.ref C) "__init__" = some (some (.ref f))) (hf : typeIn K (.ref f) = some (.type "function")) (hl : vs.length ≤ sizeLine)
 (hq : codeAny (model prog w) (A.under (.builtin "type.__call__" ⟨.ref C :: vs,[]⟩)) (.call (.ref f) ⟨.ref (h.objs.size + 1) :: vs,[]⟩) (InitBack (h.objs.size + 1) R)
   ⟨(h.push (argsObj vs)).push (excObj C h.objs.size),g,d,t,os⟩) :
 codeAny (model prog w) A (.call (.ref C) ⟨vs,[]⟩) R ⟨h,g,d,t,os⟩ := by
 have F := PySem.F.excBase_ValueError
 obtain ⟨bm,⟨⟨N,nm,qn,bs,sn,sub,ab,col,dd,k0,k1,k2,k3,k5,hC⟩,T⟩,hcall,hinst⟩ := excMk_of X hm
 have call := looks_specialIn (M := model prog w) X hcall
 have typ := looks_instIn (M := model prog w) X hinst
 refine codeAny_of_tree ?_
 show wpAny _ _ (callAny (.ref C) _) _ _ _
 refine nd_load hC ?_
 show wpAny _ _ (callAny.viaDunder (.ref C) _) _ _ _
 unfold callAny.viaDunder
 refine wpAny_bind (call.at ?_)
 dsimp only
 rw [tc_bind]
 refine wpAny_bind (wpAny_pure (wpAny_bind (wpAny_pure ?_)))
 refine wpAny_pure (a := Fin.again (.call (.builtin "type.__call__") ⟨.ref C :: vs,[]⟩)) (And.intro rfl ?_)
 refine codeAny_call_builtin_at (Code.quiet_builtin _ (by decide +kernel)) entry_typeCall (check_slot tc_kind tc_split typ (tc_args _ _ _) ?_)
 repeat (first | with_reducible refine wpAny_loadPart_at hC ?_ | with_reducible refine wpAny_madeBy_exc hC ?_ | wp_step)
 refine codeAny_call_builtin_code (Code.quiet_builtin _ F.quiet) (wpAny_check_new_subT F T hC ?_)
 refine codeAny_exc_new_subT F T hC ?_ hl
 show wpAny _ _ _ _ _ _
 have k : ∀ b o,h.get? b = some o → ((h.push (argsObj vs)).push (excObj C h.objs.size)).get? b = some o := fun b o e => Heap.get?_push_of_some _ (Heap.get?_push_of_some _ e)
 have hC₁ := k _ _ hC
 have hget : ((h.push (argsObj vs)).push (excObj C h.objs.size)).get? (h.objs.size + 1) = some (excObj C h.objs.size) := by heap_get
 have hcC : (Value.ref C :: bm).contains (.ref C) = true := by simp
 have X1 : K.In ((h.push (argsObj vs)).push (excObj C h.objs.size)) := X.keeps k
 unfold isInstance
 repeat (first | with_reducible refine wpAny_loadPart_at hget ?_ | (with_reducible refine wpAny_isSubtype_exc hC₁ ?_; rw [hcC]) | wp_step)
 show wpAny _ _ (typeLookup (.ref C) _) _ _ _
 refine (looks_findIn X1 hi).at ?_
 refine wpAny_holding (wpAny_bind ((bind_fn X1 _ hf).at ?_))
 refine wpAny_bind (wpAny_call (codeAny_mono hq fun r s' z => ?_))
 rcases r with e | (v | _ | _ | _) <;> first | exact z | exact z.elim | skip
 obtain ⟨rfl,z⟩ := z
 wp_walk
 exact z
end
section
variable {prog : Program} {w : World} {A : Around} {E : Value → Shared → Prop} {K : Frag} {C e : Addr} {R : Result → Shared → Prop} {h : Heap} {g : Array GenState} {d : Drawn} {t : Nat} {os : OsState}
theorem base_init {bm : List Value} {oe : Obj} {t0 : Addr} {rest : List Value} {u : Value} {Q : Value → Shared → Prop} (c : ExcCls h C bm) (he : h.get? e = some oe) (hcl : oe.cls = .ref C) (hd : oe.data = .fields (.ref t0 :: rest).toArray)
 (hq : ∀ h',(∀ b o,b ≠ e → h.get? b = some o → h'.get? b = some o) → (∃ t1 : Addr,h'.get? e = some { cls := .ref C,dict := oe.dict,data := .fields (.ref t1 :: rest).toArray,slots := oe.slots }) → h.objs.size ≤ h'.objs.size → Q .none ⟨h',g,d,t,os⟩) :
 wpAny (model prog w) A (call (.builtin "ValueError.__init__") [.ref e,u]) Q E ⟨h,g,d,t,os⟩ := by
 have F := PySem.F.excBase_ValueError
 obtain ⟨⟨N,nm,qn,bs,sn,sub,ab,col,dd,k0,k1,k2,k3,k5,hC⟩,T⟩ := c
 obtain ⟨oc,od,odt,osl⟩ := oe
 dsimp only at hcl hd
 subst hcl hd
 refine wpAny_call (codeAny_call_builtin F.init.plain F.initEntry (wpAny_check_init_subT F T hC he rfl ?_))
 wp_walk
 refine hq _ (fun b o hb e1 => ?_) ⟨h.objs.size,?_⟩ ?_
 ·rw [Heap.get?_update_other _ _ (Ne.symm hb)]
  exact Heap.get?_push_of_some _ e1
 ·rw [Heap.get?_update_self _ (Heap.get?_push_of_some _ he) rfl]
  rfl
 ·rw [Heap.size_update,Heap.size_push]; omega
def C6 : List Value → Bool
 | .ref _ :: r => C6 r
 | l => l == bmVE
theorem refuse_VE (self : Value) : ∀ {l : List Value},C6 l = true → refuseLoop self "__setattr__" l = pure ()
 | .ref c :: r,e => by rw [refuseLoop_ref]; exact refuse_VE self (by simpa [C6] using e)
 | [],e => by simp [C6] at e
 | .type n :: r,e => by
   have e' : (Value.type n :: r) = bmVE := by simpa [C6] using e
   rw [e']; exact PySem.F.store_ValueError.passes self
 | .none :: r,e => by simp [C6] at e
 | .bool b :: r,e => by simp [C6] at e
 | .int i k :: r,e => by simp [C6] at e
 | .str i k :: r,e => by simp [C6] at e
 | .bytes i k :: r,e => by simp [C6] at e
 | .float i k :: r,e => by simp [C6] at e
 | .builtin i :: r,e => by simp [C6] at e
theorem over_tail {h : Heap} {bm : List Value} (T : OwnTail h bmVE bm) : C6 bm = true := by
 induction T with
 | base => rfl
 | own _ _ _ _ ih => simpa [C6] using ih
end
section
variable {prog : Program} {w : World} {A : Around} {E : Value → Shared → Prop} {K : Frag} {C x : Addr} {R : Result → Shared → Prop} {s : Shared}
theorem exc_sa_open {ox : Obj} {od : Option Obj} {name : Str} {tk : Tok} {v : Value} (X : K.In s.heap) (I : InstAt s.heap x ox C od) (hm : excMk K C = true) (ho : mroIn K C (.type "object") = some true) (ht : findIn K (.ref C) name = some none)
 (h : wpAny (model prog w) A.in1 (storeInOwnDict (.ref x) (.ref C) (.str name tk) name v false)
   (fun fin s' => match fin with | .done f => R (.ok f) s' | .again c' => c'.quiet = true ∧ codeAny (model prog w) A c' R s') (fun e s' => R (.error e) s') s) :
 codeAny (model prog w) A (.call (.builtin "object.__setattr__") ⟨[.ref x,.str name tk,v],[]⟩) R s := by
 have SF := PySem.F.store_object
 obtain ⟨bm,⟨⟨N,nm,qn,bs,sn,sub',ab,col,dd,k0,k1,k2,k3,k5,hC⟩,T⟩,hcall,hinst⟩ := excMk_of X hm
 have sub : Looks (model prog w) s.heap (isInstance (.ref x) (.type "object")) true := I.type.andThen (looks_mroIn X ho)
 refine codeAny_call_builtin SF.slot.plain SF.entry (@check_slot (model prog w) _ _ s "object.__setattr__" "object" "__setattr__" (.ref x) [.str name tk,v] [] _ SF.kind SF.split sub (SF.args (.ref x) (.str name tk) v) ?_)
 have hmro : Looks (model prog w) s.heap (mroOf (.ref C)) (.ref C :: bm) := ((Looks.ld (part := none) hC).andThen .now).andThen .now
 have L3 : Looks (model prog w) s.heap (storeTaker? none) none := .now
 rw [osa_eq,refuse_eq]
 refine wpAny_bind (wpAny_bind (I.type.here (wpAny_bind (hmro.here ?_))))
 rw [refuse_VE _ (show C6 (.ref C :: bm) = true by unfold C6; exact over_tail T)]
 refine wpAny_pure (wpAny_bind (I.type.here (wpAny_bind ((looks_findIn X ht).here (wpAny_bind (L3.here ?_))))))
 exact h
theorem exc_set {oe : Obj} {vs : Array Value} {name : Str} {v : Value} {Q : Unit → Shared → Prop} (X : K.In s.heap) (he : s.heap.get? x = some oe) (hcl : oe.cls = .ref C) (hdc : oe.dict = none) (hdt : oe.data = .fields vs)
 (hm : excMk K C = true) (ho : mroIn K C (.type "object") = some true) (hs : findIn K (.ref C) "__setattr__" = some (some (.builtin "object.__setattr__"))) (ht : findIn K (.ref C) name = some none)
 (h : ∀ h',h'.get? x = some { oe with dict := some s.heap.objs.size } → h'.Ns1 s.heap.objs.size (fun y => if y = name then some v else none) → (∀ b o,b ≠ x → s.heap.get? b = some o → h'.get? b = some o) → Q () { s with heap := h',toks := s.toks + 2 }) :
 wpAny (model prog w) A (setAttr (.ref x) name v) Q E s := by
 have J : InstAt s.heap x oe C none := ⟨he,hcl,by unfold notCls; rw [hdt],by rw [hdc]; trivial⟩
 refine set_plain X J hs (exc_sa_open (s := { s with toks := s.toks + 1 }) X J hm ho ht ?_)
 obtain ⟨bm,⟨⟨N,nm,qn,bs,sn,sub',ab,col,dd,k0,k1,k2,k3,k5,hC⟩,T⟩,hcall,hinst⟩ := excMk_of X hm
 obtain ⟨hp,g,d,t,os⟩ := s
 obtain ⟨oc,odd,odt,osl⟩ := oe
 dsimp only at he hcl hdc hdt X h
 subst hcl hdc hdt
 unfold storeInOwnDict
 have hx₁ : (hp.push { cls := .type "dict",data := .dict #[] }).get? x = some ⟨.ref C,none,.fields vs,osl⟩ := Heap.get?_push_of_some _ he
 have hxs : x ≠ hp.objs.size := Nat.ne_of_lt (Heap.lt_size he)
 have hcd : Looks (model prog w) hp (classData C) _ := (Looks.ld (part := none) hC).andThen .now
 refine wpAny_bind (wpAny_pure (wpAny_bind ?_))
 show wpAny _ _ (instanceDict x true) _ _ _
 unfold instanceDict
 refine wpAny_bind (wpAny_loadPart he ?_)
 dsimp only
 refine wpAny_bind (hcd.at ?_)
 dsimp only
 simp only [Bool.not_true,Bool.false_eq_true,if_false,Bool.false_or,typeHasDict]
 refine wpAny_bind (wpAny_alloc' ?_)
 refine wpAny_bind (wpAny_update' hx₁ ?_)
 refine wpAny_pure ?_
 have hgd : ((hp.push { cls := .type "dict",data := .dict #[] }).update x fun o => { cls := o.cls,dict := some hp.objs.size,data := o.data,slots := o.slots }).get? hp.objs.size
  = some { cls := .type "dict",data := .dict #[] } :=
  (Heap.get?_update_ne _ _ _ _ hxs.symm).trans (Heap.get?_push_at rfl rfl)
 have hnd : ((hp.push { cls := .type "dict",data := .dict #[] }).update x fun o => { cls := o.cls,dict := some hp.objs.size,data := o.data,slots := o.slots }).Ns hp.objs.size (fun _ => none) :=
  ⟨_,#[],_,hgd,rfl,fun e he => absurd he (by simp),fun _ => rfl⟩
 show wpAny _ _ (storeInDict hp.objs.size (.str name _) name v) _ _ _
 unfold storeInDict newKeyGuard
 refine wpAny_bind (wpAny_pure (wpAny_bind (wpAny_nsSet1 (Heap.Ns1.of_empty hnd) fun h' hn' hs => ?_)))
 obtain ⟨oD,esD,epD,hoD,hdD,hcD⟩ := hn'.count (Within.cons name v Within.nil)
 refine wpAny_bind (wpAny_lookBehind hoD (by rw [hdD]; exact pastItsLine_dict (Nat.le_trans hcD (by rw [List.length_cons,List.length_nil,sizeLine_eq]; omega))) ?_)
 wp_walk
 refine h h' ?_ hn' fun b o hb e1 => ?_
 ·refine (hs.2 x hxs).trans (Heap.get?_update_self _ hx₁ rfl)
 ·exact (hs.2 b (Nat.ne_of_lt (Heap.lt_size e1))).trans ((Heap.get?_update_ne _ _ _ _ hb).trans (Heap.get?_push_of_some _ e1))
end
def excGet (K : Frag) (C : Addr) : Bool := findIn K (.ref C) "__getattribute__" == some (some (.builtin "BaseException.__getattribute__")) && findIn K (.ref C) "__getattr__" == some none && mroIn K C (.type "BaseException") == some true
section
variable {prog : Program} {w : World} {A : Around} {E : Value → Shared → Prop} {K : Frag} {C x : Addr} {R : Result → Shared → Prop} {s : Shared} {name : Str}
theorem exc_ga {ox : Obj} {od : Option Obj} {tk : Tok} {r : Found} (X : K.In s.heap) (I : InstAt s.heap x ox C od) (hg : excGet K C = true) (hf : findObj K C od name = some r)
 (h : match r with | .value v => R (.ok (.ret v)) s | .bind g a => wpAny (model prog w) A.in1 (call g [a,.ref x,.ref C]) (fun v s' => R (.ok (.ret v)) s') (fun e s' => R (.error e) s') s | .missing => False) :
 codeAny (model prog w) A (.call (.builtin "BaseException.__getattribute__") ⟨[.ref x,.str name tk],[]⟩) R s := by
 unfold excGet at hg
 simp only [Bool.and_eq_true,beq_iff_eq] at hg
 obtain ⟨⟨hga,hgk⟩,hb⟩ := hg
 have sub : Looks (model prog w) s.heap (isInstance (.ref x) (.type "BaseException")) true := I.type.andThen (looks_mroIn X hb)
 refine codeAny_call_builtin PySem.F.attrBase_ValueError.ga.plain PySem.F.entry_bexc_ga ?_
 refine @check_slot (model prog w) _ _ s "BaseException.__getattribute__" "BaseException" "__getattribute__" (.ref x) [.str name tk] [] _ (by decide +kernel) (by decide +kernel) sub (PySem.F.args_bexc_ga (.ref x) (.str name tk)) ?_
 unfold Builtin.«object.__getattribute__»
 have L0 := I.type (M := model prog w)
 have L1 := looks_find (M := model prog w) X I hf
 refine wpAny_bind (wpAny_pure (wpAny_bind (wpAny_pure (wpAny_bind (L0.here (wpAny_bind (L1.here ?_)))))))
 cases r with
 | value v => exact wpAny_pure h
 | bind g a =>
   show wpAny _ _ (holding [a] (call g [a,.ref x,.ref C]) >>= ret) _ _ _
   exact wpAny_bind (wpAny_holding (wpAny_mono h (fun v s' z => wpAny_pure z) fun _ _ z => z))
 | missing => exact h.elim
theorem exc_getAttr {ox : Obj} {od : Option Obj} {v : Value} {expr : Bool} {Q : Value → Shared → Prop} (X : K.In s.heap) (I : InstAt s.heap x ox C od) (hg : excGet K C = true) (hf : findObj K C od name = some (.value v)) (hv : handedIn v = true)
 (h : Q v { s with toks := s.toks + 1 }) : wpAny (model prog w) A (getAttr (.ref x) name expr) Q E s := by
 have hg' := hg
 unfold excGet at hg'
 simp only [Bool.and_eq_true,beq_iff_eq] at hg'
 obtain ⟨⟨hga,hgk⟩,hb⟩ := hg'
 refine wpAny_bind (wpAny_mkText (wpAny_holding (wpAny_bind (I.type _ _ _ _ (fun _ _ e => e) (wpAny_bind (looks_findIn X hga _ _ _ _ (fun _ _ e => e) ?_))))))
 dsimp only
 have hx2 : (Value.builtin "BaseException.__getattribute__" == Value.builtin "object.__getattribute__") = false := by decide +kernel
 rw [show (onTheHeap (Value.ref C) && Value.builtin "BaseException.__getattribute__" == Value.builtin "object.__getattribute__") = false from by rw [hx2,Bool.and_false],if_neg (by decide)]
 refine wpAny_bind (looks_hook X (mc := .ref C) (r := none) hgk _ _ _ _ (fun _ _ e => e) (wpAny_bind (wpAny_attempt (wpAny_holding ?_))))
 unfold callGetattribute
 rw [show (expr && onTheHeap (Value.builtin "BaseException.__getattribute__")) = false from Bool.and_false _,if_neg (by decide)]
 unfold boundAndCalled
 rw [PySem.F.attrBase_ValueError.ga.bind]
 refine wpAny_bind (wpAny_pure ?_)
 show wpAny _ _ (call (.builtin "BaseException.__getattribute__") [.ref x,.str name s.toks]) _ _ _
 refine wpAny_call (exc_ga (s := { s with toks := s.toks + 1 }) X I hg hf ?_)
 show wpAny _ _ (handedOut v) _ _ _
 rw [handedOut_of hv]; exact wpAny_pure h
end
def ExcIs (e C : Addr) (d : Option Addr) (h : Heap) : Prop := ∃ (t : Addr) (rest : List Value) (sl : Array (Option Value)),h.get? e = some { cls := .ref C,dict := d,data := .fields (.ref t :: .none :: rest).toArray,slots := sl }
def ExcRs (e C : Addr) (d : Option Addr) (h : Heap) : Prop := ∃ (t : Addr) (rest : List Value) (sl : Array (Option Value)),h.get? e = some { cls := .ref C,dict := d,data := .fields (.ref t :: rest).toArray,slots := sl }
def excR (e C : Addr) (d : Option Addr) : HO := .ext (ExcRs e C d)
theorem excR_ok {P : Program} {w : World} {H : Hp} {h : Heap} {e C : Addr} {d : Option Addr} (x : ExcRs e C d h) : Cj P w H h e (excR e C d) := by
 refine ⟨x,?_,fun h1 h2 p k => ?_⟩
 ·obtain ⟨t,r,sl,q⟩ := x; exact ⟨_,q⟩
 ·obtain ⟨t,r,sl,q⟩ := p; exact ⟨t,r,sl,k _ q⟩
theorem excR_is {P : Program} {w : World} {H : Hp} {h : Heap} {e C : Addr} {d : Option Addr} (x : Cj P w H h e (excR e C d)) : ExcRs e C d h := x.1
def excO (e C : Addr) (d : Option Addr) : HO := .ext (ExcIs e C d)
theorem excO_ok {P : Program} {w : World} {H : Hp} {h : Heap} {e C : Addr} {d : Option Addr} (x : ExcIs e C d h) : Cj P w H h e (excO e C d) := by
 refine ⟨x,?_,fun h1 h2 p k => ?_⟩
 ·obtain ⟨t,r,sl,q⟩ := x; exact ⟨_,q⟩
 ·obtain ⟨t,r,sl,q⟩ := p; exact ⟨t,r,sl,k _ q⟩
theorem excO_is {P : Program} {w : World} {H : Hp} {h : Heap} {e C : Addr} {d : Option Addr} (x : Cj P w H h e (excO e C d)) : ExcIs e C d h := x.1
structure Exc (H : Hp) (e C dx : Addr) (fs : List (Str × V)) : Prop where
 at_ : H e = some (excO e C (some dx)) ∨ H e = some (excR e C (some dx))
 dct : H dx = some (.xd fs)
theorem Exc.is {P : Program} {w : World} {H : Hp} {h : Heap} {e C dx : Addr} {fs : List (Str × V)} (x : Exc H e C dx fs) (k : HOk P w H h) : ExcRs e C (some dx) h := by
 rcases x.at_ with z | z
 ·obtain ⟨t,r,sl,q⟩ := excO_is (k e _ z)
  exact ⟨t,_,sl,q⟩
 ·exact excR_is (k e _ z)
def xOk (K : PySem.W.Frag) (C : Addr) (n : Str) : Bool := excMk K C && excGet K C && (PySem.W.clsIn K C).isSome && PySem.W.findIn K (.ref C) "__setattr__" == some (some (.builtin "object.__setattr__")) &&
 PySem.W.findIn K (.ref C) "__class__" == some (some (.builtin "object.__class__")) && PySem.W.specialIn K (.builtin "object.__class__") "__get__" == some (some (.builtin "getset_descriptor.__get__")) &&
 PySem.W.takesIn K (.builtin "object.__class__") == some true && PySem.W.mroIn K C (.type "object") == some true && PySem.W.findIn K (.ref C) n == some none && (PySem.W.clsIn K C).any (·.hasDict)
structure XOk (K : PySem.W.Frag) (C : Addr) (n : Str) : Prop where
 mkk : excMk K C = true
 get : excGet K C = true
 cls : (PySem.W.clsIn K C).isSome = true
 sa : PySem.W.findIn K (.ref C) "__setattr__" = some (some (.builtin "object.__setattr__"))
 ca : PySem.W.findIn K (.ref C) "__class__" = some (some (.builtin "object.__class__"))
 cg : PySem.W.specialIn K (.builtin "object.__class__") "__get__" = some (some (.builtin "getset_descriptor.__get__"))
 ct : PySem.W.takesIn K (.builtin "object.__class__") = some true
 mo : PySem.W.mroIn K C (.type "object") = some true
 nm : PySem.W.findIn K (.ref C) n = some none
 hd : (PySem.W.clsIn K C).any (·.hasDict) = true
theorem xOk_of {K : PySem.W.Frag} {C : Addr} {n : Str} (h : xOk K C n = true) : XOk K C n := by
 unfold xOk at h
 simp only [Bool.and_eq_true,beq_iff_eq] at h
 obtain ⟨⟨⟨⟨⟨⟨⟨⟨⟨a,b⟩,c⟩,d⟩,e⟩,f⟩,g⟩,i⟩,j⟩,k⟩ := h
 exact ⟨a,b,c,d,e,f,g,i,j,k⟩
structure GBase (K : PySem.W.Frag) (mg : Str → Option Value) (x : Str) (G : Addr) : Prop where
 mg : mg x = some (.ref G)
 rd : PySem.W.readsIn K G (.type "type") = true
 fc : PySem.W.findCls K (.ref G) (.type "type") "__init__" = some (.val (.builtin "ValueError.__init__"))
 ga : PySem.W.specialIn K (.ref G) "__getattribute__" = some (some (.builtin "type.__getattribute__"))
section
variable {X : Cx} {pins : List (Addr × Obj)} {σ : St} {H : Hp} {s : Shared} {A : Around} {E : Value → Shared → Prop}
def tBInit (K : PySem.W.Frag) (t : TA) : TE := fun σ H Q => t σ H fun vs H1 => ∃ e C d v,vs = [.ref e,v] ∧ H1 e = some (excO e C d) ∧ excMk K C = true ∧ Q .non H1
theorem binit_ok {e C : Addr} {d : Option Addr} {u : Value} {Q : Value → Shared → Prop} (I : Inv X pins σ H s) (ea : H e = some (excO e C d)) (hm : excMk X.K C = true) (h : ∀ s',Inv X pins σ H s' → Q .none s') :
 wpAny (model X.prog X.w) A (call (.builtin "ValueError.__init__") [.ref e,u]) Q E s := by
 obtain ⟨t0,rest,sl,q⟩ := excO_is (I.hok e _ ea)
 obtain ⟨bm,c,_,_⟩ := excMk_of I.kIn hm
 obtain ⟨hp,g,dr,t,os⟩ := s
 refine base_init c q rfl rfl fun h' k ⟨t1,q1⟩ _ => h _ ?_
 have I2 := I.write (x := e) (e := e) (o := excO e C d) (h' := h') (t' := t) (by rw [ea]; exact True.intro) (.inl rfl) (fun b o hb z => k b o hb z) ⟨_,q1⟩ (excO_ok ⟨t1,rest,sl,q1⟩)
 have eH : upd H e (excO e C d) = H := by
  funext b
  unfold upd
  split
  ·rename_i z; rw [z,ea]
  ·rfl
 rw [eH] at I2
 exact I2
theorem pe_binit {x : Str} {G : Addr} {p apos pos : Pos} {a : Expr} {es : List Expr} {t : TA} {pl : Sem Bool} (B : GBase X.K X.mg x G) (hg : Gl X x) (ha : PA X (a :: es) t) (hdb : (x == ("__debug__" : Str)) = false := by decide)
 (hst : starEach (a :: es) X.env = (false,eval a X.env) :: starEach es X.env := by rfl) (hpl : (backTo pos (starEach es X.env)).any (·.1) = false := by rfl)
 (ht : eval (.Call (.Attribute (.Name x p) "__init__" apos) (a :: es) [] pos) X.env = (do
   let ov ← eval (.Name x p) X.env
   standAt apos.atName
   let (f,first) ← holding [ov] (getMethod ov "__init__" pl)
   callWith pos f first (backTo pos (starEach (a :: es) X.env)) (backToKw pos (keywordEach [] X.env))) := by rfl) :
 PE X (.Call (.Attribute (.Name x p) "__init__" apos) (a :: es) [] pos) (tBInit X.K t) := by
 intro pins s σ H Q I h
 refine PySem.W.methodCall_KW (pl := pl) (thn (Dt hg B.mg (show RelV (.ref G) (.ref G) from rfl) hdb pins s σ H (fun v H1 => v = .ref G ∧ H1 = H) I ⟨rfl,rfl⟩) fun u s1 ⟨v,H1,I1,rv,ev,eH⟩ => ?_) ht
 subst ev eH
 obtain rfl : u = Value.ref G := rv
 refine PySem.W.method_cls I1.kIn B.ga (PySem.W.cls_value I1.kIn B.rd B.fc rfl ?_)
 have hA := ha pos pins _ σ H1 _ (I1.tok (s1.toks + 1)) h
 rw [hst] at hA ⊢
 refine Calls.callWith_builtin (by show (false || (backTo pos (starEach es X.env)).any (·.1)) = false; rw [hpl] <;> rfl) (Calls.evalArgs_plain ?_)
 refine thn hA fun us s2 ⟨vs,H2,I2,r2,e,C,d,v,ev,ea,hm,q⟩ => ?_
 subst ev
 obtain ⟨u1,u2,rfl,r1,r2'⟩ := vals2 r2
 obtain rfl : u1 = Value.ref e := r1
 exact binit_ok I2 ea hm fun s' I' => ⟨.non,H2,I',rfl,q⟩
theorem xset_ok {e C : Addr} {n : Str} {y : V} {u : Value} {Q : Unit → Shared → Prop} (I : Inv X pins σ H s) (ea : H e = some (excO e C none)) (xo : XOk X.K C n) (ry : RelV y u)
 (h : ∀ s' dx,H dx = none → dx ≠ e → Inv X pins σ (upd (upd H e (excO e C (some dx))) dx (.xd [(n,y)])) s' → Q () s') : wpAny (model X.prog X.w) A (setAttr (.ref e) n u) Q E s := by
 obtain ⟨t0,rest,sl,q⟩ := excO_is (I.hok e _ ea)
 refine exc_set I.kIn q rfl rfl rfl xo.mkk xo.mo xo.sa xo.nm fun h' q1 hn k => ?_
 have hf : H s.heap.objs.size = none := I.hok.fresh (Nat.le_refl _)
 have hne : s.heap.objs.size ≠ e := (Aj ea hf).symm
 refine h _ _ hf hne (I.un (t' := s.toks + 2) ⟨fun b o e1 n1 _ _ => ?_,fun b o e1 n1 _ _ => ?_,fun b o e1 n1 _ => ?_,fun b o e1 _ => ?_,fun b xs e1 => ?_,fun b o' u' e1 => ?_,fun b ps e1 => ?_⟩ fun b o e1 => ?_)
 ·exact k b o (fun z => by rw [z,ea] at n1; cases n1) e1
 ·exact ⟨o.slots,k b o (fun z => by rw [z,ea] at n1; cases n1) e1⟩
 ·rw [Ak (Nat.ne_of_lt (Heap.lt_size e1)),Ak (fun z => by rw [z,ea] at n1; cases n1)]
  exact n1
 ·by_cases hb : b = e
  ·rw [hb]; exact ⟨_,q1⟩
  ·exact ⟨o,k b o hb e1⟩
 ·rw [Ak (Aj e1 hf),Ak (fun z => by rw [z,ea] at e1; cases e1)]; exact e1
 ·rw [Ak (Aj e1 hf),Ak (fun z => by rw [z,ea] at e1; cases e1)]; exact e1
 ·exact ⟨#[],by rw [Ak (Aj e1 hf),Ak (fun z => by rw [z,ea] at e1; cases e1),e1]; simp⟩
 ·by_cases h1 : b = s.heap.objs.size
  ·subst h1
   rw [Ac] at e1
   cases e1
   refine ⟨_,hn,fun f => ?_⟩
   show RelO (List.lookup f [(n,y)]) (if f = n then some u else none)
   by_cases z : f = n
   ·subst z
    rw [if_pos rfl]
    simp only [List.lookup,beq_self_eq_true]
    exact ry
   ·rw [if_neg z]
    have z' : (f == n) = false := beq_eq_false_iff_ne.mpr z
    simp [List.lookup,z',RelO]
  ·rw [Ak h1] at e1
   by_cases h2 : b = e
   ·subst h2
    rw [Ac] at e1
    cases e1
    exact excO_ok ⟨t0,rest,sl,q1⟩
   ·rw [Ak h2] at e1
    refine (I.hok b o e1).stay (fun c v hc q => k c v ?_ q) (fun c z => ?_) fun c xs z => ?_
    ·rcases hc with z | z
     ·rw [z]; exact h2
     ·intro z2; rw [z2,ea] at z; cases z
    ·rw [Ak (Aj z hf),Ak (fun z2 => by rw [z2,ea] at z; cases z)]; exact z
    ·rw [Ak (Aj z hf),Ak (fun z2 => by rw [z2,ea] at z; cases z)]; exact z
theorem xget_ok {e C dx : Addr} {fs : List (Str × V)} {n : Str} {y : V} {b : Bool} {Q : Value → Shared → Prop} (I : Inv X pins σ H s) (x : Exc H e C dx fs) (xo : XOk X.K C n) (l : fs.lookup n = some y)
 (h : ∀ u s',Inv X pins σ H s' → RelV y u → Q u s') : wpAny (model X.prog X.w) A (getAttr (.ref e) n b) Q E s := by
 obtain ⟨t0,rest,sl,q⟩ := x.is I.hok
 obtain ⟨mA,hn,hr⟩ := (show ∃ mA,s.heap.Ns1 dx mA ∧ ∀ f,RelO (fs.lookup f) (mA f) from I.hok dx _ x.dct)
 obtain ⟨od,ho,hl⟩ := lookIn_ns hn
 have r1 := hr n
 rw [l] at r1
 obtain ⟨u,eu,ru⟩ := RelO.some_of r1
 have J : PySem.W.InstAt s.heap e _ C (some od) := ⟨q,rfl,rfl,ho⟩
 exact exc_getAttr I.kIn J xo.get (PySem.W.findObj_own xo.hd xo.nm rfl (by rw [hl,eu])) (handed_of ru) (h _ _ (I.tok _) ru)
end
def tXFld (K : PySem.W.Frag) (ta : TE) (f : Str) : TE := fun σ H Q => ta σ H fun x H1 => ∃ e C dx fs v,x = .ref e ∧ Exc H1 e C dx fs ∧ XOk K C f ∧ fs.lookup f = some v ∧ Q v H1
def sXFld (K : PySem.W.Frag) (ta tv : TE) (f : Str) : TS := fun D σ H => tv σ H fun y H1 => ta σ H1 fun x H2 => ∃ e C,x = .ref e ∧ H2 e = some (excO e C none) ∧ XOk K C f ∧
 ∀ dx,H2 dx = none → dx ≠ e → D.nx σ (upd (upd H2 e (excO e C (some dx))) dx (.xd [(f,y)]))
section
variable {X : Cx} {o e value : Expr} {f : Str} {pos pos' tpos : Pos} {ta tv : TE}
theorem pe_xfld (he : PE X e ta) (hb : attributeBase e f X.env (eval e X.env) = eval e X.env := by rfl) : PE X (.Attribute e f pos) (tXFld X.K ta f) := by
 intro pins s σ H Q I h
 refine attr_of hb (thn (he pins s σ H _ I h) fun u s1 ⟨x,H1,I1,rx,a,C,dx,fs,v,ex,ea,c,l,q⟩ => ?_)
 subst ex
 obtain rfl : u = Value.ref a := rx
 exact xget_ok I1 ea c l fun u' s2 I2 ru => ⟨v,H1,I2,ru,q⟩
theorem ps_xfld (ha : PE X o ta) (hv : PE X value tv) (hs : swapsWith value (some (.Attribute o f pos')) pos.line X.env = pure false := by rfl) : PS X (.Assign [.Attribute o f pos'] value pos) (sXFld X.K ta tv f) := by
 intro pins s σ H D I h
 refine plainObj_wpAny_Assign_Attribute (thn (hv pins s σ H _ I h) fun u s1 ⟨y,H1,I1,ry,q⟩ => thn (ha pins s1 σ H1 _ I1 q) fun ov s2 ⟨x,H2,I2,rx,a,C,ex,ea,c,q2⟩ => ?_) hs
 subst ex
 obtain rfl : ov = Value.ref a := rx
 exact xset_ok I2 ea c ry fun s3 dx n1 n2 I3 => ⟨σ,_,I3,q2 dx n1 n2⟩
end
def spInit (K : PySem.W.Frag) (C : Addr) (n : Str) : Sp := fun vs H Q _ => ∃ e v,vs = [.ref e,v] ∧ H e = some (excO e C none) ∧ ∀ dx,H dx = none → dx ≠ e → Q .non (upd (upd H e (excO e C (some dx))) dx (.xd [(n,v)]))
def tXMake (C : Addr) (n : Str) (t : TA) : TE := fun σ H Q => t σ H fun vs H1 => ∃ v,vs = [v] ∧ ∀ e dx,H1 e = none → H1 dx = none → dx ≠ e → Q (.ref e) (upd (upd H1 e (excO e C (some dx))) dx (.xd [(n,v)]))
structure XDef (K : PySem.W.Frag) (mg : Str → Option Value) (x n : Str) (C : Addr) : Prop where
 mg : mg x = some (.ref C)
 ok : XOk K C n
 kp : PySem.W.keepIn K (.ref C) = true
section
variable {X : Cx} {k : Nat} {f C : Addr} {fd : FuncData} {ps : List Str} {x n : Str} {p pos : Pos} {a : Expr} {t : TA}
theorem run_xmake {pins : List (Addr × Obj)} {σ : St} {H : Hp} {s : Shared} {Q : VK} {us : List Value} {v : V} (M : XOk X.K C n) (hi : PySem.W.findIn X.K (.ref C) "__init__" = some (some (.ref f))) (hfn : PySem.W.isFn X.K (.ref f) = true)
 (F : FnOk X.prog X.w X.K X.mg X.base CX0 k f fd ps (spInit X.K C n)) (hr : Room (k + 1) X.A) (hb : Df X.K fd ps []) (I : Inv X pins σ H s) (r : Vals [v] us)
 (h : ∀ e dx,H e = none → H dx = none → dx ≠ e → Q (.ref e) (upd (upd H e (excO e C (some dx))) dx (.xd [(n,v)]))) :
 wpAny (model X.prog X.w) X.A (call (.ref C) us) (EP X pins σ Q) X.xe s := by
 have hfe : H (s.heap.objs.size + 1) = none := I.hok.fresh (Nat.le_succ _)
 have I1 : Inv X pins σ H { s with heap := s.heap.push (argsObj us) } := I.kept (t' := s.toks) fun b u q => Heap.get?_push_of_some _ q
 have e2 : ((s.heap.push (argsObj us)).push (excObj C s.heap.objs.size)).get? (s.heap.objs.size + 1) = some (excObj C s.heap.objs.size) := by
  have := Heap.get?_push_size (s.heap.push (argsObj us)) (o := excObj C s.heap.objs.size) rfl
  rwa [Heap.size_push] at this
 have I2 : Inv X pins σ (upd H (s.heap.objs.size + 1) (excO (s.heap.objs.size + 1) C none)) { s with heap := (s.heap.push (argsObj us)).push (excObj C s.heap.objs.size) } :=
  I1.laid (a := s.heap.objs.size + 1) (o := excO (s.heap.objs.size + 1) C none) (t' := s.toks) (fun b u q => Heap.get?_push_of_some _ q) (Nat.le_of_eq (Heap.size_push _ _)) (excO_ok ⟨s.heap.objs.size,_,_,e2⟩)
 have r2 : Vals [V.ref (s.heap.objs.size + 1),v] (Value.ref (s.heap.objs.size + 1) :: us) := .cons rfl r
 have hq : spInit X.K C n [V.ref (s.heap.objs.size + 1),v] (upd H (s.heap.objs.size + 1) (excO (s.heap.objs.size + 1) C none)) (fun v H2 => v = .non ∧ Q (.ref (s.heap.objs.size + 1)) H2) E0 := by
  refine ⟨_,_,rfl,Ac,fun dx n1 n2 => ⟨rfl,?_⟩⟩
  rw [upd_upd]
  rw [Ak n2] at n1
  exact h _ _ hfe n1 n2
 have hl : (Value.ref (s.heap.objs.size + 1) :: us ++ []).length = ps.length := by
  have e := r2.length
  rw [F.len _ _ _ _ hq] at e
  rw [List.append_nil]
  exact e.symm
 have hlen : us.length ≤ sizeLine := by
  have e := r.length
  rw [← e,sizeLine_eq]; simp
 obtain ⟨hp,g,d,tt,os⟩ := s
 have hb2 := hb _ (Value.ref (hp.objs.size + 1) :: us) I2.kIn hl
 rw [List.append_nil] at hb2
 refine wpAny_call (exc_make I.kIn M.mkk hi (beq_iff_eq.mp hfn) hlen (codeAny_mono (F.run _ X.stack _ _ ⟨Value.ref (hp.objs.size + 1) :: us,[]⟩ (Value.ref (hp.objs.size + 1) :: us) _ _ E0 (hr.make C us [])
  (I2.env0.make C us []) hb2 r2 hq) fun r s' hq' => ?_))
 cases r with
 | error e => exact hq'.elim
 | ok fl =>
   cases fl with
   | ret u =>
     obtain ⟨v',H',I3,rv,ev,q3⟩ := I2.after hq'
     subst ev
     have e5 : upd H (hp.objs.size + 1) (excO (hp.objs.size + 1) C none) = upd H (hp.objs.size + 1) (excO (hp.objs.size + 1) C none) := rfl
     exact ⟨rv,⟨V.ref (hp.objs.size + 1),H',I3,rfl,q3⟩⟩
   | next => exact False.elim hq'
   | brk => exact False.elim hq'
   | cont => exact False.elim hq'
theorem pe_xmake (D : XDef X.K X.mg x n C) (hi : PySem.W.findIn X.K (.ref C) "__init__" = some (some (.ref f))) (hfn : PySem.W.isFn X.K (.ref f) = true)
 (F : FnOk X.prog X.w X.K X.mg X.base CX0 k f fd ps (spInit X.K C n)) (hb : Df X.K fd ps []) (hr : Room (k + 1) X.A) (hg : Gl X x)
 (ha : PA X [a] t) (hdb : (x == ("__debug__" : Str)) = false := by decide) (he : starEach [a] X.env = (false,eval a X.env) :: starEach [] X.env := by rfl) (hpl : (backTo pos (starEach [] X.env)).any (·.1) = false := by rfl) :
 PE X (.Call (.Name x p) [a] [] pos) (tXMake C n t) := by
 intro pins s σ H Q I h
 refine wpAny_Call_Name_kw (ld_glob I hg D.mg ?_ hdb)
 refine PySem.W.callWith_K (h₀ := X.base) I.ok.mod.kin D.kp (thn (ha pos pins s σ H _ I h) fun us s1 ⟨vs,H1,I1,r,v,ev,q⟩ => ⟨I1.kIn,?_⟩) he hpl
 subst ev
 exact run_xmake D.ok hi hfn F hr hb I1 r q
end
structure XAt (P : Program) (w : World) (K : PySem.W.Frag) (mg : Str → Option Value) (base : Heap) (x : Str) (k : Nat) (n : Str) (C : Addr) : Prop where
 df : XDef K mg x n C
 ex : ∃ (f : Addr) (fd : FuncData),PySem.W.findIn K (.ref C) "__init__" = some (some (.ref f)) ∧ PySem.W.isFn K (.ref f) = true ∧ FnOk P w K mg base CX0 k f fd ["self",n] (spInit K C n) ∧ Df K fd ["self",n] []
theorem pe_x {X : Cx} {k j : Nat} {C : Addr} {x n : Str} {p pos : Pos} {a : Expr} {t : TA} (D : XAt X.prog X.w X.K X.mg X.base x k n C) (hr : Room (j + 1) X.A) (hj : k ≤ j) (hg : Gl X x)
 (ha : PA X [a] t) (hdb : (x == ("__debug__" : Str)) = false := by decide) (he : starEach [a] X.env = (false,eval a X.env) :: starEach [] X.env := by rfl) (hpl : (backTo pos (starEach [] X.env)).any (·.1) = false := by rfl) :
 PE X (.Call (.Name x p) [a] [] pos) (tXMake C n t) := by
 obtain ⟨f,fd,hi,hfn,F,hb⟩ := D.ex
 exact pe_xmake D.df hi hfn F hb (hr.mono (Nat.succ_le_succ hj)) hg ha hdb he hpl
section
variable {X : Cx}
theorem strsAre_of : ∀ {ys : List Str} {us : List Value},Vals (ys.map V.str) us → StrsAre us ys
 | [],_,.nil => .nil
 | y :: r,_,.cons h t => by
   obtain ⟨k,rfl⟩ := h
   exact .cons y k (strsAre_of t)
theorem mt_join : MtR X "str.join" (fun x xs H Q => ∃ z a ys,x = .str z ∧ xs = [.ref a] ∧ SqL X.K H a (ys.map V.str) ∧ (ys.map (·.length)).sum + ys.length * z.length ≤ 16777216 ∧ Q (.str (Txt.join z ys)) H) := by
 intro pins s σ H x xs v us Q I rx rs h
 obtain ⟨z,a,ys,rfl,rfl,hq,hz,q⟩ := h
 obtain ⟨t,rfl⟩ := rx
 obtain ⟨u,rfl,ru⟩ := vals1 rs
 cases ru
 obtain ⟨its,rv,pl,_⟩ := I.list hq
 exact join_list pl.isList (by simpa using strsAre_of rv) hz fun t' k => ⟨.str _,H,I.tok _,⟨_,rfl⟩,q⟩
end
def Plain : V → Prop
 | .non => True | .bl _ => True | .int _ => True | .str _ => True | .ref _ => True
 | _ => False
theorem eqAt_rel {A : Around} {s : Shared} {x : V} {u v : Value} (hp : Plain x) (r1 : RelV x u) (r2 : RelV x v) : SeqAt.EqAt A s u v true := by
 cases x with
 | non => cases r1; cases r2; exact SeqAt.EqAt.same _
 | bl b => cases r1; cases r2; exact SeqAt.EqAt.same _
 | int i =>
   obtain ⟨t,rfl⟩ := r1
   obtain ⟨t',rfl⟩ := r2
   have := SeqAt.EqAt.int_int (A := A) (s := s) i t i t'
   rwa [beq_self_eq_true] at this
 | str z =>
   obtain ⟨t,rfl⟩ := r1
   obtain ⟨t',rfl⟩ := r2
   have := SeqAt.EqAt.str_str (A := A) (s := s) z t z t'
   rwa [beq_self_eq_true] at this
 | ref a => cases r1; cases r2; exact SeqAt.EqAt.same _
 | _ => exact hp.elim
section
variable {X : Cx}
end
def mroX (K : PySem.W.Frag) (C G : Addr) : Bool := (PySem.W.clsIn K C).any (fun cd => cd.mro == (.ref C :: .ref G :: bmVE)) && PySem.W.typeIn K (.ref C) == some (.type "type")
structure MroX (K : PySem.W.Frag) (C G : Addr) : Prop where
 cd : ∃ cd,PySem.W.clsIn K C = some cd ∧ cd.mro = .ref C :: .ref G :: bmVE
 ty : PySem.W.typeIn K (.ref C) = some (.type "type")
theorem mroX_of {K : PySem.W.Frag} {C G : Addr} (h : mroX K C G = true) : MroX K C G := by
 unfold mroX at h
 rw [Bool.and_eq_true] at h
 obtain ⟨cd,e1,e2⟩ := PySem.W.any_some h.1
 exact ⟨⟨cd,e1,beq_iff_eq.mp e2⟩,beq_iff_eq.mp h.2⟩
structure XTop (K : PySem.W.Frag) (mg : Str → Option Value) (x n : Str) (st : Stmt) (C G : Addr) : Prop where
 df : XDef K mg x n C
 mro : MroX K C G
 ex : ∃ (f : Addr) (fd : FuncData),PySem.W.findIn K (.ref C) "__init__" = some (some (.ref f)) ∧ PySem.W.isFn K (.ref f) = true ∧ Fun K "__init__" (x ++ ".__init__") st f fd ∧ Df K fd ["self",n] []
theorem xtop_of {K : PySem.W.Frag} {mg : Str → Option Value} {h : Heap} {x n : Str} {st : Stmt} {C G f : Addr} {oc : Value} {od an : Option Addr} {osl : Array (Option Value)} {kV doc pm cdv ct : Value} (X : K.In h) (N : h.Ns mainGlobals mg)
 (hb : ∀ (kV doc pm : Value) (an : Option Addr) (cdv ct : Value) (us : List Value),us.length = 2 → bindArgs (PySem.W.fnOf "__init__" (x ++ ".__init__") (Cy st) (Bu st) (Af st) .none kV doc pm an cdv ct) ⟨us,[]⟩ = pure ((["self",n] : List Str).zip us))
 (a : PySem.W.nsIn K mainGlobals x = some (some (.ref C))) (kp : PySem.W.keepIn K (.ref C) = true) (i : PySem.W.findIn K (.ref C) "__init__" = some (some (.ref f)))
 (l : K.lookup f = some ⟨oc,od,.func (PySem.W.fnOf "__init__" (x ++ ".__init__") (Cy st) (Bu st) (Af st) .none kV doc pm an cdv ct),osl⟩) (c : PySem.W.codeIn K cdv (x ++ ".__init__") = true) (k : PySem.W.keepIn K (.ref f) = true)
 (fn : PySem.W.isFn K (.ref f) = true) (o : xOk K C n = true) (m : mroX K C G = true) : XTop (KOf X) mg x n st C G :=
 ⟨⟨PySem.W.mg_of X N a,xOk_of o,kp⟩,mroX_of m,f,_,i,fn,fun_mk l c k,.all fun us hl => hb kV doc pm an cdv ct us hl⟩
theorem gbase_of {K : PySem.W.Frag} {mg : Str → Option Value} {h : Heap} {x : Str} {G : Addr} (X : K.In h) (N : h.Ns mainGlobals mg) (a : PySem.W.nsIn K mainGlobals x = some (some (.ref G))) (b : PySem.W.readsIn K G (.type "type") = true)
 (c : PySem.W.findCls K (.ref G) (.type "type") "__init__" = some (.val (.builtin "ValueError.__init__"))) (d : PySem.W.specialIn K (.ref G) "__getattribute__" = some (some (.builtin "type.__getattribute__"))) : GBase (KOf X) mg x G :=
 ⟨PySem.W.mg_of X N a,b,c,d⟩
structure Gone (l : List Env) (e : Addr) (oe : Obj) (vs : Array Value) (h h' : Heap) : Prop where
 keep : ∀ b o,b ≠ e → b ∉ frs l → h.get? b = some o → h'.get? b = some o
 slot : ∀ b o,b ∈ frs l → h.get? b = some o → ∃ sl,h'.get? b = some { o with slots := sl }
 head : ∃ (T : Addr) (oT : Obj) (ts : Array Value),h'.get? e = some { oe with data := .fields (vs.setIfInBounds 1 (.ref T)) } ∧ h.objs.size ≤ T ∧ T ≠ e ∧ h'.get? T = some oT ∧ oT.data = .fields ts ∧ ts[3]? = some .none
section
variable {M : Model} {A : Around} {E : Value → Shared → Prop} {s : Shared} {base : Heap} {env : Env} {outer : List Env} {L e : Addr} {oe : Obj} {vs : Array Value} {Q : Unit → Shared → Prop}
theorem enter {hd : Value} {b : Bool} (hfr : A.frames = some (env :: outer)) (hl : s.heap.FunFrames base (env :: outer)) (hf : env.frame = some L) (he : s.heap.get? e = some oe) (hdt : oe.data = .fields vs) (h1 : 1 < vs.size)
 (hq : ∀ h',Gone (env :: outer) e oe vs s.heap h' → Q () { s with heap := h' }) :
 wpAny M A (do
  let fr ← frameOf env
  let pl ← entryPlaceOf L b
  let r ← EntryCells.newEntry hd fr .none (rawInt L) .none pl
  setField (.ref e) 1 r) (fun _ s' => wpAny M A (setFlight (.ref e) none) Q E s') E s := by
 have ne : e ∉ frs (env :: outer) := fun z => by
  obtain ⟨_,o,ho,nf⟩ := hl.mem z
  rw [he] at ho
  cases ho
  exact nf vs hdt
 refine wpAny_bind (wpAny_frameOf_fun hfr hl hf fun h1' sl1 => wpAny_bind (wpAny_entryPlaceOf fun pl hpl => ?_))
 have e1 : h1'.get? e = some oe := (sl1.2.1 e ne).trans he
 unfold EntryCells.newEntry newFields
 refine wpAny_bind (wpAny_newObj_type ?_ (hpl.sizeOk5 _ _ _ _ _))
 generalize hob : ({ cls := .type "traceback",dict := none,data := .fields ([hd,.ref L,.none,rawInt L,.none] ++ (if pl.isEmpty then List.replicate 6 Value.none else pl)).toArray } : Obj) = ob
 have hobd : ob.data = .fields ([hd,.ref L,.none,rawInt L,.none] ++ (if pl.isEmpty then List.replicate 6 Value.none else pl)).toArray := by rw [← hob]
 have e2 : (h1'.push ob).get? e = some oe := Heap.get?_push_of_some _ e1
 have eT : h1'.objs.size ≠ e := Nat.ne_of_gt (Heap.lt_size e1)
 have t2 : (h1'.push ob).get? h1'.objs.size = some ob := Heap.get?_push_size h1' (by rw [← hob]; rfl)
 refine wpAny_setField e2 hdt h1 ?_
 dsimp only
 have d3 := Obj.data_mapFields hdt (·.setIfInBounds 1 (Value.ref h1'.objs.size))
 have e3 := Heap.get?_update_self (Obj.mapFields (·.setIfInBounds 1 (Value.ref h1'.objs.size))) e2 (Obj.isFreed_of_fields d3)
 have t3 := (Heap.get?_update_other (h1'.push ob) (Obj.mapFields (·.setIfInBounds 1 (Value.ref h1'.objs.size))) (Ne.symm eT)).trans t2
 have o3 : ∀ c,c ≠ e → c ≠ h1'.objs.size → ∀ o,h1'.get? c = some o → ((h1'.push ob).update e (Obj.mapFields (·.setIfInBounds 1 (Value.ref h1'.objs.size)))).get? c = some o := fun c n1 n2 o q =>
  (Heap.get?_update_other _ _ (Ne.symm n1)).trans (Heap.get?_push_of_some _ q)
 generalize (h1'.push ob).update e (Obj.mapFields (·.setIfInBounds 1 (Value.ref h1'.objs.size))) = h3 at e3 t3 o3
 unfold setFlight
 refine wpAny_bind (wpAny_field e3 d3 (x := .ref h1'.objs.size) (by rw [Array.getElem?_setIfInBounds_self_of_lt h1]) ?_)
 rw [if_pos (by simp)]
 have sz : 3 < ([hd,.ref L,.none,rawInt L,.none] ++ (if pl.isEmpty then List.replicate 6 Value.none else pl)).toArray.size := by
  rw [List.size_toArray,List.length_append]; simp; omega
 refine wpAny_setField t3 hobd sz (hq _ ?_)
 have d4 := Obj.data_mapFields hobd (·.setIfInBounds 3 ((none : Option Addr).elim Value.none fun f => rawInt f))
 have t4 := Heap.get?_update_self (Obj.mapFields (·.setIfInBounds 3 ((none : Option Addr).elim Value.none fun f => rawInt f))) t3 (Obj.isFreed_of_fields d4)
 have o4 : ∀ c,c ≠ h1'.objs.size → (h3.update h1'.objs.size (Obj.mapFields (·.setIfInBounds 3 ((none : Option Addr).elim Value.none fun f => rawInt f)))).get? c = h3.get? c := fun c n => Heap.get?_update_other _ _ (Ne.symm n)
 have lt1 : ∀ c o,s.heap.get? c = some o → c ≠ h1'.objs.size := fun c o q => by
  rw [sl1.1]; exact Nat.ne_of_lt (Heap.lt_size q)
 refine ⟨fun c o n1 n2 q => ?_,fun c o n1 q => ?_,h1'.objs.size,_,_,?_,?_,eT,t4,d4,?_⟩
 ·rw [o4 c (lt1 c o q)]
  exact o3 c n1 (lt1 c o q) o ((sl1.2.1 c n2).trans q)
 ·obtain ⟨sl,z⟩ := sl1.2.2 c o q
  refine ⟨sl,?_⟩
  rw [o4 c (lt1 c o q)]
  exact o3 c (fun z2 => ne (z2 ▸ n1)) (lt1 c o q) _ z
 ·rw [o4 e (Ne.symm eT),e3]
  obtain ⟨a1,a2,a3,a4⟩ := oe
  dsimp only at hdt
  subst hdt
  rfl
 ·rw [sl1.1]
  exact Nat.le_refl _
 ·rw [Array.getElem?_setIfInBounds_self_of_lt sz]
  rfl
theorem leave_new (hfr : A.frames = some (env :: outer)) (hl : s.heap.FunFrames base (env :: outer)) (hf : env.frame = some L) (he : s.heap.get? e = some oe) (hdt : oe.data = .fields vs) (h1 : vs[1]? = some .none)
 (hq : ∀ h',Gone (env :: outer) e oe vs s.heap h' → Q () { s with heap := h' }) : wpAny M A (leaving env (.ref e)) Q E s := by
 unfold leaving noteFrame
 rw [hf]
 refine wpAny_bind (wpAny_bind (wpAny_field he hdt h1 ?_))
 rw [if_neg (by decide)]
 exact enter hfr hl hf he hdt (Array.getElem?_eq_some_iff.mp h1).1 hq
theorem note_on {T : Addr} {oT : Obj} {ts : Array Value} (hfr : A.frames = some (env :: outer)) (hl : s.heap.FunFrames base (env :: outer)) (hf : env.frame = some L) (he : s.heap.get? e = some oe) (hdt : oe.data = .fields vs) (h1 : vs[1]? = some (.ref T))
 (hT : s.heap.get? T = some oT) (hTe : T ≠ e) (hdT : oT.data = .fields ts) (h3 : ts[3]? = some .none)
 (hq : ∀ h1 h',(∀ b o,b ≠ T → s.heap.get? b = some o → h1.get? b = some o) → h1.objs.size = s.heap.objs.size → (∃ o,h1.get? T = some o) → Gone (env :: outer) e oe vs h1 h' → Q () { s with heap := h' }) : wpAny M A (noteFrame (.ref e) env) (fun _ s' => wpAny M A (setFlight (.ref e) none) Q E s') E s := by
 unfold noteFrame
 rw [hf]
 refine wpAny_bind (wpAny_field he hdt h1 ?_)
 rw [if_pos (by simp)]
 refine wpAny_bind (wpAny_field hT hdT h3 ?_)
 rw [if_neg (by simp [rawInt])]
 refine wpAny_bind (wpAny_setField hT hdT (Array.getElem?_eq_some_iff.mp h3).1 ?_)
 have ot : ∀ c,c ≠ T → (s.heap.update T (Obj.mapFields (·.setIfInBounds 3 Value.none))).get? c = s.heap.get? c := fun c n => Heap.get?_update_other _ _ (Ne.symm n)
 have nf : ∀ c o,s.heap.get? c = some o → (∀ xs,o.data ≠ .fields xs) → c ≠ T := fun c o q z n => by
  rw [n,hT] at q; cases q; exact z ts hdT
 have tT := Heap.get?_update_self (Obj.mapFields (·.setIfInBounds 3 Value.none)) hT (Obj.isFreed_of_fields (Obj.data_mapFields hdT _))
 exact enter (s := { s with heap := s.heap.update T (Obj.mapFields (·.setIfInBounds 3 Value.none)) }) hfr (hl.of_keeps fun c o q z => ⟨o,(ot c (nf c o q z)).trans q,rfl⟩) hf ((ot e (Ne.symm hTe)).trans he) hdt (Array.getElem?_eq_some_iff.mp h1).1
  fun h' g => hq _ h' (fun c o n q => (ot c n).trans q) (Heap.size_after_update ..) ⟨_,tT⟩ g
theorem leave_on {T : Addr} {oT : Obj} {ts : Array Value} (hfr : A.frames = some (env :: outer)) (hl : s.heap.FunFrames base (env :: outer)) (hf : env.frame = some L) (he : s.heap.get? e = some oe) (hdt : oe.data = .fields vs) (h1 : vs[1]? = some (.ref T))
 (hT : s.heap.get? T = some oT) (hTe : T ≠ e) (hdT : oT.data = .fields ts) (h3 : ts[3]? = some .none)
 (hq : ∀ h1 h',(∀ b o,b ≠ T → s.heap.get? b = some o → h1.get? b = some o) → h1.objs.size = s.heap.objs.size → (∃ o,h1.get? T = some o) → Gone (env :: outer) e oe vs h1 h' → Q () { s with heap := h' }) : wpAny M A (leaving env (.ref e)) Q E s := by
 unfold leaving
 exact wpAny_bind (note_on hfr hl hf he hdt h1 hT hTe hdT h3 hq)
end
def Head (g : Heap) (H : Hp) (h : Heap) (a : Addr) : Prop := ∃ (C : Addr) (d : Option Addr) (t T : Addr) (rest : List Value) (sl : Array (Option Value)) (oT : Obj) (ts : Array Value),
 H a = some (excR a C d) ∧ h.get? a = some { cls := .ref C,dict := d,data := .fields (.ref t :: .ref T :: rest).toArray,slots := sl } ∧ T ≠ a ∧ h.get? T = some oT ∧ oT.data = .fields ts ∧ ts[3]? = some .none ∧ H T = none ∧ g.objs.size ≤ T
def CXR (P : Program) (w : World) : CXT := fun outer H s E e s' => ∃ (a : Addr) (H' : Hp),e = .ref a ∧ s'.os = s.os ∧ AllBare s'.gens ∧ Un (frs outer) [] H H' s.heap s'.heap ∧ HOk P w H' s'.heap ∧ Head s.heap H' s'.heap a ∧ E (.ref a) none H'
section
variable {X : Cx} {pins : List (Addr × Obj)} {σ : St} {H : Hp} {s : Shared}
theorem gone_un {H₀ H' H'' : Hp} {g h1 h' : Heap} {a : Addr} {oe : Obj} {vs : Array Value} {env : Env} {outer : List Env} (u : Un (frs outer) [] H₀ H' g h1) (gn : Gone (env :: outer) a oe vs h1 h')
 (ha : ∀ b o,g.get? b = some o → H₀ b = none → b ≠ a) (hL : ∀ b o,g.get? b = some o → b ∈ frs (env :: outer) → b ∈ frs outer)
 (hs : ∀ b o,H' b = some o → b ≠ a → H'' b = some o) (hn : ∀ b,H' b = none → H'' b = none) (hx : H' a = H'' a ∨ (∃ φ,H' a = some (.ext φ))) : Un (frs outer) [] H₀ H'' g h' := by
 have nx : ∀ b o,H' b = some o → (∀ φ,o ≠ .ext φ) → H'' b = some o := fun b o q z => by
  by_cases hb : b = a
  ·subst hb
   rcases hx with e | ⟨φ,e⟩
   ·rw [← e]; exact q
   ·rw [e] at q; cases q; exact absurd rfl (z φ)
  ·exact hs b o q hb
 have thr : ∀ b o,h1.get? b = some o → ∃ o',h'.get? b = some o' := fun b o q => by
  by_cases hb : b = a
  ·subst hb
   obtain ⟨T,oT,ts,e1,_⟩ := gn.head
   exact ⟨_,e1⟩
  ·by_cases hf : b ∈ frs (env :: outer)
   ·obtain ⟨sl,z⟩ := gn.slot b o hf q
    exact ⟨_,z⟩
   ·exact ⟨o,gn.keep b o hb hf q⟩
 refine ⟨fun b o q n hf he => ?_,fun b o q n hf he => ?_,fun b o q n he => hn b (u.free b o q n he),fun b o q he => ?_,fun b xs q => nx b _ (u.tups b xs q) (fun φ z => by cases z),fun b o x q => nx b _ (u.frzs b o x q) (fun φ z => by cases z),fun b ps q => ?_⟩
 ·exact gn.keep b o (ha b o q n) (fun z => hf (hL b o q z)) (u.keep b o q n hf he)
 ·obtain ⟨sl,z⟩ := u.slot b o q n hf he
  have hf' : b ∈ frs (env :: outer) := by
   unfold frs at hf ⊢
   rw [List.filterMap_cons]
   split
   ·exact hf
   ·exact List.mem_cons_of_mem _ hf
  obtain ⟨sl',z'⟩ := gn.slot b _ hf' z
  exact ⟨sl',z'⟩
 ·obtain ⟨o',z⟩ := u.there b o q he
  exact thr b o' z
 ·obtain ⟨m,z⟩ := u.tbls b ps q
  exact ⟨m,nx b _ z (fun φ z => by cases z)⟩
end
section
variable {P : Program} {w : World} {K : PySem.W.Frag} {mg : Str → Option Value} {base : Heap} {N : List Str} {qual : Str} {scope : Scope} {f : Addr} {cdv : Value} {A : Around} {outer : List Env} {s₀ : Shared} {H₀ : Hp} {E : XK} {pins : List (Addr × Obj)} {σ : St} {H : Hp} {s : Shared}
theorem raise_xe {a C : Addr} {d : Option Addr} (I : Inv (cxOf (CXR P w) P w K mg base N qual scope f cdv A outer s₀ H₀ E) pins σ H s) (ea : H a = some (excO a C d)) (hE : E (.ref a) none (upd H a (excR a C d))) :
 (cxOf (CXR P w) P w K mg base N qual scope f cdv A outer s₀ H₀ E).xe (.ref a) s := by
 obtain ⟨t0,rest,sl,q⟩ := excO_is (I.hok a _ ea)
 have hst : s.heap.FunFrames base (envOfC qual scope s₀.heap.objs.size f cdv :: outer) := I.stack
 have hfr : (A.deeper (envOfC qual scope s₀.heap.objs.size f cdv)).frames = some (envOfC qual scope s₀.heap.objs.size f cdv :: outer) := I.ok.frames
 have sf : ∀ b ∈ frs (envOfC qual scope s₀.heap.objs.size f cdv :: outer),H b = none := I.stkFree
 have hu : Un (frs outer) [] H₀ H s₀.heap s.heap := I.base
 refine leave_new (s := s) (L := s₀.heap.objs.size) hfr hst rfl q rfl rfl fun h' gn => ?_
 obtain ⟨T,oT,ts,g1,g2,g3,g4,g5,g6⟩ := id gn.head
 have hT : H T = none := I.hok.fresh g2
 refine ⟨a,upd H a (excR a C d),rfl,I.os,I.bare,gone_un hu gn (fun b o z n => ?_) (fun b o z m => ?_) (fun b o z n => by rw [Ak n]; exact z) (fun b z => by rw [Ak (fun n => by rw [n,ea] at z; cases z)]; exact z) (.inr ⟨_,ea⟩),fun b o z => ?_,?_,hE⟩
 ·intro n
  have := hu.free b o z ‹_› (by simp)
  rw [n,ea] at this; cases this
 ·rcases List.mem_cons.mp (show b ∈ s₀.heap.objs.size :: frs outer from m) with n | n
  ·rw [n] at z; exact absurd (Heap.lt_size z) (Nat.lt_irrefl _)
  ·exact n
 ·by_cases hb : b = a
  ·subst hb
   rw [Ac] at z
   cases z
   exact excR_ok ⟨t0,_,sl,g1⟩
  ·rw [Ak hb] at z
   refine (I.hok b o z).stay (fun c v hc r => gn.keep c v (fun n => ?_) (fun n => ?_) r) (fun c r => by rw [Ak (fun n => by rw [n,ea] at r; cases r)]; exact r) fun c xs r => by rw [Ak (fun n => by rw [n,ea] at r; cases r)]; exact r
   ·rcases hc with m | m
    ·exact hb (m ▸ n)
    ·rw [n,ea] at m; cases m
   ·have := sf c n
    rcases hc with m | m
    ·rw [m,z] at this; cases this
    ·rw [m] at this; cases this
 ·refine ⟨C,d,t0,T,rest,sl,oT,ts,Ac,g1,g3,g4,g5,g6,by rw [Ak g3]; exact hT,Nat.le_trans I.sz g2⟩
theorem pass_xe {e : Value} {s' : Shared} {E1 : XK} (I : Inv (cxOf (CXR P w) P w K mg base N qual scope f cdv A outer s₀ H₀ E) pins σ H s)
 (hc : CXR P w (envOfC qual scope s₀.heap.objs.size f cdv :: outer) H s E1 e s') (hE : ∀ a H',E1 (.ref a) none H' → E (.ref a) none H') :
 (cxOf (CXR P w) P w K mg base N qual scope f cdv A outer s₀ H₀ E).xe e s' := by
 obtain ⟨a,H',rfl,ho,hg,u,hok,⟨C,d,t,T,rest,sl,oT,ts,ha,q,hTa,hT,hdT,h3,hnT,hgT⟩,e1⟩ := hc
 have I' : Inv (cxOf (CXR P w) P w K mg base N qual scope f cdv A outer s₀ H₀ E) pins σ H' s' := I.call' (ch := []) ho u hok hg (fun _ z => nomatch z)
 have hst : s'.heap.FunFrames base (envOfC qual scope s₀.heap.objs.size f cdv :: outer) := I'.stack
 have hfr : (A.deeper (envOfC qual scope s₀.heap.objs.size f cdv)).frames = some (envOfC qual scope s₀.heap.objs.size f cdv :: outer) := I'.ok.frames
 have sf : ∀ b ∈ frs (envOfC qual scope s₀.heap.objs.size f cdv :: outer),H' b = none := I'.stkFree
 have hu : Un (frs outer) [] H₀ H' s₀.heap s'.heap := I'.base
 have hu0 : Un (frs outer) [] H₀ H s₀.heap s.heap := I.base
 have s0T : s₀.heap.get? T = none := Heap.get?_none_of_le (Nat.le_trans I.sz hgT)
 refine leave_on (s := s') (L := s₀.heap.objs.size) hfr hst rfl q rfl rfl hT hTa hdT h3 fun h1 h' k1 sz1 hT1 gn => ?_
 obtain ⟨T2,oT2,ts2,g1,g2,g3,g4,g5,g6⟩ := id gn.head
 have k1' : ∀ b o,s₀.heap.get? b = some o → b ≠ T := fun b o z n => by rw [n,s0T] at z; cases z
 have u1 : Un (frs outer) [] H₀ H' s₀.heap h1 := by
  refine ⟨fun b o z n m1 m2 => k1 b o (k1' b o z) (hu.keep b o z n m1 m2),fun b o z n m1 m2 => ?_,fun b o z n m => hu.free b o z n m,fun b o z m => ?_,hu.tups,hu.frzs,hu.tbls⟩
  ·obtain ⟨sl,y⟩ := hu.slot b o z n m1 m2
   exact ⟨sl,k1 b _ (k1' b o z) y⟩
  ·obtain ⟨o',y⟩ := hu.there b o z m
   exact ⟨o',k1 b _ (k1' b o z) y⟩
 have hok1 : HOk P w H' h1 := fun b o z => (hok b o z).stay (fun c v hc r => k1 c v (fun n => by
  rcases hc with m | m
  ·rw [← m,n,hnT] at z; cases z
  ·rw [n,hnT] at m; cases m) r) (fun _ z => z) fun _ _ z => z
 refine ⟨a,H',rfl,I'.os,I'.bare,gone_un u1 gn (fun b o z n m => ?_) (fun b o z m => ?_) (fun b o z _ => z) (fun b z => z) (.inl rfl),fun b o z => ?_,?_,hE a H' e1⟩
 ·have := hu.free b o z n (by simp)
  rw [m,ha] at this; cases this
 ·rcases List.mem_cons.mp (show b ∈ s₀.heap.objs.size :: frs outer from m) with n | n
  ·rw [n] at z; exact absurd (Heap.lt_size z) (Nat.lt_irrefl _)
  ·exact n
 ·by_cases hb : b = a
  ·subst hb
   rw [ha] at z
   cases z
   exact excR_ok ⟨t,_,sl,g1⟩
  ·refine (hok1 b o z).stay (fun c v hc r => gn.keep c v (fun n => ?_) (fun n => ?_) r) (fun _ r => r) fun _ _ r => r
   ·rcases hc with m | m
    ·exact hb (m ▸ n)
    ·rw [n,ha] at m; cases m
   ·have := sf c n
    rcases hc with m | m
    ·rw [m,z] at this; cases this
    ·rw [m] at this; cases this
 ·refine ⟨C,d,t,T2,rest,sl,oT2,ts2,ha,g1,g3,g4,g5,g6,hok1.fresh g2,Nat.le_trans (by rw [sz1]; exact I'.sz) g2⟩
end
section
variable {M : Model} {A : Around} {E : Value → Shared → Prop} {s : Shared} {env : Env}
theorem raise_made {x : Sem Value} {Q : Flow → Shared → Prop} (hh : A.handled = none)
 (h : wpAny M A x (fun v s₁ => ∃ (e C : Addr) (bm : List Value) (d : Option Addr) (t : Addr) (rest : List Value) (sl : Array (Option Value)),v = .ref e ∧ ExcCls s₁.heap C bm ∧ s₁.heap.get? e = some { cls := .ref C,dict := d,data := .fields (.ref t :: .none :: rest).toArray,slots := sl } ∧ E (.ref e) s₁) E s) :
 wpAny M A (raiseStmt env (some x) none) Q E s := by
 unfold raiseStmt
 refine wpAny_bind (wpAny_mono h (fun v s₁ h₁ => ?_) fun _ _ x => x)
 obtain ⟨e,C,bm,d,t,rest,sl,rfl,⟨⟨N,nm,qn,bs,sn,sub,ab,col,dd,k0,k1,k2,k3,k5,hC⟩,T⟩,he,hE⟩ := h₁
 have hcB : (Value.ref C :: bm).contains (.type "BaseException") = true := by rw [List.contains_cons,T.hasType PySem.F.excBase_ValueError.hasBase,Bool.or_true]
 obtain ⟨hp,g,dr,tk,os⟩ := s₁
 repeat (first | with_reducible refine wpAny_loadPart_at he ?_ | with_reducible refine wpAny_loadPart_at hC ?_ | (with_reducible refine wpAny_isSubtype_exc hC ?_; rw [hcB]) | wp_step)
 exact wpAny_raiseNew_none hh hE
end
def Raises (X : Cx) (E : XK) : Prop := ∀ (pins : List (Addr × Obj)) (σ : St) (H : Hp) (s : Shared) (a C : Addr) (d : Option Addr),Inv X pins σ H s → H a = some (excO a C d) → E (.ref a) none (upd H a (excR a C d)) → X.xe (.ref a) s
def tRaise (K : PySem.W.Frag) (E : XK) (te : TE) : TS := fun _ σ H => te σ H fun x H1 => ∃ a C d,x = .ref a ∧ H1 a = some (excO a C d) ∧ excMk K C = true ∧ E (.ref a) none (upd H1 a (excR a C d))
section
variable {X : Cx} {E : XK} {e : Expr} {te : TE} {pos : Pos}
theorem Da (hr : Raises X E) (hh : X.A.handled = none) (he : PE X e te) : PS X (.Raise (some e) none pos) (tRaise X.K E te) := by
 intro pins s σ H D I h
 rw [arm_exec_Raise]
 refine wpAny_bind (wpAny_standAt (raise_made hh (wpAny_bind (wpAny_mono (he pins s σ H _ I h) (fun v s1 ⟨x,H1,I1,rx,a,C,d,ex,ea,hm,q⟩ => wpAny_bind (wpAny_standAt (wpAny_pure ?_))) fun _ _ z => z))))
 subst ex
 obtain rfl : v = Value.ref a := rx
 obtain ⟨t0,rest,sl,q1⟩ := excO_is (I1.hok a _ ea)
 obtain ⟨bm,c,_,_⟩ := excMk_of I1.kIn hm
 exact ⟨a,C,bm,d,t0,rest,sl,rfl,c,q1,hr pins σ H1 s1 a C d I1 ea q⟩
end
structure FnAtX (P : Program) (w : World) (K : PySem.W.Frag) (mg : Str → Option Value) (base : Heap) (x : Str) (k : Nat) (ps : List Str) (sp : Sp) : Prop where
 ex : ∃ (f : Addr) (fd : FuncData),FnOk P w K mg base (CXR P w) k f fd ps sp ∧ mg x = some (.ref f) ∧ PySem.W.keepIn K (.ref f) = true ∧ Df K fd ps []
theorem pe_fnX {X : Cx} {E : XK} {x : Str} {ps : List Str} {sp : Sp} {k j : Nat} {p pos : Pos} {e : Expr} {es : List Expr} {t : TA} (F : FnAtX X.prog X.w X.K X.mg X.base x k ps sp) (hx : Dx (CXR X.prog X.w) X E) (hr : Room j X.A) (hj : k ≤ j) (hg : Gl X x) (ha : PA X (e :: es) t)
 (hdb : (x == ("__debug__" : Str)) = false := by decide) (he : starEach (e :: es) X.env = (false,eval e X.env) :: starEach es X.env := by rfl) (hpl : (backTo pos (starEach es X.env)).any (·.1) = false := by rfl) :
 PE X (.Call (.Name x p) (e :: es) [] pos) (tCall sp [] E t) := by
 obtain ⟨f,fd,G,hm,hk,hb⟩ := F.ex
 exact pe_call G (hr.mono hj) hg hm hk hb .nil hx ha hdb he hpl
section
variable {P : Program} {w : World} {K : PySem.W.Frag} {mg : Str → Option Value} {base : Heap}
theorem Fun.okX {x qual : Str} {st : Stmt} {f : Addr} {fd : FuncData} {N ps : List Str} {k : Nat} {sp : Sp} (F : Fun K x qual st f fd) (S : Ar N ps (Af st)) (len : ∀ vs H Q E,sp vs H Q E → vs.length = ps.length)
 (hbody : ∀ (cdv : Value) (A : Around) (outer : List Env) (s : Shared) (H : Hp) (vs : List V) (Q : VK) (E : XK),Room k (A.deeper (envOfC qual (Af st) s.heap.objs.size f cdv)) → sp vs H Q E →
   ∃ t,PSs (cxOf (CXR P w) P w K mg base N qual (Af st) f cdv A outer s H E) (Bu st) t ∧ t { nx := fun _ H' => Q .non H',rt := Q } (start N vs) H) : FnOk P w K mg base (CXR P w) (k + 1) f fd ps sp := by
 obtain ⟨oc,od,kV,doc,pm,an,cdv,ct,osl,rfl,lk,hcd⟩ := F.ex
 exact fn_of lk hcd S len fun A outer s H vs Q E hr hsp => hbody cdv A outer s H vs Q E hr hsp
theorem Aq.atX {x : Str} {st : Stmt} {N ps : List Str} {k : Nat} {sp : Sp} (T : Aq K mg x st ps) (S : Ar N ps (Af st)) (len : ∀ vs H Q E,sp vs H Q E → vs.length = ps.length)
 (hbody : ∀ (f : Addr) (cdv : Value) (A : Around) (outer : List Env) (s : Shared) (H : Hp) (vs : List V) (Q : VK) (E : XK),Room k (A.deeper (envOfC x (Af st) s.heap.objs.size f cdv)) → sp vs H Q E →
   ∃ t,PSs (cxOf (CXR P w) P w K mg base N x (Af st) f cdv A outer s H E) (Bu st) t ∧ t { nx := fun _ H' => Q .non H',rt := Q } (start N vs) H) : FnAtX P w K mg base x (k + 1) ps sp := by
 obtain ⟨f,fd,F,hm,hb⟩ := T.ex
 exact ⟨f,fd,F.okX S len fun cdv A outer s H vs Q E hr h => hbody f cdv A outer s H vs Q E hr h,hm,F.kp,.all hb⟩
variable {N : List Str} {qual : Str} {scope : Scope} {f : Addr} {cdv : Value} {A : Around} {outer : List Env} {s₀ : Shared} {H₀ : Hp} {E E1 : XK}
theorem B8 : Raises (cxOf (CXR P w) P w K mg base N qual scope f cdv A outer s₀ H₀ E) E := fun pins σ H s a C d I ea q => raise_xe I ea q
theorem passes_def (h : ∀ a H',E1 (.ref a) none H' → E (.ref a) none H') : Dx (CXR P w) (cxOf (CXR P w) P w K mg base N qual scope f cdv A outer s₀ H₀ E) E1 := fun pins σ H s e s' I hc => pass_xe I hc h
end
def Raw (X : Cx) (pins : List (Addr × Obj)) (H : Hp) (h : Heap) (a C : Addr) (d : Option Addr) : Prop := ∃ (t T : Addr) (rest : List Value) (sl : Array (Option Value)) (oT : Obj) (ts : Array Value),
 H a = some (excR a C d) ∧ h.get? a = some { cls := .ref C,dict := d,data := .fields (.ref t :: .ref T :: rest).toArray,slots := sl } ∧ T ≠ a ∧ h.get? T = some oT ∧ oT.data = .fields ts ∧ 3 < ts.size ∧ H T = none ∧
 X.s₀.heap.objs.size ≤ T ∧ T ≠ X.env.locals ∧ (∀ x c,X.env.cells.lookup x = some c → c ≠ T) ∧ ∀ p ∈ X.pn ++ pins,p.1 ≠ T
section
variable {X : Cx} {pins : List (Addr × Obj)} {σ : St} {H : Hp} {s s' : Shared} {M : Model} {A : Around} {E : Value → Shared → Prop}
theorem caught {a : Addr} {E1 : XK} {R : Unit → Shared → Prop} (I : Inv X pins σ H s) (hsk : X.stack = X.env :: X.outer) (hfe : X.env.frame = some X.env.locals) (hA : X.A.frames = some X.stack) (hc : CXR X.prog X.w X.stack H s E1 (.ref a) s')
 (hR : ∀ (s3 : Shared) (H' : Hp) (C : Addr) (d : Option Addr),Inv X pins σ H' s3 → Raw X pins H' s3.heap a C d → E1 (.ref a) none H' → R () s3) :
 wpAny M X.A (noteFrame (.ref a) X.env) (fun _ s2 => wpAny M X.A (setFlight (.ref a) none) R E s2) E s' := by
 obtain ⟨a',H',ea',ho,hg,u,hok,⟨C,d,t,T,rest,sl,oT,ts,ha,q,hTa,hT,hdT,h3,hnT,hgT⟩,e1⟩ := hc
 cases ea'
 have I' : Inv X pins σ H' s' := I.call' (ch := []) ho u hok hg (fun _ z => nomatch z)
 have hst : s'.heap.FunFrames X.base (X.env :: X.outer) := by rw [← hsk]; exact I'.stack
 have sf : ∀ b ∈ frs (X.env :: X.outer),H' b = none := by rw [← hsk]; exact I'.stkFree
 have hfr : ∀ b,b ∈ frs (X.env :: X.outer) ↔ b = X.env.locals ∨ b ∈ X.fs := fun b => by
  show b ∈ List.filterMap (·.frame) (X.env :: X.outer) ↔ _
  rw [List.filterMap_cons,hfe]
  exact List.mem_cons
 have ltT : ∀ b o,s.heap.get? b = some o → b ≠ T := fun b o z n => by
  rw [n] at z; exact absurd (Nat.lt_of_lt_of_le (Heap.lt_size z) hgT) (Nat.lt_irrefl _)
 refine note_on (s := s') (L := X.env.locals) (hA.trans (by rw [hsk])) hst hfe q rfl rfl hT hTa hdT h3 fun h1 h' k1 sz1 hT1 gn => ?_
 obtain ⟨T2,oT2,ts2,g1,g2,g3,g4,g5,g6⟩ := id gn.head
 rw [sz1] at g2
 have hok1 : HOk X.prog X.w H' h1 := fun b o z => (hok b o z).stay (fun c v hc r => k1 c v (fun n => by
  rcases hc with m | m
  ·rw [← m,n,hnT] at z; cases z
  ·rw [n,hnT] at m; cases m) r) (fun _ z => z) fun _ _ z => z
 have na : ∀ b,H' b = none → b ≠ a := fun b z n => by rw [n,ha] at z; cases z
 have inv2 : Inv X pins σ H' { s' with heap := h',gens := s'.gens,drawn := s'.drawn,toks := s'.toks } := by
  refine I'.step (h' := h') (t' := s'.toks) (g' := s'.gens) (d' := s'.drawn) (ch := [T]) (fun b hb => ?_) (fun b o n1 n2 n3 z n => ?_) (fun b o n1 n2 n3 z n => ?_) (fun b o _ _ n => n) (fun b o n3 z => ?_) (fun _ _ z => z) (fun _ _ _ z => z) (fun b ps z => ⟨#[],by rw [z]; simp⟩) (fun m hm => ?_) (fun b o z => ?_) I'.bare
  ·have e : b = T := by simpa using hb
   subst e
   refine ⟨.inr (Nat.le_trans I.sz hgT),fun n => ?_,fun x c z n => ?_,fun p hp n => ?_⟩
   ·have := I.lt
    rw [← n] at this
    exact absurd (Nat.lt_of_lt_of_le this hgT) (Nat.lt_irrefl _)
   ·obtain ⟨v,o,z2,_⟩ := I.cell x c z
    exact ltT c o z2 n
   ·exact ltT p.1 p.2 (I.pin p hp).1 n
  ·exact gn.keep b o (na b n) (fun m => ((hfr b).mp m).elim n1 n2) (k1 b o (fun e => n3 (by simp [e])) z)
  ·obtain ⟨sl,y⟩ := gn.slot b o ((hfr b).mpr (.inr n2)) (k1 b o (fun e => n3 (by simp [e])) z)
   exact ⟨sl,y⟩
  ·have z1 := k1 b o (fun e => n3 (by simp [e])) z
   by_cases hb : b = a
   ·subst hb; exact ⟨_,g1⟩
   ·by_cases hf : b ∈ frs (X.env :: X.outer)
    ·obtain ⟨sl,y⟩ := gn.slot b o hf z1
     exact ⟨_,y⟩
    ·exact ⟨o,gn.keep b o hb hf z1⟩
  ·obtain ⟨o,es,ep,z,r⟩ := hm
   have nT : X.env.locals ≠ T := by
    intro n
    have := I.lt
    rw [n] at this
    exact absurd (Nat.lt_of_lt_of_le this hgT) (Nat.lt_irrefl _)
   obtain ⟨sl,y⟩ := gn.slot _ o ((hfr _).mpr (.inl rfl)) (k1 _ o nT z)
   exact ⟨_,es,ep,y,r⟩
  ·by_cases hb : b = a
   ·subst hb
    rw [ha] at z
    cases z
    exact excR_ok ⟨t,_,sl,g1⟩
   ·refine (hok1 b o z).stay (fun c v hc r => gn.keep c v (fun n => ?_) (fun n => ?_) r) (fun _ r => r) fun _ _ r => r
    ·rcases hc with m | m
     ·exact hb (m ▸ n)
     ·rw [n,ha] at m; cases m
    ·have := sf c n
     rcases hc with m | m
     ·rw [m,z] at this; cases this
     ·rw [m] at this; cases this
 refine hR _ H' C d inv2 ⟨t,T2,rest,sl,oT2,ts2,ha,g1,g3,g4,g5,(Array.getElem?_eq_some_iff.mp g6).1,hok.fresh g2,Nat.le_trans I'.sz g2,fun n => ?_,fun x c z n => ?_,fun p hp n => ?_⟩ e1
 ·have := I'.lt
  rw [← n] at this
  exact absurd (Nat.lt_of_lt_of_le this g2) (Nat.lt_irrefl _)
 ·obtain ⟨v,o,z2,_⟩ := I'.cell x c z
  rw [n] at z2
  exact absurd (Nat.lt_of_lt_of_le (Heap.lt_size z2) g2) (Nat.lt_irrefl _)
 ·have z2 := (I'.pin p hp).1
  rw [n] at z2
  exact absurd (Nat.lt_of_lt_of_le (Heap.lt_size z2) g2) (Nat.lt_irrefl _)
theorem flight_ends {a C : Addr} {d : Option Addr} {R : Unit → Shared → Prop} (I : Inv X pins σ H s) (r : Raw X pins H s.heap a C d) (hR : ∀ s3,Inv X pins σ H s3 → R () s3) : wpAny M A (setFlight (.ref a) none) R E s := by
 obtain ⟨t,T,rest,sl,oT,ts,ha,q,hTa,hT,hdT,h3,hnT,f1,f2,f3,f4⟩ := r
 unfold setFlight
 refine wpAny_bind (wpAny_field q rfl (x := .ref T) rfl ?_)
 rw [if_pos (by simp)]
 refine wpAny_setField hT hdT h3 (hR _ ?_)
 exact I.turned (t' := s.toks) (fun b o hb e => (Heap.get?_update_other _ _ (Ne.symm hb)).trans e) hnT f2 (.inr f1) f3 f4
end
abbrev Cx.hdl (X : Cx) (a : Addr) : Cx := { X with A := X.A.mark (some (.ref a)),calm := false,xe := fun _ _ => False }
abbrev Cx.tr (X : Cx) (pn : List (Addr × Obj)) (E' : Value → Shared → Prop) : Cx := { X with pn := pn,xe := E' }
section
variable {X : Cx} {pins : List (Addr × Obj)} {σ : St} {H : Hp} {s : Shared} {a : Addr} {E' : Value → Shared → Prop}
theorem Inv.hdl (I : Inv X pins σ H s) : Inv (X.hdl a) pins σ H s :=
 ⟨⟨I.ok.mod,I.ok.kind,I.ok.glob,I.ok.blt,I.ok.above,I.ok.inj,I.ok.has,I.ok.cab,(fun z => nomatch z),I.ok.frames,I.ok.stk,I.ok.exf,I.ok.bs,I.ok.bsz,I.ok.noex,I.ok.exfs,I.ok.funs,I.ok.frf⟩,I.os,I.bare,I.base,I.loc,I.cell,I.free,I.freeC,I.pin,I.hok,I.len⟩
theorem Inv.back (ok : X.Ok) (I : Inv (X.hdl a) pins σ H s) : Inv X pins σ H s := ⟨ok,I.os,I.bare,I.base,I.loc,I.cell,I.free,I.freeC,I.pin,I.hok,I.len⟩
theorem Inv.tr (I : Inv X pins σ H s) : Inv (X.tr (X.pn ++ pins) E') [] σ H s :=
 ⟨⟨I.ok.mod,I.ok.kind,I.ok.glob,I.ok.blt,I.ok.above,I.ok.inj,I.ok.has,I.ok.cab,I.ok.hd,I.ok.frames,I.ok.stk,I.ok.exf,I.ok.bs,I.ok.bsz,I.ok.noex,I.ok.exfs,I.ok.funs,I.ok.frf⟩,I.os,I.bare,I.base,I.loc,I.cell,I.free,I.freeC,(fun p hp => I.pin p (by simpa using hp)),I.hok,I.len⟩
theorem Inv.untr {pins' : List (Addr × Obj)} (ok : X.Ok) (I : Inv (X.tr (X.pn ++ pins) E') pins' σ H s) : Inv X pins σ H s :=
 ⟨ok,I.os,I.bare,I.base,I.loc,I.cell,I.free,I.freeC,(fun p hp => I.pin p (List.mem_append_left _ hp)),I.hok,I.len⟩
theorem x_match {M : Model} {A : Around} {E : Value → Shared → Prop} {Q : Bool → Shared → Prop} {K : PySem.W.Frag} {C D : Addr} {oe : Obj} {b : Bool} (KX : K.In s.heap) (he : s.heap.get? a = some oe) (hcl : oe.cls = .ref C) (hD : PySem.W.typeIn K (.ref D) = some (.type "type")) (hc : (PySem.W.clsIn K D).isSome = true)
 (hB : PySem.W.mroIn K D (.type "BaseException") = some true) (hm : PySem.W.mroIn K C (.ref D) = some b) (hq : Q b s) : wpAny M A (excMatches (.ref a) (.ref D)) Q E s := by
 obtain ⟨hp,g,d,t,os⟩ := s
 have l1 : PySem.W.Looks M hp (typeOf (.ref D)) (.type "type") := PySem.W.looks_typeIn KX hD
 have l2 : PySem.W.Looks M hp (isSubtype (.type "type") (.type "tuple")) false := PySem.W.Looks.of_pure tc_notTuple
 have l3 : PySem.W.Looks M hp (isSubtype (.ref D) (.type "BaseException")) true := PySem.W.looks_mroIn KX hB
 have l4 : PySem.W.Looks M hp (typeOf (.ref a)) (.ref C) := by rw [← hcl]; exact (PySem.W.Looks.ld he).andThen .now
 have l5 : PySem.W.Looks M hp (isSubtype (.ref C) (.ref D)) b := PySem.W.looks_mroIn KX hm
 have l6 : PySem.W.Looks M hp (isType (.ref D)) true := by
  obtain ⟨cd,z⟩ := Option.isSome_iff_exists.mp hc
  unfold PySem.W.clsIn at z
  split at z
  ·rename_i c' d' cd' sl' ho
   intro A' Q' E' s' k q
   unfold isType loadHead
   exact wpAny_bind (wpAny_loadPart (k _ _ (KX _ _ ho)) (wpAny_pure q))
  ·cases z
 have l7 : PySem.W.Looks M hp (isInstance (.ref D) (.type "tuple")) false := l1.andThen l2
 have l8 : PySem.W.Looks M hp (isExcClass (.ref D)) true := l6.andThen (by rw [if_pos rfl]; exact l3)
 unfold excMatches
 refine wpAny_bind (l7.at ?_)
 rw [if_neg (by decide)]
 refine wpAny_bind (wpAny_pure (wpAny_bind ?_))
 rw [List.forIn_cons]
 refine wpAny_bind (wpAny_bind (l8.at ?_))
 simp only [Bool.not_true,Bool.false_eq_true,if_false]
 refine wpAny_pure ?_
 dsimp only
 rw [List.forIn_nil]
 refine wpAny_pure (wpAny_bind (l4.at (wpAny_bind ?_)))
 rw [List.forIn_cons]
 refine wpAny_bind (wpAny_bind (l5.at ?_))
 cases b with
 | true =>
   rw [if_pos rfl]
   exact wpAny_pure (wpAny_pure (wpAny_pure hq))
 | false =>
   rw [if_neg (by decide)]
   refine wpAny_pure ?_
   dsimp only
   rw [List.forIn_nil]
   exact wpAny_pure (wpAny_pure hq)
theorem name_goes {M : Model} {A : Around} {E : Value → Shared → Prop} {i : Nat} {x : Str} {pos : Pos} {Q : Unit → Shared → Prop} (I : Inv X pins σ H s) (hN : X.N.Nodup) (hi : X.N[i]? = some x) (hx : X.env.scope.names.lookup x = some .local)
 (h : ∀ s',Inv X pins (σ.set i none) H s' → Q () s') : wpAny M A (do bindName X.env x .none; unbindBehindTheSuite X.env x pos) Q E s := by
 have hiσ : i < σ.length := by rw [I.len]; exact (List.getElem?_eq_some_iff.mp hi).1
 refine wpAny_bind (wpAny_bindName (store_ok (v := .non) I hN hi (.inl hx) rfl (fun s1 I1 => ?_) (.inr hx)))
 obtain ⟨m,hn,hl⟩ := id I1.loc
 have hk : X.env.kindOf x = some .local := hx
 have hcls : (X.env.scope.kind == .class || (X.env.scope.kind == .module && X.env.locals != X.env.globals)) = false := by rw [I.ok.kind]; rfl
 obtain ⟨u,ru,lu⟩ := hl i x .non hi (by rw [List.getElem?_set_self hiσ]) (.inl hx)
 have mx : m x = some u := by
  rcases lu with ⟨_,z⟩ | ⟨z,_⟩
  ·exact z
  ·rw [hk] at z; rcases z with z | z <;> cases z
 unfold unbindBehindTheSuite
 refine wpAny_onRaise ?_
 unfold unbindName
 refine wpAny_bind (wpAny_point (wpAny_bind ?_))
 unfold deleteName
 simp only [hk,hcls]
 rw [if_neg (by decide)]
 refine wpAny_bind (wpAny_nsDel_keeps hn fun h2 v hn2 hs2 => ?_)
 simp only [mx,Option.isSome_some,Bool.not_true,Bool.false_eq_true,if_false]
 refine wpAny_pure (wpAny_point (h _ ?_))
 have oL : ∃ o,s1.heap.get? X.env.locals = some o := by obtain ⟨o,_,_,z,_⟩ := hn; exact ⟨o,z⟩
 have cne := I1.cne
 refine ⟨I1.ok,I1.os,I1.bare,⟨fun b o e n hb hx => ?_,fun b o e n hb hx => ?_,I1.base.free,fun b o e hx => ?_,I1.base.tups,I1.base.frzs,I1.base.tbls⟩,⟨_,hn2,fun j y v' e1 e2 e3 => ?_⟩,fun y c e => ?_,I1.free,I1.freeC,fun p hp => ?_,fun b ob e => ?_,by rw [List.length_set]; exact I.len⟩
 ·exact (hs2.2 b (Nat.ne_of_lt (Nat.lt_of_lt_of_le (Heap.lt_size e) I1.ok.above))).trans (I1.base.keep b o e n hb hx)
 ·obtain ⟨sl,e1⟩ := I1.base.slot b o e n hb hx
  exact ⟨sl,(hs2.2 b (Nat.ne_of_lt (Nat.lt_of_lt_of_le (Heap.lt_size e) I1.ok.above))).trans e1⟩
 ·obtain ⟨o',e1⟩ := I1.base.there b o e hx
  exact ⟨o',(hs2.2 b (Nat.ne_of_lt (Nat.lt_of_lt_of_le (Heap.lt_size e) I1.ok.above))).trans e1⟩
 ·have hj : j ≠ i := fun z => by
   subst z
   rw [List.getElem?_set_self hiσ] at e2
   cases e2
  rw [List.getElem?_set_ne (Ne.symm hj)] at e2
  obtain ⟨u',r',q⟩ := hl j y v' e1 (by rw [List.getElem?_set_ne (Ne.symm hj)]; exact e2) e3
  refine ⟨u',r',?_⟩
  rcases q with ⟨k,e⟩ | ⟨k,c,e,z⟩
  ·refine .inl ⟨k,?_⟩
   have : y ≠ x := fun e => hj (nodup_ix hN e1 (e ▸ hi))
   simp [this,e]
  ·exact .inr ⟨k,c,e,z.sameBut hs2 (cne y c e)⟩
 ·obtain ⟨w',z⟩ := I1.cell y c e
  exact ⟨w',z.sameBut hs2 (cne y c e)⟩
 ·obtain ⟨e,n,ne,nf,d⟩ := I1.pin p hp
  exact ⟨(hs2.2 p.1 ne).trans e,n,ne,nf,d⟩
 ·refine (I1.hok b ob e).stay (fun c w' hc q => (hs2.2 c ?_).trans q) (fun _ q => q) fun _ _ q => q
  rintro rfl
  rcases hc with rfl | hc
  ·rw [I1.free] at e; cases e
  ·rw [I1.free] at hc; cases hc
end
def Catches (X : Cx) (RX : St → Addr → Hp → Prop) : Prop := ∀ (pins : List (Addr × Obj)) (σ : St) (H : Hp) (s : Shared) (e : Value) (s' : Shared),Inv X pins σ H s → CXR X.prog X.w X.stack H s (fun e _ H' => ∃ a,e = .ref a ∧ RX σ a H') e s' → X.xe e s'
section
variable {X : Cx}
end
section
variable {X : Cx}
end
theorem pe_xfldK {X : Cx} (K : PySem.W.Frag) {e : Expr} {f : Str} {pos : Pos} {ta : TE} (he : PE X e ta) (hK : X.K = K := by rfl) (hb : attributeBase e f X.env (eval e X.env) = eval e X.env := by rfl) : PE X (.Attribute e f pos) (tXFld K ta f) := by
 subst hK
 exact pe_xfld he hb
section
variable {X : Cx}
end
section
variable {X : Cx}
def rSlS : V → Option Int → Option Int → Hp → VK → Prop := fun x lo hi H Q => ∃ z,x = .str z ∧ z.length ≤ sizeLine ∧ Q (.str (Txt.slice z lo hi)) H
theorem sl_str : SlR X rSlS := by
 intro pins s σ H x v vl vu lo hi sl Q I rx hs pl pu h
 obtain ⟨z,rfl,hz,q⟩ := h
 obtain ⟨t,rfl⟩ := rx
 refine ⟨"str",_,PySem.F.slot_str_getitem.lookup,typeIs_str _ _ _,?_⟩
 have fin : ∀ t' k,EP X pins σ Q (.str (Txt.slice z lo hi) t') { s with toks := k } := fun t' k => ⟨.str _,H,I.tok _,⟨_,rfl⟩,q⟩
 cases pl with
 | none => cases pu with
   | none => exact wpAny_getItem_str_slice (l := none) (u := none) (st := none) hs rfl (post_val_or_str ⟨Nat.le_trans (Txt.slice_le z _ _) hz,fin⟩)
   | int j uj => exact wpAny_getItem_str_slice (l := none) (u := some (j,uj)) (st := none) hs rfl (post_val_or_str ⟨Nat.le_trans (Txt.slice_le z _ _) hz,fin⟩)
 | int i ui => cases pu with
   | none => exact wpAny_getItem_str_slice (l := some (i,ui)) (u := none) (st := none) hs rfl (post_val_or_str ⟨Nat.le_trans (Txt.slice_le z _ _) hz,fin⟩)
   | int j uj => exact wpAny_getItem_str_slice (l := some (i,ui)) (u := some (j,uj)) (st := none) hs rfl (post_val_or_str ⟨Nat.le_trans (Txt.slice_le z _ _) hz,fin⟩)
end
section
variable {X : Cx} {pins : List (Addr × Obj)} {σ : St} {H : Hp} {s : Shared}
theorem paired_get {α β : Type} {F : α → β → Prop} : ∀ {l : List α} {m : List β} {i : Nat} {x : α},Paired F l m → l[i]? = some x → ∃ y,m[i]? = some y ∧ F x y
 | _,_,i,_,.nil,e => by simp at e
 | _,_,0,_,.cons r _,e => by simp at e; subst e; exact ⟨_,rfl,r⟩
 | _,_,i + 1,x,.cons _ t,e => by
   obtain ⟨y,h1,h2⟩ := paired_get (i := i) (x := x) t (by simpa using e)
   exact ⟨y,by simpa using h1,h2⟩
theorem in1_room {A : Around} (hu : A.units + 2 < cLine) : A.in1.units < cLine := Nat.lt_of_le_of_lt (show A.in1.units ≤ A.units + 1 by first | exact Nat.le_refl _ | exact Nat.le_succ _ | simp [Around.in1]) (by omega)
end
structure New0 (K : PySem.W.Frag) (mg : Str → Option Value) (x : Str) (C : Addr) : Prop where
 mg : mg x = some (.ref C)
 makes : PySem.W.makesIn K C = true
 init : PySem.W.findIn K (.ref C) "__init__" = some (some (.builtin "object.__init__"))
 kp : PySem.W.keepIn K (.ref C) = true
def tNew0 (C : Addr) : TE := fun _ H Q => ∀ x dx,H x = none → H dx = none → dx ≠ x → Q (.ref x) (upd (upd H dx (.own x)) x (.ins C dx []))
section
variable {X : Cx} {C : Addr} {x m : Str} {p pos apos : Pos} {o : Expr} {ta : TE}
theorem pe_new0 (D : New0 X.K X.mg x C) (hg : Gl X x) (hdb : (x == ("__debug__" : Str)) = false := by decide) : PE X (.Call (.Name x p) [] [] pos) (tNew0 C) := by
 intro pins s σ H Q I h
 refine wpAny_Call_Name_kw (ld_glob I hg D.mg ?_ hdb)
 refine PySem.W.callWith_K0 I.kIn D.kp ?_
 have hq := h (s.heap.objs.size + 1) s.heap.objs.size (I.hok.fresh (Nat.le_succ _)) (I.hok.fresh (Nat.le_refl _)) (Nat.ne_of_lt (Nat.lt_succ_self _))
 have I2 := Inv.made (C := C) I
 refine wpAny_call (make_map0 I.kIn D.makes D.init (fun self => PySem.W.Looks.of_pure (PySem.W.oi_bind self)) ?_)
 have Y := PySem.W.makes_of (M := model X.prog X.w) I.kIn D.makes
 have hx : ((s.heap.push PySem.W.emptyDict).push (PySem.W.instObj C s.heap.objs.size)).get? (s.heap.objs.size + 1) = some (PySem.W.instObj C s.heap.objs.size) := by
  have := Heap.get?_push_size (s.heap.push PySem.W.emptyDict) (o := PySem.W.instObj C s.heap.objs.size) rfl
  rwa [Heap.size_push] at this
 have t1 : PySem.W.Looks (model X.prog X.w) ((s.heap.push PySem.W.emptyDict).push (PySem.W.instObj C s.heap.objs.size)) (typeOf (.ref (s.heap.objs.size + 1))) (.ref C) := (PySem.W.Looks.ld hx).andThen .now
 have t2 : PySem.W.Looks (model X.prog X.w) ((s.heap.push PySem.W.emptyDict).push (PySem.W.instObj C s.heap.objs.size)) (isInstance (.ref (s.heap.objs.size + 1)) (.type "object")) true :=
  t1.andThen (Y.top.keeps fun b o e => Heap.get?_push_of_some _ (Heap.get?_push_of_some _ e))
 refine codeAny_call_builtin PySem.W.oi_plain PySem.W.entry_oi (@PySem.W.check_slot (model X.prog X.w) _ _ _ "object.__init__" "object" "__init__" (.ref (s.heap.objs.size + 1)) [] [] _ PySem.W.oi_kind PySem.W.oi_split t2 (PySem.W.oi_args (.ref (s.heap.objs.size + 1))) ?_)
 rw [PySem.W.oi_run]
 exact wpAny_pure (And.intro rfl ⟨V.ref (s.heap.objs.size + 1),_,I2,rfl,hq⟩)
structure MethD (P : Program) (w : World) (K : PySem.W.Frag) (mg : Str → Option Value) (base : Heap) (CX : CXT) (k : Nat) (C : Addr) (m : Str) (ps : List Str) (sp : Sp) : Prop where
 out : ∃ (f : Addr) (fd : FuncData),Cls K C ∧ Meth K C m f ∧ FnOk P w K mg base CX k f fd ps sp ∧ Df K fd ps []
def tMethD (D : Addr → Sp → Prop) (m : Str) (E : XK) (ta : TE) : TE := fun σ H Q => ta σ H fun x H1 => ∃ a C dx fs sp,x = .ref a ∧ H1 a = some (.ins C dx fs) ∧ fs.lookup m = none ∧ D C sp ∧ sp [x] H1 Q E
theorem pe_methD {CX : CXT} {k : Nat} {D : Addr → Sp → Prop} {E : XK} {pl : Sem Bool} (he : PE X o ta) (hD : ∀ C sp,D C sp → MethD X.prog X.w X.K X.mg X.base CX k C m ["self"] sp) (hr : Room k X.A) (hx : Dx CX X E)
 (ht : eval (.Call (.Attribute o m apos) [] [] pos) X.env = (do
   let ov ← eval o X.env
   standAt apos.atName
   let (f,first) ← holding [ov] (getMethod ov m pl)
   callWith pos f first (backTo pos (starEach [] X.env)) (backToKw pos (keywordEach [] X.env))) := by rfl) :
 PE X (.Call (.Attribute o m apos) [] [] pos) (tMethD D m E ta) := by
 intro pins s σ H Q I h
 refine PySem.W.methodCall_KW (pl := pl) (thn (he pins s σ H _ I h) fun u s1 ⟨x,H1,I1,rx,a,C,dx,fs,sp,ex,ea,l,d,q⟩ => ?_) ht
 subst ex
 obtain rfl : u = Value.ref a := rx
 obtain ⟨f,fd,c,hm,F,hb⟩ := (hD C sp d).out
 refine getmeth_ok I1 ea c hm l ?_
 exact PySem.W.callWith_K0 (first := [.ref a]) I1.kIn hm.kp (run_fn (us := [.ref a]) (vs := [.ref a]) F hr hb .nil hx I1 (.cons rfl .nil) q)
end
end L2
namespace PySem
namespace SeqAt
open AutoSeq1 (wpAny_loadPart')
open PySem.Spec PyProof.Rows
theorem str_eq_declines_dict (b : Str) (u : Tok) (l : Addr) (c : Value) (es : Array DictEntry) (n : Nat) (dd : Option Addr) (sl : Array (Option Value)) :
 Meets (Builtin.«str.__eq__» ⟨[.str b u,.ref l],[]⟩) (fun _ R s => s.heap.get? l = some { cls := c,dict := dd,data := .dict es n,slots := sl } ∧ R (.ok (.ret .notImplemented)) s) :=
 .of_wp fun prog w A R s h => by obtain ⟨hp,g,d,tk,os⟩ := s; obtain ⟨hl,h⟩ := h; wp_walk using wpAny_loadPart' hl,wpAny_load hl; exact ⟨_,rfl,h⟩
theorem dict_eq_no_str {prog : Program} {w : World} {A : Around} {E : Value → Shared → Prop} {s : Shared} {l : Addr} {b : Str} {u : Tok} {Q : Value → Shared → Prop} (hT : s.TypeIs (.ref l) "dict") (h : Q .notImplemented s) :
 wpAny (model prog w) A (call (.builtin "dict.__eq__") [.ref l,.str b u]) Q E s := by
 refine wpAny_call_entry PySem.F.slot_dict_eq hT PySem.F.entry_dict_eq ?_ (PySem.F.args_dict_eq_2 _ _)
 show wpAny _ _ (Builtin.Dict.dictSlotArgs "__eq__" ⟨[.ref l,.str b u],[]⟩ >>= _) _ _ s
 refine wpAny_bind ?_
 unfold Builtin.Dict.dictSlotArgs
 refine wpAny_bind (wpAny_notOrdered_dict hT ?_)
 show wpAny _ _ (pure (Value.ref l,Value.str b u)) _ _ s
 refine wpAny_pure ?_
 refine wpAny_bind (wpAny_isInstance (T := "str") (typeIs_str s b u) PySem.F.sub_str_dict ?_)
 simp only [Bool.not_false,if_true]
 refine wpAny_bind (wpAny_rule ?_)
 first | exact wpAny_pure ⟨_,rfl,h⟩ | (refine wpAny_bind (wpAny_pure ?_); trace_state; exact wpAny_pure ⟨_,rfl,h⟩) | trace_state
theorem RcAt.str_dict {A : Around} {s : Shared} {l : Addr} {dd : Option Addr} {es : Array DictEntry} {n : Nat} {sl : Array (Option Value)} (b : Str) (u : Tok) (ho : s.heap.get? l = some { cls := .type "dict",dict := dd,data := .dict es n,slots := sl }) (hu : A.units < cLine) : RcAt A s (.str b u) (.ref l) false := fun prog w E Q h => by
 exact rc_eq_decline_or (k := false) (typeIs_str s b u) ⟨_,ho,rfl⟩ (by decide) F.sub_dict_str F.slot_str_eq F.slot_dict_eq_refl
  (fun _ hq => call_meets F.slot_str_eq (typeIs_str s b u) F.entry_str_eq (F.args_str_eq_2 _ _) (str_eq_declines_dict b u l (.type "dict") es n dd sl) ⟨ho,hq⟩)
  (fun _ hq => dict_eq_no_str ⟨_,ho,rfl⟩ hq)
  (fun _ hq => wpAny_of_eq (rfl : isSame (.str b u) (.ref l) = pure false) hq) (.inr hu) h
end SeqAt
end PySem
namespace L2
open PySem PySem.Spec PyProof.Rows
inductive RdX (K : PySem.W.Frag) (H : Hp) : V → PyData → Prop
 | non : RdX K H .non .none
 | bl (b : Bool) : RdX K H (.bl b) (.bool b)
 | int (i : Int) : RdX K H (.int i) (.int i)
 | str (z : Str) : RdX K H (.str z) (.str z)
 | lst1 {a : Addr} {z : Str} : SqL K H a [.str z] → RdX K H (.ref a) (.list [.str z])
 | tup1 {a : Addr} {z : Str} : SqT K H a [.str z] → RdX K H (.ref a) (.tuple [.str z])
 | dk {a : Addr} {k : Str} {i : Int} : H a = some (.dK [(.inr k,.int i)]) → RdX K H (.ref a) (.dict [(.str k,.int i)])
theorem Same.tup {K : PySem.W.Frag} {H H' : Hp} {a : Addr} {xs : List V} (e : Same H H') (h : SqT K H a xs) : SqT K H' a xs := by
 rcases h with h | h
 ·rcases h with h | ⟨o,h⟩
  ·exact .inl (.inl (e _ _ h))
  ·exact .inl (.inr ⟨o,e _ _ h⟩)
 ·exact .inr h
section
variable {X : Cx}
theorem dk_obj {pins : List (Addr × Obj)} {σ : St} {H : Hp} {s : Shared} {a : Addr} {k : Str} {i : Int} (I : Inv X pins σ H s) (h : H a = some (.dK [(.inr k,.int i)])) :
 ∃ (dd : Option Addr) (hs : Int) (t t' : Tok) (n : Nat) (sl : Array (Option Value)),(a == sysModules) = false ∧ s.heap.get? a = some { cls := .type "dict",dict := dd,data := .dict #[⟨hs,.str k t,.int i t'⟩] n,slots := sl } := by
 obtain ⟨_,hsm,vs,kv,dd⟩ := (show Cj X.prog X.w H s.heap a (.dK [(.inr k,.int i)]) from I.hok a _ h)
 cases kv with
 | @cons _ p _ _ hh tt =>
   cases tt
   obtain ⟨k2,v2⟩ := p
   obtain ⟨e1,t',e2⟩ := hh
   dsimp only at e1 e2
   subst e1 e2
   obtain ⟨⟨oc,od,odt,osl⟩,es,ep,h1,h2,h3,_,hp,_⟩ := dd
   dsimp only at h3
   subst h3
   have hc : oc = .type "dict" := h2.1
   subst hc
   obtain ⟨es⟩ := es
   cases hp with
   | @cons e _ _ _ he hv ht =>
     cases ht
     obtain ⟨hs,ky,vl⟩ := e
     dsimp only at he hv
     subst hv
     have he : keyIs (Sum.inr k) ky = true := he
     rcases Bp he with ⟨j,tt,e,_⟩ | ⟨z,tt,e,rfl⟩
     ·cases e
     ·cases e
      exact ⟨od,hs,tt,t',ep,osl,hsm,h1⟩
theorem op_eqX (hu : X.A.units < cLine) : OpR X (compareOp .Eq) (fun x y H Q => ∃ z d,x = .str z ∧ RdX X.K H y d ∧ Q (.bl (PyData.eqv (.str z) d)) H) := by
 intro pins s σ H x y v u Q I rx ry h
 obtain ⟨z,d,rfl,hd,q⟩ := h
 have rx' := rx
 obtain ⟨t,rfl⟩ := rx
 cases hd with
 | non =>
   have e : PyData.eqv (.str z) .none = false := by simp [PyData.eqv]
   rw [e] at q
   exact Dw pins s σ H (.str z) .non _ _ Q I rx' ry ⟨rfl,by rw [decide_eq_false (fun h => by cases h)]; exact q⟩
 | bl b =>
   have e : PyData.eqv (.str z) (.bool b) = false := by simp [PyData.eqv]
   rw [e] at q
   exact Dw pins s σ H (.str z) (.bl b) _ _ Q I rx' ry ⟨rfl,by rw [decide_eq_false (fun h => by cases h)]; exact q⟩
 | int i =>
   have e : PyData.eqv (.str z) (.int i) = false := by simp [PyData.eqv]
   rw [e] at q
   exact Dw pins s σ H (.str z) (.int i) _ _ Q I rx' ry ⟨rfl,by rw [decide_eq_false (fun h => by cases h)]; exact q⟩
 | str z' =>
   have e : PyData.eqv (.str z) (.str z') = (z == z') := by simp [PyData.eqv]
   rw [e] at q
   exact Dw pins s σ H (.str z) (.str z') _ _ Q I rx' ry ⟨rfl,by rw [dec_str]; exact q⟩
 | @lst1 a z' hq =>
   obtain rfl : u = Value.ref a := ry
   have e : PyData.eqv (.str z) (.list [.str z']) = false := by simp [PyData.eqv]
   rw [e] at q
   obtain ⟨its,rv,pl,_⟩ := I.list hq
   exact SeqAt.RcAt.str_list z t pl.isList hu _ _ _ _ (Bf I q rfl)
 | @tup1 a z' hq =>
   obtain rfl : u = Value.ref a := ry
   have e : PyData.eqv (.str z) (.tuple [.str z']) = false := by simp [PyData.eqv]
   rw [e] at q
   obtain ⟨its,rv,pl,_⟩ := I.tuple hq
   exact SeqAt.RcAt.str_tuple z t (by obtain ⟨o,e,hc,n,dd⟩ := pl; exact ⟨o,e,hc,n,dd⟩) hu _ _ _ _ (Bf I q rfl)
 | @dk a k i hq =>
   obtain rfl : u = Value.ref a := ry
   have e : PyData.eqv (.str z) (.dict [(.str k,.int i)]) = false := by simp [PyData.eqv]
   rw [e] at q
   obtain ⟨dd,hs,t1,t2,n,sl,_,ho⟩ := dk_obj I hq
   exact SeqAt.RcAt.str_dict z t ho hu _ _ _ _ (Bf I q rfl)
end
structure FunD (K : PySem.W.Frag) (x qual : Str) (st : Stmt) (f : Addr) (fd : FuncData) : Prop where
 ex : ∃ (oc : Value) (od : Option Addr) (dV kV doc pm : Value) (an : Option Addr) (cdv ct : Value) (osl : Array (Option Value)),
  fd = PySem.W.fnOf x qual (Cy st) (Bu st) (Af st) dV kV doc pm an cdv ct ∧ K.lookup f = some ⟨oc,od,.func fd,osl⟩ ∧ PySem.W.codeIn K cdv qual = true
 kp : PySem.W.keepIn K (.ref f) = true
section
variable {P : Program} {w : World} {K : PySem.W.Frag} {mg : Str → Option Value} {base : Heap}
theorem FunD.ok {x qual : Str} {st : Stmt} {f : Addr} {fd : FuncData} {N ps : List Str} {k : Nat} {sp : Sp} (F : FunD K x qual st f fd) (S : Ar N ps (Af st)) (len : ∀ vs H Q E,sp vs H Q E → vs.length = ps.length)
 (hbody : ∀ (cdv : Value) (A : Around) (outer : List Env) (s : Shared) (H : Hp) (vs : List V) (Q : VK) (E : XK),Room k (A.deeper (envOfC qual (Af st) s.heap.objs.size f cdv)) → sp vs H Q E →
   ∃ t,PSs (cxOf CX0 P w K mg base N qual (Af st) f cdv A outer s H E).nox (Bu st) t ∧ t { nx := fun _ H' => Q .non H',rt := Q } (start N vs) H) : FnOk P w K mg base CX0 (k + 1) f fd ps sp := by
 obtain ⟨oc,od,dV,kV,doc,pm,an,cdv,ct,osl,rfl,lk,hcd⟩ := F.ex
 refine fn_of lk hcd S len fun A outer s H vs Q E hr hsp => ?_
 obtain ⟨t,h,q⟩ := hbody cdv A outer s H vs Q E hr hsp
 exact ⟨t,h.nox,q⟩
end
section
variable {X : Cx}
end
end L2
namespace L2
open PySem PySem.Spec PyProof.Rows
section
variable {X : Cx}
end
open Builtin.SmallTypes (nextOf)
section
variable {P : Program} {w : World}
end
open Builtin.SmallTypes (nextOf ownedTupleIsFree ownedTupleHandOut)
section
variable {P : Program} {w : World} {A : Around} {E : Value → Shared → Prop} {s : Shared} {z TI TO i1 i2 l1 l2 : Addr} {us vs : Array Value} {S1 S2 : Nat → Heap → Prop}
end
end L2
namespace L2
open PySem PySem.Spec PyProof.Rows
section
variable {X : Cx}
end
def tMakeT (RX : St → Addr → Hp → Prop) (C : Addr) (sp : Sp) (dvs : List V) (t : TA) : TE := fun σ H Q => tMake C sp dvs (fun e _ H' => ∃ a,e = .ref a ∧ RX σ a H') t σ H Q
section
variable {X : Cx} {k : Nat} {f C : Addr} {fd : FuncData} {ps : List Str} {sp : Sp} {dvs : List V} {ds : List Value} {E : XK} {x m : Str} {p pos apos : Pos} {e : Expr} {es : List Expr} {t : TA} {RX : St → Addr → Hp → Prop}
theorem run_makeT {pins : List (Addr × Obj)} {σ : St} {H : Hp} {s : Shared} {Q : VK} {us : List Value} {vs : List V} {E : XK} (M : Mk X.K C f) (F : FnOk X.prog X.w X.K X.mg X.base (CXR X.prog X.w) k f fd ps sp) (hr : Room (k + 1) X.A) (hb : Df X.K fd ps ds) (hd : Vals dvs ds)
 (hx : ∀ (H : Hp) (s : Shared) (e : Value) (s' : Shared),Inv X pins σ H s → CXR X.prog X.w X.stack H s E e s' → X.xe e s') (I : Inv X pins σ H s) (r : Vals vs us)
 (h : ∀ x dx,H x = none → H dx = none → dx ≠ x → sp (.ref x :: (vs ++ dvs)) (upd (upd H dx (.own x)) x (.ins C dx [])) (fun v H2 => v = .non ∧ Q (.ref x) H2) E) :
 wpAny (model X.prog X.w) X.A (call (.ref C) us) (EP X pins σ Q) X.xe s := by
 have q0 := h (s.heap.objs.size + 1) s.heap.objs.size (I.hok.fresh (Nat.le_succ _)) (I.hok.fresh (Nat.le_refl _)) (Nat.ne_of_lt (Nat.lt_succ_self _))
 have J := Inv.made (C := C) I
 have rr : Vals (V.ref (s.heap.objs.size + 1) :: (vs ++ dvs)) (Value.ref (s.heap.objs.size + 1) :: (us ++ ds)) := .cons rfl (r.append hd)
 have hl : (Value.ref (s.heap.objs.size + 1) :: us ++ ds).length = ps.length := by
  rw [← F.len _ _ _ _ q0]
  exact rr.length.symm
 refine wpAny_call (make_map (f := f) I.kIn M.makes M.init (beq_iff_eq.mp M.fn) (codeAny_mono (F.run _ X.stack _ _ _ _ _ _ E (hr.make C us []) (J.env0.make C us []) (hb _ (Value.ref (s.heap.objs.size + 1) :: us) J.kIn hl) rr q0) fun rs s' hq => ?_))
 cases rs with
 | error e => exact hx _ _ e s' J hq
 | ok fl =>
   cases fl with
   | ret u =>
     obtain ⟨v,H',I3,rv,ev,q3⟩ := J.after hq
     subst ev
     exact ⟨rv,V.ref (s.heap.objs.size + 1),H',I3,rfl,q3⟩
   | next => exact hq.elim
   | brk => exact hq.elim
   | cont => exact hq.elim
theorem pe_makeT (M : Mk X.K C f) (F : FnOk X.prog X.w X.K X.mg X.base (CXR X.prog X.w) k f fd ps sp) (hc : Catches X RX) (hr : Room (k + 1) X.A) (hg : Gl X x) (hm : X.mg x = some (.ref C)) (hb : Df X.K fd ps ds) (hd : Vals dvs ds)
 (ha : PA X (e :: es) t) (hdb : (x == ("__debug__" : Str)) = false := by decide) (he : starEach (e :: es) X.env = (false,eval e X.env) :: starEach es X.env := by rfl) (hpl : (backTo pos (starEach es X.env)).any (·.1) = false := by rfl) :
 PE X (.Call (.Name x p) (e :: es) [] pos) (tMakeT RX C sp dvs t) := by
 intro pins s σ H Q I h
 refine wpAny_Call_Name_kw (ld_glob I hg hm ?_ hdb)
 refine PySem.W.callWith_K (h₀ := X.base) I.ok.mod.kin M.kp (thn (ha pos pins s σ H _ I h) fun us s1 ⟨vs,H1,I1,r,q⟩ => ⟨I1.kIn,?_⟩) he hpl
 exact run_makeT M F hr hb hd (fun H s e s' J z => hc pins σ H s e s' J z) I1 r q
end
section
variable {P : Program} {w : World} {K : PySem.W.Frag} {mg : Str → Option Value} {base : Heap}
end
def gLst (K : PySem.W.Frag) (n : Nat) (t : TGs) : TG := fun v σ H Q => ∃ a xs,v = .ref a ∧ SqL K H a xs ∧ xs.length = n ∧ t xs σ H Q
theorem pg_lstK {X : Cx} {pos : Pos} {es : List Expr} {k : Nat} {t : TGs} {n : Nat} (K : PySem.W.Frag) (hc : X.calm = true) (h : PGs X es t) (hK : X.K = K := by rfl)
 (hn : (assignEach es X.env).length = n := by rfl) (hst : (assignEach es X.env).findIdx? (·.1) = none := by rfl) : PG X (.Tuple es k pos) (gLst K n t) := by
 subst hK
 intro pins s σ H v u Q I r hw
 obtain ⟨a,xs,e1,hq,hl,hw⟩ := hw
 subst e1
 cases r
 obtain ⟨its,rv,ht,hz⟩ := I.list hq
 rw [assign_Tuple]
 refine wpAny_bind (wpAny_standAt ?_)
 unfold unpack
 rw [show (assignEach es X.env).length = its.toArray.size by simp [hn,← hl,rv.length],hst]
 refine wpAny_bind (wpAny_holding (PySem.W.kun_itemsOf (I.ok.hd hc) ht.isList fun h' hx => ?_))
 have I1 : Inv X pins σ H { s with heap := h' } := I.kept (t' := s.toks) fun b o e => hx b o (Nat.ne_of_lt (Heap.lt_size e)) e
 exact h pins _ σ H xs _ Q I1 (by simpa using rv) hw
end L2
namespace PySem
open Sem (wp)
open Builtin
end PySem
namespace L2
open PySem PySem.Spec PyProof.Rows
theorem kit_none_list {K : PySem.W.Frag} : PySem.W.kitOne K (.type "NoneType") (.type "list") = some false := Bq (by decide +kernel) (by decide +kernel) (by decide +kernel)
theorem kit_bool_list {K : PySem.W.Frag} : PySem.W.kitOne K (.type "bool") (.type "list") = some false := Bq (by decide +kernel) (by decide +kernel) (by decide +kernel)
theorem kit_int_list {K : PySem.W.Frag} : PySem.W.kitOne K (.type "int") (.type "list") = some false := Bq (by decide +kernel) (by decide +kernel) (by decide +kernel)
theorem kit_str_list {K : PySem.W.Frag} : PySem.W.kitOne K (.type "str") (.type "list") = some false := Bq (by decide +kernel) (by decide +kernel) (by decide +kernel)
theorem kit_dict_list {K : PySem.W.Frag} : PySem.W.kitOne K (.type "dict") (.type "list") = some false := Bq (by decide +kernel) (by decide +kernel) (by decide +kernel)
def Kd.noSeq : Kd → Bool
 | .lst => false
 | .tup => false
 | _ => true
theorem kit_no_list {K : PySem.W.Frag} {k : Kd} (h : k.noSeq = true) : PySem.W.kitOne K (.type k.nm) (.type "list") = some false := by
 cases k <;> first | exact kit_none_list | exact kit_bool_list | exact kit_int_list | exact kit_str_list | exact kit_dict_list | cases h
theorem kit_no_any {K : PySem.W.Frag} {k : Kd} (h : k.noSeq = true) : PySem.W.kitAny K (.type k.nm) [.type "list",.type "tuple"] = some false := by
 show (match PySem.W.kitOne K (.type k.nm) (.type "list") with | some true => some true | some false => PySem.W.kitAny K (.type k.nm) [.type "tuple"] | none => none) = some false
 rw [kit_no_list h]
 show (match PySem.W.kitOne K (.type k.nm) (.type "tuple") with | some true => some true | some false => PySem.W.kitAny K (.type k.nm) [] | none => none) = some false
 have e : PySem.W.kitOne K (.type k.nm) (.type "tuple") = some false := by
  have := kit_kd (K := K) (a := k) (c := .tup) (.inr (.inr (.inr rfl)))
  rw [show k.isA .tup = false by cases k <;> first | rfl | cases h] at this
  exact this
 rw [e]
 rfl
theorem call_isNT {X : Cx} : CallR X (.builtin "isinstance") (fun xs H Q => ∃ (x : V) (k : Kd) (tp : Addr),xs = [x,.ref tp] ∧ KdOf X.K H x k ∧ k.noSeq = true ∧ SqT X.K H tp [.ty "list",.ty "tuple"] ∧ Q (.bl false) H) := by
 intro pins s σ H xs us Q I r h
 obtain ⟨x,k,tp,rfl,hk,hn,hq,q⟩ := h
 obtain ⟨u,w',rfl,rx,rc⟩ := vals2 r
 obtain rfl : w' = Value.ref tp := rc
 obtain ⟨its,rv,pl,_⟩ := I.tuple hq
 have ei : its = [.type "list",.type "tuple"] := by
  cases rv with
  | cons r1 r2 => cases r2 with
    | cons r3 r4 =>
      cases r4
      have r1 : _ = Value.type "list" := r1
      have r3 : _ = Value.type "tuple" := r3
      rw [r1,r3]
 obtain ⟨⟨oc,odd,odt,osl⟩,e1,hc,n1,dd⟩ := pl
 dsimp only at hc dd
 subst hc dd ei
 have e := kit_no_any (K := X.K) hn
 have fin : ∀ tk,EP X pins σ Q (.bool false) { s with toks := tk } := fun tk => ⟨.bl false,H,I.tok _,rfl,q⟩
 have hk : TyOf X.K H x (.type k.nm) := hk
 generalize hT : Value.type k.nm = T at hk e
 cases hk with
 | non => cases (show u = Value.none from rx); exact PySem.W.kia_tup PySem.W.kitx_none I.kIn True.intro e1 e (fun z => nomatch z) fin
 | bl y => cases (show u = Value.bool y from rx); exact PySem.W.kia_tup PySem.W.kitx_bool I.kIn True.intro e1 e (fun z => nomatch z) fin
 | int i => obtain ⟨t,q⟩ := (show ∃ t,u = Value.int i t from rx); cases q; exact PySem.W.kia_tup PySem.W.kitx_int I.kIn True.intro e1 e (fun z => nomatch z) fin
 | str y => obtain ⟨t,q⟩ := (show ∃ t,u = Value.str y t from rx); cases q; exact PySem.W.kia_tup PySem.W.kitx_str I.kIn True.intro e1 e (fun z => nomatch z) fin
 | flt y => cases k <;> exact absurd (Value.type.inj hT) (by decide)
 | lst ea => cases k <;> first | exact absurd (Value.type.inj hT) (by decide) | cases hn
 | frz ea => cases k <;> first | exact absurd (Value.type.inj hT) (by decide) | cases hn
 | tup ea => cases k <;> first | exact absurd (Value.type.inj hT) (by decide) | cases hn
 | @dK a kvs ea =>
   cases (show u = Value.ref a from rx)
   obtain ⟨_,_,vs,_,p⟩ := (show Cj X.prog X.w H s.heap a (.dK kvs) from I.hok a _ ea)
   obtain ⟨o,es,ep,h1,h2,_⟩ := p
   exact PySem.W.kia_tup PySem.W.kitx_dict I.kIn ⟨o,h1,h2.1⟩ e1 e (fun z => nomatch z) fin
 | @dT a kvs ea =>
   cases (show u = Value.ref a from rx)
   obtain ⟨_,_,xs,_,o,es,ep,h1,h2,_⟩ := (show Cj X.prog X.w H s.heap a (.dT kvs) from I.hok a _ ea)
   exact PySem.W.kia_tup PySem.W.kitx_dict I.kIn ⟨o,h1,h2.1⟩ e1 e (fun z => nomatch z) fin
 | ins => cases hT
section
variable {P : Program} {w : World} {K : PySem.W.Frag} {mg : Str → Option Value} {base : Heap}
theorem FunD.okX {x qual : Str} {st : Stmt} {f : Addr} {fd : FuncData} {N ps : List Str} {k : Nat} {sp : Sp} (F : FunD K x qual st f fd) (S : Ar N ps (Af st)) (len : ∀ vs H Q E,sp vs H Q E → vs.length = ps.length)
 (hbody : ∀ (cdv : Value) (A : Around) (outer : List Env) (s : Shared) (H : Hp) (vs : List V) (Q : VK) (E : XK),Room k (A.deeper (envOfC qual (Af st) s.heap.objs.size f cdv)) → sp vs H Q E →
   ∃ t,PSs (cxOf (CXR P w) P w K mg base N qual (Af st) f cdv A outer s H E) (Bu st) t ∧ t { nx := fun _ H' => Q .non H',rt := Q } (start N vs) H) : FnOk P w K mg base (CXR P w) (k + 1) f fd ps sp := by
 obtain ⟨oc,od,dV,kV,doc,pm,an,cdv,ct,osl,rfl,lk,hcd⟩ := F.ex
 exact fn_of lk hcd S len fun A outer s H vs Q E hr hsp => hbody cdv A outer s H vs Q E hr hsp
end
theorem sl_listK {X : Cx} (K : PySem.W.Frag) (hK : X.K = K) : SlR X (rSlL K) := by
 subst hK
 exact Ca
theorem call_lenK {X : Cx} (K : PySem.W.Frag) (hK : X.K = K) : CallR X (.builtin "len") (fun xs H Q => ∃ x n,xs = [x] ∧ LenV K x H n ∧ Q (.int n) H) := by
 subst hK
 exact Av
section
variable {X : Cx} {pins : List (Addr × Obj)} {σ : St} {H : Hp} {s : Shared}
inductive Like2 (K : PySem.W.Frag) (H : Hp) : V → V → Prop
 | same {x : V} : Plain x → Like2 K H x x
 | tups {a b : Addr} {xs : List V} : SqT K H a xs → SqT K H b xs → (∀ v ∈ xs,Plain v) → Like2 K H (.ref a) (.ref b)
theorem Like2.eqAt {A : Around} (I : Inv X pins σ H s) (hu : A.units < cLine) {x y : V} {u v : Value} (l : Like2 X.K H x y) (rx : RelV x u) (ry : RelV y v) : SeqAt.EqAt A s u v true := by
 cases l with
 | same hp => exact eqAt_rel hp rx ry
 | @tups a b xs ha hb hp =>
   cases rx
   cases ry
   by_cases hab : a = b
   ·subst hab; exact SeqAt.EqAt.same _
   ·obtain ⟨its,rv,pl,_⟩ := I.tuple ha
    obtain ⟨its',rv',pl',_⟩ := I.tuple hb
    have l1 := rv.length
    have l2 := rv'.length
    have := SeqAt.RcAt.tuples (A := A) (e := fun _ => true) pl pl' hu (fun j h1 h2 => by
     have hj : j < xs.length := by simp at h1; omega
     have e1 : xs[j]? = some xs[j] := by simp [hj]
     obtain ⟨u1,q1,r1⟩ := rv.get e1
     obtain ⟨u2,q2,r2⟩ := rv'.get e1
     have z1 : its.toArray[j] = u1 := by simpa [List.getElem?_eq_some_iff] using (List.getElem?_eq_some_iff.mp q1).2
     have z2 : its'.toArray[j] = u2 := by simpa [List.getElem?_eq_some_iff] using (List.getElem?_eq_some_iff.mp q2).2
     rw [z1,z2]
     exact eqAt_rel (hp _ (List.getElem_mem hj)) r1 r2)
    refine SeqAt.EqAt.of_refs hab ?_
    have e : ((List.range (min its.toArray.size its'.toArray.size)).all (fun _ => true) && its.toArray.size == its'.toArray.size) = true := by
     rw [List.all_eq_true.mpr fun _ _ => rfl]
     simp; omega
    rw [e] at this
    exact this
end
section
variable {X : Cx}
end
section
variable {P : Program} {w : World} {A : Around} {E : Value → Shared → Prop} {s : Shared} {it d : Addr} {ob : Obj} {es : Array DictEntry} {ep i : Nat}
end
section
variable {X : Cx} {pins : List (Addr × Obj)} {σ : St} {H : Hp} {s : Shared} {a : Addr} {kvs : List (List Key × V)}
end
section
variable {X : Cx}
end
section
variable {X : Cx}
end
end L2
namespace PySem
namespace SeqAt
open AutoSeq1 (wpAny_loadPart')
open PySem.Spec PyProof.Rows
end SeqAt
end PySem
namespace L2
open PySem PySem.Spec PyProof.Rows
def eqI (y v : V) : Bool := if flatV v then eqV y v else false
def eT (w : Str) (n : Int) (vs : List V) (j : Nat) : Bool := match vs[j]? with
 | some v => if j = 0 then eqI (.str w) v else eqI (.int n) v
 | none => false
section
variable {X : Cx} {pins : List (Addr × Obj)} {σ : St} {H : Hp} {s : Shared}
end
section
variable {X : Cx}
theorem len_app (a b : Str) : (a ++ b).length = a.length + b.length := by
 show (a.cps ++ b.cps).size = _
 rw [Array.size_append]
 rfl
theorem strs_flat (zs : List Str) : (zs.map V.str).all flatV = true := List.all_eq_true.mpr fun y hy => by
 obtain ⟨z,_,rfl⟩ := List.mem_map.mp hy
 rfl
end
section
variable {X : Cx}
end
section
variable {prog : Program} {w : World} {A : Around} {R : Result → Shared → Prop} {I : Addr} {fp wr : List Addr} {G : Array GenState → Array GenState → Prop} {n : Nat} {P : Nat → Value → Prop} {St : Nat → Shared → Prop}
end
section
variable {prog : Program} {w : World} {A : Around} {E : Value → Shared → Prop} {s : Shared}
end
theorem boot_set : bootBuiltins "set" = some (.type "set") := by decide +kernel
section
variable {X : Cx}
end
theorem atI_ex {α : Type} {xs : List α} {r : Int} (h0 : 0 ≤ r) (h1 : r < xs.length) : ∃ v,atI xs r = some v ∧ v ∈ xs := by
 obtain ⟨k,rfl⟩ : ∃ k : Nat,r = (k : Int) := ⟨r.toNat,by omega⟩
 have hk : k < xs.length := by omega
 exact ⟨xs[k],atI_nat (List.getElem?_eq_getElem hk),List.getElem_mem hk⟩
def Dj (c : Nat) : Bool := decide (97 ≤ c ∧ c ≤ 122)
theorem low_in (c : Nat) : (!(Builtin.Str.occurrences (Str.ofString "abcdefghijklmnopqrstuvwxyz") ⟨#[c]⟩ 0 (Str.ofString "abcdefghijklmnopqrstuvwxyz").length 1).isEmpty) = Dj c := by
 rw [PySem.StrLaws.found_one]
 have e : (Str.ofString "abcdefghijklmnopqrstuvwxyz").cps.toList = [97,98,99,100,101,102,103,104,105,106,107,108,109,110,111,112,113,114,115,116,117,118,119,120,121,122] := by decide +kernel
 rw [e,Bool.eq_iff_iff]
 have h1 : ∀ c ∈ ([97,98,99,100,101,102,103,104,105,106,107,108,109,110,111,112,113,114,115,116,117,118,119,120,121,122] : List Nat),Dj c = true := by decide +kernel
 have h2 : ∀ i : Fin 26,97 + i.val ∈ ([97,98,99,100,101,102,103,104,105,106,107,108,109,110,111,112,113,114,115,116,117,118,119,120,121,122] : List Nat) := by decide +kernel
 refine ⟨fun h => h1 c (of_decide_eq_true h),fun h => decide_eq_true ?_⟩
 unfold Dj at h
 have h := of_decide_eq_true h
 obtain ⟨d,rfl⟩ := Nat.exists_eq_add_of_le h.1
 exact h2 ⟨d,by omega⟩
def A6 (z : Str) : Bool := decide (1 ≤ z.length ∧ z.length ≤ 8) && z.cps.toList.all Dj
def wholeV : V → Bool
 | .int _ => true
 | _ => false
def C8 : V → Bool
 | .str z => A6 z
 | _ => false
def numV : V → Bool
 | .int i => decide (0 ≤ i ∧ i ≤ 99)
 | _ => false
def keyV (H : Hp) : V → Bool
 | .ref a => match H a with
   | some (.tup [x,y]) => C8 x && numV y
   | _ => false
 | _ => false
structure Tb1 (t : SetTable) (j1 : Nat) : Prop where
 mask : t.mask = 7
 place : t.place = #[j1]
 dum : t.dummies = #[]
theorem below0 (j : Nat) : SetTable.below #[] j = 0 := by
 unfold SetTable.below
 rfl
theorem below1 (j1 j : Nat) : SetTable.below #[j1] j = if j1 < j then 1 else 0 := by
 unfold SetTable.below
 show SetTable.below.go #[j1] j 1 0 1 = _
 rw [SetTable.below.go.eq_def]
 show (if 0 < 1 then (if j1 < j then SetTable.below.go #[j1] j 0 1 1 else SetTable.below.go #[j1] j 0 0 0) else 0) = _
 rw [if_pos (by decide)]
 by_cases h : j1 < j
 ·rw [if_pos h,if_pos h]; rfl
 ·rw [if_neg h,if_neg h]; rfl
theorem has0 (j : Nat) : SetTable.has #[] j = false := by
 unfold SetTable.has
 rw [below0]
 rfl
theorem slot0 {t : SetTable} (hp : t.place = #[]) (hd : t.dummies = #[]) (j : Nat) : t.slot j = .empty := by
 unfold SetTable.slot
 rw [hp,hd,below0,has0]
 rfl
theorem slot1 {t : SetTable} {j1 : Nat} (T : Tb1 t j1) (j : Nat) : t.slot j = if j = j1 then .live 0 else .empty := by
 unfold SetTable.slot
 rw [T.place,T.dum,below1,has0]
 by_cases h : j1 < j
 ·simp [h,show ¬ j = j1 by omega]
 ·by_cases e : j = j1
  ·subst e; simp
  ·simp [h,e,show ¬ j1 = j by omega]
structure Rd1 (p : SetTable.Probe) : Prop where
 lt : p.i < 8
 j : p.j = p.i
 more : p.more = 0
 dum : p.dummy = none
theorem adv1 {t : SetTable} {j1 : Nat} (T : Tb1 t j1) {p : SetTable.Probe} (R : Rd1 p) : Rd1 (t.advance p) ∧ (t.advance p).perturb = p.perturb / 32 ∧ (t.advance p).i = (p.i * 5 + 1 + p.perturb / 32) % 8 := by
 have hb : (p.i * 5 + 1 + p.perturb / 32) % 8 < 8 := Nat.mod_lt _ (by decide)
 have e : t.advance p = { j := (p.i * 5 + 1 + p.perturb / 32) % 8,more := 0,i := (p.i * 5 + 1 + p.perturb / 32) % 8,perturb := p.perturb / 32,dummy := none } := by
  unfold SetTable.advance SetTable.leap SetTable.runEnd
  rw [T.mask,R.more,R.dum]
  simp only [gt_iff_lt,Nat.lt_irrefl,if_false]
  rw [if_neg (by omega),Nat.sub_self]
 rw [e]
 exact ⟨⟨hb,rfl,rfl,rfl⟩,rfl,rfl⟩
theorem probe_free {t : SetTable} {j1 : Nat} (T : Tb1 t j1) {hashAt : Nat → Int} {h : Int} (hne : (hashAt 0 == h) = false) : ∀ (n F : Nat) (p : SetTable.Probe),Rd1 p → p.perturb < 32 ^ n → n + 2 ≤ F →
 ∃ j,j < 8 ∧ j ≠ j1 ∧ SetTable.probe.go t hashAt h F p = some (.empty j none)
 | n,0,p,R,hp,hF => by omega
 | n,F + 1,p,R,hp,hF => by
   rw [SetTable.probe.go.eq_def]
   simp only [slot1 T]
   by_cases e : p.j = j1
   ·simp only [e,if_true,hne,Bool.false_eq_true,if_false]
    obtain ⟨R2,p2,i2⟩ := adv1 T R
    cases n with
    | zero =>
      have h0 : p.perturb = 0 := by simpa using hp
      rw [h0] at p2 i2
      match F,hF with
      | F + 1,_ =>
        refine ⟨(t.advance p).j,by rw [R2.j]; exact R2.lt,?_,?_⟩
        ·rw [R2.j,i2,← e,R.j]; have := R.lt; omega
        ·rw [SetTable.probe.go.eq_def]
         simp only [slot1 T]
         rw [if_neg (by rw [R2.j,i2,← e,R.j]; have := R.lt; omega)]
         simp only [R2.dum]
    | succ n =>
      exact probe_free T hne n F _ R2 (by rw [p2]; rw [Nat.pow_succ] at hp; omega) (by omega)
   ·simp only [e,if_false]
    exact ⟨p.j,by rw [R.j]; exact R.lt,e,by rw [R.dum]⟩
theorem start1 {t : SetTable} {j1 : Nat} (T : Tb1 t j1) (h : Int) : Rd1 (t.probeStart h) ∧ (t.probeStart h).perturb < 32 ^ 13 := by
 have hb : SetTable.bits h < 2 ^ 64 := by
  unfold SetTable.bits
  have := Int.emod_lt_of_pos h (show (0 : Int) < 2 ^ 64 by decide)
  have := Int.emod_nonneg h (show (2 ^ 64 : Int) ≠ 0 by decide)
  omega
 have hm : SetTable.bits h % 8 < 8 := Nat.mod_lt _ (by decide)
 have e : t.probeStart h = { j := SetTable.bits h % 8,more := 0,i := SetTable.bits h % 8,perturb := SetTable.bits h,dummy := none } := by
  unfold SetTable.probeStart SetTable.runEnd
  rw [T.mask]
  show SetTable.Probe.mk _ _ _ _ _ = _
  rw [if_neg (by omega),Nat.sub_self]
 rw [e]
 exact ⟨⟨hm,rfl,rfl,rfl⟩,Nat.lt_of_lt_of_le hb (by decide +kernel)⟩
theorem probe_one {t : SetTable} {j1 : Nat} (T : Tb1 t j1) {hashAt : Nat → Int} {h : Int} (he : (hashAt 0 == h) = true) {F : Nat} {p : SetTable.Probe} (R : Rd1 p) :
 SetTable.probe.go t hashAt h (F + 1) p = if p.j = j1 then some (.candidate j1 0 (t.advance p)) else some (.empty p.j none) := by
 rw [SetTable.probe.go.eq_def]
 simp only [slot1 T]
 by_cases e : p.j = j1
 ·simp only [e,if_true,he]
 ·simp only [e,if_false,R.dum]
theorem probe_cases {t : SetTable} {j1 : Nat} (T : Tb1 t j1) {f : Nat → Int} {h : Int} {p : SetTable.Probe} {r : Option SetTable.Met} (R : Rd1 p) (hp : p.perturb < 32 ^ 13) (e : SetTable.probe t f h p = r) :
 (∃ j,j < 8 ∧ j ≠ j1 ∧ r = some (.empty j none)) ∨ (p.j = j1 ∧ r = some (.candidate j1 0 (t.advance p))) := by
 have hF : 10 * SetTable.turns t.mask = 219 + 1 := by rw [T.mask]; rfl
 rw [SetTable.probe.eq_def,hF] at e
 cases he : f 0 == h with
 | false =>
   obtain ⟨j,h1,h2,h3⟩ := probe_free T he 13 (219 + 1) p R hp (by decide)
   exact .inl ⟨j,h1,h2,by rw [← e,h3]⟩
 | true =>
   rw [probe_one T he R] at e
   by_cases ej : p.j = j1
   ·rw [if_pos ej] at e
    exact .inr ⟨ej,e.symm⟩
   ·rw [if_neg ej] at e
    exact .inl ⟨p.j,by rw [R.j]; exact R.lt,ej,e.symm⟩
section
variable {prog : Program} {w : World} {A : Around} {E : Value → Shared → Prop} {s : Shared}
theorem items_plain : ∀ {ks : List Key} {us : List Value},ItemsAre (Aw prog w) ks us → ∀ u ∈ us,(∃ i t,u = .int i t) ∨ (∃ z t,u = .str z t)
 | _,_,.nil,u,h => by cases h
 | _,_,.cons hk h,u,hu => by
   rcases List.mem_cons.mp hu with rfl | hu
   ·rcases Bp hk with ⟨i,t,_,e⟩ | ⟨z,t,_,e⟩
    ·exact .inl ⟨i,t,e⟩
    ·exact .inr ⟨z,t,e⟩
   ·exact items_plain h u hu
theorem hbv {a : Addr} {ks : List Key} {Q : Bool → Shared → Prop} (hk : IsTupleKey (Aw prog w) s.heap ks a) (q : ∀ b,Q b s) : wpAny (model prog w) A (hashByValue 8 (.ref a)) Q E s := by
 obtain ⟨o,items,n,ho,hc,hd,hi⟩ := hk
 have hT : s.TypeIs (.ref a) "tuple" := ⟨o,ho,hc⟩
 rw [hashByValue.eq_def]
 show wpAny _ _ (specialOf (.ref a) (Str.ofString "__hash__") >>= _) _ _ _
 refine wpAny_bind (wpAny_specialOf hT F.slot_tuple_hash.lookup ?_)
 show wpAny _ _ (seqItems? (.ref a) >>= _) _ _ _
 refine wpAny_bind (wpAny_seqItems ho hd ?_)
 show wpAny _ _ (forIn items _ _ >>= _) _ _ _
 refine wpAny_bind (wpAny_forIn_array' _ (fun l b s' => (∀ u ∈ l,(∃ i t,u = Value.int i t) ∨ (∃ z t,u = Value.str z t)) ∧ s' = s) _ ?_ ?_ items _ ⟨fun u hu => items_plain hi u (by simpa using hu),rfl⟩)
 ·rintro x rest b s' ⟨hl,rfl⟩
  rcases hl x (List.mem_cons_self) with ⟨i,t,rfl⟩ | ⟨z,t,rfl⟩
  ·rw [hashByValue.eq_def]
   exact wpAny_pure ⟨fun u hu => hl u (List.mem_cons_of_mem _ hu),rfl⟩
  ·rw [hashByValue.eq_def]
   exact wpAny_pure (wpAny_pure (q _))
 ·rintro b s' ⟨_,rfl⟩
  obtain ⟨b1,b2⟩ := b
  cases b1 with
  | none => exact wpAny_pure (q _)
  | some r => exact wpAny_pure (q _)
theorem oac {a : Addr} {ks : List Key} {Q : Bool → Shared → Prop} (hk : IsTupleKey (Aw prog w) s.heap ks a) (q : Q false s) : wpAny (model prog w) A (ofAClassStatement 8 (.ref a)) Q E s := by
 obtain ⟨o,items,n,ho,hc,hd,hi⟩ := hk
 rw [ofAClassStatement.eq_def]
 show wpAny _ _ (typeOf (.ref a) >>= _) _ _ _
 refine wpAny_bind (wpAny_typeOf_ref ho ?_)
 rw [hc]
 show wpAny _ _ (seqItems? (.ref a) >>= _) _ _ _
 refine wpAny_bind (wpAny_seqItems ho hd ?_)
 show wpAny _ _ (forIn items _ _ >>= _) _ _ _
 refine wpAny_bind (wpAny_forIn_array' _ (fun l b s' => (∀ u ∈ l,(∃ i t,u = Value.int i t) ∨ (∃ z t,u = Value.str z t)) ∧ b.1 = none ∧ s' = s) _ ?_ ?_ items _ ⟨fun u hu => items_plain hi u (by simpa using hu),rfl,rfl⟩)
 ·rintro x rest b s' ⟨hl,_,rfl⟩
  rcases hl x (List.mem_cons_self) with ⟨i,t,rfl⟩ | ⟨z,t,rfl⟩
  ·rw [ofAClassStatement.eq_def]
   exact wpAny_pure ⟨fun u hu => hl u (List.mem_cons_of_mem _ hu),rfl,rfl⟩
  ·rw [ofAClassStatement.eq_def]
   exact wpAny_pure ⟨fun u hu => hl u (List.mem_cons_of_mem _ hu),rfl,rfl⟩
 ·rintro b s' ⟨_,e,rfl⟩
  obtain ⟨b1,b2⟩ := b
  cases e
  exact wpAny_pure q
theorem seen {a : Addr} {ks : List Key} {Q : Bool → Shared → Prop} (hk : IsTupleKey (Aw prog w) s.heap ks a) {l : List Value} (hl : ∀ y ∈ l,∃ b ks',y = .ref b ∧ IsTupleKey (Aw prog w) s.heap ks' b) (q : Q false s) :
 wpAny (model prog w) A (searchCouldBeSeen (.ref a) l) Q E s := by
 rw [searchCouldBeSeen.eq_def]
 refine wpAny_bind (wpAny_forIn_list _ (fun l b s' => (∀ y ∈ l,∃ b ks',y = .ref b ∧ IsTupleKey (Aw prog w) s.heap ks' b) ∧ b.1 = none ∧ s' = s) _ ?_ ?_ l _ ⟨hl,rfl,rfl⟩)
 ·rintro x rest b s' ⟨hl,_,rfl⟩
  obtain ⟨c,ks',rfl,hc⟩ := hl x (List.mem_cons_self)
  have go : ∀ y ∈ rest,∃ b ks',y = .ref b ∧ IsTupleKey (Aw prog w) s'.heap ks' b := fun y hy => hl y (List.mem_cons_of_mem _ hy)
  show wpAny _ _ (if (a == c || false) = true then _ else _) _ _ _
  rw [Bool.or_false]
  by_cases e : (a == c) = true
  ·rw [if_pos e]
   exact wpAny_pure ⟨go,rfl,rfl⟩
  ·rw [if_neg e]
   refine wpAny_bind ((tupleKind (Aw prog w)).quiet hk ?_)
   refine wpAny_bind ((tupleKind (Aw prog w)).quiet hc ?_)
   refine wpAny_bind (oac hk ?_)
   refine wpAny_bind (oac hc ?_)
   exact wpAny_pure ⟨go,rfl,rfl⟩
 ·rintro b s' ⟨_,e,rfl⟩
  obtain ⟨b1,b2⟩ := b
  cases e
  exact wpAny_pure q
theorem fits1 {t : SetTable} {j1 : Nat} (T : Tb1 t j1) : t.fits 1 = true := by
 unfold SetTable.fits SetTable.fill
 rw [T.place,T.dum,T.mask]
 rfl
theorem srch {S a b : Addr} {ka kb : List Key} {o : Obj} {ep : Nat} {t : SetTable} {h1 : Int} {j1 : Nat} (ho : s.heap.get? S = some o) (hd : o.data = .set #[(h1,.ref a)] ep t) (T : Tb1 t j1)
 (ha : IsTupleKey (Aw prog w) s.heap ka a) (hb : IsTupleKey (Aw prog w) s.heap kb b) (ne : ka ≠ kb) (hu : A.units < cLine) {h : Int} {Q : SetFound → Shared → Prop} (q : ∀ j,j < 8 → j ≠ j1 → Q (.free j false) s) :
 ∀ (F n : Nat) (stand : Option SetTable.Probe) (p : SetTable.Probe),stand.getD (t.probeStart h) = p → Rd1 p → p.perturb < 32 ^ n → n ≤ 13 → (n + 2 ≤ F ∨ (p.j ≠ j1 ∧ 1 ≤ F)) →
  wpAny (model prog w) A (setSearchFrom S (.ref b) h true F stand) Q E s
 | 0,n,stand,p,es,R,hp,hn,hF => by omega
 | F + 1,n,stand,p,es,R,hp,hn,hF => by
   have hp13 : p.perturb < 32 ^ 13 := Nat.lt_of_lt_of_le hp (Nat.pow_le_pow_right (by decide) hn)
   rw [setSearchFrom.eq_def]
   refine wpAny_bind (wpAny_setState_of ho hd (fits1 T) ?_)
   have hg : t.gaveWay = false := by unfold SetTable.gaveWay; rw [T.mask]; rfl
   show wpAny _ _ (if t.gaveWay = true then _ else _) _ _ _
   rw [hg,es]
   show wpAny _ _ (match SetTable.probe t _ h p with | some met => _ | _ => _) _ _ _
   split
   ·rename_i met heq
    rcases probe_cases T R hp13 heq with ⟨j,hj8,hj1,e⟩ | ⟨ej,e⟩
    ·cases e
     exact wpAny_pure (q j hj8 hj1)
    ·cases e
     have R2 := adv1 T R
     have next : wpAny (model prog w) A (setSearchFrom S (.ref b) h true F (some (t.advance p))) Q E s := by
      rcases hF with hF | ⟨hF,_⟩
      ·cases n with
       | zero =>
         have h0 : p.perturb = 0 := by simpa using hp
         refine srch ho hd T ha hb ne hu q F 0 (some (t.advance p)) (t.advance p) rfl R2.1 (by rw [R2.2.1,h0]; decide) (by decide) (.inr ⟨?_,by omega⟩)
         rw [R2.1.j,R2.2.2,h0,← ej,R.j]
         have := R.lt
         omega
       | succ n => exact srch ho hd T ha hb ne hu q F n (some (t.advance p)) (t.advance p) rfl R2.1 (by rw [R2.2.1]; rw [Nat.pow_succ] at hp; omega) (by omega) (.inl (by omega))
      ·exact absurd ej hF
     have hsm : t.sameMemory t.moves t.mask = some true := by unfold SetTable.sameMemory; rw [if_pos (by simp)]
     have hsl : t.slot j1 = .live 0 := by rw [slot1 T,if_pos rfl]
     show wpAny _ _ (if (!t.led) = true then _ else _) _ _ _
     cases hl : t.led with
     | true =>
       show wpAny _ _ (holding [Value.ref a] (eqBool (.ref a) (.ref b)) >>= _) _ _ _
       refine wpAny_bind (wpAny_holding ((tupleKind (Aw prog w)).eqBool hu ha hb ?_))
       rw [decide_eq_false ne]
       refine wpAny_bind (wpAny_setState_of ho hd (fits1 T) ?_)
       show wpAny _ _ (match t.sameMemory t.moves t.mask with | some same => _ | _ => _) _ _ _
       rw [hsm]
       show wpAny _ _ (match (if true = true then t.slot j1 else .empty) with | .live i' => _ | _ => _) _ _ _
       rw [if_pos rfl,hsl]
       show wpAny _ _ (isSame (.ref a) (.ref a) >>= _) _ _ _
       refine wpAny_bind (wpAny_isSame_ref_self ?_)
       exact next
     | false =>
       show wpAny _ _ (searchCouldBeSeen (.ref b) _ >>= _) _ _ _
       refine wpAny_bind (seen hb ?_ ?_)
       ·intro y hy
        obtain ⟨z,hz,rfl⟩ := List.mem_map.mp hy
        have := Array.mem_toList_iff.mp hz
        rw [Array.mem_filter] at this
        have := this.1
        simp only [List.mem_toArray,List.mem_cons,List.not_mem_nil,or_false] at this
        subst this
        exact ⟨a,ka,rfl,ha⟩
       show wpAny _ _ (holding [Value.ref a] (eqBool (.ref a) (.ref b)) >>= _) _ _ _
       refine wpAny_bind (wpAny_holding ((tupleKind (Aw prog w)).eqBool hu ha hb ?_))
       rw [decide_eq_false ne]
       refine wpAny_bind (wpAny_setState_of ho hd (fits1 T) ?_)
       show wpAny _ _ (match t.sameMemory t.moves t.mask with | some same => _ | _ => _) _ _ _
       rw [hsm]
       show wpAny _ _ (match (if true = true then t.slot j1 else .empty) with | .live i' => _ | _ => _) _ _ _
       rw [if_pos rfl,hsl]
       show wpAny _ _ (isSame (.ref a) (.ref a) >>= _) _ _ _
       refine wpAny_bind (wpAny_isSame_ref_self ?_)
       exact next
   ·rename_i hno
    rcases probe_cases T R hp13 rfl with ⟨j,_,_,e⟩ | ⟨_,e⟩
    ·exact absurd e (hno _)
    ·exact absurd e (hno _)
def tbP (b : Bool) (t : SetTable) : SetTable := if b = true then t else { t with plain := false }
theorem addH {S a : Addr} {ks : List Key} {o : Obj} {es : Array (Int × Value)} {ep : Nat} {t : SetTable} {h : Int} {F : Nat} {Q : Bool → Shared → Prop} (ho : s.heap.get? S = some o) (hd : o.data = .set es ep t) (hf : t.fits es.size = true)
 (ha : IsTupleKey (Aw prog w) s.heap ks a) (C : Nat → Prop) (hs : ∀ Q' : SetFound → Shared → Prop,(∀ j,C j → Q' (.free j false) s) → wpAny (model prog w) A (setSearch S (.ref a) h true) Q' E s)
 (full : ∀ j b,C j → (tbP b (t.put j).1).tooFull = false) (hsz : ∀ j,C j → (SetTable.insertAt es (t.put j).2 (h,Value.ref a)).size ≤ sizeLine)
 (q : ∀ j b,C j → Q true { s with heap := s.heap.update S (Obj.putSet (SetTable.insertAt es (t.put j).2 (h,.ref a)) (tbP b (t.put j).1)) }) : wpAny (model prog w) A (setAddHashedIn S (.ref a) h (F + 1)) Q E s := by
 rw [setAddHashedIn.eq_def]
 refine wpAny_bind (wpAny_setState_of ho hd hf ?_)
 show wpAny _ _ (setSearch S (.ref a) h true >>= _) _ _ _
 refine wpAny_bind (hs _ fun j hj => ?_)
 refine wpAny_bind (wpAny_setState_of ho hd hf ?_)
 have jp : ∀ b,wpAny (model prog w) A (storeSet S (SetTable.insertAt es (t.put j).2 (h,.ref a)) (tbP b (t.put j).1) >>= fun _ => if (!false && (tbP b (t.put j).1).tooFull) = true then (do let r ← setRelay S (SetTable.grown (es.size + 1)); (fun _ => pure true) r) else pure true) Q E s := fun b => by
  refine wpAny_bind (wpAny_storeSet_of ho hd ?_ (hsz j hj))
  rw [full j b hj]
  exact wpAny_pure (q j b hj)
 show wpAny _ _ (if (t.put j).1.plain = true then _ else _) _ _ _
 cases (t.put j).1.plain with
 | true =>
   show wpAny _ _ (hashByValue 8 (.ref a) >>= _) _ _ _
   exact wpAny_bind (hbv ha fun b => jp b)
 | false => exact jp true
def St0 (h : Heap) (S : Addr) : Prop := ∃ o ep t,h.get? S = some o ∧ o.ExactSet ∧ o.data = .set #[] ep t ∧ t.mask = 7 ∧ t.place = #[] ∧ t.dummies = #[]
def St1 (h : Heap) (S a : Addr) : Prop := ∃ o ep t h1 j1,h.get? S = some o ∧ o.ExactSet ∧ o.data = .set #[(h1,.ref a)] ep t ∧ Tb1 t j1
def StN (h : Heap) (S : Addr) (n : Nat) : Prop := ∃ o es ep t,h.get? S = some o ∧ o.ExactSet ∧ o.data = .set es ep t ∧ t.fits es.size = true ∧ es.size = n
theorem St0.n {h : Heap} {S : Addr} (x : St0 h S) : StN h S 0 := by
 obtain ⟨o,ep,t,h1,h2,h3,h4,h5,h6⟩ := x
 refine ⟨o,#[],ep,t,h1,h2,h3,?_,rfl⟩
 unfold SetTable.fits SetTable.fill
 rw [h4,h5,h6]
 rfl
theorem St1.n {h : Heap} {S a : Addr} (x : St1 h S a) : StN h S 1 := by
 obtain ⟨o,ep,t,h1,j1,h2,h3,h4,h5⟩ := x
 exact ⟨o,_,ep,t,h2,h3,h4,fits1 h5,rfl⟩
theorem put_same {h : Heap} {S : Addr} (es : Array (Int × Value)) (t : SetTable) : Heap.SameBut S h (h.update S (Obj.putSet es t)) := ⟨Heap.size_update _ _ _,fun b hb => Heap.get?_update_other _ _ (Ne.symm hb)⟩
theorem put_get {h : Heap} {S : Addr} {o : Obj} {es0 es : Array (Int × Value)} {ep : Nat} {t0 t : SetTable} (ho : h.get? S = some o) (hx : o.ExactSet) (hd : o.data = .set es0 ep t0) :
 ∃ o',(h.update S (Obj.putSet es t)).get? S = some o' ∧ o'.ExactSet ∧ o'.data = .set es (ep + 1) t := by
 obtain ⟨c,d,dt,sl⟩ := o
 obtain ⟨rfl,rfl,rfl⟩ := hx
 cases hd
 exact ⟨_,Heap.get?_update_self (Obj.putSet es t) ho rfl,⟨rfl,rfl,rfl⟩,rfl⟩
theorem add0 {S a : Addr} {ks : List Key} {h : Int} {F : Nat} {Q : Bool → Shared → Prop} (hS : St0 s.heap S) (ha : IsTupleKey (Aw prog w) s.heap ks a)
 (q : ∀ h',Heap.SameBut S s.heap h' → St1 h' S a → Q true { s with heap := h' }) : wpAny (model prog w) A (setAddHashedIn S (.ref a) h (F + 1)) Q E s := by
 obtain ⟨o,ep,t,ho,hx,hd,hm,hp,hdu⟩ := hS
 have put : ∀ j,t.put j = ({ t with place := #[j] },0) := fun j => by
  unfold SetTable.put
  rw [hp,hdu,below0,has0]
  show (_,_) = _
  rw [if_neg (by decide)]
  have : SetTable.insertAt (#[] : Array Nat) 0 j = #[j] := by simp [SetTable.insertAt]
  rw [this]
 refine addH ho hd ?_ ha (fun _ => True) ?_ ?_ ?_ ?_
 ·unfold SetTable.fits SetTable.fill
  rw [hm,hp,hdu]
  rfl
 ·intro Q' q'
  rw [setSearch.eq_def,setSearchFrom.eq_def]
  refine wpAny_bind (wpAny_setState_of ho hd ?_ ?_)
  ·unfold SetTable.fits SetTable.fill
   rw [hm,hp,hdu]
   rfl
  have hg : t.gaveWay = false := by unfold SetTable.gaveWay; rw [hm]; rfl
  show wpAny _ _ (if t.gaveWay = true then _ else _) _ _ _
  rw [hg]
  show wpAny _ _ (match SetTable.probe t _ h (t.probeStart h) with | some met => _ | _ => _) _ _ _
  have pr : ∀ f,SetTable.probe t f h (t.probeStart h) = some (.empty (t.probeStart h).j none) := fun f => by
   have hF : 10 * SetTable.turns t.mask = 219 + 1 := by rw [hm]; rfl
   rw [SetTable.probe.eq_def,hF,SetTable.probe.go.eq_def]
   simp only [slot0 hp hdu]
   rfl
  rw [pr]
  exact wpAny_pure (q' _ trivial)
 ·intro j b _
  rw [put]
  unfold SetTable.tooFull SetTable.fill tbP
  cases b <;> simp [hm,hdu]
 ·intro j _
  rw [put]
  simp [SetTable.insertAt,sizeLine_eq]
 ·intro j b _
  rw [put]
  refine q _ (put_same _ _) ?_
  obtain ⟨o',g1,g2,g3⟩ := put_get (es := SetTable.insertAt #[] 0 (h,.ref a)) (t := tbP b { t with place := #[j] }) ho hx hd
  have e1 : SetTable.insertAt (#[] : Array (Int × Value)) 0 (h,Value.ref a) = #[(h,.ref a)] := by simp [SetTable.insertAt]
  rw [e1] at g1 g3
  show St1 (s.heap.update S (Obj.putSet (SetTable.insertAt #[] 0 (h,Value.ref a)) (tbP b { t with place := #[j] }))) S a
  rw [e1]
  refine ⟨o',ep + 1,tbP b { t with place := #[j] },h,j,g1,g2,g3,?_⟩
  unfold tbP
  cases b
  ·exact ⟨hm,rfl,hdu⟩
  ·exact ⟨hm,rfl,hdu⟩
theorem add1 {S a b : Addr} {ka kb : List Key} {h : Int} {F : Nat} {Q : Bool → Shared → Prop} (hS : St1 s.heap S a) (ha : IsTupleKey (Aw prog w) s.heap ka a) (hb : IsTupleKey (Aw prog w) s.heap kb b) (ne : ka ≠ kb) (hu : A.units < cLine)
 (q : ∀ h',Heap.SameBut S s.heap h' → StN h' S 2 → Q true { s with heap := h' }) : wpAny (model prog w) A (setAddHashedIn S (.ref b) h (F + 1)) Q E s := by
 obtain ⟨o,ep,t,h1,j1,ho,hx,hd,T⟩ := hS
 have put : ∀ j,∃ pl,pl.size = 2 ∧ t.put j = ({ t with place := pl },if j1 < j then 1 else 0) := fun j => by
  refine ⟨SetTable.insertAt #[j1] (if j1 < j then 1 else 0) j,?_,?_⟩
  ·by_cases e : j1 < j
   ·rw [if_pos e]; simp [SetTable.insertAt]
   ·rw [if_neg e]; simp [SetTable.insertAt]
  ·unfold SetTable.put
   rw [T.place,T.dum,below1,has0]
   show (_,_) = _
   simp only [Bool.false_eq_true,if_false]
 have es2 : ∀ j,(SetTable.insertAt #[(h1,Value.ref a)] (if j1 < j then 1 else 0) (h,Value.ref b)).size = 2 := fun j => by
  by_cases e : j1 < j
  ·rw [if_pos e]; simp [SetTable.insertAt]
  ·rw [if_neg e]; simp [SetTable.insertAt]
 refine addH ho hd (fits1 T) hb (fun _ => True) ?_ ?_ ?_ ?_
 ·intro Q' q'
  rw [setSearch.eq_def]
  obtain ⟨R,hp⟩ := start1 T h
  exact srch ho hd T ha hb ne hu (fun j _ _ => q' j trivial) 100000 13 none _ rfl R hp (Nat.le_refl _) (.inl (by decide))
 ·intro j c _
  obtain ⟨pl,h2,e⟩ := put j
  rw [e]
  unfold SetTable.tooFull SetTable.fill tbP
  cases c <;> simp [T.mask,T.dum,h2]
 ·intro j _
  obtain ⟨pl,h2,e⟩ := put j
  rw [e,es2,sizeLine_eq]
  decide
 ·intro j c _
  obtain ⟨pl,h2,e⟩ := put j
  rw [e]
  refine q _ (put_same _ _) ?_
  obtain ⟨o',g1,g2,g3⟩ := put_get (es := SetTable.insertAt #[(h1,Value.ref a)] (if j1 < j then 1 else 0) (h,.ref b)) (t := tbP c { t with place := pl }) ho hx hd
  refine ⟨o',_,_,_,g1,g2,g3,?_,es2 j⟩
  rw [es2]
  unfold SetTable.fits SetTable.fill tbP
  cases c <;> simp [T.mask,T.dum,h2]
end
section
variable {prog : Program} {w : World} {A : Around} {R : Result → Shared → Prop} {I : Addr} {fp wr : List Addr} {G : Array GenState → Array GenState → Prop} {n : Nat} {P : Nat → Value → Prop} {St : Nat → Shared → Prop}
theorem set_fillG (W : WalksS prog w A.in1 I fp wr G n P St) (S : Addr) (hS : S ∉ fp) (SP : Nat → Heap → Prop) (stay : ∀ i h h',SP i h → (∀ b o,b ∉ wr → h.get? b = some o → h'.get? b = some o) → SP i h')
 (add : ∀ i v (s : Shared) (Q : Bool → Shared → Prop) (E : Value → Shared → Prop),i < n → P i v → SP i s.heap → (∀ h' tk b,s.toks ≤ tk → Heap.SameBut S s.heap h' → SP (i + 1) h' → Q b { s with heap := h',toks := tk }) → wpAny (model prog w) A.in1 (setAdd S v) Q E s) :
 ∀ (k i : Nat) (s : Shared),n - i = k → i ≤ n → St i s → SP i s.heap → (∀ s',Moved (S :: wr) G s s' → SP n s'.heap → R (.ok (.ret .none)) s') →
  codeAny (model prog w) A (.builtin "set.update.loop" ⟨[.ref S,.ref I],[]⟩) R s := by
 have up : ∀ b ∈ wr,b ∈ S :: wr := fun b hb => List.mem_cons_of_mem _ hb
 intro k
 induction k with
 | zero =>
   intro i s hk hi hst hs hR
   have : i = n := by omega
   subst this
   refine codeAny_builtin PyProof.Rows.F.entry_set_update_loop ?_
   rw [Around.under_plainId PyProof.Rows.F.plain_set_update_loop _]
   show wpAny _ A.in1 (pyNext (.ref I) >>= _) _ _ s
   refine wpAny_bind (W.done s _ _ hst fun s' hm => ?_)
   show wpAny _ A.in1 (ret Value.none) _ _ s'
   exact wpAny_pure (hR s' (hm.mono up) (stay _ _ _ hs hm.heap))
 | succ k ih =>
   intro i s hk hi hst hs hR
   have hlt : i < n := by omega
   refine codeAny_builtin PyProof.Rows.F.entry_set_update_loop ?_
   rw [Around.under_plainId PyProof.Rows.F.plain_set_update_loop _]
   show wpAny _ A.in1 (pyNext (.ref I) >>= _) _ _ s
   refine wpAny_bind (W.item i s _ _ hlt hst fun v s' hP hst' hm => ?_)
   have hs' := stay _ _ _ hs hm.heap
   show wpAny _ A.in1 (holding [v] (setAdd S v) >>= _) _ _ s'
   refine wpAny_bind (wpAny_holding ?_)
   refine add i v s' _ _ hlt hP hs' fun h' tk b htk hsb hS2 => ?_
   refine wpAny_pure ⟨plainId_quiet PyProof.Rows.F.plain_set_update_loop _,ih (i + 1) _ (by omega) hlt (W.frame _ s' _ _ hst' htk fun b hb o e => ?_) hS2 fun s'' hm'' hS'' => ?_⟩
   ·rw [hsb.2 b (fun h : b = S => hS (by rw [← h]; exact hb))]; exact e
   ·refine hR s'' (Moved.trans W.gtrans ((hm.mono up).then_heap htk fun b o hb e => ?_) hm'') hS''
    rw [hsb.2 b (fun h : b = S => hb (by rw [h]; exact List.mem_cons_self))]; exact e
end
section
variable {prog : Program} {w : World} {A : Around} {E : Value → Shared → Prop} {s : Shared}
def SPt (prog : Program) (w : World) (S : Addr) (xs : List (Addr × List Key)) (i : Nat) (h : Heap) : Prop := (∀ x ∈ xs,IsTupleKey (Aw prog w) h x.2 x.1) ∧ (match i with | 0 => St0 h S | 1 => ∃ x,xs[0]? = some x ∧ St1 h S x.1 | n => StN h S n)
theorem key_kept {h h' : Heap} {ks : List Key} {a : Addr} (hk : IsTupleKey (Aw prog w) h ks a) (e : ∀ o,h.get? a = some o → h'.get? a = some o) : IsTupleKey (Aw prog w) h' ks a := by
 obtain ⟨o,it,n,ho,r⟩ := hk
 exact ⟨o,it,n,e o ho,r⟩
theorem SPt.stay {S : Addr} {xs : List (Addr × List Key)} {i : Nat} {h h' : Heap} {wr : List Addr} (hS : S ∉ wr) (hx : ∀ x ∈ xs,x.1 ∉ wr) (x : SPt prog w S xs i h) (e : ∀ b o,b ∉ wr → h.get? b = some o → h'.get? b = some o) : SPt prog w S xs i h' := by
 obtain ⟨h1,h2⟩ := x
 refine ⟨fun y hy => key_kept (h1 y hy) fun o ho => e _ _ (hx y hy) ho,?_⟩
 match i,h2 with
 | 0,⟨o,ep,t,ho,r⟩ => exact ⟨o,ep,t,e _ _ hS ho,r⟩
 | 1,⟨x,e0,o,ep,t,h1,j1,ho,r⟩ => exact ⟨x,e0,o,ep,t,h1,j1,e _ _ hS ho,r⟩
 | n + 2,⟨o,es,ep,t,ho,r⟩ => exact ⟨o,es,ep,t,e _ _ hS ho,r⟩
theorem SPt.add {S : Addr} {xs : List (Addr × List Key)} {i : Nat} {x : Addr × List Key} {Q : Bool → Shared → Prop} (hu : A.units < cLine) (h2 : xs.length ≤ 2) (nd : (xs.map (·.2)).Nodup) (hS : ∀ x ∈ xs,x.1 ≠ S) (hi : xs[i]? = some x) (sp : SPt prog w S xs i s.heap)
 (q : ∀ h' tk b,s.toks ≤ tk → Heap.SameBut S s.heap h' → SPt prog w S xs (i + 1) h' → Q b { s with heap := h',toks := tk }) : wpAny (model prog w) A (setAdd S (.ref x.1)) Q E s := by
 obtain ⟨h1,hst⟩ := sp
 have hx := h1 x (List.mem_of_getElem? hi)
 have kp : ∀ {h' : Heap},Heap.SameBut S s.heap h' → ∀ x ∈ xs,IsTupleKey (Aw prog w) h' x.2 x.1 := fun {h'} hs y hy => key_kept (h1 y hy) fun o ho => by rw [hs.2 _ (hS y hy)]; exact ho
 unfold setAdd
 refine wpAny_holding (wpAny_bind ((tupleKind (Aw prog w)).pyHash hu hx ?_))
 unfold setAddHashed
 refine wpAny_holding ?_
 have hil := (List.getElem?_eq_some_iff.mp hi).1
 match i,hi,hst with
 | 0,hi,hst =>
   exact add0 (F := 99999) (s := { s with toks := s.toks + _ }) hst hx fun h' hs st => q h' _ true (Nat.le_add_right _ _) hs ⟨kp hs,x,hi,st⟩
 | 1,hi,⟨y,e0,st⟩ =>
   have ne : y.2 ≠ x.2 := fun e => by
    obtain ⟨l0,g0⟩ := List.getElem?_eq_some_iff.mp e0
    obtain ⟨l1,g1⟩ := List.getElem?_eq_some_iff.mp hi
    have := (List.pairwise_iff_getElem.mp nd) 0 1 (by rw [List.length_map]; exact l0) (by rw [List.length_map]; exact l1) (by decide)
    rw [List.getElem_map,List.getElem_map,g0,g1] at this
    exact this e
   exact add1 (F := 99999) (s := { s with toks := s.toks + _ }) st (h1 y (List.mem_of_getElem? e0)) hx ne hu fun h' hs st => q h' _ true (Nat.le_add_right _ _) hs ⟨kp hs,st⟩
 | n + 2,hi,_ => omega
end
section
variable {prog : Program} {w : World} {A : Around} {E : Value → Shared → Prop} {s : Shared}
theorem call_set_keys {l : Addr} {items : Array Value} {xs : List (Addr × List Key)} {Q : Value → Shared → Prop} (hh : A.handled = none) (hu : A.units + 8 < cLine) (hl : s.heap.IsList l items) (hz : items.toList = xs.map fun x => Value.ref x.1) (hx2 : xs.length ≤ 2) (nd : (xs.map (·.2)).Nodup) (hk : ∀ x ∈ xs,IsTupleKey (Aw prog w) s.heap x.2 x.1)
 (h : ∀ (h' : Heap) (tk : Nat),StN h' s.heap.objs.size xs.length → (∀ b o,b < s.heap.objs.size → s.heap.get? b = some o → h'.get? b = some o) → Q (.ref s.heap.objs.size) { s with heap := h',toks := tk }) :
 wpAny (model prog w) A (call (.type "set") [.ref l]) Q E s := by
 obtain ⟨c,tl,hmro⟩ := F.called_set.mro
 have hmade := F.called_set.made
 have hsub := F.called_set.sub
 refine wpAny_call (codeAny_of_tree ?_)
 show wpAny _ _ (callAny (.type "set") _) _ _ _
 refine wpAny_pure ⟨Code.quiet_builtin _ (by decide +kernel),codeAny_builtin F.entry_type_call ?_⟩
 rw [Around.under_plain (weight_type_call_type "set" [.ref l] []) rfl]
 have h1 := F.called_set.notType
 have h2 := F.called_set.canCreate
 have hct := F.typeCall_set_1 (.ref l)
 repeat (any_goals (first | assumption | wp_step))
 refine codeAny_mono (code_set_new_1 (.ref l) (E := E) (Q₁ := fun obj s₁ => ∃ led : Bool,obj = .ref s.heap.objs.size ∧ s₁ = { s with heap := s.heap.push { cls := .type "set",dict := none,data := .set #[] 0 (.fresh 0 0 led) } }) fun led => ⟨led,rfl,rfl⟩) fun r s₁ hr => ?_
 cases r with
 | error e => exact hr
 | ok fl =>
   cases fl with
   | ret obj =>
     obtain ⟨led,rfl,rfl⟩ := hr
     have hS : (s.heap.push { cls := .type "set",dict := none,data := .set #[] 0 (.fresh 0 0 led) }).get? s.heap.objs.size = some { cls := .type "set",dict := none,data := .set #[] 0 (.fresh 0 0 led) } := Heap.get?_push_size _ rfl
     have hT : Shared.TypeIs { s with heap := s.heap.push { cls := .type "set",dict := none,data := .set #[] 0 (.fresh 0 0 led) } } (.ref s.heap.objs.size) "set" := ⟨_,hS,rfl⟩
     have hli := F.called_set.init.lookup
     have hbi := F.called_set.init.bind (.ref s.heap.objs.size)
     repeat (any_goals (first | assumption | wp_step))
     refine codeAny_mono (codeAny_call_builtin (R := wants (fun r s₂ => r = .none ∧ ∃ h' tk,s₂ = { s with heap := h',toks := tk } ∧ StN h' s.heap.objs.size xs.length ∧
      (∀ b o,b < s.heap.objs.size → s.heap.get? b = some o → h'.get? b = some o)) E) F.called_set.init.plain F.entry_set_init (check_set_init_1 hT ?_)) fun r₂ s₂ hr₂ => ?_
     ·obtain ⟨⟨ocls,odict,odata,oslots⟩,hol,hcl,nl,hdl⟩ := id hl
      simp only at hcl hdl
      subst hcl hdl
      have hol' : (s.heap.push { cls := .type "set",dict := none,data := .set #[] 0 (.fresh 0 0 led) }).get? l = some { cls := .type "list",dict := odict,data := .seq items nl,slots := oslots } := Heap.get?_push_of_some _ hol
      have hsls := F.sub_list_set
      have hslf := F.sub_list_frozenset
      have hne : (Value.type "list" == Value.type "dict") = false := by decide
      have hl1 : (s.heap.push { cls := .type "set",dict := none,data := .set #[] 0 (.fresh 0 0 led) }).IsList l items := ⟨_,hol',rfl,nl,rfl⟩
      unfold Builtin.«set.__init__» noKeywords Builtin.Frozenset.updateFrom
      generalize hPI : pyIter = PI
      wp_walk
      subst hPI
      refine wpAny_pyIter_list hl1 ?_
      refine wpAny_bind (wpAny_runValue ?_)
      have hlS : l < s.heap.objs.size := Heap.lt_size hol
      have hh3 : A.in1.in1.in1.handled = none := by simp [hh]
      have szp : (s.heap.push { cls := .type "set",dict := none,data := .set #[] 0 (.fresh 0 0 led) }).objs.size = s.heap.objs.size + 1 := Heap.size_push _ _
      have hneI : l ≠ (s.heap.push { cls := .type "set",dict := none,data := .set #[] 0 (.fresh 0 0 led) }).objs.size := by rw [szp]; exact Nat.ne_of_lt (Nat.lt_succ_of_lt hlS)
      have hSf : s.heap.objs.size ∉ [(s.heap.push { cls := .type "set",dict := none,data := .set #[] 0 (.fresh 0 0 led) }).objs.size,l] := by
       simp only [List.mem_cons,List.not_mem_nil,or_false,not_or]
       exact ⟨by rw [szp]; exact Nat.ne_of_lt (Nat.lt_succ_self _),Nat.ne_of_gt hlS⟩
      have hln : xs.length = items.size := by
       have := congrArg List.length hz
       simpa using this.symm
      have hval : ∀ (i : Nat) (v : Value),items[i]? = some v → ∃ x,xs[i]? = some x ∧ v = .ref x.1 := fun i v hv => by
       have hv : items.toList[i]? = some v := by rw [Array.getElem?_toList]; exact hv
       rw [hz,List.getElem?_map] at hv
       obtain ⟨x,h1,h2⟩ := Option.map_eq_some_iff.mp hv
       exact ⟨x,h1,h2.symm⟩
      have xlt : ∀ x ∈ xs,x.1 < s.heap.objs.size := fun x hx => by
       obtain ⟨o,_,_,ho,_⟩ := hk x hx
       exact Heap.lt_size ho
      refine set_fillG ((Walks.list hh3 _ l hneI items).toS) s.heap.objs.size hSf (SPt prog w s.heap.objs.size xs) (fun i h h' => SPt.stay ?a1 ?a2) (fun i v s1 Q1 E1 hi hP sp q1 => ?a3) (items.size - 0) 0 _ (by omega) (Nat.zero_le _) ⟨⟨_,Heap.get?_push_size _ rfl,rfl,rfl⟩,(hl1.push _)⟩ ?hS0 ?hR
      case a1 => rw [szp]; simp
      case a2 =>
       intro x hx
       rw [szp,List.mem_singleton]
       exact Nat.ne_of_lt (Nat.lt_succ_of_lt (xlt x hx))
      case a3 =>
       obtain ⟨x,hx,rfl⟩ := hval i v hP
       exact SPt.add (by simp [Around.in1]; omega) hx2 nd (fun x hx => Nat.ne_of_lt (xlt x hx)) hx sp q1
      case hS0 =>
       refine ⟨fun x hx => key_kept (hk x hx) fun o ho => Heap.get?_push_of_some _ (Heap.get?_push_of_some _ ho),?_⟩
       exact ⟨_,0,_,Heap.get?_push_of_some _ hS,⟨rfl,rfl,rfl⟩,rfl,rfl,rfl,rfl⟩
      case hR =>
       intro s' hm hS'
       have hS' : StN s'.heap s.heap.objs.size xs.length := by
        have hS' := hS'.2
        rw [← hln] at hS'
        match hn : xs.length,hS',hx2 with
        | 0,hS',_ => exact hS'.n
        | 1,⟨_,_,hS'⟩,_ => exact hS'.n
        | n + 2,hS',_ => exact hS'
       obtain ⟨h',g',d',tk',os'⟩ := s'
       have eg : g' = s.gens := hm.gens
       have ed : d' = s.drawn := hm.drawn
       have eo : os' = s.os := hm.os
       subst eg ed eo
       show wpAny _ _ _ _ _ _
       refine wpAny_pure ?_
       show wpAny _ _ (ret Value.none) _ _ _
       refine wpAny_pure ⟨rfl,h',tk',rfl,hS',fun b o hb e => ?_⟩
       refine hm.heap b o ?_ (Heap.get?_push_of_some _ (Heap.get?_push_of_some _ e))
       simp only [List.mem_cons,List.not_mem_nil,or_false,not_or]
       exact ⟨Nat.ne_of_lt hb,by rw [szp]; exact Nat.ne_of_lt (Nat.lt_succ_of_lt hb)⟩
     ·cases r₂ with
      | error e => exact hr₂
      | ok fl₂ =>
        cases fl₂ with
        | ret r =>
          obtain ⟨rfl,h',tk,rfl,hS',hk'⟩ := hr₂
          repeat (any_goals (first | assumption | wp_step))
          exact h _ _ hS' hk'
        | _ => exact hr₂.elim
   | _ => exact hr.elim
end
theorem vals_refsK : ∀ {xs : List (Addr × List Key)} {us : List Value},Vals (xs.map fun x => V.ref x.1) us → us = xs.map fun x => Value.ref x.1
 | [],_,r => by rw [List.map_nil] at r; cases r; rfl
 | x :: xs,_,r => by
   rw [List.map_cons] at r
   cases r with
   | cons h t => cases h; rw [vals_refsK t]; rfl
section
variable {X : Cx}
def tLenK (K : PySem.W.Frag) (te : TE) : TE := fun σ H Q => te σ H fun x H1 => ∃ (a : Addr) (xs : List (Addr × List Key)),x = .ref a ∧ SqL K H1 a (xs.map fun x => V.ref x.1) ∧ xs.length ≤ 2 ∧ (xs.map (·.2)).Nodup ∧ (∀ x ∈ xs,H1 x.1 = some (.tup (x.2.map kV))) ∧ Q (.int (xs.length : Nat)) H1
theorem pe_lenK {e : Expr} {te : TE} {p1 p2 p3 pos : Pos} (hh : X.A.handled = none) (hu : X.A.units + 64 < cLine) (g1 : Gl X "len") (m1 : X.mg "len" = none) (g2 : Gl X "set") (m2 : X.mg "set" = none) (he : PE X e te)
 (h1 : starEach [.Call (.Name "set" p2) [e] [] p3] X.env = [(false,eval (.Call (.Name "set" p2) [e] [] p3) X.env)] := by rfl) (h2 : starEach [e] X.env = [(false,eval e X.env)] := by rfl) :
 PE X (.Call (.Name "len" p1) [.Call (.Name "set" p2) [e] [] p3] [] pos) (tLenK X.K te) := by
 intro pins s σ H Q I h
 refine wpAny_Call_Name_kw (ld_blt I g1 m1 boot_len ?_ (by decide) (by decide))
 refine PyProof.Rows.callWith_builtin1 ?_ h1 rfl
 rw [h1]
 show wpAny _ _ (spliced ((false,eval (.Call (.Name "set" p2) [e] [] p3) X.env) :: backTo pos (starEach [] X.env))) _ _ s
 refine Calls.spliced_cons ?_
 refine wpAny_Call_Name_kw (ld_blt I g2 m2 boot_set ?_ (by decide) (by decide))
 refine PyProof.Rows.callWith_type1 ?_ h2 rfl
 rw [h2]
 show wpAny _ _ (spliced ((false,eval e X.env) :: backTo p3 (starEach [] X.env))) _ _ s
 refine Calls.spliced_cons (thn (he pins s σ H _ I h) fun u s1 ⟨x,H1,I1,r1,q1⟩ => ?_)
 obtain ⟨a,xs,rfl,hq,h2',nd,hk,q⟩ := q1
 cases r1
 refine Calls.spliced_nil ?_
 obtain ⟨its,rv,pl,_⟩ := I1.list hq
 refine call_set_keys (xs := xs) hh (by omega) pl.isList (by simpa using vals_refsK rv) h2' nd (fun x hx => key_of I1.hok (hk x hx)) fun h' tk hS hk => ?_
 refine Calls.spliced_nil ?_
 obtain ⟨o,es,ep,t,ho,hex,hd,hf,hn⟩ := hS
 refine call_len_set (s := { s1 with heap := h',toks := tk }) ho hex hd hf (by omega) ?_
 refine ⟨.int (xs.length : Nat),H1,(I1.kept (t' := tk + 1 + 1) fun b u e => hk b u (Heap.lt_size e) e),⟨_,by rw [hn]⟩,q⟩
end
theorem kit_list_any {K : PySem.W.Frag} : PySem.W.kitAny K (.type "list") [.type "list",.type "tuple"] = some true := by
 show (match PySem.W.kitOne K (.type "list") (.type "list") with | some true => some true | some false => PySem.W.kitAny K (.type "list") [.type "tuple"] | none => none) = some true
 rw [kit_same]
theorem Co {X : Cx} : CallR X (.builtin "isinstance") (fun xs H Q => ∃ (a : Addr) (ys : List V) (tp : Addr),xs = [.ref a,.ref tp] ∧ H a = some (.lst ys) ∧ SqT X.K H tp [.ty "list",.ty "tuple"] ∧ Q (.bl true) H) := by
 intro pins s σ H xs us Q I r h
 obtain ⟨a,ys,tp,rfl,ha,hq,q⟩ := h
 obtain ⟨u,w',rfl,rx,rc⟩ := vals2 r
 obtain rfl : u = Value.ref a := rx
 obtain rfl : w' = Value.ref tp := rc
 obtain ⟨_,_,n,_,h1⟩ := (show Cj X.prog X.w H s.heap a (.lst ys) from I.hok a _ ha)
 obtain ⟨its,rv,pl,_⟩ := I.tuple hq
 have ei : its = [.type "list",.type "tuple"] := by
  cases rv with
  | cons r1 r2 => cases r2 with
    | cons r3 r4 =>
      cases r4
      have r1 : _ = Value.type "list" := r1
      have r3 : _ = Value.type "tuple" := r3
      rw [r1,r3]
 obtain ⟨⟨oc,odd,odt,osl⟩,e1,hc,n1,dd⟩ := pl
 dsimp only at hc dd
 subst hc dd ei
 exact PySem.W.kia_tup PySem.W.kitx_list I.kIn ⟨_,h1,rfl⟩ e1 kit_list_any (fun z => nomatch z) fun tk => ⟨.bl true,H,I.tok _,rfl,q⟩
theorem kit_tuple_list {K : PySem.W.Frag} : PySem.W.kitOne K (.type "tuple") (.type "list") = some false := Bq (by decide +kernel) (by decide +kernel) (by decide +kernel)
theorem kit_tuple_any {K : PySem.W.Frag} : PySem.W.kitAny K (.type "tuple") [.type "list",.type "tuple"] = some true := by
 show (match PySem.W.kitOne K (.type "tuple") (.type "list") with | some true => some true | some false => PySem.W.kitAny K (.type "tuple") [.type "tuple"] | none => none) = some true
 rw [kit_tuple_list]
 show (match PySem.W.kitOne K (.type "tuple") (.type "tuple") with | some true => some true | some false => PySem.W.kitAny K (.type "tuple") [] | none => none) = some true
 rw [kit_same]
theorem call_isTT {X : Cx} : CallR X (.builtin "isinstance") (fun xs H Q => ∃ (a : Addr) (ys : List V) (tp : Addr),xs = [.ref a,.ref tp] ∧ H a = some (.tup ys) ∧ SqT X.K H tp [.ty "list",.ty "tuple"] ∧ Q (.bl true) H) := by
 intro pins s σ H xs us Q I r h
 obtain ⟨a,ys,tp,rfl,ha,hq,q⟩ := h
 obtain ⟨u,w',rfl,rx,rc⟩ := vals2 r
 obtain rfl : u = Value.ref a := rx
 obtain rfl : w' = Value.ref tp := rc
 obtain ⟨_,_,_,ob,h1,hcl,_⟩ := (show Cj X.prog X.w H s.heap a (.tup ys) from I.hok a _ ha)
 obtain ⟨its,rv,pl,_⟩ := I.tuple hq
 have ei : its = [.type "list",.type "tuple"] := by
  cases rv with
  | cons r1 r2 => cases r2 with
    | cons r3 r4 =>
      cases r4
      have r1 : _ = Value.type "list" := r1
      have r3 : _ = Value.type "tuple" := r3
      rw [r1,r3]
 obtain ⟨⟨oc,odd,odt,osl⟩,e1,hc,n1,dd⟩ := pl
 dsimp only at hc dd
 subst hc dd ei
 exact PySem.W.kia_tup PySem.W.kitx_tuple I.kIn ⟨_,h1,hcl⟩ e1 kit_tuple_any (fun z => nomatch z) fun tk => ⟨.bl true,H,I.tok _,rfl,q⟩
theorem pg_tupK {X : Cx} {pos : Pos} {es : List Expr} {k : Nat} {t : TGs} {n : Nat} (K : PySem.W.Frag) (hc : X.calm = true) (h : PGs X es t) (hK : X.K = K := by rfl) (hn : (assignEach es X.env).length = n := by rfl) (hst : (assignEach es X.env).findIdx? (·.1) = none := by rfl) : PG X (.Tuple es k pos) (gTup K n t) := by
 subst hK
 exact pg_tup hc h hn hst
open PySem PySem.Spec PyProof.Rows PySem.SeqAt
section
variable {X : Cx}
def rSameD (K : PySem.W.Frag) (b : Bool) : R2 := fun x y H Q => ∃ d,RdD K H x d ∧ RdD K H y d ∧ shaped d = true ∧ Q (.bl b) H
theorem op_eqSD (hu : X.A.units + 64 < cLine) : OpR X (compareOp .Eq) (rSameD X.K true) := by
 intro pins s σ H x y v u Q I rx ry ⟨d,hx,hy,sd,q⟩
 exact op_eqD hu pins s σ H x y v u Q I rx ry ⟨d,d,hx,hy,sd,sd,by rw [PySem.SeqAt.eqv_refl d (canLay_of_shaped sd)]; exact q⟩
theorem op_neSD (hu : X.A.units + 64 < cLine) : OpR X (compareOp .NotEq) (rSameD X.K false) := by
 intro pins s σ H x y v u Q I rx ry ⟨d,hx,hy,sd,q⟩
 exact op_neD hu pins s σ H x y v u Q I rx ry ⟨d,d,hx,hy,sd,sd,by rw [PySem.SeqAt.eqv_refl d (canLay_of_shaped sd)]; exact q⟩
end
section
variable {X : Cx}
theorem call_maxL (hc : X.calm = true) : CallR X (.builtin "max") (fun xs H Q => ∃ (p : Addr) (ns : List Int),xs = [.ref p] ∧ SqL X.K H p (ns.map V.int) ∧ 0 < ns.length ∧ ∀ m ∈ ns,(∀ a ∈ ns,a ≤ m) → Q (.int m) H) := by
 intro pins s σ H xs us Q I r h
 obtain ⟨p,ns,rfl,hq,hn,q⟩ := h
 obtain ⟨u,rfl,ru⟩ := vals1 r
 cases ru
 obtain ⟨its,rv,pl,hz⟩ := I.list hq
 have hi := intsAre_of rv
 obtain ⟨xs,ex⟩ := hi.allInts.items
 have el : numsOf its = ns := hi.numsOf
 have hl := pl.isList
 rw [ex] at hl
 have nx : numsOf (intItems xs).toList = xs.toList.map (·.1) := nums_intItems xs
 have en : xs.toList.map (·.1) = ns := by rw [← nx,← ex]; exact el
 have hsz : 0 < xs.size := by
  have : (xs.toList.map (·.1)).length = ns.length := by rw [en]
  rw [List.length_map,Array.length_toList] at this
  omega
 refine max_intList (I.ok.hd hc) hl hsz fun v h' tk hv hk => ?_
 obtain ⟨t,rfl⟩ := intItems_at hv
 have fe : (fun i j => decide (numAt xs i > numAt xs j)) = fun i j => decide ((fun k => - numAt xs k) i < (fun k => - numAt xs k) j) := by
  funext i j
  rw [decide_eq_decide]
  dsimp only
  omega
 obtain ⟨h1,h2⟩ := argBest_lt (fun k => - numAt xs k) (xs.size - 1)
 rw [← fe] at h1 h2
 refine ⟨.int _,H,I.kept (t' := tk) hk,⟨t,rfl⟩,q _ ?_ fun a ha => ?_⟩
 ·rw [← en,numAt_eq]; exact getD_mem (by rw [List.length_map,Array.length_toList]; omega)
 ·rw [← en] at ha
  obtain ⟨j,hj,rfl⟩ := mem_getD ha
  rw [List.length_map,Array.length_toList] at hj
  rw [← numAt_eq]
  have := h2 j (by omega)
  omega
def repZ (n : Nat) (z : Str) : Str := ⟨((List.replicate n z.cps.toList).flatten).toArray⟩
theorem foldl_repZ : ∀ (n : Nat) (a acc : Array Nat),List.foldl (fun x1 x2 => x1 ++ x2) acc (List.replicate n a) = acc ++ ((List.replicate n a.toList).flatten).toArray
 | 0,a,acc => by simp
 | n + 1,a,acc => by
   rw [List.replicate_succ,List.foldl_cons,foldl_repZ n,List.replicate_succ,List.flatten_cons]
   apply Array.ext'
   simp
theorem rep_len (n : Nat) (z : Str) : (repZ n z).length = n * z.length := by
 show ((List.replicate n z.cps.toList).flatten).toArray.size = _
 rw [List.size_toArray]
 simp [Str.length]
theorem op_mulS : OpR X (binaryOp .Mult) (fun x y H Q => ∃ z n,x = .str z ∧ y = .int n ∧ 0 ≤ n ∧ n ≤ 100 ∧ z.length ≤ 100 ∧ Q (.str (repZ n.toNat z)) H) := by
 intro pins s σ H x y v u Q I rx ry h
 obtain ⟨z,n,rfl,rfl,h0,h1,hz,q⟩ := h
 obtain ⟨t,rfl⟩ := rx
 obtain ⟨t',rfl⟩ := ry
 have hs : sizeLine = 16777216 := sizeLine_eq
 have hm : z.length * n.toNat ≤ 100 * 100 := Nat.mul_le_mul hz (by omega)
 refine P.mul_str ?_ ?_ ?_ ?_
 ·rw [Bool.or_eq_false_iff]
  exact ⟨decide_eq_false (by omega),decide_eq_false (by omega)⟩
 ·intro g1 _ g3
  have e : ((z.length * n.toNat : Nat) : Int) = (z.length : Int) * n := by rw [Int.natCast_mul,Int.toNat_of_nonneg h0]
  have : (z.length : Int) ≤ (2 ^ 63 - 1) / n := Int.le_ediv_of_mul_le (by omega) (by rw [← e]; omega)
  omega
 ·intro _ _
  exact decide_eq_false (by omega)
 ·have fin : ∀ (y : Str) (tk : Nat),y = repZ n.toNat z → ∃ v H',Inv X pins σ H' { s with toks := tk } ∧ RelV v (Value.str y s.toks) ∧ Q v H' := fun y tk e => ⟨.str y,H,I.tok _,⟨_,rfl⟩,by rw [e]; exact q⟩
  by_cases g : n < 1
  ·rw [if_pos g]
   have : n = 0 := by omega
   subst this
   exact ⟨by show 0 ≤ sizeLine; omega,fin _ _ rfl⟩
  ·rw [if_neg g]
   by_cases g2 : (n == 1 || z.length == 0) = true
   ·rw [if_pos g2]
    have e : z = repZ n.toNat z := by
       rw [Bool.or_eq_true,beq_iff_eq,beq_iff_eq] at g2
       rcases g2 with rfl | g2
       ·show z = ⟨((List.replicate 1 z.cps.toList).flatten).toArray⟩
        simp
       ·have : z.cps = #[] := Array.eq_empty_of_size_eq_zero g2
        obtain ⟨c⟩ := z
        dsimp only at this
        subst this
        unfold repZ
        simp
    exact ⟨.str z,H,I,⟨_,rfl⟩,by rw [← e] at q; exact q⟩
   ·rw [if_neg g2]
    have e : (⟨List.foldl (fun x1 x2 => x1 ++ x2) #[] (List.replicate n.toNat z.cps)⟩ : Str) = repZ n.toNat z := by rw [foldl_repZ]; unfold repZ; simp
    refine ⟨?_,fin _ _ e⟩
    rw [e,rep_len,Nat.mul_comm]
    omega
end
open PySem PyProof.Rows
structure MTop (K : PySem.W.Frag) (C : Addr) (m qual : Str) (st : Stmt) (ps : List Str) : Prop where
 ex : ∃ (f : Addr) (fd : FuncData),Fun K m qual st f fd ∧ Meth K C m f ∧ Df K fd ps []
theorem mtop_of {K : PySem.W.Frag} {h : Heap} {C f : Addr} {m qual : Str} {st : Stmt} {ps : List Str} {oc : Value} {od an : Option Addr} {osl : Array (Option Value)} {kV doc pm cdv ct : Value} (X : K.In h)
 (hb : ∀ (kV doc pm : Value) (an : Option Addr) (cdv ct : Value) (us : List Value),us.length = ps.length → bindArgs (PySem.W.fnOf m qual (Cy st) (Bu st) (Af st) .none kV doc pm an cdv ct) ⟨us,[]⟩ = pure (ps.zip us))
 (a : PySem.W.findIn K (.ref C) m = some (some (.ref f))) (i : PySem.W.isFn K (.ref f) = true) (l : K.lookup f = some ⟨oc,od,.func (PySem.W.fnOf m qual (Cy st) (Bu st) (Af st) .none kV doc pm an cdv ct),osl⟩)
 (c : PySem.W.codeIn K cdv qual = true) (k : PySem.W.keepIn K (.ref f) = true) : MTop (KOf X) C m qual st ps :=
 ⟨f,_,fun_mk l c k,⟨a,i,k⟩,.all fun us => hb kV doc pm an cdv ct us⟩
theorem methD_of {P : Program} {w : World} {K : PySem.W.Frag} {mg : Str → Option Value} {base : Heap} {C : Addr} {m qual : Str} {st : Stmt} {ps : List Str} {k : Nat} {sp : Sp} {CX : CXT} (c : Cls K C) (h : MTop K C m qual st ps) (ok : ∀ f fd,Fun K m qual st f fd → FnOk P w K mg base CX k f fd ps sp) : MethD P w K mg base CX k C m ps sp := by
 obtain ⟨f,fd,F,hm,hb⟩ := h.ex
 exact ⟨f,fd,c,hm,ok f fd F,hb⟩
end L2
namespace L2
open PySem PySem.Spec PyProof.Rows
section
variable {X : Cx}
end
section
variable {prog : Program} {w : World} {A : Around} {E : Value → Shared → Prop} {s : Shared}
theorem call_set_keysT {l : Addr} {items : Array Value} {xs : List (Addr × List Key)} {Q : Value → Shared → Prop} (hh : A.handled = none) (hu : A.units + 8 < cLine) (hl : s.heap.IsTuple l items) (hz : items.toList = xs.map fun x => Value.ref x.1) (hx2 : xs.length ≤ 2) (nd : (xs.map (·.2)).Nodup) (hk : ∀ x ∈ xs,IsTupleKey (Aw prog w) s.heap x.2 x.1)
 (h : ∀ (h' : Heap) (tk : Nat),StN h' s.heap.objs.size xs.length → (∀ b o,b < s.heap.objs.size → s.heap.get? b = some o → h'.get? b = some o) → Q (.ref s.heap.objs.size) { s with heap := h',toks := tk }) :
 wpAny (model prog w) A (call (.type "set") [.ref l]) Q E s := by
 obtain ⟨c,tl,hmro⟩ := F.called_set.mro
 have hmade := F.called_set.made
 have hsub := F.called_set.sub
 refine wpAny_call (codeAny_of_tree ?_)
 show wpAny _ _ (callAny (.type "set") _) _ _ _
 refine wpAny_pure ⟨Code.quiet_builtin _ (by decide +kernel),codeAny_builtin F.entry_type_call ?_⟩
 rw [Around.under_plain (weight_type_call_type "set" [.ref l] []) rfl]
 have h1 := F.called_set.notType
 have h2 := F.called_set.canCreate
 have hct := F.typeCall_set_1 (.ref l)
 repeat (any_goals (first | assumption | wp_step))
 refine codeAny_mono (code_set_new_1 (.ref l) (E := E) (Q₁ := fun obj s₁ => ∃ led : Bool,obj = .ref s.heap.objs.size ∧ s₁ = { s with heap := s.heap.push { cls := .type "set",dict := none,data := .set #[] 0 (.fresh 0 0 led) } }) fun led => ⟨led,rfl,rfl⟩) fun r s₁ hr => ?_
 cases r with
 | error e => exact hr
 | ok fl =>
   cases fl with
   | ret obj =>
     obtain ⟨led,rfl,rfl⟩ := hr
     have hS : (s.heap.push { cls := .type "set",dict := none,data := .set #[] 0 (.fresh 0 0 led) }).get? s.heap.objs.size = some { cls := .type "set",dict := none,data := .set #[] 0 (.fresh 0 0 led) } := Heap.get?_push_size _ rfl
     have hT : Shared.TypeIs { s with heap := s.heap.push { cls := .type "set",dict := none,data := .set #[] 0 (.fresh 0 0 led) } } (.ref s.heap.objs.size) "set" := ⟨_,hS,rfl⟩
     have hli := F.called_set.init.lookup
     have hbi := F.called_set.init.bind (.ref s.heap.objs.size)
     repeat (any_goals (first | assumption | wp_step))
     refine codeAny_mono (codeAny_call_builtin (R := wants (fun r s₂ => r = .none ∧ ∃ h' tk,s₂ = { s with heap := h',toks := tk } ∧ StN h' s.heap.objs.size xs.length ∧
      (∀ b o,b < s.heap.objs.size → s.heap.get? b = some o → h'.get? b = some o)) E) F.called_set.init.plain F.entry_set_init (check_set_init_1 hT ?_)) fun r₂ s₂ hr₂ => ?_
     ·obtain ⟨⟨ocls,odict,odata,oslots⟩,hol,hcl,nl,hdl⟩ := id hl
      simp only at hcl hdl
      subst hcl hdl
      have hol' : (s.heap.push { cls := .type "set",dict := none,data := .set #[] 0 (.fresh 0 0 led) }).get? l = some { cls := .type "tuple",dict := odict,data := .seq items nl,slots := oslots } := Heap.get?_push_of_some _ hol
      have hsls := F.sub_tuple_set
      have hslf := F.sub_tuple_frozenset
      have hne : (Value.type "tuple" == Value.type "dict") = false := by decide
      have hl1 : (s.heap.push { cls := .type "set",dict := none,data := .set #[] 0 (.fresh 0 0 led) }).IsTuple l items := ⟨_,hol',rfl,nl,rfl⟩
      unfold Builtin.«set.__init__» noKeywords Builtin.Frozenset.updateFrom
      generalize hPI : pyIter = PI
      wp_walk
      subst hPI
      refine wpAny_pyIter_tuple hl1 ?_
      refine wpAny_bind (wpAny_runValue ?_)
      have hlS : l < s.heap.objs.size := Heap.lt_size hol
      have hh3 : A.in1.in1.in1.handled = none := by simp [hh]
      have szp : (s.heap.push { cls := .type "set",dict := none,data := .set #[] 0 (.fresh 0 0 led) }).objs.size = s.heap.objs.size + 1 := Heap.size_push _ _
      have hneI : l ≠ (s.heap.push { cls := .type "set",dict := none,data := .set #[] 0 (.fresh 0 0 led) }).objs.size := by rw [szp]; exact Nat.ne_of_lt (Nat.lt_succ_of_lt hlS)
      have hSf : s.heap.objs.size ∉ [(s.heap.push { cls := .type "set",dict := none,data := .set #[] 0 (.fresh 0 0 led) }).objs.size,l] := by
       simp only [List.mem_cons,List.not_mem_nil,or_false,not_or]
       exact ⟨by rw [szp]; exact Nat.ne_of_lt (Nat.lt_succ_self _),Nat.ne_of_gt hlS⟩
      have hln : xs.length = items.size := by
       have := congrArg List.length hz
       simpa using this.symm
      have hval : ∀ (i : Nat) (v : Value),items[i]? = some v → ∃ x,xs[i]? = some x ∧ v = .ref x.1 := fun i v hv => by
       have hv : items.toList[i]? = some v := by rw [Array.getElem?_toList]; exact hv
       rw [hz,List.getElem?_map] at hv
       obtain ⟨x,h1,h2⟩ := Option.map_eq_some_iff.mp hv
       exact ⟨x,h1,h2.symm⟩
      have xlt : ∀ x ∈ xs,x.1 < s.heap.objs.size := fun x hx => by
       obtain ⟨o,_,_,ho,_⟩ := hk x hx
       exact Heap.lt_size ho
      refine set_fillG ((Walks.tuple hh3 _ l hneI items).toS) s.heap.objs.size hSf (SPt prog w s.heap.objs.size xs) (fun i h h' => SPt.stay ?a1 ?a2) (fun i v s1 Q1 E1 hi hP sp q1 => ?a3) (items.size - 0) 0 _ (by omega) (Nat.zero_le _) ⟨⟨_,Heap.get?_push_size _ rfl,rfl,rfl⟩,(hl1.push _)⟩ ?hS0 ?hR
      case a1 => rw [szp]; simp
      case a2 =>
       intro x hx
       rw [szp,List.mem_singleton]
       exact Nat.ne_of_lt (Nat.lt_succ_of_lt (xlt x hx))
      case a3 =>
       obtain ⟨x,hx,rfl⟩ := hval i v hP
       exact SPt.add (by simp [Around.in1]; omega) hx2 nd (fun x hx => Nat.ne_of_lt (xlt x hx)) hx sp q1
      case hS0 =>
       refine ⟨fun x hx => key_kept (hk x hx) fun o ho => Heap.get?_push_of_some _ (Heap.get?_push_of_some _ ho),?_⟩
       exact ⟨_,0,_,Heap.get?_push_of_some _ hS,⟨rfl,rfl,rfl⟩,rfl,rfl,rfl,rfl⟩
      case hR =>
       intro s' hm hS'
       have hS' : StN s'.heap s.heap.objs.size xs.length := by
        have hS' := hS'.2
        rw [← hln] at hS'
        match hn : xs.length,hS',hx2 with
        | 0,hS',_ => exact hS'.n
        | 1,⟨_,_,hS'⟩,_ => exact hS'.n
        | n + 2,hS',_ => exact hS'
       obtain ⟨h',g',d',tk',os'⟩ := s'
       have eg : g' = s.gens := hm.gens
       have ed : d' = s.drawn := hm.drawn
       have eo : os' = s.os := hm.os
       subst eg ed eo
       show wpAny _ _ _ _ _ _
       refine wpAny_pure ?_
       show wpAny _ _ (ret Value.none) _ _ _
       refine wpAny_pure ⟨rfl,h',tk',rfl,hS',fun b o hb e => ?_⟩
       refine hm.heap b o ?_ (Heap.get?_push_of_some _ (Heap.get?_push_of_some _ e))
       simp only [List.mem_cons,List.not_mem_nil,or_false,not_or]
       exact ⟨Nat.ne_of_lt hb,by rw [szp]; exact Nat.ne_of_lt (Nat.lt_succ_of_lt hb)⟩
     ·cases r₂ with
      | error e => exact hr₂
      | ok fl₂ =>
        cases fl₂ with
        | ret r =>
          obtain ⟨rfl,h',tk,rfl,hS',hk'⟩ := hr₂
          repeat (any_goals (first | assumption | wp_step))
          exact h _ _ hS' hk'
        | _ => exact hr₂.elim
   | _ => exact hr.elim
end
section
variable {X : Cx}
def tLenKT (K : PySem.W.Frag) (te : TE) : TE := fun σ H Q => te σ H fun x H1 => ∃ (a : Addr) (xs : List (Addr × List Key)),x = .ref a ∧ SqT K H1 a (xs.map fun x => V.ref x.1) ∧ xs.length ≤ 2 ∧ (xs.map (·.2)).Nodup ∧ (∀ x ∈ xs,H1 x.1 = some (.tup (x.2.map kV))) ∧ Q (.int (xs.length : Nat)) H1
theorem pe_lenKT {e : Expr} {te : TE} {p1 p2 p3 pos : Pos} (hh : X.A.handled = none) (hu : X.A.units + 64 < cLine) (g1 : Gl X "len") (m1 : X.mg "len" = none) (g2 : Gl X "set") (m2 : X.mg "set" = none) (he : PE X e te)
 (h1 : starEach [.Call (.Name "set" p2) [e] [] p3] X.env = [(false,eval (.Call (.Name "set" p2) [e] [] p3) X.env)] := by rfl) (h2 : starEach [e] X.env = [(false,eval e X.env)] := by rfl) :
 PE X (.Call (.Name "len" p1) [.Call (.Name "set" p2) [e] [] p3] [] pos) (tLenKT X.K te) := by
 intro pins s σ H Q I h
 refine wpAny_Call_Name_kw (ld_blt I g1 m1 boot_len ?_ (by decide) (by decide))
 refine PyProof.Rows.callWith_builtin1 ?_ h1 rfl
 rw [h1]
 show wpAny _ _ (spliced ((false,eval (.Call (.Name "set" p2) [e] [] p3) X.env) :: backTo pos (starEach [] X.env))) _ _ s
 refine Calls.spliced_cons ?_
 refine wpAny_Call_Name_kw (ld_blt I g2 m2 boot_set ?_ (by decide) (by decide))
 refine PyProof.Rows.callWith_type1 ?_ h2 rfl
 rw [h2]
 show wpAny _ _ (spliced ((false,eval e X.env) :: backTo p3 (starEach [] X.env))) _ _ s
 refine Calls.spliced_cons (thn (he pins s σ H _ I h) fun u s1 ⟨x,H1,I1,r1,q1⟩ => ?_)
 obtain ⟨a,xs,rfl,hq,h2',nd,hk,q⟩ := q1
 cases r1
 refine Calls.spliced_nil ?_
 obtain ⟨its,rv,pl,_⟩ := I1.tuple hq
 refine call_set_keysT (xs := xs) hh (by omega) pl (by simpa using vals_refsK rv) h2' nd (fun x hx => key_of I1.hok (hk x hx)) fun h' tk hS hk => ?_
 refine Calls.spliced_nil ?_
 obtain ⟨o,es,ep,t,ho,hex,hd,hf,hn⟩ := hS
 refine call_len_set (s := { s1 with heap := h',toks := tk }) ho hex hd hf (by omega) ?_
 refine ⟨.int (xs.length : Nat),H1,(I1.kept (t' := tk + 1 + 1) fun b u e => hk b u (Heap.lt_size e) e),⟨_,by rw [hn]⟩,q⟩
end
structure EqO (K : PySem.W.Frag) (C : Addr) : Prop where
 eq : PySem.W.findIn K (.ref C) "__eq__" = some (some (.builtin "object.__eq__"))
 ob : PySem.W.mroIn K C (.type "object") = some true
 no : PySem.W.mroIn K C (.type "str") = some false
theorem str_eq_declines_inst (b : Str) (u : Tok) (l : Addr) (c : Value) (dd : Option Addr) (sl : Array (Option Value)) :
 Meets (Builtin.«str.__eq__» ⟨[.str b u,.ref l],[]⟩) (fun _ R s => s.heap.get? l = some { cls := c,dict := dd,data := .plain,slots := sl } ∧ R (.ok (.ret .notImplemented)) s) :=
 .of_wp fun prog w A R s h => by obtain ⟨hp,g,d,tk,os⟩ := s; obtain ⟨hl,h⟩ := h; wp_walk using AutoSeq1.wpAny_loadPart' hl,wpAny_load hl; exact ⟨_,rfl,h⟩
section
variable {P : Program} {w : World} {K : PySem.W.Frag} {s : Shared} {x C dx : Addr} {A : Around} {E : Value → Shared → Prop}
theorem inst_at (e : s.heap.get? x = some (PySem.W.instObj C dx)) : PySem.W.Looks (model P w) s.heap (typeOf (.ref x)) (.ref C) := (PySem.W.Looks.ld e).andThen .now
theorem call_eqO {b : Value} {Q : Value → Shared → Prop} (X : K.In s.heap) (o : EqO K C) (e : s.heap.get? x = some (PySem.W.instObj C dx))
 (h : wpAny (model P w) A.in1 (Builtin.«object.__eq__» ⟨[.ref x,b],[]⟩) (fun f s' => ∃ v,f = .done (.ret v) ∧ Q v s') E s) : wpAny (model P w) A (call (.builtin "object.__eq__") [.ref x,b]) Q E s := by
 refine wpAny_call (codeAny_call_builtin PySem.F.cmp_object.eq.plain PySem.F.cmpEntry_eq (PySem.W.check_slot PySem.F.cmpKind_eq PySem.F.cmpSplit_eq ((inst_at e).andThen (PySem.W.looks_mroIn X o.ob)) (PySem.F.cmpArgs_eq _ _) ?_))
 exact wpAny_mono h (fun f s' ⟨v,e,q⟩ => by subst e; exact q) fun _ _ z => z
theorem try_eqO {b : Value} {Q : Option Value → Shared → Prop} (X : K.In s.heap) (o : EqO K C) (e : s.heap.get? x = some (PySem.W.instObj C dx))
 (h : wpAny (model P w) A.in1 (Builtin.«object.__eq__» ⟨[.ref x,b],[]⟩) (fun f s' => ∃ v,f = .done (.ret v) ∧ Q (if v = .notImplemented then none else some v) s') E s) : wpAny (model P w) A (tryCompare (.ref x) "__eq__" b) Q E s := by
 simp only [tryCompare]
 refine wpAny_bind ?_
 simp only [callSpecialIfBound?,bindSpecialIfBound?]
 have L : PySem.W.Looks (model P w) s.heap (specialOf (.ref x) "__eq__") (some (.builtin "object.__eq__")) := (inst_at e).andThen (PySem.W.looks_findIn X o.eq)
 refine wpAny_holding (wpAny_bind (wpAny_bind (L.here ?_)))
 simp only [PySem.F.cmp_object.eq.bind]
 refine wpAny_bind (wpAny_askSetting (wpAny_ite ?_))
 have fin : wpAny (model P w) A (call (.builtin "object.__eq__") ([.ref x] ++ [b]) >>= fun v => pure (some v)) (fun r s' => wpAny (model P w) A (match r with | some .notImplemented | none => pure none | some v => pure (some v)) Q E s') E s := by
  refine wpAny_bind (call_eqO X o e (wpAny_mono h (fun f s' ⟨v,e',q⟩ => ⟨v,e',wpAny_pure ?_⟩) fun _ _ z => z))
  cases v <;> exact wpAny_pure q
 split
 ·exact wpAny_bind (wpAny_pure (wpAny_pure fin))
 ·exact wpAny_tryCatch (wpAny_bind (wpAny_pure (wpAny_pure fin)))
theorem rc_str_ins (X : K.In s.heap) (o : EqO K C) (e : s.heap.get? x = some (PySem.W.instObj C dx)) (b : Str) (u : Tok) (hu : A.units < cLine) {Q : Value → Shared → Prop} (h : Q (.bool false) s) : wpAny (model P w) A (richCompare .Eq (.str b u) (.ref x)) Q E s := by
 simp only [richCompare,cmpInfo_Eq,(typeIs_str s b u).oneThing_none]
 try with_reducible refine wpAny_holding ?_
 refine wpAny_bind (wpAny_cRoomFor_or (.inr hu) ?_)
 refine wpAny_bind (wpAny_typeOf (typeIs_str s b u) (wpAny_bind ((inst_at e).here ?_)))
 rw [if_pos (by simp)]
 refine wpAny_bind ((PySem.W.looks_mroIn X o.no).here ?_)
 simp only [Bool.false_eq_true,if_false,Bool.not_false,if_true]
 refine wpAny_bind (m := tryCompare (.str b u) _ (.ref x)) (wpAny_tryCompare_declines (typeIs_str s b u) PySem.F.slot_str_eq (call_meets PySem.F.slot_str_eq (typeIs_str s b u) PySem.F.entry_str_eq (PySem.F.args_str_eq_2 _ _) (str_eq_declines_inst b u x (.ref C) (some dx) _) ⟨e,rfl,?_⟩))
 refine wpAny_bind (m := tryCompare (.ref x) _ (.str b u)) (try_eqO X o e ?_)
 unfold Builtin.«object.__eq__»
 repeat (first | (with_reducible refine wpAny_of_eq (rfl : isSame (.ref x) (.str b u) = pure false) ?_) | wp_step)
 refine ⟨_,rfl,?_⟩
 exact wpAny_bind (wpAny_rule (wpAny_bind (wpAny_of_eq (rfl : isSame (.str b u) (.ref x) = pure false) (wpAny_pure h))))
end
inductive Odd (K : PySem.W.Frag) (C : Addr) (H : Hp) : V → Prop
 | non : Odd K C H .non
 | bl (b : Bool) : Odd K C H (.bl b)
 | int (i : Int) : Odd K C H (.int i)
 | str (z : Str) : Odd K C H (.str z)
 | lst1 {a : Addr} {z : Str} : H a = some (.lst [.str z]) → PyData.strOk z = true → Odd K C H (.ref a)
 | tup1 {a : Addr} {z : Str} : H a = some (.tup [.str z]) → PyData.strOk z = true → Odd K C H (.ref a)
 | dk {a : Addr} {k : Str} {i : Int} : H a = some (.dK [(.inr k,.int i)]) → Odd K C H (.ref a)
 | ins {a dx : Addr} {fs : List (Str × V)} : H a = some (.ins C dx fs) → Odd K C H (.ref a)
theorem Odd.same {K : PySem.W.Frag} {C : Addr} {H H' : Hp} {v : V} (h : Odd K C H v) (s : Same H H') : Odd K C H' v := by
 cases h with
 | non => exact .non
 | bl b => exact .bl b
 | int i => exact .int i
 | str z => exact .str z
 | lst1 h o => exact .lst1 (s _ _ h) o
 | tup1 h o => exact .tup1 (s _ _ h) o
 | dk h => exact .dk (s _ _ h)
 | ins h => exact .ins (s _ _ h)
section
variable {X : Cx} {C : Addr}
theorem op_eqO (o : EqO X.K C) (hu : X.A.units < cLine) : OpR X (compareOp .Eq) (fun x y H Q => ∃ n,x = .str n ∧ Odd X.K C H y ∧ Q (.bl (decide (y = .str n))) H) := by
 intro pins s σ H x y v u Q I rx ry h
 obtain ⟨n,rfl,hd,q⟩ := h
 have fin : ∀ d,RdX X.K H y d → PyData.eqv (.str n) d = decide (y = .str n) → wpAny (model X.prog X.w) X.A (compareOp .Eq v u) (EP X pins σ Q) X.xe s := fun d hr e => op_eqX hu pins s σ H (.str n) y v u Q I rx ry ⟨n,d,rfl,hr,by rw [e]; exact q⟩
 cases hd with
 | non => exact fin _ .non (by simp [PyData.eqv])
 | bl b => exact fin _ (.bl b) (by simp [PyData.eqv])
 | int i => exact fin _ (.int i) (by simp [PyData.eqv])
 | str z => exact fin _ (.str z) (by
  have e : PyData.eqv (.str n) (.str z) = (n == z) := by simp [PyData.eqv]
  rw [e,Bool.eq_iff_iff,beq_iff_eq,decide_eq_true_iff]
  exact ⟨fun h => by rw [h],fun h => by cases h; rfl⟩)
 | lst1 h _ => exact fin _ (.lst1 (SqL.of h)) (by simp [PyData.eqv])
 | tup1 h _ => exact fin _ (.tup1 (SqT.of h)) (by simp [PyData.eqv])
 | dk h => exact fin _ (.dk h) (by simp [PyData.eqv])
 | @ins a dx fs h =>
   obtain ⟨t,rfl⟩ := rx
   obtain rfl : u = Value.ref a := ry
   obtain ⟨mA,O,_⟩ := ins_get I.hok h
   rw [decide_eq_false (fun e => by cases e)] at q
   exact rc_str_ins I.kIn o O.obj n t hu (Bf I q rfl)
end
section
variable {prog : Program} {w : World} {A : Around} {E : Value → Shared → Prop} {s : Shared}
def Std (h : Heap) (S a : Addr) (hv : Int) : Prop := ∃ o ep t,h.get? S = some o ∧ o.ExactSet ∧ o.data = .set #[(hv,.ref a)] ep t ∧ Tb1 t (SetTable.bits hv % 8)
theorem Std.n {h : Heap} {S a : Addr} {hv : Int} (x : Std h S a hv) : StN h S 1 := by
 obtain ⟨o,ep,t,h2,h3,h4,h5⟩ := x
 exact ⟨o,_,ep,t,h2,h3,h4,fits1 h5,rfl⟩
theorem start_j {t : SetTable} (hm : t.mask = 7) (h : Int) : (t.probeStart h).j = SetTable.bits h % 8 := by
 unfold SetTable.probeStart SetTable.runEnd
 rw [hm]
theorem add0d {S a : Addr} {ks : List Key} {h : Int} {F : Nat} {Q : Bool → Shared → Prop} (hS : St0 s.heap S) (ha : IsTupleKey (Aw prog w) s.heap ks a)
 (q : ∀ h',Heap.SameBut S s.heap h' → Std h' S a h → Q true { s with heap := h' }) : wpAny (model prog w) A (setAddHashedIn S (.ref a) h (F + 1)) Q E s := by
 obtain ⟨o,ep,t,ho,hx,hd,hm,hp,hdu⟩ := hS
 have put : ∀ j,t.put j = ({ t with place := #[j] },0) := fun j => by
  unfold SetTable.put
  rw [hp,hdu,below0,has0]
  show (_,_) = _
  rw [if_neg (by decide)]
  have : SetTable.insertAt (#[] : Array Nat) 0 j = #[j] := by simp [SetTable.insertAt]
  rw [this]
 refine addH ho hd ?_ ha (fun j => j = SetTable.bits h % 8) ?_ ?_ ?_ ?_
 ·unfold SetTable.fits SetTable.fill
  rw [hm,hp,hdu]
  rfl
 ·intro Q' q'
  rw [setSearch.eq_def,setSearchFrom.eq_def]
  refine wpAny_bind (wpAny_setState_of ho hd ?_ ?_)
  ·unfold SetTable.fits SetTable.fill
   rw [hm,hp,hdu]
   rfl
  have hg : t.gaveWay = false := by unfold SetTable.gaveWay; rw [hm]; rfl
  show wpAny _ _ (if t.gaveWay = true then _ else _) _ _ _
  rw [hg]
  show wpAny _ _ (match SetTable.probe t _ h (t.probeStart h) with | some met => _ | _ => _) _ _ _
  have pr : ∀ f,SetTable.probe t f h (t.probeStart h) = some (.empty (t.probeStart h).j none) := fun f => by
   have hF : 10 * SetTable.turns t.mask = 219 + 1 := by rw [hm]; rfl
   rw [SetTable.probe.eq_def,hF,SetTable.probe.go.eq_def]
   simp only [slot0 hp hdu]
   rfl
  rw [pr]
  exact wpAny_pure (q' _ (start_j hm h))
 ·intro j b _
  rw [put]
  unfold SetTable.tooFull SetTable.fill tbP
  cases b <;> simp [hm,hdu]
 ·intro j _
  rw [put]
  simp [SetTable.insertAt,sizeLine_eq]
 ·intro j b hj
  subst hj
  rw [put]
  refine q _ (put_same _ _) ?_
  obtain ⟨o',g1,g2,g3⟩ := put_get (es := SetTable.insertAt #[] 0 (h,.ref a)) (t := tbP b { t with place := #[SetTable.bits h % 8] }) ho hx hd
  have e1 : SetTable.insertAt (#[] : Array (Int × Value)) 0 (h,Value.ref a) = #[(h,.ref a)] := by simp [SetTable.insertAt]
  rw [e1] at g1 g3
  show Std (s.heap.update S (Obj.putSet (SetTable.insertAt #[] 0 (h,Value.ref a)) (tbP b { t with place := #[SetTable.bits h % 8] }))) S a h
  rw [e1]
  refine ⟨o',ep + 1,tbP b { t with place := #[SetTable.bits h % 8] },g1,g2,g3,?_⟩
  unfold tbP
  cases b
  ·exact ⟨hm,rfl,hdu⟩
  ·exact ⟨hm,rfl,hdu⟩
theorem addD {S a : Addr} {ka : List Key} {h : Int} {F : Nat} {Q : Bool → Shared → Prop} (hS : Std s.heap S a h) (ha : IsTupleKey (Aw prog w) s.heap ka a) (hu : A.units < cLine) (q : Q false s) : wpAny (model prog w) A (setAddHashedIn S (.ref a) h (F + 1)) Q E s := by
 obtain ⟨o,ep,t,ho,hx,hd,T⟩ := hS
 rw [setAddHashedIn.eq_def]
 refine wpAny_bind (wpAny_setState_of ho hd (fits1 T) ?_)
 show wpAny _ _ (setSearch S (.ref a) h true >>= _) _ _ _
 refine wpAny_bind ?_
 rw [setSearch.eq_def,setSearchFrom.eq_def]
 refine wpAny_bind (wpAny_setState_of ho hd (fits1 T) ?_)
 have hg : t.gaveWay = false := by unfold SetTable.gaveWay; rw [T.mask]; rfl
 show wpAny _ _ (if t.gaveWay = true then _ else _) _ _ _
 rw [hg]
 obtain ⟨R,hp⟩ := start1 T h
 have pr : ∀ f : Nat → Int,(f 0 == h) = true → SetTable.probe t f h (t.probeStart h) = some (.candidate (SetTable.bits h % 8) 0 (t.advance (t.probeStart h))) := fun f hf => by
  have hF : 10 * SetTable.turns t.mask = 219 + 1 := by rw [T.mask]; rfl
  rw [SetTable.probe.eq_def,hF,probe_one T hf R,if_pos (start_j T.mask h)]
 show wpAny _ _ (match SetTable.probe t _ h (t.probeStart h) with | some met => _ | _ => _) _ _ _
 rw [pr _ (show (h == h) = true from beq_self_eq_true h)]
 show wpAny _ _ (if (!t.led) = true then _ else _) _ _ _
 cases hl : t.led with
 | true =>
   show wpAny _ _ (holding [Value.ref a] (eqBool (.ref a) (.ref a)) >>= _) _ _ _
   refine wpAny_bind (wpAny_holding ((tupleKind (Aw prog w)).eqBool hu ha ha ?_))
   rw [decide_eq_true rfl]
   refine wpAny_bind (wpAny_setState_of ho hd (fits1 T) ?_)
   exact wpAny_pure (wpAny_pure q)
 | false =>
   show wpAny _ _ (searchCouldBeSeen (.ref a) _ >>= _) _ _ _
   refine wpAny_bind (seen ha ?_ ?_)
   ·intro y hy
    obtain ⟨z,hz,rfl⟩ := List.mem_map.mp hy
    have := Array.mem_toList_iff.mp hz
    rw [Array.mem_filter] at this
    have := this.1
    simp only [List.mem_toArray,List.mem_cons,List.not_mem_nil,or_false] at this
    subst this
    exact ⟨a,ka,rfl,ha⟩
   show wpAny _ _ (holding [Value.ref a] (eqBool (.ref a) (.ref a)) >>= _) _ _ _
   refine wpAny_bind (wpAny_holding ((tupleKind (Aw prog w)).eqBool hu ha ha ?_))
   rw [decide_eq_true rfl]
   refine wpAny_bind (wpAny_setState_of ho hd (fits1 T) ?_)
   exact wpAny_pure (wpAny_pure q)
def SPd (prog : Program) (w : World) (S p : Addr) (ks : List Key) (i : Nat) (h : Heap) : Prop := IsTupleKey (Aw prog w) h ks p ∧ (match i with | 0 => St0 h S | _ => Std h S p ((tupleKind (Aw prog w)).hash ks))
theorem SPd.stay {S p : Addr} {ks : List Key} {i : Nat} {h h' : Heap} {wr : List Addr} (hS : S ∉ wr) (hx : p ∉ wr) (x : SPd prog w S p ks i h) (e : ∀ b o,b ∉ wr → h.get? b = some o → h'.get? b = some o) : SPd prog w S p ks i h' := by
 obtain ⟨h1,h2⟩ := x
 refine ⟨key_kept h1 fun o ho => e _ _ hx ho,?_⟩
 match i,h2 with
 | 0,⟨o,ep,t,ho,r⟩ => exact ⟨o,ep,t,e _ _ hS ho,r⟩
 | n + 1,⟨o,ep,t,ho,r⟩ => exact ⟨o,ep,t,e _ _ hS ho,r⟩
theorem SPd.add {S p : Addr} {ks : List Key} {i : Nat} {Q : Bool → Shared → Prop} (hu : A.units < cLine) (hS : p ≠ S) (sp : SPd prog w S p ks i s.heap)
 (q : ∀ h' tk b,s.toks ≤ tk → Heap.SameBut S s.heap h' → SPd prog w S p ks (i + 1) h' → Q b { s with heap := h',toks := tk }) : wpAny (model prog w) A (setAdd S (.ref p)) Q E s := by
 obtain ⟨hx,hst⟩ := sp
 unfold setAdd
 refine wpAny_holding (wpAny_bind ((tupleKind (Aw prog w)).pyHash hu hx ?_))
 unfold setAddHashed
 refine wpAny_holding ?_
 match i,hst with
 | 0,hst =>
   exact add0d (F := 99999) (s := { s with toks := s.toks + _ }) hst hx fun h' hs st => q h' _ true (Nat.le_add_right _ _) hs ⟨key_kept hx fun o ho => by rw [hs.2 _ hS]; exact ho,st⟩
 | n + 1,hst =>
   exact addD (F := 99999) (s := { s with toks := s.toks + _ }) hst hx hu (q s.heap _ false (Nat.le_add_right _ _) ⟨rfl,fun b hb => rfl⟩ ⟨hx,hst⟩)
theorem call_set_dup {l p : Addr} {ks : List Key} {items : Array Value} {Q : Value → Shared → Prop} (hh : A.handled = none) (hu : A.units + 8 < cLine) (hl : s.heap.IsList l items) (hz : items.toList = [Value.ref p,.ref p]) (hk : IsTupleKey (Aw prog w) s.heap ks p)
 (h : ∀ (h' : Heap) (tk : Nat),StN h' s.heap.objs.size 1 → (∀ b o,b < s.heap.objs.size → s.heap.get? b = some o → h'.get? b = some o) → Q (.ref s.heap.objs.size) { s with heap := h',toks := tk }) :
 wpAny (model prog w) A (call (.type "set") [.ref l]) Q E s := by
 obtain ⟨c,tl,hmro⟩ := F.called_set.mro
 have hmade := F.called_set.made
 have hsub := F.called_set.sub
 refine wpAny_call (codeAny_of_tree ?_)
 show wpAny _ _ (callAny (.type "set") _) _ _ _
 refine wpAny_pure ⟨Code.quiet_builtin _ (by decide +kernel),codeAny_builtin F.entry_type_call ?_⟩
 rw [Around.under_plain (weight_type_call_type "set" [.ref l] []) rfl]
 have h1 := F.called_set.notType
 have h2 := F.called_set.canCreate
 have hct := F.typeCall_set_1 (.ref l)
 repeat (any_goals (first | assumption | wp_step))
 refine codeAny_mono (code_set_new_1 (.ref l) (E := E) (Q₁ := fun obj s₁ => ∃ led : Bool,obj = .ref s.heap.objs.size ∧ s₁ = { s with heap := s.heap.push { cls := .type "set",dict := none,data := .set #[] 0 (.fresh 0 0 led) } }) fun led => ⟨led,rfl,rfl⟩) fun r s₁ hr => ?_
 cases r with
 | error e => exact hr
 | ok fl =>
   cases fl with
   | ret obj =>
     obtain ⟨led,rfl,rfl⟩ := hr
     have hS : (s.heap.push { cls := .type "set",dict := none,data := .set #[] 0 (.fresh 0 0 led) }).get? s.heap.objs.size = some { cls := .type "set",dict := none,data := .set #[] 0 (.fresh 0 0 led) } := Heap.get?_push_size _ rfl
     have hT : Shared.TypeIs { s with heap := s.heap.push { cls := .type "set",dict := none,data := .set #[] 0 (.fresh 0 0 led) } } (.ref s.heap.objs.size) "set" := ⟨_,hS,rfl⟩
     have hli := F.called_set.init.lookup
     have hbi := F.called_set.init.bind (.ref s.heap.objs.size)
     repeat (any_goals (first | assumption | wp_step))
     refine codeAny_mono (codeAny_call_builtin (R := wants (fun r s₂ => r = .none ∧ ∃ h' tk,s₂ = { s with heap := h',toks := tk } ∧ StN h' s.heap.objs.size 1 ∧
      (∀ b o,b < s.heap.objs.size → s.heap.get? b = some o → h'.get? b = some o)) E) F.called_set.init.plain F.entry_set_init (check_set_init_1 hT ?_)) fun r₂ s₂ hr₂ => ?_
     ·obtain ⟨⟨ocls,odict,odata,oslots⟩,hol,hcl,nl,hdl⟩ := id hl
      simp only at hcl hdl
      subst hcl hdl
      have hol' : (s.heap.push { cls := .type "set",dict := none,data := .set #[] 0 (.fresh 0 0 led) }).get? l = some { cls := .type "list",dict := odict,data := .seq items nl,slots := oslots } := Heap.get?_push_of_some _ hol
      have hsls := F.sub_list_set
      have hslf := F.sub_list_frozenset
      have hne : (Value.type "list" == Value.type "dict") = false := by decide
      have hl1 : (s.heap.push { cls := .type "set",dict := none,data := .set #[] 0 (.fresh 0 0 led) }).IsList l items := ⟨_,hol',rfl,nl,rfl⟩
      unfold Builtin.«set.__init__» noKeywords Builtin.Frozenset.updateFrom
      generalize hPI : pyIter = PI
      wp_walk
      subst hPI
      refine wpAny_pyIter_list hl1 ?_
      refine wpAny_bind (wpAny_runValue ?_)
      have hlS : l < s.heap.objs.size := Heap.lt_size hol
      have hh3 : A.in1.in1.in1.handled = none := by simp [hh]
      have szp : (s.heap.push { cls := .type "set",dict := none,data := .set #[] 0 (.fresh 0 0 led) }).objs.size = s.heap.objs.size + 1 := Heap.size_push _ _
      have hneI : l ≠ (s.heap.push { cls := .type "set",dict := none,data := .set #[] 0 (.fresh 0 0 led) }).objs.size := by rw [szp]; exact Nat.ne_of_lt (Nat.lt_succ_of_lt hlS)
      have hSf : s.heap.objs.size ∉ [(s.heap.push { cls := .type "set",dict := none,data := .set #[] 0 (.fresh 0 0 led) }).objs.size,l] := by
       simp only [List.mem_cons,List.not_mem_nil,or_false,not_or]
       exact ⟨by rw [szp]; exact Nat.ne_of_lt (Nat.lt_succ_self _),Nat.ne_of_gt hlS⟩
      have hln : items.size = 2 := by
       have := congrArg List.length hz
       simpa using this
      have hval : ∀ (i : Nat) (v : Value),items[i]? = some v → v = .ref p := fun i v hv => by
       have hv : v ∈ items.toList := List.mem_of_getElem? (i := i) (by rw [Array.getElem?_toList]; exact hv)
       rw [hz] at hv
       simpa using hv
      have xlt : p < s.heap.objs.size := by
       obtain ⟨o,_,_,ho,_⟩ := hk
       exact Heap.lt_size ho
      refine set_fillG ((Walks.list hh3 _ l hneI items).toS) s.heap.objs.size hSf (SPd prog w s.heap.objs.size p ks) (fun i h h' => SPd.stay ?a1 ?a2) (fun i v s1 Q1 E1 hi hP sp q1 => ?a3) (items.size - 0) 0 _ (by omega) (Nat.zero_le _) ⟨⟨_,Heap.get?_push_size _ rfl,rfl,rfl⟩,(hl1.push _)⟩ ?hS0 ?hR
      case a1 => rw [szp]; simp
      case a2 =>
       rw [szp,List.mem_singleton]
       exact Nat.ne_of_lt (Nat.lt_succ_of_lt xlt)
      case a3 =>
       obtain rfl := hval i v hP
       exact SPd.add (by simp [Around.in1]; omega) (Nat.ne_of_lt xlt) sp q1
      case hS0 =>
       refine ⟨key_kept hk fun o ho => Heap.get?_push_of_some _ (Heap.get?_push_of_some _ ho),?_⟩
       exact ⟨_,0,_,Heap.get?_push_of_some _ hS,⟨rfl,rfl,rfl⟩,rfl,rfl,rfl,rfl⟩
      case hR =>
       intro s' hm hS'
       have hS' : StN s'.heap s.heap.objs.size 1 := by
        rw [hln] at hS'
        exact hS'.2.n
       obtain ⟨h',g',d',tk',os'⟩ := s'
       have eg : g' = s.gens := hm.gens
       have ed : d' = s.drawn := hm.drawn
       have eo : os' = s.os := hm.os
       subst eg ed eo
       show wpAny _ _ _ _ _ _
       refine wpAny_pure ?_
       show wpAny _ _ (ret Value.none) _ _ _
       refine wpAny_pure ⟨rfl,h',tk',rfl,hS',fun b o hb e => ?_⟩
       refine hm.heap b o ?_ (Heap.get?_push_of_some _ (Heap.get?_push_of_some _ e))
       simp only [List.mem_cons,List.not_mem_nil,or_false,not_or]
       exact ⟨Nat.ne_of_lt hb,by rw [szp]; exact Nat.ne_of_lt (Nat.lt_succ_of_lt hb)⟩
     ·cases r₂ with
      | error e => exact hr₂
      | ok fl₂ =>
        cases fl₂ with
        | ret r =>
          obtain ⟨rfl,h',tk,rfl,hS',hk'⟩ := hr₂
          repeat (any_goals (first | assumption | wp_step))
          exact h _ _ hS' hk'
        | _ => exact hr₂.elim
   | _ => exact hr.elim
end
section
variable {X : Cx}
def tLenD (K : PySem.W.Frag) (te : TE) : TE := fun σ H Q => te σ H fun x H1 => ∃ (a p : Addr) (ks : List Key),x = .ref a ∧ SqL K H1 a [.ref p,.ref p] ∧ H1 p = some (.tup (ks.map kV)) ∧ Q (.int 1) H1
theorem pe_lenD {e : Expr} {te : TE} {p1 p2 p3 pos : Pos} (hh : X.A.handled = none) (hu : X.A.units + 64 < cLine) (g1 : Gl X "len") (m1 : X.mg "len" = none) (g2 : Gl X "set") (m2 : X.mg "set" = none) (he : PE X e te)
 (h1 : starEach [.Call (.Name "set" p2) [e] [] p3] X.env = [(false,eval (.Call (.Name "set" p2) [e] [] p3) X.env)] := by rfl) (h2 : starEach [e] X.env = [(false,eval e X.env)] := by rfl) :
 PE X (.Call (.Name "len" p1) [.Call (.Name "set" p2) [e] [] p3] [] pos) (tLenD X.K te) := by
 intro pins s σ H Q I h
 refine wpAny_Call_Name_kw (ld_blt I g1 m1 boot_len ?_ (by decide) (by decide))
 refine PyProof.Rows.callWith_builtin1 ?_ h1 rfl
 rw [h1]
 show wpAny _ _ (spliced ((false,eval (.Call (.Name "set" p2) [e] [] p3) X.env) :: backTo pos (starEach [] X.env))) _ _ s
 refine Calls.spliced_cons ?_
 refine wpAny_Call_Name_kw (ld_blt I g2 m2 boot_set ?_ (by decide) (by decide))
 refine PyProof.Rows.callWith_type1 ?_ h2 rfl
 rw [h2]
 show wpAny _ _ (spliced ((false,eval e X.env) :: backTo p3 (starEach [] X.env))) _ _ s
 refine Calls.spliced_cons (thn (he pins s σ H _ I h) fun u s1 ⟨x,H1,I1,r1,q1⟩ => ?_)
 obtain ⟨a,p,ks,rfl,hq,hk,q⟩ := q1
 cases r1
 refine Calls.spliced_nil ?_
 obtain ⟨its,rv,pl,_⟩ := I1.list hq
 have ei : its = [.ref p,.ref p] := by
  cases rv with
  | cons r1 r2 =>
    cases r2 with
    | cons r3 r4 => cases r4; cases r1; cases r3; rfl
 refine call_set_dup (p := p) (ks := ks) hh (by omega) pl.isList (by rw [ei]) (key_of I1.hok hk) fun h' tk hS hk => ?_
 refine Calls.spliced_nil ?_
 obtain ⟨o,es,ep,t,ho,hex,hd,hf,hn⟩ := hS
 refine call_len_set (s := { s1 with heap := h',toks := tk }) ho hex hd hf (by omega) ?_
 refine ⟨.int 1,H1,(I1.kept (t' := tk + 1 + 1) fun b u e => hk b u (Heap.lt_size e) e),⟨tk + 1,by rw [hn]; rfl⟩,q⟩
end
def tHs (K : PySem.W.Frag) (Dn : Ends) (σ : St) (a C : Addr) (H : Hp) : List (Nat × Addr × TS) → Prop
 | [] => False
 | (i,D,th) :: r => (PySem.W.mroIn K C (.ref D) = some true ∧ th { nx := fun σ2 H2 => Dn.nx (σ2.set i none) H2,rt := Dn.rt,bk := fun σ2 H2 => Dn.bk (σ2.set i none) H2,ct := fun σ2 H2 => Dn.ct (σ2.set i none) H2 } (σ.set i (some (.ref a))) H) ∨
   (PySem.W.mroIn K C (.ref D) = some false ∧ tHs K Dn σ a C H r)
def tTryN (K : PySem.W.Frag) (ths : List (Nat × Addr × TS)) (tb : (St → Addr → Hp → Prop) → TS) : TS := fun Dn σ H =>
 tb (fun σ' a H' => ∃ C d,H' a = some (excR a C d) ∧ tHs K Dn σ' a C H' ths) Dn σ H
def PHs (X : Cx) (hs : List ExceptHandler) (ths : List (Nat × Addr × TS)) : Prop :=
 ∀ (pins : List (Addr × Obj)) (s : Shared) (σ : St) (H : Hp) (a C : Addr) (d : Option Addr) (Dn : Ends),Inv X pins σ H s → Raw X pins H s.heap a C d → tHs X.K Dn σ a C H ths → wpAny (model X.prog X.w) X.A (handleBy (.ref a) X.env hs) (SP X pins Dn) X.xe s
section
variable {X : Cx}
theorem phs_nil {hs : List ExceptHandler} : PHs X hs [] := fun _ _ _ _ _ _ _ _ _ _ h => h.elim
theorem phs_cons {hs : List ExceptHandler} {ths : List (Nat × Addr × TS)} {suite : List Stmt} {b₀ : Stmt} {n x : Str} {D : Addr} {hpos tpos : Pos} {i : Nat} {th : TS}
 (hN : X.N.Nodup) (hi : X.N[i]? = some n) (hl : X.env.scope.names.lookup n = some .local) (hg : Gl X x) (hm : X.mg x = some (.ref D))
 (hD : PySem.W.typeIn X.K (.ref D) = some (.type "type")) (hcl : (PySem.W.clsIn X.K D).isSome = true) (hB : PySem.W.mroIn X.K D (.type "BaseException") = some true)
 (hs1 : ∀ a,PSs (X.hdl a) (b₀ :: suite) th) (hr : PHs X hs ths) (hdb : (x == ("__debug__" : Str)) = false := by decide) :
 PHs X (.ExceptHandler (some (.Name x tpos)) (some n) (b₀ :: suite) hpos :: hs) ((i,D,th) :: ths) := by
 intro pins s σ H a C d Dn I3 raw h
 have raw' := raw
 obtain ⟨t,T,rest,sl,oT,ts,ha,q,_⟩ := raw'
 refine wpAny_handleBy_cons (codeAny_handlers_test (ld_glob (X := X.hdl a) I3.hdl hg hm ?_ hdb)) (by intro q; cases q)
 rcases h with ⟨hmr,hth⟩ | ⟨hmr,hrest⟩
 ·refine x_match I3.kIn q rfl hD hcl hB hmr ?_
  refine codeAny_handlers_suite_as ?_
  refine flight_ends I3 raw fun s4 I4 => ?_
  refine store_ok (X := X.hdl a) (v := .ref a) I4.hdl hN hi (.inl hl) rfl (fun s5 I5 => ?_) (.inr hl)
  refine wpAny_mono (hs1 a pins s5 _ H _ I5 hth) (fun f s6 hf => ?_) fun _ _ z => z.elim
  cases f with
  | next =>
    obtain ⟨σ2,H2,I6,q6⟩ := hf
    exact name_goes (I6.back I3.ok) hN hi hl fun s7 I7 => ⟨_,H2,I7,q6⟩
  | brk =>
    obtain ⟨σ2,H2,I6,q6⟩ := hf
    exact name_goes (I6.back I3.ok) hN hi hl fun s7 I7 => ⟨_,H2,I7,q6⟩
  | cont =>
    obtain ⟨σ2,H2,I6,q6⟩ := hf
    exact name_goes (I6.back I3.ok) hN hi hl fun s7 I7 => ⟨_,H2,I7,q6⟩
  | ret u =>
    obtain ⟨v,σ2,H2,I6,rv,q6⟩ := hf
    exact name_goes (I6.back I3.ok) hN hi hl fun s7 I7 => ⟨v,_,H2,I7,rv,q6⟩
 ·refine x_match I3.kIn q rfl hD hcl hB hmr ?_
  exact hr pins s σ H a C d Dn I3 raw hrest
theorem ps_tryN {body : List Stmt} {h₀ : ExceptHandler} {hs : List ExceptHandler} {ths : List (Nat × Addr × TS)} {pos : Pos} {tb : (St → Addr → Hp → Prop) → TS} (hsk : X.stack = X.env :: X.outer) (hfe : X.env.frame = some X.env.locals)
 (hb : ∀ RX pn E',Catches (X.tr pn E') RX → PSs (X.tr pn E') body (tb RX)) (hh : PHs X (h₀ :: hs) ths) : PS X (.Try body (h₀ :: hs) [] [] pos) (tTryN X.K ths tb) := by
 intro pins s σ H Dn I h
 refine wpAny_Try_except ?_
 refine wpAny_mono (hb _ (X.pn ++ pins) (fun e s₁ => wpAny (model X.prog X.w) X.A (noteFrame e X.env) (fun _ s₂ => wpAny (model X.prog X.w) X.A (setFlight e none) (fun _ s₃ => wpAny (model X.prog X.w) X.A (handleBy e X.env (h₀ :: hs)) (SP X pins Dn) X.xe s₃) X.xe s₂) X.xe s₁) ?_ [] s σ H Dn I.tr h) (fun f s1 hf => ?_) fun _ _ z => z
 ·intro pins' σ1 H1 s1 e s' I1 hc
  have J1 : Inv X pins σ1 H1 s1 := I1.untr I.ok
  obtain ⟨a,_,rfl,_⟩ := id hc
  refine caught J1 hsk hfe I.ok.frames hc fun s3 H3 C d I3 raw hE => ?_
  obtain ⟨a',ea,C',d',hC',hth⟩ := hE
  cases ea
  have raw' := raw
  obtain ⟨t,T,rest,sl,oT,ts,ha,q,_⟩ := raw'
  have eC : C' = C := by
   have z1 := excR_is (P := X.prog) (w := X.w) (I3.hok a _ hC')
   obtain ⟨_,_,_,z⟩ := z1
   rw [q] at z
   cases z
   rfl
  subst eC
  exact hh pins s3 σ1 H3 a _ d Dn I3 raw hth
 ·cases f with
  | next =>
    obtain ⟨σ2,H2,I6,q6⟩ := hf
    exact wpAny_execs_nil ⟨σ2,H2,I6.untr I.ok,q6⟩
  | brk =>
    obtain ⟨σ2,H2,I6,q6⟩ := hf
    exact ⟨σ2,H2,I6.untr I.ok,q6⟩
  | cont =>
    obtain ⟨σ2,H2,I6,q6⟩ := hf
    exact ⟨σ2,H2,I6.untr I.ok,q6⟩
  | ret u =>
    obtain ⟨v,σ2,H2,I6,rv,q6⟩ := hf
    exact ⟨v,σ2,H2,I6.untr I.ok,rv,q6⟩
end
section
variable {X : Cx} {pins : List (Addr × Obj)} {σ : St} {H : Hp} {s : Shared}
inductive Like3 (K : PySem.W.Frag) (H : Hp) : V → V → Prop
 | two {x y : V} : Like2 K H x y → Like3 K H x y
 | lsts {a b : Addr} {xs ys : List V} : SqL K H a xs → SqL K H b ys → Paired (Like2 K H) xs ys → Like3 K H (.ref a) (.ref b)
theorem Like3.eqAt {A : Around} (I : Inv X pins σ H s) (hu : A.units + 2 < cLine) {x y : V} {u v : Value} (l : Like3 X.K H x y) (rx : RelV x u) (ry : RelV y v) : SeqAt.EqAt A s u v true := by
 cases l with
 | two h => exact h.eqAt I (by omega) rx ry
 | @lsts a b xs ys ha hb pr =>
   cases rx
   cases ry
   by_cases hab : a = b
   ·subst hab; exact SeqAt.EqAt.same _
   ·obtain ⟨its,rv,pl,_⟩ := I.list ha
    obtain ⟨its',rv',pl',_⟩ := I.list hb
    have l1 := rv.length
    have l2 := rv'.length
    have l3 := Paired.length pr
    have hu' := in1_room (A := A) hu
    have := SeqAt.RcAt.lists (A := A) (e := fun _ => true) pl.isList pl'.isList (by simp; omega) (by omega) (fun j h1 h2 => by
     have hj : j < xs.length := by simp at h1; omega
     have e1 : xs[j]? = some xs[j] := by simp [hj]
     obtain ⟨y,e2,lk⟩ := paired_get pr e1
     obtain ⟨u1,q1,r1⟩ := rv.get e1
     obtain ⟨u2,q2,r2⟩ := rv'.get e2
     have z1 : its.toArray[j] = u1 := by simpa [List.getElem?_eq_some_iff] using (List.getElem?_eq_some_iff.mp q1).2
     have z2 : its'.toArray[j] = u2 := by simpa [List.getElem?_eq_some_iff] using (List.getElem?_eq_some_iff.mp q2).2
     rw [z1,z2]
     exact lk.eqAt I hu' r1 r2)
    refine SeqAt.EqAt.of_refs hab ?_
    have e : (List.range its.toArray.size).all (fun _ => true) = true := List.all_eq_true.mpr fun _ _ => rfl
    rw [e] at this
    exact this
def rTupLike3 (K : PySem.W.Frag) : R2 := fun x y H Q => ∃ p q xs ys,x = .ref p ∧ y = .ref q ∧ SqT K H p xs ∧ SqT K H q ys ∧ Paired (Like3 K H) xs ys ∧ Q (.bl false) H
theorem op_neTup3 (hu : X.A.units + 8 < cLine) : OpR X (compareOp .NotEq) (rTupLike3 X.K) := by
 intro pins s σ H x y v u Q I rx ry h
 obtain ⟨p,q,xs,ys,rfl,rfl,hp,hq,pr,h⟩ := h
 cases rx
 cases ry
 obtain ⟨its,rv,pl,_⟩ := I.tuple hp
 obtain ⟨its',rv',pl',_⟩ := I.tuple hq
 have l1 := rv.length
 have l2 := rv'.length
 have l3 := Paired.length pr
 have hu' : X.A.in1.units + 2 < cLine := Nat.lt_of_le_of_lt (Nat.add_le_add_right (show X.A.in1.units ≤ X.A.units + 1 by first | exact Nat.le_refl _ | exact Nat.le_succ _ | simp [Around.in1]) 2) (by omega)
 refine SeqAt.RcNeAt.tuples (e := fun _ => true) pl pl' (by omega) (fun j h1 h2 => ?_) _ _ _ _ (Bf I h (by simp; omega))
 have hj : j < xs.length := by simp at h1; omega
 have e1 : xs[j]? = some xs[j] := by simp [hj]
 obtain ⟨y,e2,lk⟩ := paired_get pr e1
 obtain ⟨u1,q1,r1⟩ := rv.get e1
 obtain ⟨u2,q2,r2⟩ := rv'.get e2
 have z1 : its.toArray[j] = u1 := by simpa [List.getElem?_eq_some_iff] using (List.getElem?_eq_some_iff.mp q1).2
 have z2 : its'.toArray[j] = u2 := by simpa [List.getElem?_eq_some_iff] using (List.getElem?_eq_some_iff.mp q2).2
 rw [z1,z2]
 exact lk.eqAt I hu' r1 r2
end
end L2
namespace K32
open PySem L2 PyProof.Rows
def top (i : Nat) : Stmt := PySem.Challenge.pw_grantweave_k32_parts_refused.main.body.getD i (.Pass ⟨0,0,0,0⟩)
structure Txt (mg : Str → Option Value) : Prop where
 n_len : mg "len" = none
 n_isinstance : mg "isinstance" = none
 n_range : mg "range" = none
 n_int : mg "int" = none
 n_bool : mg "bool" = none
 n_str : mg "str" = none
 n_tuple : mg "tuple" = none
 n_list : mg "list" = none
 n_all : mg "all" = none
 n_zip : mg "zip" = none
 n_min : mg "min" = none
 n_max : mg "max" = none
 n_set : mg "set" = none
 n_sorted : mg "sorted" = none
 n_enumerate : mg "enumerate" = none
 g_LETTERS : ∃ t,mg "LETTERS" = some (.str "abcdefghijklmnopqrstuvwxyz" t)
 g_LONGEST_WORD : ∃ t,mg "LONGEST_WORD" = some (.int 8 t)
 g_GREATEST_NUMBER : ∃ t,mg "GREATEST_NUMBER" = some (.int 99 t)
 g_MOST_OFFERS : ∃ t,mg "MOST_OFFERS" = some (.int 2 t)
 g_MOST_BENEATH : ∃ t,mg "MOST_BENEATH" = some (.int 6 t)
 g_MOST_PARTS : ∃ t,mg "MOST_PARTS" = some (.int 30 t)
 g_MOST_DEEP : ∃ t,mg "MOST_DEEP" = some (.int 6 t)
section
variable {P : Program} {w : World} {K : PySem.W.Frag} {mg : Str → Option Value} {base : Heap}
abbrev s_law_cell : Stmt := top 44
theorem sc_law_cell : Ar ["_law_script","_law_k"] ["_law_script","_law_k"] (Af s_law_cell) := by trivial
theorem ok_cell (T : Txt mg) (F : Aq K mg "_law_cell" s_law_cell ["_law_script","_law_k"]) : FnAt P w K mg base "_law_cell" 1 ["_law_script","_law_k"] (spCell K) := by
 refine F.at sc_law_cell (fun vs H Q E h => ?_) (fun f cdv A outer s H vs Q E hr h => ?_)
 ·obtain ⟨a,ns,k,rfl,_⟩ := h
  rfl
 ·obtain ⟨a,ns,k,rfl,hS,q⟩ := h
  refine ⟨_,(Ad (Bc (Bb op_lt (pv 1) (Ah Av rfl T.n_len boot_len (Aa (pv 0) Ab)) (Ba _)) (Ae (As (Bk A5 (pv 0) (pv 1) (fun _ _ => rfl)))) Ap)
   (Ae (As (A7 Ds (A7 op_mul Ag (pv 1)) Ag)))),?_⟩
  refine ⟨_,rfl,_,rfl,_,_,rfl,.inl ⟨_,hS,rfl⟩,_,_,rfl,rfl,_,rfl,ite2 (fun hlt => ?_) (fun _ => ?_)⟩
  ·have hlt : (k : Int) < (((ns.map V.int).length : Nat) : Int) := of_decide_eq_true hlt
   have hk : k < ns.length := by rw [List.length_map] at hlt; omega
   refine ⟨_,rfl,_,rfl,a,_,_,V.int ns[k],rfl,rfl,hS,atI_nat (by rw [List.getElem?_map,List.getElem?_eq_getElem hk]; rfl),q _⟩
  ·exact ⟨_,rfl,_,_,rfl,rfl,.inl ⟨by decide,by decide⟩,_,_,rfl,rfl,q _⟩
abbrev s_law_mixed : Stmt := top 45
theorem sc_law_mixed : Ar ["_law_cell_here","_law_k","_law_number"] ["_law_cell_here","_law_k"] (Af s_law_mixed) := by trivial
theorem ok_mixed (F : Aq K mg "_law_mixed" s_law_mixed ["_law_cell_here","_law_k"]) : FnAt P w K mg base "_law_mixed" 1 ["_law_cell_here","_law_k"] spMixed := by
 refine F.at sc_law_mixed (fun vs H Q E h => ?_) (fun f cdv A outer s H vs Q E hr h => ?_)
 ·obtain ⟨a,k,rfl,_⟩ := h
  rfl
 ·obtain ⟨a,k,rfl,q⟩ := h
  refine ⟨_,(Ad (A3 (i := 2) sc_law_mixed.nd rfl (by trivial) (A7 Cf (A7 Ds (A7 Ds (A7 op_mul (A7 Cf (pv 0) Ag) Ag) (A7 op_mul Ag (pv 1))) Ag) Ag))
   (Ad (A3 (i := 2) sc_law_mixed.nd rfl (by trivial) (A7 Cf (A7 Ds (A7 Ds (A7 op_mul (pv 2) (pv 2)) (A7 op_mul Ag (pv 1))) Ag) Ag))
   (Ae (As (A7 Cf (A7 op_mul (pv 2) (pv 2)) Ag))))),?_⟩
  have md : ∀ (x : Int) (y : Int),0 < y → y < 4294967296 → -(2 ^ 64) < x % y ∧ x % y < 2 ^ 64 := fun x y h1 h2 => by
   have a1 := Int.emod_nonneg x (show y ≠ 0 by omega)
   have a2 := Int.emod_lt_of_pos x h1
   omega
  refine ⟨_,rfl,_,_,rfl,rfl,(by show (0 : Int) < _; decide),_,_,rfl,rfl,.inr ⟨by decide,by decide⟩,_,rfl,_,_,rfl,rfl,.inl ⟨by decide,by decide⟩,_,_,rfl,rfl,_,_,rfl,rfl,_,_,rfl,rfl,(by show (0 : Int) < _; decide),?_⟩
  refine ⟨_,rfl,_,rfl,_,_,rfl,rfl,.inl (md _ _ (by decide) (by decide)),_,rfl,_,_,rfl,rfl,.inl ⟨by decide,by decide⟩,_,_,rfl,rfl,_,_,rfl,rfl,_,_,rfl,rfl,(by show (0 : Int) < _; decide),?_⟩
  exact ⟨_,rfl,_,rfl,_,_,rfl,rfl,.inl (md _ _ (by decide) (by decide)),_,_,rfl,rfl,(by show (0 : Int) < _; decide),q _⟩
abbrev s_law_box : Stmt := top 46
theorem sc_law_box : Ar ["_law_cell_here"] ["_law_cell_here"] (Af s_law_box) := by trivial
theorem ok_box (F : Aq K mg "_law_box" s_law_box ["_law_cell_here"]) : FnAt P w K mg base "_law_box" 1 ["_law_cell_here"] spBox := by
 refine F.at sc_law_box (fun vs H Q E h => ?_) (fun f cdv A outer s H vs Q E hr h => ?_)
 ·obtain ⟨c,rfl,_⟩ := h
  rfl
 ·obtain ⟨c,rfl,q⟩ := h
  refine ⟨_,(Ad (Bc (Bb op_ge (pv 0) (A7 op_pow Ag Ag) (Ba _)) (Ae (As (Am (Aa (pv 0) (Aa (A7 Cf (pv 0) Ag) (Aa Ag Ab)))))) Ap)
   (Ae (As (Am (Aa Ag (Aa (A7 Cf (pv 0) Ag) (Aa Ag Ab))))))),?_⟩
  refine ⟨_,rfl,_,_,rfl,rfl,⟨by decide,by decide,by decide⟩,_,_,rfl,rfl,_,rfl,ite2 (fun _ => ?_) (fun _ => ?_)⟩
  ·exact ⟨_,rfl,_,rfl,_,_,rfl,rfl,(by show (0 : Int) < _; decide),(by exact Z3),fun p hp => q p _ _ _ hp⟩
  ·exact ⟨_,rfl,_,_,rfl,rfl,(by show (0 : Int) < _; decide),(by exact Z3),fun p hp => q p _ _ _ hp⟩
abbrev s_law_take : Stmt := top 47
theorem sc_law_take : Ar ["_law_box_here","_law_many","_law_number"] ["_law_box_here","_law_many"] (Af s_law_take) := by trivial
theorem ok_take (F_mixed : FnAt P w K mg base "_law_mixed" 1 ["_law_cell_here","_law_k"] spMixed) (F : Aq K mg "_law_take" s_law_take ["_law_box_here","_law_many"]) : FnAt P w K mg base "_law_take" 2 ["_law_box_here","_law_many"] spTake := by
 refine F.at sc_law_take (fun vs H Q E h => ?_) (fun f cdv A outer s H vs Q E hr h => ?_)
 ·obtain ⟨b,n,rfl,_⟩ := h
  rfl
 ·obtain ⟨b,n,rfl,⟨x,y,z,hb⟩,h0,h1,q⟩ := h
  refine ⟨_,(Ad (Bc (Bb op_gt (Bk A5 (pv 0) Ag (fun _ _ => rfl)) Ag (Ba _)) (Ad (A3 (i := 2) sc_law_take.nd rfl (by trivial) (A7 Cf (Bk A5 (pv 0) Ag (fun _ _ => rfl)) (pv 1)))
   (Ad (ps_asg (A7 op_fdivB (Bk A5 (pv 0) Ag (fun _ _ => rfl)) (pv 1)) (pg_sub (pv 0) Ag set_list))
   (Ae (As (pv 2))))) Ap)
   (Ad (ps_asg (A7 Ds (Bk A5 (pv 0) Ag (fun _ _ => rfl)) Ag) (pg_sub (pv 0) Ag set_list))
   (Ae (As (A7 Cf (Ay F_mixed hr (by decide) rfl (Aa (Bk A5 (pv 0) Ag (fun _ _ => rfl)) (Aa (Bk A5 (pv 0) Ag (fun _ _ => rfl)) Ab))) (pv 1)))))),?_⟩
  have a1 : ∀ r : Int,0 ≤ r % n := fun r => Int.emod_nonneg r (show n ≠ 0 by omega)
  have a2 : ∀ r : Int,r % n < n := fun r => Int.emod_lt_of_pos r h0
  have oth : ∀ x y z : Int,Oth b H (upd H b (.lst [.int x,.int y,.int z])) := fun x y z => ⟨⟨x,y,z,Ac⟩,fun c o e nc => by rw [Ak nc]; exact e⟩
  refine ⟨_,rfl,b,_,_,V.int x,rfl,rfl,SqL.of hb,rfl,_,_,rfl,rfl,_,rfl,ite2 (fun _ => ?_) (fun _ => ?_)⟩
  ·refine ⟨_,rfl,b,_,_,V.int x,rfl,rfl,SqL.of hb,rfl,_,rfl,_,_,rfl,rfl,h0,?_⟩
   refine ⟨_,rfl,b,_,_,V.int x,rfl,rfl,SqL.of hb,rfl,_,rfl,_,_,rfl,rfl,⟨h0,h1⟩,?_⟩
   refine ⟨_,rfl,b,_,_,0,rfl,rfl,hb,rfl,?_⟩
   exact ⟨_,rfl,q _ _ (a1 _) (a2 _) (oth _ _ _)⟩
  ·refine ⟨_,rfl,b,_,_,V.int z,rfl,rfl,SqL.of hb,rfl,_,_,rfl,rfl,?_⟩
   refine ⟨_,rfl,b,_,_,2,rfl,rfl,hb,rfl,?_⟩
   refine ⟨_,rfl,b,_,_,V.int y,rfl,rfl,SqL.of Ac,rfl,_,rfl,b,_,_,V.int (z + 1),rfl,rfl,SqL.of Ac,rfl,_,_,rfl,fun r => ?_⟩
   exact ⟨_,rfl,_,_,rfl,rfl,h0,q _ _ (a1 _) (a2 _) (oth _ _ _)⟩
end
end K32
namespace K32
open PySem L2 PyProof.Rows
section
variable {P : Program} {w : World} {K : PySem.W.Frag} {mg : Str → Option Value} {base : Heap}
def Arg (K : PySem.W.Frag) (H : Hp) (x : V) : Prop := ∃ k,KdOf K H x k
def spWhole (K : PySem.W.Frag) : Sp := fun vs H Q _ => ∃ x,vs = [x] ∧ Arg K H x ∧ Q (.bl (wholeV x)) H
abbrev sis_whole : Stmt := top 15
theorem scis_whole : Ar ["thing"] ["thing"] (Af sis_whole) := by trivial
theorem whole_of {H : Hp} {x : V} {k : Kd} (h : KdOf K H x k) : (k.isA .int && !(k.isA .bl)) = wholeV x := by
 have h : TyOf K H x (.type k.nm) := h
 generalize hT : Value.type k.nm = T at h
 cases h <;> cases k <;> first | rfl | exact absurd (Value.type.inj hT) (by decide) | cases hT
theorem ok_whole (T : Txt mg) (F : Aq K mg "is_whole" sis_whole ["thing"]) : FnAt P w K mg base "is_whole" 1 ["thing"] (spWhole K) := by
 refine F.at scis_whole (fun vs H Q E h => ?_) (fun f cdv A outer s H vs Q E hr h => ?_)
 ·obtain ⟨x,rfl,_⟩ := h
  rfl
 ·obtain ⟨x,rfl,⟨k,hk⟩,q⟩ := h
  refine ⟨_,(Ae (As (B9 (Ah (Bt .int (by simp)) rfl T.n_isinstance boot_isinstance (Aa (pv 0) (Aa (Au (v := .ty "int") rfl T.n_int boot_int rfl) Ab))) (Cq (pe_not (Ah (Bt .bl (by simp)) rfl T.n_isinstance boot_isinstance (Aa (pv 0) (Aa (Au (v := .ty "bool") rfl T.n_bool boot_bool rfl) Ab)))))))),?_⟩
  rw [← whole_of hk] at q
  refine ⟨_,rfl,x,k,rfl,hk,_,rfl,?_⟩
  cases e : k.isA .int with
  | true =>
    rw [e] at q
    exact iteT ⟨_,rfl,x,k,rfl,hk,_,rfl,q⟩
  | false =>
    rw [e] at q
    exact iteF q
theorem kd_str {H : Hp} {x : V} {k : Kd} (h : KdOf K H x k) (e : k.isA .str = true) : ∃ z,x = .str z := by
 have h : TyOf K H x (.type k.nm) := h
 generalize hT : Value.type k.nm = T at h
 cases h <;> cases k <;> first | exact ⟨_,rfl⟩ | exact absurd e (by decide) | exact absurd (Value.type.inj hT) (by decide) | cases hT
theorem kd_nostr {H : Hp} {x : V} {k : Kd} (h : KdOf K H x k) (e : k.isA .str = false) : C8 x = false := by
 have h : TyOf K H x (.type k.nm) := h
 generalize hT : Value.type k.nm = T at h
 cases h <;> cases k <;> first | rfl | exact absurd e (by decide) | exact absurd (Value.type.inj hT) (by decide) | cases hT
def spWord (K : PySem.W.Frag) : Sp := fun vs H Q _ => ∃ x,vs = [x] ∧ Arg K H x ∧ (∀ z,x = .str z → z.length ≤ 1000) ∧ ∀ H',Same H H' → Q (.bl (C8 x)) H'
abbrev sis_word : Stmt := top 16
theorem scis_word : Ar ["thing"] ["thing"] (Af sis_word) := by trivial
theorem take_map_snoc (z : Str) {i : Nat} (hi : i < z.cps.size) (g : Nat → V) : (z.cps.toList.take i).map g ++ [g (z.cps.getD i 0)] = (z.cps.toList.take (i + 1)).map g := by
 have e : z.cps.getD i 0 = z.cps.toList[i]'(by simpa using hi) := by
  rw [Array.getD_eq_getD_getElem?,Array.getElem?_eq_getElem hi]; simp
 rw [List.take_succ_eq_append_getElem (by simpa using hi),List.map_append,e]
 rfl
theorem ok_word (T : Txt mg) (F : Aq K mg "is_word" sis_word ["thing"]) : FnAt P w K mg base "is_word" 1 ["thing"] (spWord K) := by
 refine F.at scis_word (fun vs H Q E h => ?_) (fun f cdv A outer s H vs Q E hr h => ?_)
 ·obtain ⟨x,rfl,_⟩ := h
  rfl
 ·obtain ⟨x,rfl,⟨k,hk⟩,hl,q⟩ := h
  refine ⟨_,(Ad (Bc (PW.pt (pw_or (Bg (Bj (Ah (Bt .str (by simp)) rfl T.n_isinstance boot_isinstance (Aa (pv 0) (Aa (Au (v := .ty "str") rfl T.n_str boot_str rfl) Ab))))) (Cp (Bg (pt_chain op_le op_le Ag (Ah Av rfl T.n_len boot_len (Aa (pv 0) Ab)) (By rfl T.g_LONGEST_WORD)))))) (Ae (As pe_bl)) Ap)
   (Ae (As (Ah (Bw rfl) rfl T.n_all boot_all (Aa (Bz (sc := Af sis_word) (N0 := ["thing"]) (xs := ["sign"]) (ys := []) (js := []) (by trivial) rfl (pi_str (pv 0)) (fun _ _ _ _ => (Ao (i := 0) (show (["sign"] : List Str).Nodup by decide +kernel) rfl (by trivial))) (fun _ _ _ _ => B7) (fun _ _ _ _ => (Cc op_in_str (pv 0) (pe_globS rfl T.g_LETTERS) (by with_unfolding_all rfl)))) Ab))))),?_⟩
  refine ⟨_,rfl,x,k,rfl,hk,_,rfl,?_⟩
  cases e : k.isA .str with
  | false =>
    refine iteT (iteT ?_)
    have := q H (Same.refl H)
    rw [kd_nostr hk e] at this
    exact this
  | true =>
    refine iteF ?_
    obtain ⟨z,rfl⟩ := kd_str hk e
    have hz := hl z rfl
    have hs : sizeLine = 16777216 := sizeLine_eq
    refine ⟨_,rfl,_,_,rfl,⟨by omega,rfl⟩,_,_,rfl,rfl,_,rfl,?_⟩
    have no : ¬ (1 ≤ z.length ∧ z.length ≤ 8) → Q (.bl false) H := fun hn => by
     have := q H (Same.refl H)
     have e2 : C8 (.str z) = false := by
      show (decide (1 ≤ z.length ∧ z.length ≤ 8) && z.cps.toList.all Dj) = false
      rw [decide_eq_false hn]; rfl
     rw [e2] at this
     exact this
    refine ite2 (fun h1 => ?_) (fun h1 => ?_)
    ·have h1 : (1 : Int) ≤ (z.length : Int) := of_decide_eq_true h1
     refine ⟨_,_,rfl,rfl,_,rfl,?_⟩
     refine ite2 (fun h2 => ?_) (fun h2 => ?_)
     ·have h2 : ¬ ((z.length : Int) ≤ 8) := by simpa using h2
      exact no (by omega)
     ·have h2 : (z.length : Int) ≤ 8 := by simpa using h2
      refine ⟨_,rfl,z,rfl,comp_str (fun i ys H' => H' = H ∧ ys = (z.cps.toList.take i).map fun c => V.bl (Dj c)) ⟨rfl,rfl⟩ (by show z.length ≤ sizeLine; omega) ?_ ?_ ?_⟩
      ·rintro i ys H' ⟨rfl,rfl⟩
       simp; omega
      ·rintro i ys H' hi ⟨rfl,rfl⟩
       refine ⟨_,rfl,_,_,rfl,rfl,rfl,?_⟩
       have e3 : (!(Builtin.Str.occurrences (Str.ofString "abcdefghijklmnopqrstuvwxyz") (sgn z i) 0 (Str.ofString "abcdefghijklmnopqrstuvwxyz").length 1).isEmpty) = Dj (z.cps.getD i 0) := low_in _
       rw [e3]
       exact take_map_snoc z hi fun c => V.bl (Dj c)
      ·rintro ys H' ⟨rfl,rfl⟩ p hp
       refine ⟨p,z.cps.toList.map Dj,rfl,SqL.of (by rw [Ac,List.take_of_length_le (by simp),List.map_map]; rfl),?_⟩
       have e2 : C8 (.str z) = (z.cps.toList.map Dj).all id := by
        show (decide (1 ≤ z.length ∧ z.length ≤ 8) && z.cps.toList.all Dj) = _
        rw [decide_eq_true (by omega),List.all_map]
        rfl
       have := q _ (Same.new (o := .lst ((z.cps.toList.take z.cps.size).map fun c => V.bl (Dj c))) hp)
       rw [e2] at this
       exact this
    ·have h1 : ¬ ((1 : Int) ≤ (z.length : Int)) := by simpa using h1
     exact ⟨_,rfl,iteT (no (by omega))⟩
theorem TyOf.same' {H H' : Hp} {x : V} {t : Value} (h : TyOf K H x t) (s : Same H H') : TyOf K H' x t := by
 cases h with
 | non => exact .non
 | bl b => exact .bl b
 | int i => exact .int i
 | str z => exact .str z
 | flt z => exact .flt z
 | lst e => exact .lst (s _ _ e)
 | frz e => exact .frz (s _ _ e)
 | tup e => exact .tup (s _ _ e)
 | dK e => exact .dK (s _ _ e)
 | dT e => exact .dT (s _ _ e)
 | ins e cl ha hn htk hm => exact .ins (s _ _ e) cl ha hn htk hm
theorem Arg.same {H H' : Hp} {x : V} (h : Arg K H x) (s : Same H H') : Arg K H' x := by
 obtain ⟨k,h⟩ := h
 exact ⟨k,TyOf.same' h s⟩
def Short (x : V) : Prop := ∀ z,x = .str z → z.length ≤ 1000
theorem kd_tup {H : Hp} {x : V} {k : Kd} (h : KdOf K H x k) (e : k.isA .tup = true) : ∃ a xs,x = .ref a ∧ H a = some (.tup xs) := by
 have h : TyOf K H x (.type k.nm) := h
 generalize hT : Value.type k.nm = T at h
 cases h <;> cases k <;> first | exact ⟨_,_,rfl,by assumption⟩ | exact absurd e (by decide) | exact absurd (Value.type.inj hT) (by decide) | cases hT
theorem kd_notup {H : Hp} {x : V} {k : Kd} (h : KdOf K H x k) (e : k.isA .tup = false) : keyV H x = false := by
 have h : TyOf K H x (.type k.nm) := h
 generalize hT : Value.type k.nm = T at h
 cases h with
 | lst ea => show (match H _ with | some (.tup [x,y]) => C8 x && numV y | _ => false) = false; rw [ea]
 | frz ea => show (match H _ with | some (.tup [x,y]) => C8 x && numV y | _ => false) = false; rw [ea]
 | dK ea => show (match H _ with | some (.tup [x,y]) => C8 x && numV y | _ => false) = false; rw [ea]
 | dT ea => show (match H _ with | some (.tup [x,y]) => C8 x && numV y | _ => false) = false; rw [ea]
 | tup ea => cases k <;> first | exact absurd e (by decide) | exact absurd (Value.type.inj hT) (by decide)
 | ins ea => cases hT
 | _ => rfl
def spKey (K : PySem.W.Frag) : Sp := fun vs H Q _ => ∃ x,vs = [x] ∧ Arg K H x ∧ (∀ a xs,x = .ref a → H a = some (.tup xs) → ∀ y ∈ xs,Arg K H y ∧ Short y) ∧ ∀ H',Same H H' → Q (.bl (keyV H x)) H'
abbrev sis_key : Stmt := top 17
theorem scis_key : Ar ["thing"] ["thing"] (Af sis_key) := by trivial
theorem ok_key (T : Txt mg) (F_is_word : FnAt P w K mg base "is_word" 1 ["thing"] (spWord K)) (F_is_whole : FnAt P w K mg base "is_whole" 1 ["thing"] (spWhole K)) (F : Aq K mg "is_key" sis_key ["thing"]) : FnAt P w K mg base "is_key" 2 ["thing"] (spKey K) := by
 refine F.at scis_key (fun vs H Q E h => ?_) (fun f cdv A outer s H vs Q E hr h => ?_)
 ·obtain ⟨x,rfl,_⟩ := h
  rfl
 ·obtain ⟨x,rfl,⟨k,hk⟩,hy,q⟩ := h
  refine ⟨_,(Ad (Bc (PW.pt (pw_or (Bg (Bj (Ah (Bt .tup (by simp)) rfl T.n_isinstance boot_isinstance (Aa (pv 0) (Aa (Au (v := .ty "tuple") rfl T.n_tuple boot_tuple rfl) Ab))))) (Cp (Bb op_ne (Ah Av rfl T.n_len boot_len (Aa (pv 0) Ab)) Ag (Ba _))))) (Ae (As pe_bl)) Ap)
   (Ae (As (B9 (Ay F_is_word hr (by decide) rfl (Aa (Bk Di (pv 0) Ag (fun _ _ => rfl)) Ab)) (B9 (Ay F_is_whole hr (by decide) rfl (Aa (Bk Di (pv 0) Ag (fun _ _ => rfl)) Ab)) (Cq (pe_chain op_le op_le Ag (Bk Di (pv 0) Ag (fun _ _ => rfl)) (By rfl T.g_GREATEST_NUMBER)))))))),?_⟩
  refine ⟨_,rfl,x,k,rfl,hk,_,rfl,?_⟩
  cases e : k.isA .tup with
  | false =>
    refine iteT (iteT ?_)
    have := q H (Same.refl H)
    rw [kd_notup hk e] at this
    exact this
  | true =>
    refine iteF ?_
    obtain ⟨a,xs,rfl,ha⟩ := kd_tup hk e
    refine ⟨_,rfl,_,_,rfl,.inr ⟨xs,SqT.of ha,rfl⟩,rfl,_,rfl,ite2 (fun h2 => ?_) (fun h2 => ?_)⟩
    ·have h2 : ¬ ((xs.length : Int) = 2) := by simpa using h2
     have := q H (Same.refl H)
     have e2 : keyV H (.ref a) = false := by
      show (match H a with | some (.tup [x,y]) => C8 x && numV y | _ => false) = false
      rw [ha]
      match xs,h2 with
      | [],_ => rfl
      | [_],_ => rfl
      | [_,_],h2 => exact absurd rfl h2
      | _ :: _ :: _ :: _,_ => rfl
     rw [e2] at this
     exact this
    ·have h2 : (xs.length : Int) = 2 := by simpa using h2
     match xs,h2,ha,hy with
     | [],h2,_,_ => exact absurd h2 (by decide)
     | [_],h2,_,_ => simp at h2
     | _ :: _ :: _ :: _,h2,_,_ => simp at h2; omega
     | [u,v],_,ha,hy =>
       have e2 : keyV H (.ref a) = (C8 u && numV v) := by
          show (match H a with | some (.tup [x,y]) => C8 x && numV y | _ => false) = _
          rw [ha]
       rw [e2] at q
       obtain ⟨au,lu⟩ := hy a _ rfl ha u (by simp)
       obtain ⟨av,lv⟩ := hy a _ rfl ha v (by simp)
       refine ⟨_,rfl,a,_,_,u,rfl,rfl,SqT.of ha,rfl,u,rfl,au,lu,fun H1 s1 => ⟨_,rfl,?_⟩⟩
       have ha1 := s1 _ _ ha
       cases eu : C8 u with
       | false => rw [eu] at q; exact iteF (q _ s1)
       | true =>
         rw [eu,Bool.true_and] at q
         refine iteT ⟨_,rfl,a,_,_,v,rfl,rfl,SqT.of ha1,rfl,v,rfl,av.same s1,_,rfl,?_⟩
         cases v with
         | int n =>
           refine iteT ⟨_,rfl,a,_,_,V.int n,rfl,rfl,SqT.of ha1,rfl,_,_,rfl,rfl,_,rfl,ite2 (fun h3 => ?_) (fun h3 => ?_)⟩
           ·have h3 : 0 ≤ n := of_decide_eq_true h3
            refine ⟨_,_,rfl,rfl,?_⟩
            have := q _ s1
            have e4 : numV (.int n) = decide (n ≤ 99) := by
             show decide (0 ≤ n ∧ n ≤ 99) = _
             rw [Bool.eq_iff_iff]; simp [h3]
            rw [e4] at this
            exact this
           ·have h3 : ¬ (0 ≤ n) := by simpa using h3
            have := q _ s1
            have e4 : numV (.int n) = false := decide_eq_false (by omega)
            rw [e4] at this
            exact this
         | _ => exact iteF (q _ s1)
end
end K32
namespace L2
open PySem PyProof.Rows
theorem pe_fn0 {X : Cx} {x : Str} {sp : Sp} {k j : Nat} {p pos : Pos} (F : FnAt X.prog X.w X.K X.mg X.base x k [] sp) (hr : Room j X.A) (hj : k ≤ j) (hg : Gl X x)
 (hdb : (x == ("__debug__" : Str)) = false := by decide) : PE X (.Call (.Name x p) [] [] pos) (tCall sp [] E0 tNil) := by
 obtain ⟨f,fd,G,hm,hk,hb⟩ := F.ex
 exact pe_call0 G (hr.mono hj) hg hm hk hb .nil Db hdb
end L2
namespace K32
open PySem L2 PyProof.Rows
def nm : Nat → Str
 | 0 => "called"
 | 1 => "beside"
 | 2 => "joined"
 | _ => "changed"
structure Js where
 c0 : Addr
 c1 : Addr
 c2 : Addr
 c3 : Addr
def Js.c (J : Js) : Nat → Addr
 | 0 => J.c0
 | 1 => J.c1
 | 2 => J.c2
 | _ => J.c3
def JAt (J : Js) (H : Hp) (p : Addr) (j : Nat) : Prop := ∃ dx,H p = some (.ins (J.c j) dx [])
theorem JAt.same {J : Js} {H H' : Hp} {p : Addr} {j : Nat} (h : JAt J H p j) (s : Same H H') : JAt J H' p j := by
 obtain ⟨dx,h⟩ := h
 exact ⟨dx,s _ _ h⟩
theorem j4 {j : Nat} (h : j < 4) : j = 0 ∨ j = 1 ∨ j = 2 ∨ j = 3 := by omega
def spC (v : V) : Sp := fun vs H Q _ => (∃ a,vs = [.ref a]) ∧ Q v H
structure JHas (P : Program) (w : World) (K : PySem.W.Frag) (mg : Str → Option Value) (base : Heap) (J : Js) : Prop where
 n0 : New0 K mg "Called" J.c0
 n1 : New0 K mg "Beside" J.c1
 n2 : New0 K mg "Joined" J.c2
 n3 : New0 K mg "Changed" J.c3
 word : ∀ j,j < 4 → MethD P w K mg base CX0 1 (J.c j) "word" ["self"] (spC (.str (nm j)))
def DW (J : Js) : Addr → Sp → Prop := fun C sp => ∃ j,j < 4 ∧ C = J.c j ∧ sp = spC (.str (nm j))
section
variable {P : Program} {w : World} {K : PySem.W.Frag} {mg : Str → Option Value} {base : Heap} {J : Js}
theorem JHas.hDW (D : JHas P w K mg base J) : ∀ C sp,DW J C sp → MethD P w K mg base CX0 1 C "word" ["self"] sp := by
 rintro C sp ⟨j,hj,rfl,rfl⟩
 exact D.word j hj
theorem new_same {H : Hp} {C x dx : Addr} (hx : H x = none) (hd : H dx = none) : Same H (upd (upd H dx (.own x)) x (.ins C dx [])) := fun b o e => by rw [Ak (Aj e hx),Ak (Aj e hd)]; exact e
abbrev Dq : Stmt := Cw (top 20) 0
theorem scCalled_word : Ar ["self"] ["self"] (Af Dq) := by trivial
theorem ok_Called_word {f : Addr} {fd : FuncData} (F : Fun K "word" "Called.word" Dq f fd) : FnOk P w K mg base CX0 1 f fd ["self"] (spC (.str (nm 0))) := by
 refine F.ok scCalled_word (fun vs H Q E h => ?_) (fun cdv A outer s H vs Q E hr h => ?_)
 ·obtain ⟨⟨a,rfl⟩,_⟩ := h
  rfl
 ·obtain ⟨⟨a,rfl⟩,q⟩ := h
  refine ⟨_,(Ae (As Al)),?_⟩
  exact q
abbrev Dr : Stmt := Cw (top 21) 0
theorem scBeside_word : Ar ["self"] ["self"] (Af Dr) := by trivial
theorem ok_Beside_word {f : Addr} {fd : FuncData} (F : Fun K "word" "Beside.word" Dr f fd) : FnOk P w K mg base CX0 1 f fd ["self"] (spC (.str (nm 1))) := by
 refine F.ok scBeside_word (fun vs H Q E h => ?_) (fun cdv A outer s H vs Q E hr h => ?_)
 ·obtain ⟨⟨a,rfl⟩,_⟩ := h
  rfl
 ·obtain ⟨⟨a,rfl⟩,q⟩ := h
  refine ⟨_,(Ae (As Al)),?_⟩
  exact q
abbrev Dp : Stmt := Cw (top 22) 0
theorem scJoined_word : Ar ["self"] ["self"] (Af Dp) := by trivial
theorem ok_Joined_word {f : Addr} {fd : FuncData} (F : Fun K "word" "Joined.word" Dp f fd) : FnOk P w K mg base CX0 1 f fd ["self"] (spC (.str (nm 2))) := by
 refine F.ok scJoined_word (fun vs H Q E h => ?_) (fun cdv A outer s H vs Q E hr h => ?_)
 ·obtain ⟨⟨a,rfl⟩,_⟩ := h
  rfl
 ·obtain ⟨⟨a,rfl⟩,q⟩ := h
  refine ⟨_,(Ae (As Al)),?_⟩
  exact q
abbrev C9 : Stmt := Cw (top 23) 0
theorem scChanged_word : Ar ["self"] ["self"] (Af C9) := by trivial
theorem ok_Changed_word {f : Addr} {fd : FuncData} (F : Fun K "word" "Changed.word" C9 f fd) : FnOk P w K mg base CX0 1 f fd ["self"] (spC (.str (nm 3))) := by
 refine F.ok scChanged_word (fun vs H Q E h => ?_) (fun cdv A outer s H vs Q E hr h => ?_)
 ·obtain ⟨⟨a,rfl⟩,_⟩ := h
  rfl
 ·obtain ⟨⟨a,rfl⟩,q⟩ := h
  refine ⟨_,(Ae (As Al)),?_⟩
  exact q
def spAll (J : Js) : Sp := fun vs H Q _ => vs = [] ∧ ∀ (l p0 p1 p2 p3 : Addr) (H' : Hp),Same H H' → H' l = some (.lst [.ref p0,.ref p1,.ref p2,.ref p3]) → JAt J H' p0 0 → JAt J H' p1 1 → JAt J H' p2 2 → JAt J H' p3 3 → Q (.ref l) H'
abbrev sall_joins : Stmt := top 24
theorem scall_joins : Ar [] [] (Af sall_joins) := by trivial
theorem ok_all (D : JHas P w K mg base J) (F : Aq K mg "all_joins" sall_joins []) : FnAt P w K mg base "all_joins" 1 [] (spAll J) := by
 refine F.at scall_joins (fun vs H Q E h => ?_) (fun f cdv A outer s H vs Q E hr h => ?_)
 ·obtain ⟨rfl,_⟩ := h
  rfl
 ·obtain ⟨rfl,q⟩ := h
  refine ⟨_,(Ae (As (Am (Aa (pe_new0 D.n0 rfl) (Aa (pe_new0 D.n1 rfl) (Aa (pe_new0 D.n2 rfl) (Aa (pe_new0 D.n3 rfl) Ab))))))),?_⟩
  intro p0 d0 x0 y0 _
  have s0 := new_same (C := J.c0) x0 y0
  have a0 : upd (upd H d0 (.own p0)) p0 (.ins J.c0 d0 []) p0 = some (.ins J.c0 d0 []) := Ac
  generalize upd (upd H d0 (.own p0)) p0 (.ins J.c0 d0 []) = H0 at s0 a0 ⊢
  replace a0 : JAt J H0 p0 0 := ⟨_,a0⟩
  intro p1 d1 x1 y1 _
  have s1 := new_same (C := J.c1) x1 y1
  have a1 : upd (upd H0 d1 (.own p1)) p1 (.ins J.c1 d1 []) p1 = some (.ins J.c1 d1 []) := Ac
  generalize upd (upd H0 d1 (.own p1)) p1 (.ins J.c1 d1 []) = H1 at s1 a1 ⊢
  replace a1 : JAt J H1 p1 1 := ⟨_,a1⟩
  intro p2 d2 x2 y2 _
  have s2 := new_same (C := J.c2) x2 y2
  have a2 : upd (upd H1 d2 (.own p2)) p2 (.ins J.c2 d2 []) p2 = some (.ins J.c2 d2 []) := Ac
  generalize upd (upd H1 d2 (.own p2)) p2 (.ins J.c2 d2 []) = H2 at s2 a2 ⊢
  replace a2 : JAt J H2 p2 2 := ⟨_,a2⟩
  intro p3 d3 x3 y3 _
  have s3 := new_same (C := J.c3) x3 y3
  have a3 : upd (upd H2 d3 (.own p3)) p3 (.ins J.c3 d3 []) p3 = some (.ins J.c3 d3 []) := Ac
  generalize upd (upd H2 d3 (.own p3)) p3 (.ins J.c3 d3 []) = H3 at s3 a3 ⊢
  replace a3 : JAt J H3 p3 3 := ⟨_,a3⟩
  refine ⟨(by exact Z4),fun l hl => ?_⟩
  have s4 := Same.new (o := .lst [.ref p0,.ref p1,.ref p2,.ref p3]) hl
  have t3 := s3.trans s4
  have t2 := s2.trans t3
  have t1 := s1.trans t2
  exact q l p0 p1 p2 p3 _ (s0.trans t1) Ac (a0.same t1) (a1.same t2) (a2.same t3) (a3.same s4)
theorem at4 {J : Js} {H1 : Hp} {p0 p1 p2 p3 : Addr} (a0 : JAt J H1 p0 0) (a1 : JAt J H1 p1 1) (a2 : JAt J H1 p2 2) (a3 : JAt J H1 p3 3) : ∀ i y,([V.ref p0,V.ref p1,V.ref p2,V.ref p3] : List V)[i]? = some y → ∃ p dx,i < 4 ∧ y = V.ref p ∧ H1 p = some (.ins (J.c i) dx []) := by
 intro i y e
 match i,e with
 | 0,e => cases e; obtain ⟨dx,h⟩ := a0; exact ⟨_,dx,by decide,rfl,h⟩
 | 1,e => cases e; obtain ⟨dx,h⟩ := a1; exact ⟨_,dx,by decide,rfl,h⟩
 | 2,e => cases e; obtain ⟨dx,h⟩ := a2; exact ⟨_,dx,by decide,rfl,h⟩
 | 3,e => cases e; obtain ⟨dx,h⟩ := a3; exact ⟨_,dx,by decide,rfl,h⟩
 | n + 4,e => simp at e
def spJO (J : Js) : Sp := fun vs H Q _ => ∃ j : Nat,j < 4 ∧ vs = [.str (nm j)] ∧ ∀ (p : Addr) (H' : Hp),Same H H' → JAt J H' p j → Q (.ref p) H'
abbrev sjoin_of : Stmt := top 25
theorem scjoin_of : Ar ["word","join"] ["word"] (Af sjoin_of) := by trivial
theorem nm_eq {i j : Nat} (hi : i < 4) (hj : j < 4) : decide (V.str (nm i) = V.str (nm j)) = decide (i = j) := by
 rcases j4 hi with rfl | rfl | rfl | rfl <;> rcases j4 hj with rfl | rfl | rfl | rfl <;> decide +kernel
theorem ok_join_of (D : JHas P w K mg base J) (F_all_joins : FnAt P w K mg base "all_joins" 1 [] (spAll J)) (F : Aq K mg "join_of" sjoin_of ["word"]) : FnAt P w K mg base "join_of" 2 ["word"] (spJO J) := by
 refine F.at scjoin_of (fun vs H Q E h => ?_) (fun f cdv A outer s H vs Q E hr h => ?_)
 ·obtain ⟨j,_,rfl,_⟩ := h
  rfl
 ·obtain ⟨j,hj,rfl,q⟩ := h
  refine ⟨_,(Ad (Ck PassesOwn.never rfl (Be (pe_fn0 F_all_joins hr (by decide) rfl)) (Ao (i := 1) scjoin_of.nd rfl (by trivial)) (Ae (Bc (Bb Dw (pe_methD (D := DW J) (pv 1) D.hDW (hr.mono (by decide)) Db) (pv 0) (Ba _)) (Ae (As (pv 1))) Ap)))
   (Ae An)),?_⟩
  refine ⟨rfl,fun l p0 p1 p2 p3 H1 s1 el a0 a1 a2 a3 => ?_⟩
  refine ⟨l,rfl,⟨_,SqL.of el⟩,B0 (K := K) (a := l) (xs := [V.ref p0,V.ref p1,V.ref p2,V.ref p3]) (fun i σ H' => ∃ u : Option V,σ = [some (.str (nm j)),u] ∧ H' = H1 ∧ i ≤ j) ⟨_,rfl,rfl,Nat.zero_le _⟩ (fun i σ H' _ ⟨_,_,e,_⟩ => by rw [e]; exact SqL.of el) ?_ ?_⟩
  ·rintro i y σ H' hi ⟨u,rfl,rfl,hij⟩
   obtain ⟨p,dx,h4,rfl,hp⟩ := at4 a0 a1 a2 a3 i y hi
   refine ⟨_,rfl,p,J.c i,dx,[],spC (.str (nm i)),rfl,hp,rfl,⟨i,h4,rfl,rfl⟩,⟨p,rfl⟩,_,rfl,rfl,_,rfl,?_⟩
   show if decide (V.str (nm i) = V.str (nm j)) = true then _ else _
   rw [nm_eq h4 hj]
   refine ite2 (fun e => ?_) (fun e => ?_)
   ·have e : i = j := of_decide_eq_true e
    subst e
    exact ⟨_,rfl,q p _ s1 ⟨dx,hp⟩⟩
   ·have e : ¬ i = j := fun z => e (decide_eq_true z)
    exact ⟨_,rfl,rfl,by omega⟩
  ·rintro σ H' ⟨u,rfl,rfl,hij⟩
   have : (4 : Nat) ≤ j := hij
   omega
end
end K32
namespace K32
open PySem L2 PyProof.Rows PySem.SeqAt
def A2 {α β : Type} (R : α → β → Prop) (xs : List α) (ys : List β) : Prop := xs.length = ys.length ∧ ∀ (i : Nat) (x : α) (y : β),xs[i]? = some x → ys[i]? = some y → R x y
section
variable {α β γ δ : Type} {R S : α → β → Prop}
theorem A2.nil : A2 R [] [] := ⟨rfl,fun i x y h => by simp at h⟩
theorem A2.imp {xs : List α} {ys : List β} (h : A2 R xs ys) (f : ∀ x y,R x y → S x y) : A2 S xs ys := ⟨h.1,fun i x y e1 e2 => f _ _ (h.2 i x y e1 e2)⟩
theorem A2.cons {x : α} {y : β} {xs : List α} {ys : List β} (r : R x y) (h : A2 R xs ys) : A2 R (x :: xs) (y :: ys) := by
 refine ⟨by simp [h.1],fun i a b e1 e2 => ?_⟩
 cases i with
 | zero => simp only [List.getElem?_cons_zero,Option.some.injEq] at e1 e2; subst e1 e2; exact r
 | succ i => simp only [List.getElem?_cons_succ] at e1 e2; exact h.2 i a b e1 e2
theorem A2.inv {x : α} {y : β} {xs : List α} {ys : List β} (h : A2 R (x :: xs) (y :: ys)) : R x y ∧ A2 R xs ys := by
 refine ⟨h.2 0 x y rfl rfl,by have := h.1; simp at this; exact this,fun i a b e1 e2 => h.2 (i + 1) a b (by simpa using e1) (by simpa using e2)⟩
theorem A2.app {xs xs' : List α} {ys ys' : List β} (h : A2 R xs ys) (h' : A2 R xs' ys') : A2 R (xs ++ xs') (ys ++ ys') := by
 induction xs generalizing ys with
 | nil =>
   have : ys = [] := by have := h.1; simp at this; exact List.length_eq_zero_iff.mp this.symm
   subst this
   exact h'
 | cons x xs ih =>
   cases ys with
   | nil => have := h.1; simp at this
   | cons y ys => exact (h.inv.2 |> ih).cons h.inv.1
theorem A2.one {x : α} {y : β} (r : R x y) : A2 R [x] [y] := A2.nil.cons r
theorem A2.at {xs : List α} {ys : List β} {i : Nat} {x : α} (h : A2 R xs ys) (e : xs[i]? = some x) : ∃ y,ys[i]? = some y ∧ R x y := by
 have hi := (List.getElem?_eq_some_iff.mp e).1
 have hj : i < ys.length := by rw [← h.1]; exact hi
 exact ⟨ys[i],List.getElem?_eq_getElem hj,h.2 i x _ e (List.getElem?_eq_getElem hj)⟩
end
theorem A8 {α : Type} {xs : List α} {i : Nat} {x : α} (h : xs[i]? = some x) : xs.take (i + 1) = xs.take i ++ [x] := by
 obtain ⟨hi,e⟩ := List.getElem?_eq_some_iff.mp h
 rw [List.take_succ_eq_append_getElem hi,e]
inductive Fo where
 | nil
 | cons (j : Nat) (n : Str) (o : List (Str × Nat)) (ks : Fo) (r : Fo)
structure Nd where
 n : Str
 o : List (Str × Nat)
 ks : Fo
def Fo.ht : Fo → Nat
 | .nil => 0
 | .cons _ _ _ ks r => max (ks.ht + 1) r.ht
def Fo.size : Fo → Nat
 | .nil => 0
 | .cons _ _ _ ks r => ks.size + 1 + r.size
def Fo.items : Fo → List (Nat × Nd)
 | .nil => []
 | .cons j n o ks r => (j,⟨n,o,ks⟩) :: r.items
abbrev KeyR (H : Hp) (p : Addr) (k : Str × Nat) : Prop := H p = some (.tup [.str k.1,.int k.2])
structure GoodO (o : List (Str × Nat)) : Prop where
 l2 : o.length ≤ 2
 nd : o.Nodup
 ok : ∀ k ∈ o,A6 k.1 = true ∧ k.2 < 100
def OfAt (H : Hp) (po : Addr) (o : List (Str × Nat)) : Prop := ∃ ps : List Addr,H po = some (.tup (ps.map V.ref)) ∧ A2 (KeyR H) ps o ∧ GoodO o
abbrev pF (n : Str) (po pb : Addr) : List (Str × V) := putF "beneath" (.ref pb) (putF "offers" (.ref po) (putF "name" (.str n) []))
theorem C4 {n : Str} {po pb : Addr} : (pF n po pb).lookup ("name" : Str) = some (.str n) := by repeat (first | rw [Bo,if_pos rfl] | rw [Bo,if_neg (by decide +kernel)])
theorem pF_offers {n : Str} {po pb : Addr} : (pF n po pb).lookup ("offers" : Str) = some (.ref po) := by repeat (first | rw [Bo,if_pos rfl] | rw [Bo,if_neg (by decide +kernel)])
theorem Ci {n : Str} {po pb : Addr} : (pF n po pb).lookup ("beneath" : Str) = some (.ref pb) := by repeat (first | rw [Bo,if_pos rfl] | rw [Bo,if_neg (by decide +kernel)])
def FAt (C : Addr) (H : Hp) : Fo → List V → Prop
 | .nil,its => its = []
 | .cons j n o ks r,its => ∃ (p a dx po pb : Addr) (kt tl : List V),its = .ref p :: tl ∧ H p = some (.tup [.str (nm j),.ref a]) ∧ j < 4 ∧ A6 n = true ∧ H a = some (.ins C dx (pF n po pb)) ∧ OfAt H po o ∧ H pb = some (.tup kt) ∧ FAt C H ks kt ∧ FAt C H r tl
def PAt (C : Addr) (H : Hp) (a : Addr) (d : Nd) : Prop := ∃ (dx po pb : Addr) (kt : List V),H a = some (.ins C dx (pF d.n po pb)) ∧ A6 d.n = true ∧ OfAt H po d.o ∧ H pb = some (.tup kt) ∧ FAt C H d.ks kt
def JPAt (C : Addr) (H : Hp) (v : V) (x : Nat × Nd) : Prop := ∃ p a,v = .ref p ∧ H p = some (.tup [.str (nm x.1),.ref a]) ∧ x.1 < 4 ∧ PAt C H a x.2
theorem FAt.items {C : Addr} {H : Hp} : ∀ {f : Fo} {its : List V},FAt C H f its → A2 (JPAt C H) its f.items
 | .nil,its,h => by cases h; exact A2.nil
 | .cons j n o ks r,its,h => by
   obtain ⟨p,a,dx,po,pb,kt,tl,rfl,h1,h2,h3,h4,h5,h6,h7,h8⟩ := h
   exact h8.items.cons ⟨p,a,rfl,h1,h2,dx,po,pb,kt,h4,h3,h5,h6,h7⟩
theorem FAt.of {C : Addr} {H : Hp} : ∀ {f : Fo} {its : List V},A2 (JPAt C H) its f.items → FAt C H f its
 | .nil,its,h => List.length_eq_zero_iff.mp h.1
 | .cons j n o ks r,[],h => by have := h.1; simp [Fo.items] at this
 | .cons j n o ks r,v :: tl,h => by
   obtain ⟨⟨p,a,rfl,h1,h2,dx,po,pb,kt,h4,h3,h5,h6,h7⟩,t⟩ := A2.inv h
   exact ⟨p,a,dx,po,pb,kt,tl,rfl,h1,h2,h3,h4,h5,h6,h7,FAt.of t⟩
def TpIn (H H' : Hp) : Prop := ∀ a o,H a = some o → ((∃ xs,o = .tup xs) ∨ (∃ C dx fs,o = .ins C dx fs)) → H' a = some o
theorem TpIn.of {H H' : Hp} (s : Same H H') : TpIn H H' := fun a o e _ => s a o e
theorem TpIn.tup {H H' : Hp} (t : TpIn H H') {a : Addr} {xs : List V} (h : H a = some (.tup xs)) : H' a = some (.tup xs) := t _ _ h (.inl ⟨_,rfl⟩)
theorem TpIn.ins {H H' : Hp} (t : TpIn H H') {a C dx : Addr} {fs : List (Str × V)} (h : H a = some (.ins C dx fs)) : H' a = some (.ins C dx fs) := t _ _ h (.inr ⟨_,_,_,rfl⟩)
theorem TpIn.upd {H : Hp} {l : Addr} {xs : List V} {o : HO} (h : H l = some (.lst xs)) : TpIn H (upd H l o) := fun a ob e k => by
 rw [Ak]
 ·exact e
 ·rintro rfl
  rw [h] at e
  cases e
  rcases k with ⟨_,z⟩ | ⟨_,_,_,z⟩ <;> cases z
theorem OfAt.t {H H' : Hp} {po : Addr} {o : List (Str × Nat)} (h : OfAt H po o) (t : TpIn H H') : OfAt H' po o := by
 obtain ⟨ps,h1,h2,h3⟩ := h
 exact ⟨ps,t.tup h1,h2.imp fun p k e => t.tup e,h3⟩
theorem FAt.t {C : Addr} {H H' : Hp} (t : TpIn H H') : ∀ {f : Fo} {its : List V},FAt C H f its → FAt C H' f its
 | .nil,its,h => h
 | .cons j n o ks r,its,h => by
   obtain ⟨p,a,dx,po,pb,kt,tl,rfl,h1,h2,h3,h4,h5,h6,h7,h8⟩ := h
   exact ⟨p,a,dx,po,pb,kt,tl,rfl,t.tup h1,h2,h3,t.ins h4,h5.t t,t.tup h6,h7.t t,h8.t t⟩
theorem PAt.t {C : Addr} {H H' : Hp} {a : Addr} {d : Nd} (h : PAt C H a d) (t : TpIn H H') : PAt C H' a d := by
 obtain ⟨dx,po,pb,kt,h1,h2,h3,h4,h5⟩ := h
 exact ⟨dx,po,pb,kt,t.ins h1,h2,h3.t t,t.tup h4,h5.t t⟩
theorem PAt.same {C : Addr} {H H' : Hp} {a : Addr} {d : Nd} (h : PAt C H a d) (s : Same H H') : PAt C H' a d := h.t (.of s)
theorem JPAt.t {C : Addr} {H H' : Hp} {v : V} {x : Nat × Nd} (h : JPAt C H v x) (t : TpIn H H') : JPAt C H' v x := by
 obtain ⟨p,a,rfl,h1,h2,h3⟩ := h
 exact ⟨p,a,rfl,t.tup h1,h2,h3.t t⟩
structure PKit (K : PySem.W.Frag) (C : Addr) : Prop where
 cl : Cls K C
 name : NoAttr K C "name"
 offers : NoAttr K C "offers"
 beneath : NoAttr K C "beneath"
 ha : PySem.W.findIn K (.ref C) "__class__" = some (some (.builtin "object.__class__"))
 hn : PySem.W.specialIn K (.builtin "object.__class__") "__get__" = some (some (.builtin "getset_descriptor.__get__"))
 htk : PySem.W.takesIn K (.builtin "object.__class__") = some true
 hm : PySem.W.mroIn K C (.type "object") = some true
 kC : PySem.W.kitOne K (.ref C) (.ref C) = some true
theorem PKit.ty {K : PySem.W.Frag} {C a dx : Addr} {fs : List (Str × V)} {H : Hp} (i : PKit K C) (e : H a = some (.ins C dx fs)) : TyOf K H (.ref a) (.ref C) := .ins e i.cl i.ha i.hn i.htk i.hm
section
variable {P : Program} {w : World} {K : PySem.W.Frag} {mg : Str → Option Value} {base : Heap} {C : Addr}
theorem refs_keys {H : Hp} : ∀ {ps : List Addr} {o : List (Str × Nat)},A2 (KeyR H) ps o → ∃ xs : List (Addr × List Key),xs.map (fun x => V.ref x.1) = ps.map V.ref ∧ xs.map (·.2) = o.map (fun k => [Sum.inr k.1,Sum.inl (k.2 : Int)]) ∧ (∀ x ∈ xs,H x.1 = some (.tup (x.2.map kV)))
 | [],[],_ => ⟨[],rfl,rfl,fun _ h => by cases h⟩
 | [],_ :: _,h => by have := h.1; simp at this
 | _ :: _,[],h => by have := h.1; simp at this
 | p :: ps,k :: o,h => by
   obtain ⟨e,t⟩ := A2.inv h
   obtain ⟨xs,h1,h2,h3⟩ := refs_keys t
   refine ⟨(p,[Sum.inr k.1,Sum.inl (k.2 : Int)]) :: xs,by simp [h1],by simp [h2],fun x hx => ?_⟩
   rcases List.mem_cons.mp hx with rfl | hx
   ·exact e
   ·exact h3 x hx
theorem keys_nodup {o : List (Str × Nat)} (h : o.Nodup) : (o.map (fun k => ([Sum.inr k.1,Sum.inl (k.2 : Int)] : List Key))).Nodup := by
 rw [List.Nodup,List.pairwise_map]
 refine List.Pairwise.imp ?_ h
 intro a b ne e
 apply ne
 simp only [List.cons.injEq,Sum.inr.injEq,Sum.inl.injEq,and_true] at e
 exact Prod.ext e.1 (by omega)
theorem Cr {z : Str} (h : A6 z = true) : z.length ≤ 8 := by
 unfold A6 at h
 simp only [Bool.and_eq_true,decide_eq_true_eq] at h
 omega
theorem key_true {H : Hp} {p : Addr} {k : Str × Nat} (h : KeyR H p k) (g : A6 k.1 = true ∧ k.2 < 100) : keyV H (.ref p) = true := by
 show (match H p with | some (.tup [x,y]) => C8 x && numV y | _ => false) = true
 rw [h]
 show (A6 k.1 && decide ((0 : Int) ≤ (k.2 : Int) ∧ (k.2 : Int) ≤ 99)) = true
 rw [g.1,Bool.true_and]
 exact decide_eq_true ⟨by omega,by have := g.2; omega⟩
theorem key_args {H : Hp} {p : Addr} {k : Str × Nat} (h : KeyR H p k) (g : A6 k.1 = true ∧ k.2 < 100) : ∀ a xs,V.ref p = .ref a → H a = some (.tup xs) → ∀ y ∈ xs,Arg K H y ∧ Short y := by
 intro a xs e h' y hy
 cases e
 rw [h] at h'
 cases h'
 simp only [List.mem_cons,List.not_mem_nil,or_false] at hy
 rcases hy with rfl | rfl
 ·exact ⟨⟨.str,.str _⟩,fun z e => by cases e; have := Cr g.1; omega⟩
 ·exact ⟨⟨.int,.int _⟩,fun z e => by cases e⟩
def spAO : Sp := fun vs H Q _ => ∃ (l : Addr) (ps : List Addr) (o : List (Str × Nat)),vs = [.ref l] ∧ H l = some (.lst (ps.map V.ref)) ∧ A2 (KeyR H) ps o ∧ GoodO o ∧ ∀ H',Same H H' → Q (.bl true) H'
abbrev Bn : Stmt := top 31
theorem scare_offers : Ar ["thing"] ["thing"] (Af Bn) := by trivial
theorem ok_ao (T : Txt mg) (F_is_key : FnAt P w K mg base "is_key" 2 ["thing"] (spKey K)) (F : Aq K mg "are_offers" Bn ["thing"]) : FnAt P w K mg base "are_offers" 3 ["thing"] spAO := by
 refine F.at scare_offers (fun vs H Q E h => ?_) (fun f cdv A outer s H vs Q E hr h => ?_)
 ·obtain ⟨l,ps,o,rfl,_⟩ := h
  rfl
 ·obtain ⟨l,ps,o,rfl,hl,hk,g,q⟩ := h
  refine ⟨_,(Ad (Bc (PW.pt (pw_or (Bg (Bj (Ah Co rfl T.n_isinstance boot_isinstance (Aa (pv 0) (Aa (Ai (Aa (Au (v := .ty "list") rfl T.n_list boot_list rfl) (Aa (Au (v := .ty "tuple") rfl T.n_tuple boot_tuple rfl) Ab))) Ab))))) (Cp (Bb op_gt (Ah Av rfl T.n_len boot_len (Aa (pv 0) Ab)) (By rfl T.g_MOST_OFFERS) (Ba _))))) (Ae (As pe_bl)) Ap)
   (Ae (As (B9 (Ah (Bw rfl) rfl T.n_all boot_all (Aa (Bz (sc := Af Bn) (N0 := ["thing"]) (xs := ["key"]) (ys := []) (js := []) (by trivial) rfl (Be (pv 0)) (fun _ _ _ _ => (Ao (i := 0) (show (["key"] : List Str).Nodup by decide +kernel) rfl (by trivial))) (fun _ _ _ _ => B7) (fun _ _ _ _ => (Ay F_is_key hr (by decide) rfl (Aa (pv 0) Ab)))) Ab)) (Cq (Cc Dw (pe_lenK hr.hd (hu64 hr) rfl T.n_len rfl T.n_set (pv 0)) (Ah Av rfl T.n_len boot_len (Aa (pv 0) Ab)) (Ba _))))))),?_⟩
  have hs : sizeLine = 16777216 := sizeLine_eq
  have hlen := hk.1
  have g2 := g.l2
  refine ⟨_,rfl,(by exact Z2),fun tp htp => ?_⟩
  generalize hq : upd H tp (.tup [.ty "list",.ty "tuple"]) = H1
  have s1 := Nw hq htp
  have e1 := Ns hq
  have l1 := s1 _ _ hl
  refine ⟨l,_,tp,rfl,l1,SqT.of e1,_,rfl,iteF ?_⟩
  refine ⟨_,rfl,_,_,rfl,.inl ⟨_,SqL.of l1,rfl⟩,_,_,rfl,rfl,_,rfl,ite2 (fun h2 => ?_) (fun _ => ?_)⟩
  ·have h2 : (((ps.map V.ref).length : Nat) : Int) > (2 : Int) := of_decide_eq_true h2
   rw [List.length_map] at h2
   omega
  refine ⟨_,rfl,l,rfl,⟨_,SqL.of l1⟩,B2 (K := K) (a := l) (xs := ps.map V.ref) (fun i ys H' => ys = (List.replicate i true).map V.bl ∧ Same H H') ⟨rfl,s1⟩ (by rw [List.length_map]; omega) ?_ ?_ ?_ ?_⟩
  ·rintro i ys H' ⟨rfl,_⟩
   rw [List.length_map,List.length_replicate]; exact Nat.le_refl _
  ·rintro i ys H' _ ⟨_,s'⟩
   exact SqL.of (s' _ _ hl)
  ·rintro i x ys H' hx ⟨rfl,s'⟩
   rw [List.getElem?_map] at hx
   obtain ⟨p,hp,rfl⟩ := Option.map_eq_some_iff.mp hx
   obtain ⟨k,hk1,hk2⟩ := hk.at hp
   have gk := g.ok k (List.mem_of_getElem? hk1)
   have hk2 := s' _ _ hk2
   refine ⟨_,rfl,.ref p,rfl,⟨.tup,.tup hk2⟩,key_args hk2 gk,fun H2 s2 => ⟨?_,s'.trans s2⟩⟩
   rw [key_true hk2 gk,List.replicate_succ',List.map_append]
   rfl
  ·rintro ys H' ⟨rfl,s'⟩ l2 hl2
   generalize hq : upd H' l2 (.lst ((List.replicate (ps.map V.ref).length true).map V.bl)) = H2
   have s2 := s'.trans (Nw hq hl2)
   have e2 := Ns hq
   refine ⟨l2,_,rfl,SqL.of e2,?_⟩
   have al : (List.replicate (ps.map V.ref).length true).all id = true := by simp
   rw [al]
   refine ⟨_,rfl,iteT ?_⟩
   obtain ⟨xs,h1,h2,h3⟩ := refs_keys hk
   have hxl : xs.length = ps.length := by have := congrArg List.length h1; simpa using this
   refine ⟨_,rfl,l,xs,rfl,by rw [h1]; exact SqL.of (s2 _ _ hl),by omega,by rw [h2]; exact keys_nodup g.nd,fun x hx => s2 _ _ (h3 x hx),?_⟩
   refine ⟨_,rfl,_,_,rfl,.inl ⟨_,SqL.of (s2 _ _ hl),rfl⟩,rfl,?_⟩
   rw [List.length_map,hxl,decide_eq_true (rfl : V.int ((ps.length : Nat) : Int) = V.int ((ps.length : Nat) : Int))]
   exact q _ s2
def spAOT : Sp := fun vs H Q _ => ∃ (l : Addr) (ps : List Addr) (o : List (Str × Nat)),vs = [.ref l] ∧ H l = some (.tup (ps.map V.ref)) ∧ A2 (KeyR H) ps o ∧ GoodO o ∧ ∀ H',Same H H' → Q (.bl true) H'
theorem ok_aoT (T : Txt mg) (F_is_key : FnAt P w K mg base "is_key" 2 ["thing"] (spKey K)) (F : Aq K mg "are_offers" Bn ["thing"]) : FnAt P w K mg base "are_offers" 3 ["thing"] spAOT := by
 refine F.at scare_offers (fun vs H Q E h => ?_) (fun f cdv A outer s H vs Q E hr h => ?_)
 ·obtain ⟨l,ps,o,rfl,_⟩ := h
  rfl
 ·obtain ⟨l,ps,o,rfl,hl,hk,g,q⟩ := h
  refine ⟨_,(Ad (Bc (PW.pt (pw_or (Bg (Bj (Ah call_isTT rfl T.n_isinstance boot_isinstance (Aa (pv 0) (Aa (Ai (Aa (Au (v := .ty "list") rfl T.n_list boot_list rfl) (Aa (Au (v := .ty "tuple") rfl T.n_tuple boot_tuple rfl) Ab))) Ab))))) (Cp (Bb op_gt (Ah Av rfl T.n_len boot_len (Aa (pv 0) Ab)) (By rfl T.g_MOST_OFFERS) (Ba _))))) (Ae (As pe_bl)) Ap)
   (Ae (As (B9 (Ah (Bw rfl) rfl T.n_all boot_all (Aa (Bz (sc := Af Bn) (N0 := ["thing"]) (xs := ["key"]) (ys := []) (js := []) (by trivial) rfl (pi_tup (pv 0)) (fun _ _ _ _ => (Ao (i := 0) (show (["key"] : List Str).Nodup by decide +kernel) rfl (by trivial))) (fun _ _ _ _ => B7) (fun _ _ _ _ => (Ay F_is_key hr (by decide) rfl (Aa (pv 0) Ab)))) Ab)) (Cq (Cc Dw (pe_lenKT hr.hd (hu64 hr) rfl T.n_len rfl T.n_set (pv 0)) (Ah Av rfl T.n_len boot_len (Aa (pv 0) Ab)) (Ba _))))))),?_⟩
  have hs : sizeLine = 16777216 := sizeLine_eq
  have hlen := hk.1
  have g2 := g.l2
  refine ⟨_,rfl,(by exact Z2),fun tp htp => ?_⟩
  generalize hq : upd H tp (.tup [.ty "list",.ty "tuple"]) = H1
  have s1 := Nw hq htp
  have e1 := Ns hq
  have l1 := s1 _ _ hl
  refine ⟨l,_,tp,rfl,l1,SqT.of e1,_,rfl,iteF ?_⟩
  refine ⟨_,rfl,_,_,rfl,.inr ⟨_,SqT.of l1,rfl⟩,_,_,rfl,rfl,_,rfl,ite2 (fun h2 => ?_) (fun _ => ?_)⟩
  ·have h2 : (((ps.map V.ref).length : Nat) : Int) > (2 : Int) := of_decide_eq_true h2
   rw [List.length_map] at h2
   omega
  refine ⟨_,rfl,l,rfl,⟨_,SqT.of l1⟩,De (K := K) (a := l) (xs := ps.map V.ref) (fun i ys H' => ys = (List.replicate i true).map V.bl ∧ Same H H') ⟨rfl,s1⟩ (by rw [List.length_map]; omega) ?_ ?_ ?_ ?_⟩
  ·rintro i ys H' ⟨rfl,_⟩
   rw [List.length_map,List.length_replicate]; exact Nat.le_refl _
  ·rintro i ys H' _ ⟨_,s'⟩
   exact SqT.of (s' _ _ hl)
  ·rintro i x ys H' hx ⟨rfl,s'⟩
   rw [List.getElem?_map] at hx
   obtain ⟨p,hp,rfl⟩ := Option.map_eq_some_iff.mp hx
   obtain ⟨k,hk1,hk2⟩ := hk.at hp
   have gk := g.ok k (List.mem_of_getElem? hk1)
   have hk2 := s' _ _ hk2
   refine ⟨_,rfl,.ref p,rfl,⟨.tup,.tup hk2⟩,key_args hk2 gk,fun H2 s2 => ⟨?_,s'.trans s2⟩⟩
   rw [key_true hk2 gk,List.replicate_succ',List.map_append]
   rfl
  ·rintro ys H' ⟨rfl,s'⟩ l2 hl2
   generalize hq : upd H' l2 (.lst ((List.replicate (ps.map V.ref).length true).map V.bl)) = H2
   have s2 := s'.trans (Nw hq hl2)
   have e2 := Ns hq
   refine ⟨l2,_,rfl,SqL.of e2,?_⟩
   have al : (List.replicate (ps.map V.ref).length true).all id = true := by simp
   rw [al]
   refine ⟨_,rfl,iteT ?_⟩
   obtain ⟨xs,h1,h2,h3⟩ := refs_keys hk
   have hxl : xs.length = ps.length := by have := congrArg List.length h1; simpa using this
   refine ⟨_,rfl,l,xs,rfl,by rw [h1]; exact SqT.of (s2 _ _ hl),by omega,by rw [h2]; exact keys_nodup g.nd,fun x hx => s2 _ _ (h3 x hx),?_⟩
   refine ⟨_,rfl,_,_,rfl,.inr ⟨_,SqT.of (s2 _ _ hl),rfl⟩,rfl,?_⟩
   rw [List.length_map,hxl,decide_eq_true (rfl : V.int ((ps.length : Nat) : Int) = V.int ((ps.length : Nat) : Int))]
   exact q _ s2
def OfArg (H : Hp) (v : V) (o : List (Str × Nat)) : Prop := (v = .non ∧ o = []) ∨ (∃ (l : Addr) (ps : List Addr),v = .ref l ∧ H l = some (.lst (ps.map V.ref)) ∧ A2 (KeyR H) ps o ∧ GoodO o) ∨ ∃ (l : Addr) (ps : List Addr),v = .ref l ∧ H l = some (.tup (ps.map V.ref)) ∧ A2 (KeyR H) ps o ∧ GoodO o
theorem OfArg.same {H H' : Hp} {v : V} {o : List (Str × Nat)} (h : OfArg H v o) (s : Same H H') : OfArg H' v o := by
 rcases h with h | ⟨l,ps,h1,h2,h3,h4⟩ | ⟨l,ps,h1,h2,h3,h4⟩
 ·exact .inl h
 ·exact .inr (.inl ⟨l,ps,h1,s _ _ h2,h3.imp fun _ _ e => s _ _ e,h4⟩)
 ·exact .inr (.inr ⟨l,ps,h1,s _ _ h2,h3.imp fun _ _ e => s _ _ e,h4⟩)
theorem goodNil : GoodO [] := ⟨by decide,List.nodup_nil,fun k h => by cases h⟩
def spKO : Sp := fun vs H Q _ => ∃ (v : V) (o : List (Str × Nat)),vs = [v] ∧ OfArg H v o ∧ ∀ (po : Addr) (H' : Hp),Same H H' → OfAt H' po o → Q (.ref po) H'
abbrev C0 : Stmt := top 32
theorem sckept_offers : Ar ["offers"] ["offers"] (Af C0) := by trivial
theorem ok_ko (T : Txt mg) (F_are_offers : FnAt P w K mg base "are_offers" 3 ["thing"] spAO) (F_aoT : FnAt P w K mg base "are_offers" 3 ["thing"] spAOT) (F : Aq K mg "kept_offers" C0 ["offers"]) : FnAt P w K mg base "kept_offers" 4 ["offers"] spKO := by
 refine F.at sckept_offers (fun vs H Q E h => ?_) (fun f cdv A outer s H vs Q E hr h => ?_)
 ·obtain ⟨v,o,rfl,_⟩ := h
  rfl
 ·obtain ⟨v,o,rfl,⟨rfl,rfl⟩ | ⟨l,ps,rfl,hl,hk,g⟩ | ⟨l,ps,rfl,hl,hk,g⟩,q⟩ := h
  ·refine ⟨_,(Ad (Bc (pt_cmp (pc_isN (pv 0))) (Ae (As (Ai Ab))) Ap)
    (Ad (Bc (Bg (Bj (Ay F_are_offers hr (by decide) rfl (Aa (pv 0) Ab)))) (Ae An) Ap)
    (Ae (As (Cn Bs rfl T.n_tuple boot_tuple (Aa (pv 0) Ab)))))),?_⟩
   refine ⟨_,rfl,_,rfl,iteT ⟨(by exact Z0),fun p hp => q p _ (Same.new hp) ⟨[],Ac,A2.nil,goodNil⟩⟩⟩
  ·refine ⟨_,(Ad (Bc (pt_cmp (pc_isN (pv 0))) (Ae An) Ap)
    (Ad (Bc (Bg (Bj (Ay F_are_offers hr (by decide) rfl (Aa (pv 0) Ab)))) (Ae An) Ap)
    (Ae (As (Cn Bs rfl T.n_tuple boot_tuple (Aa (pv 0) Ab)))))),?_⟩
   refine ⟨_,rfl,_,rfl,iteF ⟨_,rfl,l,ps,o,rfl,hl,hk,g,fun H1 s1 => ⟨_,rfl,iteF ?_⟩⟩⟩
   refine ⟨_,rfl,l,_,rfl,.inl ⟨SqL.of (s1 _ _ hl),fun p hp => ?_⟩⟩
   have s2 := s1.trans (Same.new (o := .tup (ps.map V.ref)) hp)
   exact q p _ s2 ⟨ps,Ac,hk.imp fun p k e => s2 _ _ e,g⟩
  ·refine ⟨_,(Ad (Bc (pt_cmp (pc_isN (pv 0))) (Ae An) Ap)
    (Ad (Bc (Bg (Bj (Ay F_aoT hr (by decide) rfl (Aa (pv 0) Ab)))) (Ae An) Ap)
    (Ae (As (Cn Bs rfl T.n_tuple boot_tuple (Aa (pv 0) Ab)))))),?_⟩
   refine ⟨_,rfl,_,rfl,iteF ⟨_,rfl,l,ps,o,rfl,hl,hk,g,fun H1 s1 => ⟨_,rfl,iteF ?_⟩⟩⟩
   exact ⟨_,rfl,l,_,rfl,.inr ⟨SqT.of (s1 _ _ hl),q l _ s1 ⟨ps,s1 _ _ hl,hk.imp fun p k e => s1 _ _ e,g⟩⟩⟩
def spFew (m : Int) : Sp := fun vs H Q _ => ∃ n : Int,vs = [.int n] ∧ n ≤ m ∧ Q .non H
abbrev Bv : Stmt := top 33
theorem Dl : Ar ["many"] ["many"] (Af Bv) := by trivial
theorem ok_nfb (T : Txt mg) (F : Aq K mg "need_few_beneath" Bv ["many"]) : FnAt P w K mg base "need_few_beneath" 1 ["many"] (spFew 6) := by
 refine F.at Dl (fun vs H Q E h => ?_) (fun f cdv A outer s H vs Q E hr h => ?_)
 ·obtain ⟨n,rfl,_⟩ := h
  rfl
 ·obtain ⟨n,rfl,hn,q⟩ := h
  refine ⟨_,(Ae (Bc (Bb op_gt (pv 0) (By rfl T.g_MOST_BENEATH) (Ba _)) (Ae An) Ap)),?_⟩
  refine ⟨_,rfl,_,_,rfl,rfl,_,rfl,ite2 (fun h => ?_) (fun _ => q)⟩
  have h : n > (6 : Int) := of_decide_eq_true h
  omega
abbrev B5 : Stmt := top 34
theorem scneed_few_parts : Ar ["many"] ["many"] (Af B5) := by trivial
theorem ok_nfp (T : Txt mg) (F : Aq K mg "need_few_parts" B5 ["many"]) : FnAt P w K mg base "need_few_parts" 1 ["many"] (spFew 30) := by
 refine F.at scneed_few_parts (fun vs H Q E h => ?_) (fun f cdv A outer s H vs Q E hr h => ?_)
 ·obtain ⟨n,rfl,_⟩ := h
  rfl
 ·obtain ⟨n,rfl,hn,q⟩ := h
  refine ⟨_,(Ae (Bc (Bb op_gt (pv 0) (By rfl T.g_MOST_PARTS) (Ba _)) (Ae An) Ap)),?_⟩
  refine ⟨_,rfl,_,_,rfl,rfl,_,rfl,ite2 (fun h => ?_) (fun _ => q)⟩
  have h : n > (30 : Int) := of_decide_eq_true h
  omega
abbrev Ce : Stmt := top 35
theorem scneed_not_deep : Ar ["deep"] ["deep"] (Af Ce) := by trivial
theorem ok_nnd (T : Txt mg) (F : Aq K mg "need_not_deep" Ce ["deep"]) : FnAt P w K mg base "need_not_deep" 1 ["deep"] (spFew 6) := by
 refine F.at scneed_not_deep (fun vs H Q E h => ?_) (fun f cdv A outer s H vs Q E hr h => ?_)
 ·obtain ⟨n,rfl,_⟩ := h
  rfl
 ·obtain ⟨n,rfl,hn,q⟩ := h
  refine ⟨_,(Ae (Bc (Bb op_gt (pv 0) (By rfl T.g_MOST_DEEP) (Ba _)) (Ae An) Ap)),?_⟩
  refine ⟨_,rfl,_,_,rfl,rfl,_,rfl,ite2 (fun h => ?_) (fun _ => q)⟩
  have h : n > (6 : Int) := of_decide_eq_true h
  omega
def spJP (C : Addr) : Sp := fun vs H Q _ => ∃ (v : V) (x : Nat × Nd),vs = [v] ∧ JPAt C H v x ∧ Q (.bl true) H
abbrev B6 : Stmt := top 36
theorem scis_joined_part : Ar ["thing"] ["thing"] (Af B6) := by trivial
theorem ok_jp (T : Txt mg) (kit : PKit K C) (mC : mg "Part" = some (.ref C)) (F : Aq K mg "is_joined_part" B6 ["thing"]) : FnAt P w K mg base "is_joined_part" 1 ["thing"] (spJP C) := by
 refine F.at scis_joined_part (fun vs H Q E h => ?_) (fun f cdv A outer s H vs Q E hr h => ?_)
 ·obtain ⟨v,x,rfl,_⟩ := h
  rfl
 ·obtain ⟨v,x,rfl,⟨p,a,rfl,hp,_,dx,po,pb,kt,ha,_⟩,q⟩ := h
  refine ⟨_,(Ae (As (B9 (Ah (Bt .tup (by simp)) rfl T.n_isinstance boot_isinstance (Aa (pv 0) (Aa (Au (v := .ty "tuple") rfl T.n_tuple boot_tuple rfl) Ab))) (B9 (Cc Dw (Ah Av rfl T.n_len boot_len (Aa (pv 0) Ab)) Ag (Ba _)) (Cq (Ah B1 rfl T.n_isinstance boot_isinstance (Aa (Bk Di (pv 0) Ag (fun _ _ => rfl)) (Aa (Dt (v := .ref C) rfl mC rfl) Ab)))))))),?_⟩
  refine ⟨_,rfl,.ref p,.tup,rfl,.tup hp,_,rfl,iteT ?_⟩
  refine ⟨_,rfl,_,_,rfl,.inr ⟨_,SqT.of hp,rfl⟩,rfl,_,rfl,iteT ?_⟩
  exact ⟨_,rfl,p,_,_,_,rfl,rfl,SqT.of hp,rfl,_,_,.ref C,.ref C,true,rfl,rfl,kit.ty ha,kit.kC,q⟩
def BnArg (C : Addr) (H : Hp) (v : V) (f : Fo) (its : List V) : Prop := (v = .non ∧ f = .nil ∧ its = []) ∨ (∃ l : Addr,v = .ref l ∧ H l = some (.lst its) ∧ FAt C H f its ∧ its.length ≤ 6) ∨ ∃ l : Addr,v = .ref l ∧ H l = some (.tup its) ∧ FAt C H f its ∧ its.length ≤ 6
theorem BnArg.same {C : Addr} {H H' : Hp} {v : V} {f : Fo} {its : List V} (h : BnArg C H v f its) (s : Same H H') : BnArg C H' v f its := by
 rcases h with h | ⟨l,h1,h2,h3,h4⟩ | ⟨l,h1,h2,h3,h4⟩
 ·exact .inl h
 ·exact .inr (.inl ⟨l,h1,s _ _ h2,h3.t (.of s),h4⟩)
 ·exact .inr (.inr ⟨l,h1,s _ _ h2,h3.t (.of s),h4⟩)
def spKB (C : Addr) : Sp := fun vs H Q _ => ∃ (v : V) (f : Fo) (its : List V),vs = [v] ∧ BnArg C H v f its ∧ ∀ (pb : Addr) (H' : Hp),Same H H' → H' pb = some (.tup its) → Q (.ref pb) H'
abbrev A9 : Stmt := top 37
theorem B3 : Ar ["beneath","row"] ["beneath"] (Af A9) := by trivial
theorem ok_kb {J : Js} (T : Txt mg) (F_jp : FnAt P w K mg base "is_joined_part" 1 ["thing"] (spJP C)) (F_few : FnAt P w K mg base "need_few_beneath" 1 ["many"] (spFew 6)) (F_join_of : FnAt P w K mg base "join_of" 2 ["word"] (spJO J)) (F : Aq K mg "kept_beneath" A9 ["beneath"]) : FnAt P w K mg base "kept_beneath" 3 ["beneath"] (spKB C) := by
 refine F.at B3 (fun vs H Q E h => ?_) (fun f cdv A outer s H vs Q E hr h => ?_)
 ·obtain ⟨v,f,its,rfl,_⟩ := h
  rfl
 ·obtain ⟨v,fo,its,rfl,⟨rfl,rfl,rfl⟩ | ⟨l,rfl,hl,hf,h6⟩ | ⟨l,rfl,hl,hf,h6⟩,q⟩ := h
  ·refine ⟨_,(Ad (Bc (pt_cmp (pc_isN (pv 0))) (Ae (As (Ai Ab))) Ap)
    (Ad (Bc (PW.pt (pw_or (Bg (Bj (Ah Co rfl T.n_isinstance boot_isinstance (Aa (pv 0) (Aa (Ai (Aa (Au (v := .ty "list") rfl T.n_list boot_list rfl) (Aa (Au (v := .ty "tuple") rfl T.n_tuple boot_tuple rfl) Ab))) Ab))))) (Cp (Bg (Bj (Ah (Bw rfl) rfl T.n_all boot_all (Aa (Bz (sc := Af A9) (N0 := ["beneath","row"]) (xs := ["thing"]) (ys := []) (js := []) (by trivial) rfl (Be (pv 0)) (fun _ _ _ _ => (Ao (i := 0) (show (["thing"] : List Str).Nodup by decide +kernel) rfl (by trivial))) (fun _ _ _ _ => B7) (fun _ _ _ _ => (Ay F_jp hr (by decide) rfl (Aa (pv 0) Ab)))) Ab))))))) (Ae An) Ap)
    (Ad (At (Ay F_few hr (by decide) rfl (Aa (Ah Av rfl T.n_len boot_len (Aa (pv 0) Ab)) Ab)))
    (Ad (Ck PassesOwn.never rfl (Be (pv 0)) (Ao (i := 1) B3.nd rfl (by trivial)) (Ae (At (Ay F_join_of hr (by decide) rfl (Aa (Bk Di (pv 1) Ag (fun _ _ => rfl)) Ab)))))
    (Ae (As (Cn Bs rfl T.n_tuple boot_tuple (Aa (pv 0) Ab)))))))),?_⟩
   exact ⟨_,rfl,_,rfl,iteT ⟨(by exact Z0),fun p hp => q p _ (Same.new hp) Ac⟩⟩
  ·refine ⟨_,(Ad (Bc (pt_cmp (pc_isN (pv 0))) (Ae An) Ap)
    (Ad (Bc (PW.pt (pw_or (Bg (Bj (Ah Co rfl T.n_isinstance boot_isinstance (Aa (pv 0) (Aa (Ai (Aa (Au (v := .ty "list") rfl T.n_list boot_list rfl) (Aa (Au (v := .ty "tuple") rfl T.n_tuple boot_tuple rfl) Ab))) Ab))))) (Cp (Bg (Bj (Ah (Bw rfl) rfl T.n_all boot_all (Aa (Bz (sc := Af A9) (N0 := ["beneath","row"]) (xs := ["thing"]) (ys := []) (js := []) (by trivial) rfl (Be (pv 0)) (fun _ _ _ _ => (Ao (i := 0) (show (["thing"] : List Str).Nodup by decide +kernel) rfl (by trivial))) (fun _ _ _ _ => B7) (fun _ _ _ _ => (Ay F_jp hr (by decide) rfl (Aa (pv 0) Ab)))) Ab))))))) (Ae An) Ap)
    (Ad (At (Ay F_few hr (by decide) rfl (Aa (Ah Av rfl T.n_len boot_len (Aa (pv 0) Ab)) Ab)))
    (Ad (Ck PassesOwn.never rfl (Be (pv 0)) (Ao (i := 1) B3.nd rfl (by trivial)) (Ae (At (Ay F_join_of hr (by decide) rfl (Aa (Bk Di (pv 1) Ag (fun _ _ => rfl)) Ab)))))
    (Ae (As (Cn Bs rfl T.n_tuple boot_tuple (Aa (pv 0) Ab)))))))),?_⟩
   have hs : sizeLine = 16777216 := sizeLine_eq
   have hit := hf.items
   refine ⟨_,rfl,_,rfl,iteF ?_⟩
   refine ⟨_,rfl,(by exact Z2),fun tp htp => ?_⟩
   generalize hq : upd H tp (.tup [.ty "list",.ty "tuple"]) = H1
   have s1 := Nw hq htp
   have e1 := Ns hq
   have l1 := s1 _ _ hl
   refine ⟨l,_,tp,rfl,l1,SqT.of e1,_,rfl,iteF ?_⟩
   refine ⟨_,rfl,l,rfl,⟨_,SqL.of l1⟩,B2 (K := K) (a := l) (xs := its) (fun i ys H' => ys = (List.replicate i true).map V.bl ∧ H' = H1) ⟨rfl,rfl⟩ (by omega) ?_ ?_ ?_ ?_⟩
   ·rintro i ys H' ⟨rfl,_⟩
    rw [List.length_map,List.length_replicate]; exact Nat.le_refl _
   ·rintro i ys H' _ ⟨_,rfl⟩
    exact SqL.of l1
   ·rintro i x ys H' hx ⟨rfl,rfl⟩
    obtain ⟨y,hy1,hy2⟩ := hit.at hx
    refine ⟨_,rfl,x,y,rfl,hy2.t (.of s1),?_,rfl⟩
    rw [List.replicate_succ',List.map_append]
    rfl
   ·rintro ys H' ⟨rfl,rfl⟩ l2 hl2
    generalize hq : upd H' l2 (.lst ((List.replicate its.length true).map V.bl)) = H2
    have s2 := s1.trans (Nw hq hl2)
    have e2 := Ns hq
    refine ⟨l2,_,rfl,SqL.of e2,?_⟩
    have al : (List.replicate its.length true).all id = true := by simp
    rw [al]
    refine ⟨_,rfl,iteF ?_⟩
    refine ⟨_,rfl,_,_,rfl,.inl ⟨_,SqL.of (s2 _ _ hl),rfl⟩,_,rfl,by show ((its.length : Nat) : Int) ≤ 6; omega,?_⟩
    refine ⟨_,rfl,l,rfl,⟨_,SqL.of (s2 _ _ hl)⟩,B0 (K := K) (a := l) (xs := its) (fun i σ H' => ∃ u : Option V,σ = [some (.ref l),u] ∧ Same H H') ⟨_,rfl,s2⟩ (fun i σ H' _ ⟨_,_,s'⟩ => SqL.of (s' _ _ hl)) ?_ ?_⟩
    ·rintro i x σ H3 hx ⟨u,rfl,s3⟩
     obtain ⟨y,hy1,p,a,rfl,hp,h4,_⟩ := hit.at hx
     refine ⟨_,rfl,p,_,_,_,rfl,rfl,SqT.of (s3 _ _ hp),rfl,y.1,h4,rfl,fun p2 H4 s4 _ => ?_⟩
     exact ⟨_,rfl,s3.trans s4⟩
    ·rintro σ H3 ⟨u,rfl,s3⟩
     refine ⟨_,rfl,l,_,rfl,.inl ⟨SqL.of (s3 _ _ hl),fun p hp => ?_⟩⟩
     exact q p _ (s3.trans (Same.new hp)) Ac
  ·refine ⟨_,(Ad (Bc (pt_cmp (pc_isN (pv 0))) (Ae An) Ap)
    (Ad (Bc (PW.pt (pw_or (Bg (Bj (Ah call_isTT rfl T.n_isinstance boot_isinstance (Aa (pv 0) (Aa (Ai (Aa (Au (v := .ty "list") rfl T.n_list boot_list rfl) (Aa (Au (v := .ty "tuple") rfl T.n_tuple boot_tuple rfl) Ab))) Ab))))) (Cp (Bg (Bj (Ah (Bw rfl) rfl T.n_all boot_all (Aa (Bz (sc := Af A9) (N0 := ["beneath","row"]) (xs := ["thing"]) (ys := []) (js := []) (by trivial) rfl (pi_tup (pv 0)) (fun _ _ _ _ => (Ao (i := 0) (show (["thing"] : List Str).Nodup by decide +kernel) rfl (by trivial))) (fun _ _ _ _ => B7) (fun _ _ _ _ => (Ay F_jp hr (by decide) rfl (Aa (pv 0) Ab)))) Ab))))))) (Ae An) Ap)
    (Ad (At (Ay F_few hr (by decide) rfl (Aa (Ah Av rfl T.n_len boot_len (Aa (pv 0) Ab)) Ab)))
    (Ad (Ck PassesOwn.never rfl (pi_tup (pv 0)) (Ao (i := 1) B3.nd rfl (by trivial)) (Ae (At (Ay F_join_of hr (by decide) rfl (Aa (Bk Di (pv 1) Ag (fun _ _ => rfl)) Ab)))))
    (Ae (As (Cn Bs rfl T.n_tuple boot_tuple (Aa (pv 0) Ab)))))))),?_⟩
   have hs : sizeLine = 16777216 := sizeLine_eq
   have hit := hf.items
   refine ⟨_,rfl,_,rfl,iteF ?_⟩
   refine ⟨_,rfl,(by exact Z2),fun tp htp => ?_⟩
   generalize hq : upd H tp (.tup [.ty "list",.ty "tuple"]) = H1
   have s1 := Nw hq htp
   have e1 := Ns hq
   have l1 := s1 _ _ hl
   refine ⟨l,_,tp,rfl,l1,SqT.of e1,_,rfl,iteF ?_⟩
   refine ⟨_,rfl,l,rfl,⟨_,SqT.of l1⟩,De (K := K) (a := l) (xs := its) (fun i ys H' => ys = (List.replicate i true).map V.bl ∧ H' = H1) ⟨rfl,rfl⟩ (by omega) ?_ ?_ ?_ ?_⟩
   ·rintro i ys H' ⟨rfl,_⟩
    rw [List.length_map,List.length_replicate]; exact Nat.le_refl _
   ·rintro i ys H' _ ⟨_,rfl⟩
    exact SqT.of l1
   ·rintro i x ys H' hx ⟨rfl,rfl⟩
    obtain ⟨y,hy1,hy2⟩ := hit.at hx
    refine ⟨_,rfl,x,y,rfl,hy2.t (.of s1),?_,rfl⟩
    rw [List.replicate_succ',List.map_append]
    rfl
   ·rintro ys H' ⟨rfl,rfl⟩ l2 hl2
    generalize hq : upd H' l2 (.lst ((List.replicate its.length true).map V.bl)) = H2
    have s2 := s1.trans (Nw hq hl2)
    have e2 := Ns hq
    refine ⟨l2,_,rfl,SqL.of e2,?_⟩
    have al : (List.replicate its.length true).all id = true := by simp
    rw [al]
    refine ⟨_,rfl,iteF ?_⟩
    refine ⟨_,rfl,_,_,rfl,.inr ⟨_,SqT.of (s2 _ _ hl),rfl⟩,_,rfl,by show ((its.length : Nat) : Int) ≤ 6; omega,?_⟩
    refine ⟨_,rfl,l,rfl,⟨_,SqT.of (s2 _ _ hl)⟩,for_tup (K := K) (a := l) (xs := its) (fun i σ H' => ∃ u : Option V,σ = [some (.ref l),u] ∧ Same H H') ⟨_,rfl,s2⟩ (fun i σ H' _ ⟨_,_,s'⟩ => SqT.of (s' _ _ hl)) ?_ ?_⟩
    ·rintro i x σ H3 hx ⟨u,rfl,s3⟩
     obtain ⟨y,hy1,p,a,rfl,hp,h4,_⟩ := hit.at hx
     refine ⟨_,rfl,p,_,_,_,rfl,rfl,SqT.of (s3 _ _ hp),rfl,y.1,h4,rfl,fun p2 H4 s4 _ => ?_⟩
     exact ⟨_,rfl,s3.trans s4⟩
    ·rintro σ H3 ⟨u,rfl,s3⟩
     exact ⟨_,rfl,l,_,rfl,.inr ⟨SqT.of (s3 _ _ hl),q l _ s3 (s3 _ _ hl)⟩⟩
end
end K32
namespace K32
open PySem L2 PyProof.Rows PySem.SeqAt
def walkF : Fo → List (List (Nat × Str) × Nd)
 | .nil => []
 | .cons j n o ks r => (([],⟨n,o,ks⟩) :: walkF ks).map (fun x => ((j,n) :: x.1,x.2)) ++ walkF r
def walkP (d : Nd) : List (List (Nat × Str) × Nd) := ([],d) :: walkF d.ks
def wUp (x : Nat × Nd) (y : List (Nat × Str) × Nd) : List (Nat × Str) × Nd := ((x.1,x.2.n) :: y.1,y.2)
def wStep (x : Nat × Nd) : List (List (Nat × Str) × Nd) := (walkP x.2).map (wUp x)
theorem walkF_items : ∀ f : Fo,walkF f = (f.items.map wStep).flatten
 | .nil => rfl
 | .cons j n o ks r => by
   show _ = wStep _ ++ (r.items.map wStep).flatten
   rw [← walkF_items r]
   rfl
theorem walkF_len : ∀ f : Fo,(walkF f).length = f.size
 | .nil => rfl
 | .cons j n o ks r => by
   rw [walkF,List.length_append,List.length_map,List.length_cons,walkF_len ks,walkF_len r,Fo.size]
theorem Cd (d : Nd) : (walkP d).length = d.ks.size + 1 := by rw [walkP,List.length_cons,walkF_len]
theorem Dc : ∀ {f : Fo} {x : Nat × Nd},x ∈ f.items → x.2.ks.ht < f.ht ∧ x.2.ks.size < f.size
 | .nil,x,h => by cases h
 | .cons j n o ks r,x,h => by
   rw [Fo.ht,Fo.size]
   rcases List.mem_cons.mp h with rfl | h
   ·dsimp only; omega
   ·have := Dc h; omega
theorem road_le : ∀ {f : Fo} {y : List (Nat × Str) × Nd},y ∈ walkF f → y.1.length ≤ f.ht
 | .nil,y,h => by cases h
 | .cons j n o ks r,y,h => by
   rw [Fo.ht]
   rcases List.mem_append.mp h with h | h
   ·obtain ⟨z,hz,rfl⟩ := List.mem_map.mp h
    rcases List.mem_cons.mp hz with rfl | hz
    ·show 0 + 1 ≤ _; omega
    ·have := road_le hz
     show z.1.length + 1 ≤ _
     omega
   ·have := road_le h; omega
theorem ht_size : ∀ f : Fo,f.ht ≤ f.size
 | .nil => Nat.le_refl _
 | .cons j n o ks r => by
   rw [Fo.ht,Fo.size]
   have := ht_size ks
   have := ht_size r
   omega
theorem roadP_le {d : Nd} {y : List (Nat × Str) × Nd} (h : y ∈ walkP d) : y.1.length ≤ d.ks.ht := by
 rcases List.mem_cons.mp h with rfl | h
 ·exact Nat.zero_le _
 ·exact road_le h
theorem road_max : ∀ f : Fo,0 < f.ht → ∃ y ∈ walkF f,y.1.length = f.ht
 | .nil,h => by simp [Fo.ht] at h
 | .cons j n o ks r,h => by
   rw [Fo.ht] at h ⊢
   by_cases e : ks.ht + 1 ≤ r.ht
   ·obtain ⟨y,hy,e2⟩ := road_max r (by omega)
    exact ⟨y,List.mem_append_right _ hy,by omega⟩
   ·by_cases e0 : ks.ht = 0
    ·exact ⟨([(j,n)],⟨n,o,ks⟩),List.mem_append_left _ (List.mem_map.mpr ⟨_,List.mem_cons_self,rfl⟩),by show 1 = _; omega⟩
    ·obtain ⟨y,hy,e2⟩ := road_max ks (by omega)
     exact ⟨((j,n) :: y.1,y.2),List.mem_append_left _ (List.mem_map.mpr ⟨_,List.mem_cons_of_mem _ hy,rfl⟩),by show y.1.length + 1 = _; omega⟩
theorem roadP_max (d : Nd) : ∃ y ∈ walkP d,y.1.length = d.ks.ht := by
 by_cases e : d.ks.ht = 0
 ·exact ⟨_,List.mem_cons_self,e.symm⟩
 ·obtain ⟨y,hy,e2⟩ := road_max d.ks (by omega)
  exact ⟨y,List.mem_cons_of_mem _ hy,e2⟩
def PrAt (H : Hp) (v : V) (x : Nat × Str) : Prop := x.1 < 4 ∧ ∃ p,v = .ref p ∧ H p = some (.tup [.str (nm x.1),.str x.2])
def RdAt (H : Hp) (l : Addr) (rd : List (Nat × Str)) : Prop := ∃ vs,H l = some (.lst vs) ∧ A2 (PrAt H) vs rd
def WRow (N : Addr → Prop) (C : Addr) (H : Hp) (v : V) (x : List (Nat × Str) × Nd) : Prop := ∃ p l a,v = .ref p ∧ N l ∧ H p = some (.tup [.ref l,.ref a]) ∧ RdAt H l x.1 ∧ PAt C H a x.2
theorem PrAt.t {H H' : Hp} {v : V} {x : Nat × Str} (h : PrAt H v x) (t : TpIn H H') : PrAt H' v x := by
 obtain ⟨h1,p,h2,h3⟩ := h
 exact ⟨h1,p,h2,t.tup h3⟩
theorem RdAt.same {H H' : Hp} {l : Addr} {rd : List (Nat × Str)} (h : RdAt H l rd) (s : Same H H') : RdAt H' l rd := by
 obtain ⟨vs,h1,h2⟩ := h
 exact ⟨vs,s _ _ h1,h2.imp fun _ _ e => e.t (.of s)⟩
theorem WRow.same {N : Addr → Prop} {C : Addr} {H H' : Hp} {v : V} {x : List (Nat × Str) × Nd} (h : WRow N C H v x) (s : Same H H') : WRow N C H' v x := by
 obtain ⟨p,l,a,h1,h2,h3,h4,h5⟩ := h
 exact ⟨p,l,a,h1,h2,s _ _ h3,h4.same s,h5.same s⟩
theorem WRow.upd {N : Addr → Prop} {C l0 : Addr} {H : Hp} {v : V} {x : List (Nat × Str) × Nd} {ys : List V} {o : HO} (h : WRow N C H v x) (hl : H l0 = some (.lst ys)) (hn : ∀ l,N l → l ≠ l0) : WRow N C (upd H l0 o) v x := by
 obtain ⟨p,l,a,h1,h2,h3,⟨vs,h4,h6⟩,h5⟩ := h
 have t := TpIn.upd (o := o) hl
 exact ⟨p,l,a,h1,h2,t.tup h3,⟨vs,by rw [Ak (hn l h2)]; exact h4,h6.imp fun _ _ e => e.t t⟩,h5.t t⟩
theorem WRow.imp {N M : Addr → Prop} {C : Addr} {H : Hp} {v : V} {x : List (Nat × Str) × Nd} (h : WRow N C H v x) (f : ∀ l,N l → M l) : WRow M C H v x := by
 obtain ⟨p,l,a,h1,h2,h3,h4,h5⟩ := h
 exact ⟨p,l,a,h1,f _ h2,h3,h4,h5⟩
def spWk (C : Addr) (n : Nat) : Sp := fun vs H Q _ => ∃ (a : Addr) (d : Nd),vs = [.ref a] ∧ PAt C H a d ∧ d.ks.ht < n ∧ d.ks.size ≤ 1000 ∧
 ∀ (l : Addr) (rows : List V) (H' : Hp),Same H H' → H l = none → H' l = some (.lst rows) → A2 (WRow (fun l => H l = none) C H') rows (walkP d) → Q (.ref l) H'
section
variable {P : Program} {w : World} {K : PySem.W.Frag} {mg : Str → Option Value} {base : Heap} {C : Addr}
theorem fn_none {x : Str} {st : Stmt} {ps : List Str} {sp : Sp} (F : Aq K mg x st ps) (h : ∀ vs H Q E,¬ sp vs H Q E) : FnAt P w K mg base x 0 ps sp := by
 obtain ⟨f,fd,F,hm,hb⟩ := F.ex
 exact ⟨f,fd,⟨fun vs H Q E z => absurd z (h vs H Q E),fun A outer s H args us vs Q E _ _ _ _ z => absurd z (h vs H Q E)⟩,hm,F.kp,.all hb⟩
abbrev swalked : Stmt := top 38
theorem scwalked : Ar ["work","rows","word","part","road","deeper"] ["work"] (Af swalked) := by trivial
theorem ok_wk (kit : PKit K C) (F : Aq K mg "walked" swalked ["work"]) : ∀ n,FnAt P w K mg base "walked" n ["work"] (spWk C n)
 | 0 => fn_none F fun vs H Q E ⟨a,d,_,_,h,_⟩ => by omega
 | n + 1 => by
   have F_walked := ok_wk kit F n
   refine F.at scwalked (fun vs H Q E h => ?_) (fun f cdv A outer s H vs Q E hr h => ?_)
   ·obtain ⟨a,d,rfl,_⟩ := h
    rfl
   ·obtain ⟨a,d,rfl,hP,hh,hz,q⟩ := h
    refine ⟨_,(Ad (A3 (i := 1) scwalked.nd rfl (by trivial) (Am (Aa (Ai (Aa (Am Ab) (Aa (pv 0) Ab))) Ab)))
     (Ad (Ck PassesOwn.never rfl (pi_tup (Cm (pv 0) rfl)) (pg_tup rfl (A4 (Ao (i := 2) scwalked.nd rfl (by trivial)) (A4 (Ao (i := 3) scwalked.nd rfl (by trivial)) Cl))) (Ae (Ck PassesOwn.never rfl (Be (Ay F_walked hr (Nat.le_refl _) rfl (Aa (pv 3) Ab))) (pg_tup rfl (A4 (Ao (i := 4) scwalked.nd rfl (by trivial)) (A4 (Ao (i := 5) scwalked.nd rfl (by trivial)) Cl))) (Ae (At (C3 PySem.F.plainAttrs_list PySem.F.slot_list_append PySem.F.type_list_append Az (pv 1) (Aa (Ai (Aa (A7 op_cat (Am (Aa (Ai (Aa (pv 2) (Aa (Cm (pv 3) rfl) Ab))) Ab)) (pv 4)) (Aa (pv 5) Ab))) Ab)))))))
     (Ae (As (pv 1))))),?_⟩
    have hs : sizeLine = 16777216 := sizeLine_eq
    refine ⟨(by exact Z0),fun l0 hl0 => ?_⟩
    generalize hq : upd H l0 (.lst []) = H0
    have s0 := Nw hq hl0
    have e0 := Ns hq
    refine ⟨_,rfl,(by exact Z2),fun p0 hp0 => ?_⟩
    generalize hq : upd H0 p0 (.tup [.ref l0,.ref a]) = H1
    have s1 := Nw hq hp0
    have e1 := Ns hq
    refine ⟨(by exact Z1),fun l hl => ?_⟩
    generalize hq : upd H1 l (.lst [.ref p0]) = H2
    have s2 := Nw hq hl
    have e2 := Ns hq
    have S1 := s0.trans s1
    have S2 := S1.trans s2
    have hl' : H l = none := S1.free hl
    have n0 : l0 ≠ l := Aj (s1 _ _ e0) hl
    obtain ⟨dx,po,pb,kt,hA,hw,hO,hB,hF⟩ := id hP
    have hit := hF.items
    have r0 : WRow (fun x => H x = none ∧ x ≠ l) C H2 (.ref p0) ([],d) := ⟨p0,l0,a,rfl,⟨hl0,n0⟩,s2 _ _ e1,⟨[],s2 _ _ (s1 _ _ e0),A2.nil⟩,hP.same S2⟩
    refine ⟨_,rfl,a,C,dx,_,_,rfl,S2 _ _ hA,kit.cl,kit.beneath,Ci,pb,rfl,⟨_,SqT.of (S2 _ _ hB)⟩,for_tup (K := K) (a := pb) (xs := kt) (fun i σ H' => ∃ (v2 v3 v4 v5 : Option V) (rows : List V),σ = [some (.ref a),some (.ref l),v2,v3,v4,v5] ∧ Same H H' ∧ H' l = some (.lst rows) ∧ A2 (WRow (fun x => H x = none ∧ x ≠ l) C H') rows (([],d) :: ((d.ks.items.take i).map wStep).flatten))
     ⟨_,_,_,_,[.ref p0],rfl,S2,e2,A2.one r0⟩ (fun i σ H' _ ⟨_,_,_,_,_,_,s',_⟩ => SqT.of (s' _ _ hB)) ?_ ?_⟩
    ·rintro i v σ H3 hv ⟨v2,v3,v4,v5,rows,rfl,s3,e3,hrows⟩
     obtain ⟨x,hx,p,a1,rfl,hp,h4,hP1⟩ := hit.at hv
     have hm := Dc (List.mem_of_getElem? hx)
     refine ⟨p,_,rfl,SqT.of (s3 _ _ hp),rfl,_,_,rfl,_,_,rfl,rfl,?_⟩
     refine ⟨_,rfl,a1,x.2,rfl,hP1.same s3,by omega,by omega,fun l1 rows1 H4 s4 f4 e4 w4 => ?_⟩
     have hl4 := s4 _ _ e3
     have n1 : l1 ≠ l := fun z => by rw [z,e3] at f4; cases f4
     have nn : ∀ y,H3 y = none → y ≠ l := fun y hy z => by rw [z,e3] at hy; cases hy
     have hb : (([],d) :: ((d.ks.items.take (i + 1)).map wStep).flatten) = (([],d) :: ((d.ks.items.take i).map wStep).flatten) ++ wStep x := by
      rw [A8 hx,List.map_append,List.flatten_append]
      simp
     refine ⟨l1,rfl,⟨_,SqL.of e4⟩,B0 (K := K) (a := l1) (xs := rows1) (fun k σ H' => ∃ (v4 v5 : Option V) (rows' : List V),σ = [some (.ref a),some (.ref l),some (.str (nm x.1)),some (.ref a1),v4,v5] ∧ Same H H' ∧ TpIn H4 H' ∧ H' l = some (.lst rows') ∧ H' l1 = some (.lst rows1) ∧ A2 (WRow (fun y => H3 y = none) C H') rows1 (walkP x.2) ∧ A2 (WRow (fun x => H x = none ∧ x ≠ l) C H') rows' ((([],d) :: ((d.ks.items.take i).map wStep).flatten) ++ ((walkP x.2).take k).map (wUp x)))
      ⟨_,_,rows,rfl,s3.trans s4,TpIn.of (fun _ _ e => e),hl4,e4,w4,by simpa using hrows.imp fun _ _ r => r.same s4⟩ (fun k σ H' _ ⟨_,_,_,_,_,_,_,e,_⟩ => SqL.of e) ?_ ?_⟩
     ·rintro k v σ H5 hk ⟨v4,v5,rows',rfl,s5,t5,e5,e5',w5,r5⟩
      obtain ⟨y,hy,p1,lr,a2,rfl,fr,hp1,⟨vs,hlr,hvs⟩,hP2⟩ := w5.at hk
      obtain ⟨dx1,po1,pb1,kt1,hA1,_⟩ := hP1.same s5
      have hk' := (List.getElem?_eq_some_iff.mp hk).1
      have wl : rows1.length ≤ 1001 := by rw [w5.1,Cd]; omega
      have rl : rows'.length ≤ 2002 := by
       rw [r5.1,List.length_append,List.length_map,List.length_take,List.length_cons]
       have : ((d.ks.items.take i).map wStep).flatten.length ≤ (walkF d.ks).length := by
            rw [walkF_items]
            conv => rhs; rw [← List.take_append_drop i d.ks.items,List.map_append,List.flatten_append,List.length_append]
            omega
       rw [walkF_len] at this
       rw [Cd]
       omega
      have vl : vs.length ≤ 1000 := by
       rw [hvs.1]
       have := roadP_le (List.mem_of_getElem? hy)
       have := ht_size x.2.ks
       omega
      refine ⟨p1,_,rfl,SqT.of hp1,rfl,_,_,rfl,_,_,rfl,rfl,?_⟩
      refine ⟨_,rfl,.inl ⟨rfl,_,SqL.of e5⟩,_,rfl,_,rfl,a1,C,dx1,_,_,rfl,hA1,kit.cl,kit.name,C4,(by exact Z2),fun pt hpt => ?_⟩
      generalize hq : upd H5 pt (.tup [.str (nm x.1),.str x.2.n]) = H6
      have s6 := Nw hq hpt
      have e6 := Ns hq
      refine ⟨(by exact Z1),fun lp hlp => ?_⟩
      generalize hq : upd H6 lp (.lst [.ref pt]) = H7
      have s7 := Nw hq hlp
      have e7 := Ns hq
      have t67 := s6.trans s7
      refine ⟨_,rfl,lp,lr,_,_,rfl,rfl,e7,t67 _ _ hlr,(by show 1 + vs.length ≤ sizeLine; omega),fun lc hlc => ?_⟩
      generalize hq : upd H7 lc (.lst ([.ref pt] ++ vs)) = H8
      have s8 := Nw hq hlc
      have e8 := Ns hq
      have t68 := t67.trans s8
      refine ⟨_,rfl,(by exact Z2),fun pp hpp => ?_⟩
      generalize hq : upd H8 pp (.tup [.ref lc,.ref a2]) = H9
      have s9 := Nw hq hpp
      have e9 := Ns hq
      have t69 := t68.trans s9
      have el9 := t69 _ _ e5
      have nlc : lc ≠ l := (Aj (t67 _ _ e5) hlc).symm
      have hcn : H lc = none := (s5.trans t67).free hlc
      refine ⟨l,_,_,rfl,rfl,el9,(by omega),?_⟩
      have tu := TpIn.upd (o := .lst (rows' ++ [.ref pp])) el9
      refine ⟨_,_,rows' ++ [.ref pp],rfl,fun b o e => ?_,fun b o e k => tu _ _ (t69 _ _ (t5 _ _ e k)) k,Ac,by rw [Ak n1]; exact t69 _ _ e5',(w5.imp fun _ _ r => (r.same t69).upd el9 nn),?_⟩
      ·rw [Ak (Aj e hl')]
       exact t69 _ _ (s5 _ _ e)
      ·have row : WRow (fun x => H x = none ∧ x ≠ l) C H9 (.ref pp) (wUp x y) := ⟨pp,lc,a2,rfl,⟨hcn,nlc⟩,e9,⟨_,s9 _ _ e8,(hvs.imp fun _ _ r => r.t (.of t69)).cons ⟨h4,pt,rfl,s9 _ _ (s8 _ _ (s7 _ _ e6))⟩⟩,hP2.same t69⟩
       rw [A8 hy,List.map_append,← List.append_assoc]
       exact (r5.imp fun _ _ r => (r.same t69).upd el9 fun _ h => h.2).app (A2.one (row.upd el9 fun _ h => h.2))
     ·rintro σ H5 ⟨v4,v5,rows',rfl,s5,t5,e5,e5',w5,r5⟩
      rw [w5.1,List.take_length] at r5
      exact ⟨_,_,_,_,rows',rfl,s5,e5,by rw [hb]; exact r5⟩
    ·rintro σ H3 ⟨v2,v3,v4,v5,rows,rfl,s3,e3,hrows⟩
     refine ⟨_,rfl,q l rows H3 s3 hl' e3 ?_⟩
     rw [hit.1,List.take_length,← walkF_items] at hrows
     exact hrows.imp fun _ _ r => r.imp fun _ h => h.1
end
end K32
namespace K32
open PySem L2 PyProof.Rows PySem.SeqAt
theorem len_put (f : Str) (v : V) {fs : List (Str × V)} {n : Nat} (h : fs.length ≤ n) : (putF f v fs).length ≤ n + 1 := by
 have := length_putF f v fs
 omega
theorem inV_str (z : Str) : ∀ zs : List Str,inV (.str z) (zs.map V.str) = decide (z ∈ zs)
 | [] => rfl
 | y :: zs => by
   have ih := inV_str z zs
   unfold inV at ih ⊢
   rw [List.map_cons,List.any_cons,ih]
   show (y == z || decide (z ∈ zs)) = decide (z ∈ y :: zs)
   rw [Bool.eq_iff_iff,Bool.or_eq_true,beq_iff_eq,decide_eq_true_iff,decide_eq_true_iff,List.mem_cons]
   exact ⟨fun h => h.imp Eq.symm id,fun h => h.imp Eq.symm id⟩
section
variable {P : Program} {w : World} {K : PySem.W.Frag} {mg : Str → Option Value} {base : Heap} {C : Addr}
def spDp (C : Addr) : Sp := fun vs H Q _ => ∃ (a : Addr) (d : Nd),vs = [.ref a] ∧ PAt C H a d ∧ d.ks.ht < 7 ∧ d.ks.size ≤ 1000 ∧ ∀ H',Same H H' → Q (.int ((d.ks.ht + 1 : Nat) : Int)) H'
abbrev sdepth_of : Stmt := top 39
theorem scdepth_of : Ar ["work"] ["work"] (Af sdepth_of) := by trivial
theorem ok_dp (T : Txt mg) (F_walked : FnAt P w K mg base "walked" 7 ["work"] (spWk C 7)) (F : Aq K mg "depth_of" sdepth_of ["work"]) : FnAt P w K mg base "depth_of" 8 ["work"] (spDp C) := by
 refine F.at scdepth_of (fun vs H Q E h => ?_) (fun f cdv A outer s H vs Q E hr h => ?_)
 ·obtain ⟨a,d,rfl,_⟩ := h
  rfl
 ·obtain ⟨a,d,rfl,hP,h7,hz,q⟩ := h
  refine ⟨_,(Ae (As (A7 Ds Ag (Ah (call_maxL rfl) rfl T.n_max boot_max (Aa (Bz (sc := Af sdepth_of) (N0 := ["work"]) (xs := ["road","part"]) (ys := []) (js := []) (by trivial) rfl (Be (Ay F_walked hr (by decide) rfl (Aa (pv 0) Ab))) (fun _ _ _ _ => (pg_tupK (n := 2) K rfl (A4 (Ao (i := 0) (show (["road","part"] : List Str).Nodup by decide +kernel) rfl (by trivial)) (A4 (Ao (i := 1) (show (["road","part"] : List Str).Nodup by decide +kernel) rfl (by trivial)) Cl)))) (fun _ _ _ _ => B7) (fun _ _ _ _ => (Ah (call_lenK K rfl) rfl T.n_len boot_len (Aa (pv 0) Ab)))) Ab))))),?_⟩
  have hs : sizeLine = 16777216 := sizeLine_eq
  refine ⟨_,rfl,a,d,rfl,hP,h7,hz,fun l rows H1 s1 f1 e1 hrows => ?_⟩
  have rl : rows.length ≤ 1001 := by rw [hrows.1,Cd]; omega
  refine ⟨l,rfl,⟨_,SqL.of e1⟩,B2 (K := K) (a := l) (xs := rows) (fun i ys H' => ys = ((walkP d).take i).map (fun y => V.int ((y.1.length : Nat) : Int)) ∧ H' = H1) ⟨by simp,rfl⟩ (by omega) ?_ ?_ ?_ ?_⟩
  ·rintro i ys H' ⟨rfl,_⟩
   rw [List.length_map,List.length_take]; omega
  ·rintro i ys H' _ ⟨_,rfl⟩
   exact SqL.of e1
  ·rintro i x ys H' hx ⟨rfl,rfl⟩
   obtain ⟨y,hy,p,lr,a1,rfl,_,hp,⟨vs,hv,hvs⟩,_⟩ := hrows.at hx
   refine ⟨p,_,rfl,SqT.of hp,rfl,_,_,rfl,_,_,rfl,rfl,?_⟩
   refine ⟨_,rfl,_,_,rfl,.inl ⟨_,SqL.of hv,rfl⟩,?_,rfl⟩
   rw [A8 hy,List.map_append,hvs.1]
   rfl
  ·rintro ys H' ⟨rfl,rfl⟩ l2 hl2
   have el : ((walkP d).take rows.length).map (fun y => V.int ((y.1.length : Nat) : Int)) = ((walkP d).map fun y => ((y.1.length : Nat) : Int)).map V.int := by rw [hrows.1,List.take_length,List.map_map]; rfl
   rw [el]
   generalize hq : upd H' l2 (.lst (((walkP d).map fun y => ((y.1.length : Nat) : Int)).map V.int)) = H2
   have s2 := s1.trans (Nw hq hl2)
   have e2 := Ns hq
   refine ⟨l2,_,rfl,SqL.of e2,by rw [List.length_map,Cd]; omega,fun m hm hall => ?_⟩
   obtain ⟨y,hy,ey⟩ := roadP_max d
   have a1 := hall _ (List.mem_map.mpr ⟨y,hy,rfl⟩)
   obtain ⟨y',hy',rfl⟩ := List.mem_map.mp hm
   have a2 := roadP_le hy'
   have em : y'.1.length = d.ks.ht := by omega
   refine ⟨_,_,rfl,rfl,?_⟩
   show Q (.int (1 + ((y'.1.length : Nat) : Int))) H2
   rw [em,show (1 : Int) + (d.ks.ht : Int) = ((d.ks.ht + 1 : Nat) : Int) by omega]
   exact q _ s2
def names (d : Nd) : List Str := (walkP d).map fun y => y.2.n
structure Bd (d : Nd) : Prop where
 nd : (names d).Nodup
 z : d.ks.size + 1 ≤ 30
 h : d.ks.ht + 1 ≤ 6
def spNB (C : Addr) : Sp := fun vs H Q _ => ∃ (a : Addr) (d : Nd),vs = [.ref a] ∧ PAt C H a d ∧ Bd d ∧ ∀ H',Same H H' → Q .non H'
abbrev Cz : Stmt := top 40
theorem A1 : Ar ["work","names","road","part"] ["work"] (Af Cz) := by trivial
theorem ok_nb (T : Txt mg) (kit : PKit K C) (F_walked : FnAt P w K mg base "walked" 7 ["work"] (spWk C 7)) (F_nfp : FnAt P w K mg base "need_few_parts" 1 ["many"] (spFew 30)) (F_nnd : FnAt P w K mg base "need_not_deep" 1 ["deep"] (spFew 6)) (F_dp : FnAt P w K mg base "depth_of" 8 ["work"] (spDp C)) (F : Aq K mg "need_bounds" Cz ["work"]) : FnAt P w K mg base "need_bounds" 9 ["work"] (spNB C) := by
 refine F.at A1 (fun vs H Q E h => ?_) (fun f cdv A outer s H vs Q E hr h => ?_)
 ·obtain ⟨a,d,rfl,_⟩ := h
  rfl
 ·obtain ⟨a,d,rfl,hP,bd,q⟩ := h
  refine ⟨_,(Ad (A3 (i := 1) A1.nd rfl (by trivial) (Am Ab))
   (Ad (Ck PassesOwn.never rfl (Be (Ay F_walked hr (by decide) rfl (Aa (pv 0) Ab))) (pg_tup rfl (A4 (Ao (i := 2) A1.nd rfl (by trivial)) (A4 (Ao (i := 3) A1.nd rfl (by trivial)) Cl))) (Ad (Bc (Bb op_in_seq (Cm (pv 3) rfl) (pv 1) (by with_unfolding_all rfl)) (Ae An) Ap)
   (Ae (At (C3 PySem.F.plainAttrs_list PySem.F.slot_list_append PySem.F.type_list_append Az (pv 1) (Aa (Cm (pv 3) rfl) Ab))))))
   (Ad (At (Ay F_nfp hr (by decide) rfl (Aa (Ah Av rfl T.n_len boot_len (Aa (pv 1) Ab)) Ab)))
   (Ae (At (Ay F_nnd hr (by decide) rfl (Aa (Ay F_dp hr (by decide) rfl (Aa (pv 0) Ab)) Ab))))))),?_⟩
  have hs : sizeLine = 16777216 := sizeLine_eq
  have bz := bd.z
  have bh := bd.h
  have nl : (names d).length = d.ks.size + 1 := by unfold names; rw [List.length_map,Cd]
  refine ⟨(by exact Z0),fun ln hln => ?_⟩
  generalize hq : upd H ln (.lst []) = H0
  have s0 := Nw hq hln
  have e0 := Ns hq
  refine ⟨_,rfl,a,d,rfl,hP.same s0,by omega,by omega,fun l rows H1 s1 f1 e1 hrows => ?_⟩
  have n1 : l ≠ ln := (Aj e0 f1).symm
  have nn : ∀ y,H0 y = none → y ≠ ln := fun y hy z => by rw [z,e0] at hy; cases hy
  refine ⟨l,rfl,⟨_,SqL.of e1⟩,B0 (K := K) (a := l) (xs := rows) (fun i σ H' => ∃ (v2 v3 : Option V),σ = [some (.ref a),some (.ref ln),v2,v3] ∧ Same H H' ∧ H' ln = some (.lst (((names d).take i).map V.str)) ∧ H' l = some (.lst rows) ∧ A2 (WRow (fun y => H0 y = none) C H') rows (walkP d))
   ⟨_,_,rfl,s0.trans s1,by simpa using s1 _ _ e0,e1,hrows⟩ (fun i σ H' _ ⟨_,_,_,_,_,e,_⟩ => SqL.of e) ?_ ?_⟩
  ·rintro i v σ H2 hv ⟨v2,v3,rfl,s2,e2,e2',w2⟩
   obtain ⟨y,hy,p,lr,a1,rfl,_,hp,_,dx1,po1,pb1,kt1,hA1,_⟩ := w2.at hv
   have hn : (names d)[i]? = some y.2.n := by unfold names; rw [List.getElem?_map,hy]; rfl
   obtain ⟨hil,hne⟩ := List.getElem?_eq_some_iff.mp hn
   refine ⟨p,_,rfl,SqT.of hp,rfl,_,_,rfl,_,_,rfl,rfl,?_⟩
   refine ⟨_,rfl,a1,C,dx1,_,_,rfl,hA1,kit.cl,kit.name,C4,_,rfl,ln,_,rfl,.inl (SqL.of e2),rfl,strs_flat _,_,rfl,?_⟩
   have hnot : inV (.str y.2.n) (((names d).take i).map V.str) = false := by
    rw [inV_str]
    refine decide_eq_false fun m => ?_
    obtain ⟨j,hj,e⟩ := List.mem_iff_getElem.mp m
    rw [List.length_take] at hj
    rw [List.getElem_take] at e
    exact (List.pairwise_iff_getElem.mp bd.nd) j i (by omega) hil (by omega) (by rw [e,hne])
   show if inV (.str y.2.n) (((names d).take i).map V.str) = true then _ else _
   rw [hnot]
   refine iteF ?_
   refine ⟨_,rfl,.inl ⟨rfl,_,SqL.of e2⟩,_,rfl,a1,C,dx1,_,_,rfl,hA1,kit.cl,kit.name,C4,ln,_,_,rfl,rfl,e2,(by rw [List.length_map,List.length_take]; omega),?_⟩
   refine ⟨_,_,rfl,fun b o e => ?_,?_,?_,w2.imp fun _ _ r => r.upd e2 nn⟩
   ·rw [Ak (Aj e hln)]; exact s2 _ _ e
   ·rw [Ac,A8 hn,List.map_append]; rfl
   ·rw [Ak n1]; exact e2'
  ·rintro σ H2 ⟨v2,v3,rfl,s2,e2,e2',w2⟩
   rw [hrows.1,Cd,← nl,List.take_length] at e2
   refine ⟨_,rfl,_,_,rfl,.inl ⟨_,SqL.of e2,rfl⟩,_,rfl,by rw [List.length_map]; omega,?_⟩
   refine ⟨_,rfl,a,d,rfl,hP.same s2,by omega,by omega,fun H3 s3 => ⟨_,rfl,by omega,?_⟩⟩
   exact q _ (s2.trans s3)
theorem OfAt.ins {H : Hp} {po p C dx : Addr} {o : List (Str × Nat)} {fs : List (Str × V)} {ob : HO} (h : OfAt H po o) (hp : H p = some (.ins C dx fs)) : OfAt (upd H p ob) po o := by
 obtain ⟨ps,h1,h2,h3⟩ := h
 refine ⟨ps,by rw [Ak (ne_of h1 hp (by intro z; cases z))]; exact h1,h2.imp fun x k e => ?_,h3⟩
 show upd H p ob x = _
 rw [Ak (ne_of e hp (by intro z; cases z))]
 exact e
def spPI (C : Addr) : Sp := fun vs H Q _ => ∃ (p dx : Addr) (vo vb : V) (n : Str) (o : List (Str × Nat)) (f : Fo) (its : List V) (H0 : Hp),vs = [.ref p,.str n,vo,vb] ∧ H p = some (.ins C dx []) ∧ H0 p = none ∧ Same H0 H ∧ A6 n = true ∧
 OfArg H0 vo o ∧ BnArg C H0 vb f its ∧ Bd ⟨n,o,f⟩ ∧ ∀ H',Same H0 H' → PAt C H' p ⟨n,o,f⟩ → Q .non H'
abbrev psP : List Str := ["self","name","offers","beneath"]
abbrev Cu : Stmt := Cw (top 42) 0
theorem scPart_init : Ar psP psP (Af Cu) := by trivial
theorem ok_pinit (kit : PKit K C) (F_is_word : FnAt P w K mg base "is_word" 1 ["thing"] (spWord K)) (F_ko : FnAt P w K mg base "kept_offers" 4 ["offers"] spKO) (F_kb : FnAt P w K mg base "kept_beneath" 3 ["beneath"] (spKB C)) (F_nb : FnAt P w K mg base "need_bounds" 9 ["work"] (spNB C))
 {f : Addr} {fd : FuncData} (F : FunD K "__init__" "Part.__init__" Cu f fd) : FnOk P w K mg base CX0 10 f fd psP (spPI C) := by
 refine F.ok scPart_init (fun vs H Q E h => ?_) (fun cdv A outer s H vs Q E hr h => ?_)
 ·obtain ⟨p,dx,vo,vb,n,o,f,its,H0,rfl,_⟩ := h
  rfl
 ·obtain ⟨p,dx,vo,vb,n,o,fo,its,H0,rfl,hp,hp0,s0,hw,hvo,hvb,bd,q⟩ := h
  have hF : FAt C H0 fo its := by
   rcases hvb with ⟨_,rfl,rfl⟩ | ⟨_,_,_,h,_⟩ | ⟨_,_,_,h,_⟩
   ·rfl
   ·exact h
   ·exact h
  refine ⟨_,(Ad (Bc (Bg (Bj (Ay F_is_word hr (by decide) rfl (Aa (pv 1) Ab)))) (Ae An) Ap)
   (Ad (ps_fld (pv 0) (pv 1) rfl)
   (Ad (ps_fld (pv 0) (Ay F_ko hr (by decide) rfl (Aa (pv 2) Ab)) rfl)
   (Ad (ps_fld (pv 0) (Ay F_kb hr (by decide) rfl (Aa (pv 3) Ab)) rfl)
   (Ae (At (Ay F_nb hr (by decide) rfl (Aa (pv 0) Ab)))))))),?_⟩
  have up : ∀ {H1 : Hp} {fs : List (Str × V)},Same H0 H1 → Same H0 (upd H1 p (.ins C dx fs)) := fun s1 b o e => by rw [Ak (Aj e hp0)]; exact s1 b o e
  refine ⟨_,rfl,.str n,rfl,⟨.str,.str _⟩,(fun z e => by cases e; have := Cr hw; omega),fun H1 s1 => ⟨_,rfl,?_⟩⟩
  have wv : C8 (.str n) = true := hw
  rw [wv]
  refine iteF ?_
  have p1 := s1 _ _ hp
  refine ⟨_,rfl,_,rfl,p,C,dx,[],rfl,p1,kit.cl,kit.name,(by show 0 < 1000; decide),?_⟩
  have S2 : Same H0 (upd H1 p (.ins C dx (putF "name" (.str n) []))) := up (s0.trans s1)
  have p2 : upd H1 p (.ins C dx (putF "name" (.str n) [])) p = some (.ins C dx (putF "name" (.str n) [])) := Ac
  generalize upd H1 p (.ins C dx (putF "name" (.str n) [])) = H2 at S2 p2 ⊢
  refine ⟨_,rfl,vo,o,rfl,hvo.same S2,fun po H3 s3 e3 => ?_⟩
  have p3 := s3 _ _ p2
  refine ⟨_,rfl,p,C,dx,_,rfl,p3,kit.cl,kit.offers,(Nat.lt_of_le_of_lt (len_put _ _ (n := 0) (Nat.le_refl _)) (by decide)),?_⟩
  have S4 : Same H0 (upd H3 p (.ins C dx (putF "offers" (.ref po) (putF "name" (.str n) [])))) := up (S2.trans s3)
  have p4 : upd H3 p (.ins C dx (putF "offers" (.ref po) (putF "name" (.str n) []))) p = some (.ins C dx (putF "offers" (.ref po) (putF "name" (.str n) []))) := Ac
  have e4 := e3.ins (ob := .ins C dx (putF "offers" (.ref po) (putF "name" (.str n) []))) p3
  generalize upd H3 p (.ins C dx (putF "offers" (.ref po) (putF "name" (.str n) []))) = H4 at S4 p4 e4 ⊢
  refine ⟨_,rfl,vb,fo,its,rfl,hvb.same S4,fun pb H5 s5 e5 => ?_⟩
  have p5 := s5 _ _ p4
  refine ⟨_,rfl,p,C,dx,_,rfl,p5,kit.cl,kit.beneath,(Nat.lt_of_le_of_lt (len_put _ _ (len_put _ _ (n := 0) (Nat.le_refl _))) (by decide)),?_⟩
  have S6 : Same H0 (upd H5 p (.ins C dx (pF n po pb))) := up (S4.trans s5)
  have hP : PAt C (upd H5 p (.ins C dx (pF n po pb))) p ⟨n,o,fo⟩ := ⟨dx,po,pb,its,Ac,hw,(e4.t (.of s5)).ins p5,by rw [Ak (ne_of e5 p5 (by intro z; cases z))]; exact e5,hF.t (.of S6)⟩
  generalize upd H5 p (.ins C dx (pF n po pb)) = H6 at S6 hP ⊢
  exact ⟨_,rfl,p,_,rfl,hP,bd,fun H7 s7 => q H7 (S6.trans s7) (hP.same s7)⟩
end
end K32
namespace K32
open PySem L2 PyProof.Rows PySem.SeqAt
def keyD (k : Str × Nat) : PyData := .tuple [.str k.1,.int k.2]
def toldF : Fo → List PyData
 | .nil => []
 | .cons j n o ks r => .tuple [.str (nm j),.tuple [.str n,.tuple (o.map keyD),.tuple (toldF ks)]] :: toldF r
def toldD (d : Nd) : PyData := .tuple [.str d.n,.tuple (d.o.map keyD),.tuple (toldF d.ks)]
theorem B4 : ∀ f : Fo,toldF f = f.items.map fun x => .tuple [.str (nm x.1),toldD x.2]
 | .nil => rfl
 | .cons j n o ks r => by rw [toldF,Fo.items,List.map_cons,← B4 r]; rfl
theorem word_ok {z : Str} (h : A6 z = true) : PyData.strOk z = true := by
 unfold A6 at h
 rw [Bool.and_eq_true] at h
 have h := h.2
 unfold PyData.strOk
 rw [← Array.all_toList,List.all_eq_true]
 intro c hc
 have := List.all_eq_true.mp h c hc
 unfold Dj at this
 simp only [Bool.and_eq_true,decide_eq_true_eq] at this ⊢
 omega
theorem nm_ok {j : Nat} (h : j < 4) : PyData.strOk (nm j) = true := by
 rcases j4 h with rfl | rfl | rfl | rfl <;> decide +kernel
theorem keys_lay : ∀ {o : List (Str × Nat)},(∀ k ∈ o,A6 k.1 = true ∧ k.2 < 100) → PyData.canLayAll0 (o.map keyD) = true ∧ PyData.depthAll (o.map keyD) ≤ 1
 | [],_ => ⟨rfl,by simp [PyData.depthAll]⟩
 | k :: o,h => by
   obtain ⟨a,b⟩ := keys_lay fun x hx => h x (List.mem_cons_of_mem _ hx)
   have w := word_ok (h k List.mem_cons_self).1
   rw [List.map_cons]
   refine ⟨?_,?_⟩
   ·rw [PyData.canLayAll0,a]
    simp [keyD,PyData.canLay0,PyData.canLayAll0,w]
   ·rw [PyData.depthAll]
    have : (keyD k).depth = 1 := by simp [keyD,PyData.depth,PyData.depthAll]
    omega
theorem told_lay {C : Addr} {H : Hp} : ∀ {f : Fo} {its : List V},FAt C H f its → PyData.canLayAll0 (toldF f) = true ∧ PyData.depthAll (toldF f) ≤ 3 * f.ht + 3
 | .nil,its,h => ⟨rfl,by simp [toldF,PyData.depthAll]⟩
 | .cons j n o ks r,its,h => by
   obtain ⟨p,a,dx,po,pb,kt,tl,rfl,h1,h2,h3,h4,⟨ps,_,_,g⟩,h6,h7,h8⟩ := h
   obtain ⟨a1,b1⟩ := told_lay h7
   obtain ⟨a2,b2⟩ := told_lay h8
   obtain ⟨a3,b3⟩ := keys_lay g.ok
   rw [toldF]
   refine ⟨?_,?_⟩
   ·rw [PyData.canLayAll0,a2]
    simp [PyData.canLay0,PyData.canLayAll0,a1,a3,nm_ok h2,word_ok h3]
   ·rw [PyData.depthAll,Fo.ht]
    simp only [PyData.depth,PyData.depthAll]
    omega
mutual
inductive RdT (H : Hp) : V → PyData → Prop
 | str (z : Str) : RdT H (.str z) (.str z)
 | int (i : Int) : RdT H (.int i) (.int i)
 | tup {a : Addr} {xs : List V} {ds : List PyData} : H a = some (.tup xs) → RdTs H xs ds → RdT H (.ref a) (.tuple ds)
inductive RdTs (H : Hp) : List V → List PyData → Prop
 | nil : RdTs H [] []
 | cons {x : V} {d : PyData} {xs : List V} {ds : List PyData} : RdT H x d → RdTs H xs ds → RdTs H (x :: xs) (d :: ds)
end
mutual
theorem RdT.t {H H' : Hp} (t : TpIn H H') : ∀ {x : V} {d : PyData},RdT H x d → RdT H' x d
 | _,_,.str z => .str z
 | _,_,.int i => .int i
 | _,_,.tup h r => .tup (t.tup h) (r.t t)
theorem RdTs.t {H H' : Hp} (t : TpIn H H') : ∀ {xs : List V} {ds : List PyData},RdTs H xs ds → RdTs H' xs ds
 | _,_,.nil => .nil
 | _,_,.cons h r => .cons (h.t t) (r.t t)
end
mutual
theorem RdT.rd {K : PySem.W.Frag} {H : Hp} : ∀ {x : V} {d : PyData},RdT H x d → RdD K H x d
 | _,_,.str z => .str z
 | _,_,.int i => .int i
 | _,_,.tup h r => .tup (SqT.of h) r.rd
theorem RdTs.rd {K : PySem.W.Frag} {H : Hp} : ∀ {xs : List V} {ds : List PyData},RdTs H xs ds → RdDs K H xs ds
 | _,_,.nil => .nil
 | _,_,.cons h r => .cons h.rd r.rd
end
theorem rt_snoc {H : Hp} {v : V} {d : PyData} : ∀ {xs : List V} {ds : List PyData},RdTs H xs ds → RdT H v d → RdTs H (xs ++ [v]) (ds ++ [d])
 | _,_,.nil,h => .cons h .nil
 | _,_,.cons x t,h => .cons x (rt_snoc t h)
theorem rt_keys {H : Hp} : ∀ {ps : List Addr} {o : List (Str × Nat)},A2 (KeyR H) ps o → RdTs H (ps.map V.ref) (o.map keyD)
 | [],[],_ => .nil
 | [],_ :: _,h => by have := h.1; simp at this
 | _ :: _,[],h => by have := h.1; simp at this
 | p :: ps,k :: o,h => by
   obtain ⟨e,t⟩ := A2.inv h
   exact .cons (.tup e (.cons (.str _) (.cons (.int _) .nil))) (rt_keys t)
section
variable {P : Program} {w : World} {K : PySem.W.Frag} {mg : Str → Option Value} {base : Heap} {C : Addr} {J : Js}
theorem PAt.ins {H : Hp} {a : Addr} {d : Nd} (h : PAt C H a d) : ∃ dx fs,H a = some (.ins C dx fs) ∧ ∀ m : Str,m ≠ "name" → m ≠ "offers" → m ≠ "beneath" → fs.lookup m = none := by
 obtain ⟨dx,po,pb,kt,h1,_⟩ := h
 refine ⟨dx,_,h1,fun m n1 n2 n3 => ?_⟩
 rw [Bo,if_neg n3,Bo,if_neg n2,Bo,if_neg n1]
 rfl
def spTd (K : PySem.W.Frag) (C : Addr) (n : Nat) : Sp := fun vs H Q _ => ∃ (a : Addr) (d : Nd),vs = [.ref a] ∧ PAt C H a d ∧ d.ks.ht < n ∧ d.ks.size ≤ 1000 ∧ ∀ (t : Addr) (H' : Hp),Same H H' → RdT H' (.ref t) (toldD d) → Q (.ref t) H'
def DTd (K : PySem.W.Frag) (C : Addr) (n : Nat) : Addr → Sp → Prop := fun C' sp => C' = C ∧ sp = spTd K C n
abbrev Dv : Stmt := Cw (top 42) 5
theorem scPart_told : Ar ["self"] ["self"] (Af Dv) := by trivial
theorem items_le : ∀ f : Fo,f.items.length ≤ f.size
 | .nil => Nat.le_refl _
 | .cons j n o ks r => by
   have := items_le r
   rw [Fo.items,Fo.size,List.length_cons]
   omega
theorem ok_td (T : Txt mg) (kit : PKit K C) (h : MTop K C "told" "Part.told" Dv ["self"]) : ∀ n C' sp,DTd K C n C' sp → MethD P w K mg base CX0 n C' "told" ["self"] sp
 | 0,_,_,⟨rfl,rfl⟩ => methD_of kit.cl h fun f fd F => ⟨fun vs H Q E ⟨a,d,_,_,z,_⟩ => by omega,fun A outer s H args us vs Q E _ _ _ _ ⟨a,d,_,_,z,_⟩ => by omega⟩
 | n + 1,_,_,⟨rfl,rfl⟩ => by
   have MTD := ok_td T kit h n
   refine methD_of kit.cl h fun f fd F => F.ok scPart_told (fun vs H Q E h => ?_) (fun cdv A outer s H vs Q E hr h => ?_)
   ·obtain ⟨a,d,rfl,_⟩ := h
    rfl
   ·obtain ⟨a,d,rfl,hP,hh,hz,q⟩ := h
    refine ⟨_,(Ae (As (Ai (Aa (Cm (pv 0) rfl) (Aa (Cm (pv 0) rfl) (Aa (Cn Bs rfl T.n_tuple boot_tuple (Aa (Bz (sc := Af Dv) (N0 := ["self"]) (xs := ["word","part"]) (ys := []) (js := []) (by trivial) rfl (pi_tup (Cm (pv 0) rfl)) (fun _ _ _ _ => (pg_tupK (n := 2) K rfl (A4 (Ao (i := 0) (show (["word","part"] : List Str).Nodup by decide +kernel) rfl (by trivial)) (A4 (Ao (i := 1) (show (["word","part"] : List Str).Nodup by decide +kernel) rfl (by trivial)) Cl)))) (fun _ _ _ _ => B7) (fun _ _ _ _ => (Ai (Aa (pv 0) (Aa (pe_methD (D := DTd K C n) (pv 1) MTD hr Db) Ab))))) Ab)) Ab)))))),?_⟩
    have hs : sizeLine = 16777216 := sizeLine_eq
    obtain ⟨dx,po,pb,kt,hA,hw,⟨ps,hO,hk,g⟩,hB,hF⟩ := id hP
    have hit := hF.items
    have kl : kt.length ≤ 1000 := by rw [hit.1]; have := items_le d.ks; omega
    refine ⟨_,rfl,a,C,dx,_,_,rfl,hA,kit.cl,kit.name,C4,_,rfl,a,C,dx,_,_,rfl,hA,kit.cl,kit.offers,pF_offers,_,rfl,a,C,dx,_,_,rfl,hA,kit.cl,kit.beneath,Ci,pb,rfl,⟨_,SqT.of hB⟩,?_⟩
    refine De (K := K) (a := pb) (xs := kt) (fun i ys H' => Same H H' ∧ ys.length = i ∧ RdTs H' ys ((d.ks.items.take i).map fun x => .tuple [.str (nm x.1),toldD x.2])) ⟨Same.refl _,rfl,.nil⟩ (by omega) ?_ ?_ ?_ ?_
    ·rintro i ys H' ⟨_,h,_⟩
     omega
    ·rintro i ys H' _ ⟨s',_⟩
     exact SqT.of (s' _ _ hB)
    ·rintro i v ys H' hv ⟨s',hy,hr'⟩
     obtain ⟨x,hx,p,a1,rfl,hp,h4,hP1⟩ := hit.at hv
     have hm := Dc (List.mem_of_getElem? hx)
     have hP1' := hP1.same s'
     obtain ⟨dx1,fs1,hA1,hfs1⟩ := hP1'.ins
     refine ⟨p,_,rfl,SqT.of (s' _ _ hp),rfl,_,_,rfl,_,_,rfl,rfl,?_⟩
     refine ⟨_,rfl,_,rfl,a1,C,dx1,fs1,spTd K C n,rfl,hA1,hfs1 _ (by decide +kernel) (by decide +kernel) (by decide +kernel),⟨rfl,rfl⟩,a1,x.2,rfl,hP1',by omega,by omega,fun t H1 s1 ht => ?_⟩
     refine ⟨(by exact Z2),fun t2 ht2 => ?_⟩
     have s2 := s1.trans (Same.new (o := .tup [.str (nm x.1),.ref t]) ht2)
     refine ⟨s'.trans s2,by rw [List.length_append,hy]; rfl,?_⟩
     rw [A8 hx,List.map_append]
     exact rt_snoc (hr'.t (.of s2)) (.tup Ac (.cons (.str _) (.cons (ht.t (.of (Same.new ht2))) .nil)))
    ·rintro ys H' ⟨s',hy,hr'⟩ l2 hl2
     rw [hit.1,List.take_length,← B4] at hr'
     have s2 := Same.new (o := .lst ys) hl2
     have e2 : upd H' l2 (.lst ys) l2 = some (.lst ys) := Ac
     have r2 := hr'.t (.of s2)
     generalize upd H' l2 (.lst ys) = H2 at s2 e2 r2 ⊢
     refine ⟨l2,_,rfl,.inl ⟨SqL.of e2,fun tp htp => ?_⟩⟩
     have s3 := Same.new (o := .tup ys) htp
     have e3 : upd H2 tp (.tup ys) tp = some (.tup ys) := Ac
     have r3 := r2.t (.of s3)
     generalize upd H2 tp (.tup ys) = H3 at s3 e3 r3 ⊢
     have t3 := (s'.trans s2).trans s3
     refine ⟨(by exact Z3),fun t4 ht4 => ?_⟩
     have s4 := Same.new (o := .tup [.str d.n,.ref po,.ref tp]) ht4
     have t4' := t3.trans s4
     exact q t4 _ t4' (.tup Ac (.cons (.str _) (.cons (.tup (t4' _ _ hO) (rt_keys (hk.imp fun _ _ e => t4' _ _ e))) (.cons (.tup (s4 _ _ e3) (r3.t (.of s4))) .nil))))
end
end K32
namespace K32
open PySem L2 PyProof.Rows
theorem join_go : ∀ (zs : List Nat) (acc : Array Nat),(zs.map fun c => (⟨#[c]⟩ : Str)).foldl (fun acc p => acc ++ Str.empty.cps ++ p.cps) acc = acc ++ zs.toArray
 | [],acc => by simp
 | c :: r,acc => by
   rw [List.map_cons,List.foldl_cons,join_go r]
   show acc ++ #[] ++ #[c] ++ r.toArray = acc ++ (c :: r).toArray
   simp
theorem join_signs (zs : List Nat) (sep : Str) (hs : sep = Str.empty) : Txt.join sep (zs.map fun c => (⟨#[c]⟩ : Str)) = ⟨zs.toArray⟩ := by
 subst hs
 cases zs with
 | nil => rfl
 | cons c r =>
   show (⟨(r.map fun c => (⟨#[c]⟩ : Str)).foldl (fun acc p => acc ++ Str.empty.cps ++ p.cps) #[c]⟩ : Str) = _
   rw [join_go]
   simp
theorem slice_to {z : Str} {i : Nat} (h : i ≤ z.cps.toList.length) : Txt.slice z none (some (i : Int)) = ⟨(z.cps.toList.take i).toArray⟩ := by
 have := slice_closes_to (x := z) (j := i) ⟨by omega,by omega⟩
 have := beq_iff_eq.mp this
 rw [this]
 simp
theorem slice_from {z : Str} {i : Nat} (h : i ≤ z.cps.toList.length) : Txt.slice z (some (i : Int)) none = ⟨(z.cps.toList.drop i).toArray⟩ := by
 have hz : z.length = z.cps.toList.length := by simp [Str.length]
 rw [slice_from_eq (x := z) (i := i) (b := z.length) (by omega) (by omega) rfl]
 congr 2
 rw [List.take_of_length_le]
 ·simp
 ·rw [List.length_drop]
  have : z.cps.toList.length = z.length := hz.symm
  omega
theorem app_l (A B : List Nat) : (⟨A.toArray⟩ : Str) ++ (⟨B.toArray⟩ : Str) = ⟨(A ++ B).toArray⟩ := by
 show (⟨A.toArray ++ B.toArray⟩ : Str) = _
 simp
theorem word_l {L : List Nat} (h1 : 1 ≤ L.length) (h2 : L.length ≤ 8) (h3 : L.all Dj = true) : A6 ⟨L.toArray⟩ = true := by
 unfold A6
 rw [Bool.and_eq_true,decide_eq_true_eq]
 refine ⟨?_,by simpa using h3⟩
 show 1 ≤ L.toArray.size ∧ L.toArray.size ≤ 8
 rw [List.size_toArray]
 exact ⟨h1,h2⟩
abbrev abc : Str := Str.ofString "abcdefghijklmnopqrstuvwxyz"
theorem abc_at {r : Int} (h0 : 0 ≤ r) (h1 : r < 26) : ∃ c,atI abc.cps.toList r = some c ∧ Dj c = true := by
 have el : abc.cps.toList = [97,98,99,100,101,102,103,104,105,106,107,108,109,110,111,112,113,114,115,116,117,118,119,120,121,122] := by decide +kernel
 obtain ⟨c1,e1,m1⟩ := atI_ex (xs := abc.cps.toList) h0 (by rw [el]; exact h1)
 refine ⟨c1,e1,?_⟩
 have hl : ∀ c ∈ abc.cps.toList,Dj c = true := by rw [el]; decide +kernel
 exact hl c1 m1
theorem abc_val : ∀ n : Fin 26,atI abc.cps.toList (n.val : Int) = some (97 + n.val) := by decide +kernel
theorem abc_inj {r r' : Int} (h0 : 0 ≤ r) (h1 : r < 26) (h0' : 0 ≤ r') (h1' : r' < 26) (e : atI abc.cps.toList r = atI abc.cps.toList r') : r = r' := by
 obtain ⟨n,rfl⟩ : ∃ n : Nat,r = (n : Int) := ⟨r.toNat,by omega⟩
 obtain ⟨n',rfl⟩ : ∃ n : Nat,r' = (n : Int) := ⟨r'.toNat,by omega⟩
 have a := abc_val ⟨n,by omega⟩
 have b := abc_val ⟨n',by omega⟩
 dsimp only at a b
 rw [a,b] at e
 have := Option.some.inj e
 omega
def Lett (pos : Nat) (first : Int) (L : Nat) (us : List Str) : Prop := ∀ (j : Nat) (z : Str),us[j]? = some z → (j < 26 → z.cps.toList[pos]? = atI abc.cps.toList ((first + 7 * (0 + (j : Int))) % 26) ∧ z.length ≠ L) ∧ (26 ≤ j → z.cps.toList[0]? = atI abc.cps.toList ((first + 7 * (0 + (j : Int))) % 26) ∧ z.length = L)
theorem Lett.snoc {pos L : Nat} {first : Int} {us : List Str} {z : Str} (h : Lett pos first L us) (e : us.length < 26 → z.cps.toList[pos]? = atI abc.cps.toList ((first + 7 * (0 + (us.length : Int))) % 26) ∧ z.length ≠ L) (e' : 26 ≤ us.length → z.cps.toList[0]? = atI abc.cps.toList ((first + 7 * (0 + (us.length : Int))) % 26) ∧ z.length = L) : Lett pos first L (us ++ [z]) := fun j y hy => by
 by_cases hj : j < us.length
 ·rw [List.getElem?_append_left hj] at hy; exact h j y hy
 ·have hj2 : j = us.length := by
   have := (List.getElem?_eq_some_iff.mp hy).1
   rw [List.length_append,List.length_singleton] at this
   omega
  subst hj2
  rw [List.getElem?_append_right (Nat.le_refl _),Nat.sub_self] at hy
  cases hy
  exact ⟨e,e'⟩
theorem Lett.nodup {pos L : Nat} {first : Int} {us : List Str} (h : Lett pos first L us) (hl : us.length ≤ 34) : us.Nodup := by
 rw [List.Nodup,List.pairwise_iff_getElem]
 intro i j hi hj hij e
 have a := h i us[i] (List.getElem?_eq_getElem hi)
 have b := h j us[j] (List.getElem?_eq_getElem hj)
 rw [e] at a
 by_cases h1 : i < 26
 ·by_cases h2 : j < 26
  ·have a := (a.1 h1).1
   rw [(b.1 h2).1] at a
   have := abc_inj (Int.emod_nonneg _ (by decide)) (Int.emod_lt_of_pos _ (by decide)) (Int.emod_nonneg _ (by decide)) (Int.emod_lt_of_pos _ (by decide)) a
   omega
  ·exact (a.1 h1).2 (b.2 (by omega)).2
 ·have a := (a.2 (by omega)).1
  rw [(b.2 (by omega)).1] at a
  have := abc_inj (Int.emod_nonneg _ (by decide)) (Int.emod_lt_of_pos _ (by decide)) (Int.emod_nonneg _ (by decide)) (Int.emod_lt_of_pos _ (by decide)) a
  omega
theorem qz3 : repZ 3 (Str.ofString "qz") = ⟨([113,122,113,122,113,122] : List Nat).toArray⟩ := by decide +kernel
theorem x1 : repZ 1 (Str.ofString "x") = ⟨([120] : List Nat).toArray⟩ := by decide +kernel
theorem x0 : repZ 0 (Str.ofString "x") = ⟨([] : List Nat).toArray⟩ := by decide +kernel
theorem late {c : Nat} (low : Dj c = true) (k : Nat) (hk : k = 0 ∨ k = 1) : A6 (⟨#[c]⟩ ++ repZ 3 (Str.ofString "qz") ++ repZ k (Str.ofString "x") : Str) = true ∧ (⟨#[c]⟩ ++ repZ 3 (Str.ofString "qz") ++ repZ k (Str.ofString "x") : Str).length = 7 + k ∧ (⟨#[c]⟩ ++ repZ 3 (Str.ofString "qz") ++ repZ k (Str.ofString "x") : Str).cps.toList[0]? = some c := by
 rcases hk with rfl | rfl
 ·rw [qz3,x0,show (⟨#[c]⟩ : Str) = ⟨([c] : List Nat).toArray⟩ from rfl,app_l,app_l]
  refine ⟨word_l (by simp) (by simp) (by simp [low]; decide),by rfl,by simp⟩
 ·rw [qz3,x1,show (⟨#[c]⟩ : Str) = ⟨([c] : List Nat).toArray⟩ from rfl,app_l,app_l]
  refine ⟨word_l (by simp) (by simp) (by simp [low]; decide),by rfl,by simp⟩
theorem abc_len : abc.length ≤ sizeLine := by
 rw [show abc.length = 26 from by decide +kernel,sizeLine_eq]
 decide
theorem all_take {L : List Nat} {n : Nat} (h : L.all Dj = true) : (L.take n).all Dj = true := List.all_eq_true.mpr fun x hx => List.all_eq_true.mp h x (List.mem_of_mem_take hx)
theorem all_drop {L : List Nat} {n : Nat} (h : L.all Dj = true) : (L.drop n).all Dj = true := List.all_eq_true.mpr fun x hx => List.all_eq_true.mp h x (List.mem_of_mem_drop hx)
def spWords : Sp := fun vs H Q _ => ∃ (c : Int) (m : Nat),m ≤ 34 ∧ vs = [.int c,.int m] ∧ ∀ (l : Addr) (zs : List Str) (H' : Hp),Same H H' → H' l = some (.lst (zs.map V.str)) → zs.length = m → (∀ z ∈ zs,A6 z = true) → zs.Nodup → H l = none → Q (.ref l) H'
section
variable {P : Program} {w : World} {K : PySem.W.Frag} {mg : Str → Option Value} {base : Heap}
abbrev Dg : Stmt := top 48
abbrev nWords : List Str := ["_law_cell_here","_law_many","_law_letters","_law_box_here","_law_size","_law_at","_law_way","_law_base","_law_first","_law_found","_law_k","_law_letter"]
theorem Bh : Ar nWords ["_law_cell_here","_law_many"] (Af Dg) := by trivial
theorem ok_words (T : Txt mg) (F__law_box : FnAt P w K mg base "_law_box" 1 ["_law_cell_here"] spBox) (F__law_take : FnAt P w K mg base "_law_take" 2 ["_law_box_here","_law_many"] spTake) (F : Aq K mg "_law_words" Dg ["_law_cell_here","_law_many"]) : FnAt P w K mg base "_law_words" 3 ["_law_cell_here","_law_many"] spWords := by
 refine F.at Bh (fun vs H Q E h => ?_) (fun f cdv A outer s H vs Q E hr h => ?_)
 ·obtain ⟨c,m,_,rfl,_⟩ := h
  rfl
 ·obtain ⟨c,m,hm,rfl,q⟩ := h
  refine ⟨_,(Ad (A3 (i := 2) Bh.nd rfl (by trivial) Al)
   (Ad (A3 (i := 3) Bh.nd rfl (by trivial) (Ay F__law_box hr (by decide) rfl (Aa (pv 0) Ab)))
   (Ad (A3 (i := 4) Bh.nd rfl (by trivial) (Ay F__law_take hr (by decide) rfl (Aa (pv 3) (Aa Ag Ab))))
   (Ad (A3 (i := 5) Bh.nd rfl (by trivial) (Ay F__law_take hr (by decide) rfl (Aa (pv 3) (Aa (A7 Ds (pv 4) Ag) Ab))))
   (Ad (A3 (i := 6) Bh.nd rfl (by trivial) (Ay F__law_take hr (by decide) rfl (Aa (pv 3) (Aa Ag Ab))))
   (Ad (A3 (i := 7) Bh.nd rfl (by trivial) (C3 PySem.F.plainAttrs_str PySem.F.slot_str_join PySem.F.type_str_join mt_join Al (Aa (Bz (sc := Af Dg) (N0 := nWords) (xs := ["_law_k"]) (ys := ["_law_letters","_law_box_here"]) (js := [2,3]) (by trivial) rfl (pi_range1 rfl T.n_range (Aa (pv 4) Ab)) (fun _ _ _ _ => (Ao (i := 0) (show (["_law_k","_law_letters","_law_box_here"] : List Str).Nodup by decide +kernel) rfl (by trivial))) (fun _ _ _ _ => B7) (fun _ _ _ _ => (Bk ix_str (pv 1) (Ay F__law_take hr (by decide) rfl (Aa (pv 2) (Aa Ag Ab))) (fun _ _ => rfl)))) Ab)))
   (Ad (A3 (i := 8) Bh.nd rfl (by trivial) (Ay F__law_take hr (by decide) rfl (Aa (pv 3) (Aa Ag Ab))))
   (Ad (A3 (i := 9) Bh.nd rfl (by trivial) (Am Ab))
   (Ad (Ck PassesOwn.never rfl (pi_range1 rfl T.n_range (Aa (pv 1) Ab)) (Ao (i := 10) Bh.nd rfl (by trivial)) (Ad (A3 (i := 11) Bh.nd rfl (by trivial) (Bk ix_str (pv 2) (A7 Cf (A7 Ds (pv 8) (A7 op_mul Ag (pv 10))) Ag) (fun _ _ => rfl)))
   (Ae (Bc (Bb op_gt (pv 10) Ag (Ba _)) (Ae (At (C3 PySem.F.plainAttrs_list PySem.F.slot_list_append PySem.F.type_list_append Az (pv 9) (Aa (A7 Cv (A7 Cv (pv 11) (A7 op_mulS Al Ag)) (A7 op_mulS Al (Bk A5 (Am (Aa Ag (Aa Ag Ab))) (Cn call_int1 rfl T.n_int boot_int (Aa (Cc Dw (pv 4) Ag (Ba _)) Ab)) (fun _ _ => rfl)))) Ab)))) (Ae (Bc (Bb Dw (pv 6) Ag (Ba _)) (Ae (At (C3 PySem.F.plainAttrs_list PySem.F.slot_list_append PySem.F.type_list_append Az (pv 9) (Aa (A7 Cv (A7 Cv (Bl sl_str (pv 7) Cb (Br (pv 5))) (pv 11)) (Bl sl_str (pv 7) (Br (pv 5)) Cb)) Ab)))) (Ae (At (C3 PySem.F.plainAttrs_list PySem.F.slot_list_append PySem.F.type_list_append Az (pv 9) (Aa (A7 Cv (pv 11) (Bl sl_str (pv 7) Cb (Br (Ay F__law_take hr (by decide) rfl (Aa (pv 3) (Aa (A7 Ds (Ah (call_min2 rfl) rfl T.n_min boot_min (Aa (pv 4) (Aa Ag Ab))) Ag) Ab)))))) Ab))))))))))
   (Ae (As (pv 9)))))))))))),?_⟩
  have hs : sizeLine = 16777216 := sizeLine_eq
  refine ⟨_,rfl,c,rfl,fun b x y z hb => ?_⟩
  have O1 : Oth b (upd H b (.lst [.int x,.int y,.int z])) (upd H b (.lst [.int x,.int y,.int z])) := Oth.refl ⟨x,y,z,Ac⟩
  have S0 : ∀ {H' : Hp},Oth b (upd H b (.lst [.int x,.int y,.int z])) H' → Same H H' := fun {H'} o d u e => o.oth d u (by rw [Ak (Aj e hb)]; exact e) (Aj e hb)
  generalize upd H b (.lst [.int x,.int y,.int z]) = H1 at O1 S0 ⊢
  refine ⟨_,rfl,b,8,rfl,O1.box,(by decide),(by decide),fun size H2 s0 s1 o2 => ?_⟩
  refine ⟨_,rfl,_,rfl,_,_,rfl,rfl,b,size + 1,rfl,o2.box,(by omega),(by show size + 1 < 10000000000000000000000000000000000000000; omega),fun at_ H3 a0 a1 o3 => ?_⟩
  refine ⟨_,rfl,b,2,rfl,o3.box,(by decide),(by decide),fun way H4 w0 w1 o4 => ?_⟩
  have O4 := (o2.trans o3).trans o4
  refine ⟨rfl,_,rfl,size,rfl,(by omega),(by omega),comp_range (n := size.toNat) (fun i ys H' => (∃ zs : List Nat,ys = zs.map (fun c => V.str ⟨#[c]⟩) ∧ zs.length = i ∧ zs.all Dj = true) ∧ Oth b H1 H') ⟨⟨[],rfl,rfl,rfl⟩,O4⟩ (by omega) ?_ ?_ ?_⟩
  ·rintro i ys H' ⟨⟨zs,rfl,e,_⟩,_⟩
   rw [List.length_map,e]; exact Nat.le_refl _
  ·rintro i ys H5 hi ⟨⟨zs,rfl,e,h1⟩,o5⟩
   refine ⟨_,rfl,_,rfl,b,26,rfl,o5.box,(by decide),(by decide),fun r1 H6 r0 r2 o6 => ?_⟩
   obtain ⟨c1,e1,low⟩ := abc_at r0 r2
   refine ⟨_,_,c1,rfl,rfl,abc_len,e1,?_⟩
   exact ⟨⟨zs ++ [c1],by simp,by simp [e],by rw [List.all_append,h1]; simp [low]⟩,o5.trans o6⟩
  ·rintro ys H5 ⟨⟨zs,rfl,e,hlow⟩,o5⟩ p hp
   have O6 : Oth b H1 (upd H5 p (.lst (zs.map fun c => V.str ⟨#[c]⟩))) := o5.new hp
   have em : (zs.map fun c => V.str ⟨#[c]⟩) = (zs.map fun c => (⟨#[c]⟩ : Str)).map V.str := by rw [List.map_map]; rfl
   have hsum : ((zs.map fun c => (⟨#[c]⟩ : Str)).map (·.length)).sum = zs.length := by
    clear e O6 em hlow hp
    induction zs with
    | nil => rfl
    | cons c r ih => rw [List.map_cons,List.map_cons,List.sum_cons,ih]; show 1 + r.length = r.length + 1; omega
   refine ⟨_,p,zs.map fun c => ⟨#[c]⟩,rfl,rfl,SqL.of (by rw [← em]; exact Ac),(by rw [hsum,List.length_map,e]; show _ + _ * 0 ≤ _; omega),?_⟩
   rw [join_signs zs (Str.ofString "") (by decide +kernel)]
   have zl : zs.length = size.toNat := e
   have zlen : (⟨zs.toArray⟩ : Str).cps.toList = zs := by simp
   have zlen2 : (⟨zs.toArray⟩ : Str).length = zs.length := by show zs.toArray.size = _; rw [List.size_toArray]
   generalize upd H5 p (.lst (zs.map fun c => V.str ⟨#[c]⟩)) = H6 at O6 ⊢
   refine ⟨_,rfl,b,26,rfl,O6.box,(by decide),(by decide),fun first H7 f0 f1 o7 => ?_⟩
   have O7 := O6.trans o7
   refine ⟨(by exact Z0),fun l hl => ?_⟩
   have O8 := O7.new (o := .lst []) hl
   have e8 : upd H7 l (.lst []) l = some (.lst []) := Ac
   have nl : l ≠ b := Box.ne O7.box hl
   have hl0 : H l = none := (S0 O7).free hl
   generalize upd H7 l (.lst []) = H8 at O8 e8 ⊢
   refine ⟨_,rfl,m,rfl,(by omega),(by omega),for_range (n := m) (fun i σ H' => ∃ (us : List Str) (v10 v11 : Option V),σ = [some (.int c),some (.int m),some (.str abc),some (.ref b),some (.int size),some (.int at_),some (.int way),some (.str ⟨zs.toArray⟩),some (.int first),some (.ref l),v10,v11] ∧ us.length = i ∧ (∀ z ∈ us,A6 z = true) ∧ H' l = some (.lst (us.map V.str)) ∧ Box H' b ∧ Same H H' ∧ Lett (if way = 0 then at_.toNat else 0) first (if size = 7 then 7 else 8) us)
    ⟨[],_,_,rfl,rfl,by simp,e8,O8.box,S0 O8,fun j z h => by simp at h⟩ ?_ ?_⟩
   ·rintro i σ H9 hi ⟨us,v10,v11,rfl,hlen,hall,el,hbox,ss,lett⟩
    have m0 : 0 ≤ (first + 7 * (0 + (i : Int))) % 26 := Int.emod_nonneg _ (by decide)
    have m1 : (first + 7 * (0 + (i : Int))) % 26 < 26 := Int.emod_lt_of_pos _ (by decide)
    obtain ⟨c1,e1,low⟩ := abc_at m0 m1
    refine ⟨_,rfl,_,rfl,_,rfl,_,_,rfl,rfl,.inl ⟨by decide,by decide⟩,_,_,rfl,rfl,_,_,rfl,rfl,(by show (0 : Int) < 26; decide),_,_,c1,rfl,rfl,abc_len,e1,?_⟩
    have same2 : ∀ (HA : Hp) (xs : List V),Same H HA → Same H (upd HA l (.lst xs)) := fun HA xs sA d u e => by rw [Ak (Aj e hl0)]; exact sA d u e
    refine ⟨_,rfl,_,_,rfl,rfl,_,rfl,ite2 (fun hg => ?_) (fun hg => ?_)⟩
    ·have hg : (25 : Int) < 0 + (i : Int) := of_decide_eq_true hg
     have ql : (repZ (3 : Int).toNat (Str.ofString "qz")).length = 6 := by show (repZ 3 (Str.ofString "qz")).length = 6; rw [qz3]; rfl
     have c1l : (⟨#[c1]⟩ : Str).length = 1 := rfl
     have aw : ∀ a b : Str,(a ++ b).length = a.length + b.length := len_app
     have fin : ∀ (k : Nat) (H' : Hp),(k = 0 ∨ k = 1) → 7 + k = (if size = 7 then 7 else 8) → Oth b H9 H' → H' l = some (.lst (us.map V.str)) → ∃ (us' : List Str) (v10 v11 : Option V),[some (V.int c),some (V.int m),some (V.str abc),some (V.ref b),some (V.int size),some (V.int at_),some (V.int way),some (V.str ⟨zs.toArray⟩),some (V.int first),some (V.ref l),some (V.int (0 + (i : Int))),some (V.str ⟨#[c1]⟩)] = [some (.int c),some (.int m),some (.str abc),some (.ref b),some (.int size),some (.int at_),some (.int way),some (.str ⟨zs.toArray⟩),some (.int first),some (.ref l),v10,v11] ∧ us'.length = i + 1 ∧ (∀ z ∈ us',A6 z = true) ∧ (upd H' l (.lst (us.map V.str ++ [.str (⟨#[c1]⟩ ++ repZ 3 (Str.ofString "qz") ++ repZ k (Str.ofString "x"))]))) l = some (.lst (us'.map V.str)) ∧ Box (upd H' l (.lst (us.map V.str ++ [.str (⟨#[c1]⟩ ++ repZ 3 (Str.ofString "qz") ++ repZ k (Str.ofString "x"))]))) b ∧ Same H (upd H' l (.lst (us.map V.str ++ [.str (⟨#[c1]⟩ ++ repZ 3 (Str.ofString "qz") ++ repZ k (Str.ofString "x"))]))) ∧ Lett (if way = 0 then at_.toNat else 0) first (if size = 7 then 7 else 8) us' := fun k H' hk hL oA elA => by
          obtain ⟨w1,w2,w3⟩ := late low k hk
          refine ⟨us ++ [⟨#[c1]⟩ ++ repZ 3 (Str.ofString "qz") ++ repZ k (Str.ofString "x")],_,_,rfl,by rw [List.length_append,hlen]; rfl,fun z hz => ?_,?_,?_,same2 _ _ (fun d u e => ?_),?_⟩
          ·rcases List.mem_append.mp hz with hz | hz
           ·exact hall z hz
           ·rw [List.mem_singleton] at hz; rw [hz]; exact w1
          ·rw [Ac,List.map_append]; rfl
          ·obtain ⟨x1,y1,z1,hbx⟩ := oA.box
           exact ⟨x1,y1,z1,by rw [Ak (Ne.symm nl)]; exact hbx⟩
          ·exact oA.oth d u (ss d u e) (Aj e hb)
          ·refine lett.snoc (fun h => by omega) (fun _ => ⟨?_,by rw [w2,hL]⟩)
           rw [hlen,e1,w3]
     refine ⟨_,rfl,.inl ⟨rfl,_,SqL.of el⟩,_,rfl,_,_,rfl,rfl,(by decide),(by decide),(by decide +kernel),_,_,rfl,rfl,(by show 1 + (repZ (3 : Int).toNat (Str.ofString "qz")).length ≤ sizeLine; omega),(by exact Z2),fun lx hlx => ?_⟩
     have oX : Oth b H9 (upd H9 lx (.lst [.int 1,.int 0])) := (Oth.refl hbox).new hlx
     have elX : upd H9 lx (.lst [.int 1,.int 0]) l = some (.lst (us.map V.str)) := by rw [Ak (Aj el hlx)]; exact el
     have exX : upd H9 lx (.lst [.int 1,.int 0]) lx = some (.lst [.int 1,.int 0]) := Ac
     generalize upd H9 lx (.lst [.int 1,.int 0]) = HX at oX elX exX ⊢
     by_cases h7 : size = 7
     ·have d7 : decide (V.int size = V.int 7) = true := decide_eq_true (by rw [h7])
      refine ⟨_,rfl,rfl,.inr ⟨_,rfl,?_⟩⟩
      rw [d7]
      refine ⟨lx,_,_,V.int 0,rfl,rfl,SqL.of exX,rfl,_,_,rfl,rfl,(by decide),(by decide),(by decide +kernel),_,_,rfl,rfl,?_,l,_,_,rfl,rfl,elX,(by rw [List.length_map]; omega),?_⟩
      ·rw [aw,ql,c1l]
       have : (repZ (0 : Int).toNat (Str.ofString "x")).length = 0 := by show (repZ 0 (Str.ofString "x")).length = 0; rw [x0]; rfl
       omega
      ·exact fin 0 HX (.inl rfl) (by rw [if_pos h7]) oX elX
     ·have d7 : decide (V.int size = V.int 7) = false := decide_eq_false (fun z => h7 (V.int.inj z))
      refine ⟨_,rfl,rfl,.inr ⟨_,rfl,?_⟩⟩
      rw [d7]
      refine ⟨lx,_,_,V.int 1,rfl,rfl,SqL.of exX,rfl,_,_,rfl,rfl,(by decide),(by decide),(by decide +kernel),_,_,rfl,rfl,?_,l,_,_,rfl,rfl,elX,(by rw [List.length_map]; omega),?_⟩
      ·rw [aw,ql,c1l]
       have : (repZ (1 : Int).toNat (Str.ofString "x")).length = 1 := by show (repZ 1 (Str.ofString "x")).length = 1; rw [x1]; rfl
       omega
      ·exact fin 1 HX (.inr rfl) (by rw [if_neg h7]) oX elX
    have hng : ¬ ((25 : Int) < 0 + (i : Int)) := fun z => hg (decide_eq_true z)
    have hi26 : i < 26 := by omega
    refine ⟨_,rfl,rfl,_,rfl,ite2 (fun hw => ?_) (fun hw => ?_)⟩
    ·have hw' : way = 0 := V.int.inj (of_decide_eq_true hw)
     obtain ⟨a,rfl⟩ : ∃ a : Nat,at_ = (a : Int) := ⟨at_.toNat,by omega⟩
     have ha : a ≤ (⟨zs.toArray⟩ : Str).cps.toList.length := by rw [zlen]; omega
     have t1 := slice_to ha
     have t2 := slice_from ha
     rw [zlen] at t1 t2
     have wd : (⟨(zs.take a).toArray⟩ : Str) ++ ⟨#[c1]⟩ ++ ⟨(zs.drop a).toArray⟩ = ⟨(zs.take a ++ [c1] ++ zs.drop a).toArray⟩ := by
          rw [show (⟨#[c1]⟩ : Str) = ⟨([c1] : List Nat).toArray⟩ from rfl,app_l,app_l]
     have ln : (zs.take a ++ [c1] ++ zs.drop a).length = zs.length + 1 := by
          rw [List.length_append,List.length_append,List.length_take,List.length_drop,List.length_singleton]
          rw [zlen] at ha
          omega
     have isw : A6 (⟨(zs.take a).toArray⟩ ++ ⟨#[c1]⟩ ++ ⟨(zs.drop a).toArray⟩ : Str) = true := by
          rw [wd]
          refine word_l (by omega) (by omega) ?_
          rw [List.all_append,List.all_append,all_take hlow,all_drop hlow]
          simp [low]
     have len1 : (⟨(zs.take a).toArray⟩ : Str).length ≤ 7 := by show (zs.take a).toArray.size ≤ 7; rw [List.size_toArray,List.length_take]; omega
     have len2 : (⟨(zs.drop a).toArray⟩ : Str).length ≤ 7 := by show (zs.drop a).toArray.size ≤ 7; rw [List.size_toArray,List.length_drop]; omega
     refine ⟨_,rfl,.inl ⟨rfl,_,SqL.of el⟩,_,rfl,_,rfl,_,rfl,⟨zs.toArray⟩,rfl,(by omega),?_⟩
     rw [t1]
     refine ⟨_,rfl,_,_,rfl,rfl,(by show _ + 1 ≤ sizeLine; omega),_,rfl,_,rfl,_,rfl,⟨zs.toArray⟩,rfl,(by omega),?_⟩
     rw [t2]
     refine ⟨_,_,rfl,rfl,?_,l,_,_,rfl,rfl,el,(by rw [List.length_map]; omega),?_⟩
     ·have : ((⟨(zs.take a).toArray⟩ : Str) ++ (⟨#[c1]⟩ : Str)).length = (⟨(zs.take a).toArray⟩ : Str).length + 1 := by
       show ((zs.take a).toArray ++ #[c1]).size = _
       rw [Array.size_append]
       rfl
      omega
     ·refine ⟨us ++ [⟨(zs.take a).toArray⟩ ++ ⟨#[c1]⟩ ++ ⟨(zs.drop a).toArray⟩],_,_,rfl,by rw [List.length_append,hlen]; rfl,fun z hz => ?_,?_,?_,same2 _ _ ss,?_⟩
      ·rcases List.mem_append.mp hz with hz | hz
       ·exact hall z hz
       ·rw [List.mem_singleton] at hz; rw [hz]; exact isw
      ·rw [Ac,List.map_append]; rfl
      ·obtain ⟨x1,y1,z1,hbx⟩ := hbox
       exact ⟨x1,y1,z1,by rw [Ak (Ne.symm nl)]; exact hbx⟩
      ·refine lett.snoc (fun _ => ⟨?_,?_⟩) (fun h => by omega)
       rotate_left
       ·rw [wd]
        show (zs.take a ++ [c1] ++ zs.drop a).toArray.size ≠ _
        rw [List.size_toArray,ln]
        split <;> omega
       rw [hlen,e1,if_pos hw',wd,Int.toNat_natCast]
       rw [zlen] at ha
       show ((zs.take a ++ [c1] ++ zs.drop a).toArray.toList)[a]? = some c1
       have hta : (zs.take a).length = a := by rw [List.length_take]; omega
       rw [List.toList_toArray,List.append_assoc,List.getElem?_append_right (by omega),hta,Nat.sub_self]
       rfl
    ·have hw' : ¬ way = 0 := fun z => hw (by rw [z]; exact decide_eq_true rfl)
     refine ⟨_,rfl,.inl ⟨rfl,_,SqL.of el⟩,_,rfl,_,rfl,_,rfl,_,rfl,_,_,rfl,_,_,rfl,rfl,b,(if (5 : Int) < size then 5 else size) + 1,rfl,hbox,(by split <;> omega),(by show (if (5 : Int) < size then (5 : Int) else size) + 1 < 10000000000000000000000000000000000000000; split <;> omega),fun n HA n0 n1 oA => ?_⟩
     have elA : HA l = some (.lst (us.map V.str)) := oA.oth _ _ el nl
     obtain ⟨k,rfl⟩ : ∃ k : Nat,n = (k : Int) := ⟨n.toNat,by omega⟩
     have hk5 : k ≤ zs.length := by split at n1 <;> omega
     have ha : k ≤ (⟨zs.toArray⟩ : Str).cps.toList.length := by rw [zlen]; exact hk5
     have t1 := slice_to ha
     rw [zlen] at t1
     have wd : (⟨#[c1]⟩ : Str) ++ ⟨(zs.take k).toArray⟩ = ⟨([c1] ++ zs.take k).toArray⟩ := by
          rw [show (⟨#[c1]⟩ : Str) = ⟨([c1] : List Nat).toArray⟩ from rfl,app_l]
     have ln : ([c1] ++ zs.take k).length ≤ 8 ∧ 1 ≤ ([c1] ++ zs.take k).length := by
          rw [List.length_append,List.length_take,List.length_singleton]
          omega
     have isw : A6 (⟨#[c1]⟩ ++ ⟨(zs.take k).toArray⟩ : Str) = true := by
          rw [wd]
          refine word_l ln.2 ln.1 ?_
          rw [List.all_append,all_take hlow]
          simp [low]
     have len1 : (⟨(zs.take k).toArray⟩ : Str).length ≤ 7 := by show (zs.take k).toArray.size ≤ 7; rw [List.size_toArray,List.length_take]; omega
     refine ⟨_,rfl,⟨zs.toArray⟩,rfl,(by omega),?_⟩
     rw [t1]
     refine ⟨_,_,rfl,rfl,(by show 1 + _ ≤ sizeLine; omega),l,_,_,rfl,rfl,elA,(by rw [List.length_map]; omega),?_⟩
     refine ⟨us ++ [⟨#[c1]⟩ ++ ⟨(zs.take k).toArray⟩],_,_,rfl,by rw [List.length_append,hlen]; rfl,fun z hz => ?_,?_,?_,same2 _ _ (fun d u e => ?_),?_⟩
     ·rcases List.mem_append.mp hz with hz | hz
      ·exact hall z hz
      ·rw [List.mem_singleton] at hz; rw [hz]; exact isw
     ·rw [Ac,List.map_append]; rfl
     ·obtain ⟨x1,y1,z1,hbx⟩ := oA.box
      exact ⟨x1,y1,z1,by rw [Ak (Ne.symm nl)]; exact hbx⟩
     ·exact oA.oth d u (ss d u e) (Aj e hb)
     ·refine lett.snoc (fun _ => ⟨?_,?_⟩) (fun h => by omega)
      ·rw [hlen,e1,if_neg hw',wd]
       rfl
      ·rw [wd]
       show ([c1] ++ zs.take k).toArray.size ≠ _
       rw [List.size_toArray,List.length_append,List.length_take,List.length_singleton]
       split at n1 <;> split <;> omega
   ·rintro σ H9 ⟨us,v10,v11,rfl,hlen,hall,el,hbox,ss,lett⟩
    exact ⟨_,rfl,q l us H9 ss el hlen hall (lett.nodup (by omega)) hl0⟩
end
end K32
namespace L2
open PySem PySem.Spec PyProof.Rows
def XatF (C : Addr) (f : Str) (v : V) (H : Hp) (E : XK) : Prop := ∀ (a dx : Addr) (H' : Hp),Same H H' → H' a = some (excR a C (some dx)) → H' dx = some (.xd [(f,v)]) → E (.ref a) none H'
theorem XatF.go {C a dx : Addr} {f : Str} {v : V} {H H1 : Hp} {E : XK} (x : XatF C f v H E) (s : Same H H1) (h1 : H1 a = none) (h2 : H1 dx = none) (h3 : dx ≠ a) :
 E (.ref a) none (upd (upd (upd H1 a (excO a C (some dx))) dx (.xd [(f,v)])) a (excR a C (some dx))) := by
 refine x a dx _ (fun b o e => ?_) Ac (by rw [Ak h3]; exact Ac)
 have e1 := s b o e
 rw [Ak (Aj e1 h1),Ak (Aj e1 h2),Ak (Aj e1 h1)]
 exact e1
theorem XatF.same {C : Addr} {f : Str} {v : V} {H H1 : Hp} {E : XK} (x : XatF C f v H E) (s : Same H H1) : XatF C f v H1 E := fun a dx H' s' h1 h2 => x a dx H' (s.trans s') h1 h2
end L2
namespace K32
open PySem L2 PyProof.Rows PySem.SeqAt
theorem hu0 {A : Around} {k : Nat} (hr : Room k A) : A.units < cLine := by have := hr.units; omega
structure Cs where
 w : Addr
 j : Addr
 o : Addr
 b : Addr
 d : Addr
 m : Addr
 e : Addr
 g : Addr
inductive Due
 | wd (v : V)
 | jn (v : V)
 | of (v : V)
 | bn (v : V)
 | db (v : V)
 | mn (n : Nat)
 | dp (n : Nat)
def Due.cls (c : Cs) : Due → Addr
 | .wd _ => c.w
 | .jn _ => c.j
 | .of _ => c.o
 | .bn _ => c.b
 | .db _ => c.d
 | .mn _ => c.m
 | .dp _ => c.e
def Due.fld : Due → Str
 | .db _ => "name"
 | .mn _ => "many"
 | .dp _ => "many"
 | _ => "found"
def Due.val : Due → V
 | .wd v => v
 | .jn v => v
 | .of v => v
 | .bn v => v
 | .db v => v
 | .mn n => .int (n : Nat)
 | .dp n => .int (n : Nat)
def Due.nm : Due → Str
 | .wd _ => "word"
 | .jn _ => "join"
 | .of _ => "offers"
 | .bn _ => "beneath"
 | .db _ => "doubled"
 | .mn _ => "many"
 | .dp _ => "deep"
abbrev XD (c : Cs) (H : Hp) (E : XK) (u : Due) : Prop := XatF (u.cls c) u.fld u.val H E
section
variable {P : Program} {w : World} {K : PySem.W.Frag} {mg : Str → Option Value} {base : Heap} {C cx G : Addr} {J : Js}
abbrev sNoWord : Stmt := Cw (top 3) 0
theorem scNoWord : Ar ["self","found"] ["self","found"] (Af sNoWord) := by trivial
theorem ok_NoWord (B : GBase K mg "GrantError" G) (D : XTop K mg "NoWord" "found" sNoWord cx G) : XAt P w K mg base "NoWord" 1 "found" cx := by
 obtain ⟨df,_,f,fd,hi,hfn,F,hb⟩ := D
 refine ⟨df,f,fd,hi,hfn,F.ok scNoWord (fun vs H Q E h => ?_) (fun cdv A outer s H vs Q E hr h => ?_),hb⟩
 ·obtain ⟨e,v,rfl,_⟩ := h
  rfl
 ·obtain ⟨e,v,rfl,he,q⟩ := h
  refine ⟨_,(Ad (At (pe_binit B rfl (Aa (pv 0) (Aa Al Ab)))) (Ae (ps_xfld (pv 0) (pv 1)))),?_⟩
  refine ⟨_,rfl,e,cx,none,_,rfl,he,df.ok.mkk,?_⟩
  exact ⟨_,rfl,_,rfl,e,cx,rfl,he,df.ok,fun dx n1 n2 => q dx n1 n2⟩
abbrev sNoJoin : Stmt := Cw (top 4) 0
theorem scNoJoin : Ar ["self","found"] ["self","found"] (Af sNoJoin) := by trivial
theorem ok_NoJoin (B : GBase K mg "GrantError" G) (D : XTop K mg "NoJoin" "found" sNoJoin cx G) : XAt P w K mg base "NoJoin" 1 "found" cx := by
 obtain ⟨df,_,f,fd,hi,hfn,F,hb⟩ := D
 refine ⟨df,f,fd,hi,hfn,F.ok scNoJoin (fun vs H Q E h => ?_) (fun cdv A outer s H vs Q E hr h => ?_),hb⟩
 ·obtain ⟨e,v,rfl,_⟩ := h
  rfl
 ·obtain ⟨e,v,rfl,he,q⟩ := h
  refine ⟨_,(Ad (At (pe_binit B rfl (Aa (pv 0) (Aa Al Ab)))) (Ae (ps_xfld (pv 0) (pv 1)))),?_⟩
  refine ⟨_,rfl,e,cx,none,_,rfl,he,df.ok.mkk,?_⟩
  exact ⟨_,rfl,_,rfl,e,cx,rfl,he,df.ok,fun dx n1 n2 => q dx n1 n2⟩
abbrev sBadOffers : Stmt := Cw (top 6) 0
theorem scBadOffers : Ar ["self","found"] ["self","found"] (Af sBadOffers) := by trivial
theorem ok_BadOffers (B : GBase K mg "GrantError" G) (D : XTop K mg "BadOffers" "found" sBadOffers cx G) : XAt P w K mg base "BadOffers" 1 "found" cx := by
 obtain ⟨df,_,f,fd,hi,hfn,F,hb⟩ := D
 refine ⟨df,f,fd,hi,hfn,F.ok scBadOffers (fun vs H Q E h => ?_) (fun cdv A outer s H vs Q E hr h => ?_),hb⟩
 ·obtain ⟨e,v,rfl,_⟩ := h
  rfl
 ·obtain ⟨e,v,rfl,he,q⟩ := h
  refine ⟨_,(Ad (At (pe_binit B rfl (Aa (pv 0) (Aa Al Ab)))) (Ae (ps_xfld (pv 0) (pv 1)))),?_⟩
  refine ⟨_,rfl,e,cx,none,_,rfl,he,df.ok.mkk,?_⟩
  exact ⟨_,rfl,_,rfl,e,cx,rfl,he,df.ok,fun dx n1 n2 => q dx n1 n2⟩
abbrev sBadBeneath : Stmt := Cw (top 7) 0
theorem scBadBeneath : Ar ["self","found"] ["self","found"] (Af sBadBeneath) := by trivial
theorem ok_BadBeneath (B : GBase K mg "GrantError" G) (D : XTop K mg "BadBeneath" "found" sBadBeneath cx G) : XAt P w K mg base "BadBeneath" 1 "found" cx := by
 obtain ⟨df,_,f,fd,hi,hfn,F,hb⟩ := D
 refine ⟨df,f,fd,hi,hfn,F.ok scBadBeneath (fun vs H Q E h => ?_) (fun cdv A outer s H vs Q E hr h => ?_),hb⟩
 ·obtain ⟨e,v,rfl,_⟩ := h
  rfl
 ·obtain ⟨e,v,rfl,he,q⟩ := h
  refine ⟨_,(Ad (At (pe_binit B rfl (Aa (pv 0) (Aa Al Ab)))) (Ae (ps_xfld (pv 0) (pv 1)))),?_⟩
  refine ⟨_,rfl,e,cx,none,_,rfl,he,df.ok.mkk,?_⟩
  exact ⟨_,rfl,_,rfl,e,cx,rfl,he,df.ok,fun dx n1 n2 => q dx n1 n2⟩
abbrev sDoubled : Stmt := Cw (top 8) 0
theorem scDoubled : Ar ["self","name"] ["self","name"] (Af sDoubled) := by trivial
theorem ok_Doubled (B : GBase K mg "GrantError" G) (D : XTop K mg "Doubled" "name" sDoubled cx G) : XAt P w K mg base "Doubled" 1 "name" cx := by
 obtain ⟨df,_,f,fd,hi,hfn,F,hb⟩ := D
 refine ⟨df,f,fd,hi,hfn,F.ok scDoubled (fun vs H Q E h => ?_) (fun cdv A outer s H vs Q E hr h => ?_),hb⟩
 ·obtain ⟨e,v,rfl,_⟩ := h
  rfl
 ·obtain ⟨e,v,rfl,he,q⟩ := h
  refine ⟨_,(Ad (At (pe_binit B rfl (Aa (pv 0) (Aa Al Ab)))) (Ae (ps_xfld (pv 0) (pv 1)))),?_⟩
  refine ⟨_,rfl,e,cx,none,_,rfl,he,df.ok.mkk,?_⟩
  exact ⟨_,rfl,_,rfl,e,cx,rfl,he,df.ok,fun dx n1 n2 => q dx n1 n2⟩
abbrev sTooMany : Stmt := Cw (top 9) 0
theorem scTooMany : Ar ["self","many"] ["self","many"] (Af sTooMany) := by trivial
theorem ok_TooMany (B : GBase K mg "GrantError" G) (D : XTop K mg "TooMany" "many" sTooMany cx G) : XAt P w K mg base "TooMany" 1 "many" cx := by
 obtain ⟨df,_,f,fd,hi,hfn,F,hb⟩ := D
 refine ⟨df,f,fd,hi,hfn,F.ok scTooMany (fun vs H Q E h => ?_) (fun cdv A outer s H vs Q E hr h => ?_),hb⟩
 ·obtain ⟨e,v,rfl,_⟩ := h
  rfl
 ·obtain ⟨e,v,rfl,he,q⟩ := h
  refine ⟨_,(Ad (At (pe_binit B rfl (Aa (pv 0) (Aa Al Ab)))) (Ae (ps_xfld (pv 0) (pv 1)))),?_⟩
  refine ⟨_,rfl,e,cx,none,_,rfl,he,df.ok.mkk,?_⟩
  exact ⟨_,rfl,_,rfl,e,cx,rfl,he,df.ok,fun dx n1 n2 => q dx n1 n2⟩
abbrev sTooDeep : Stmt := Cw (top 10) 0
theorem scTooDeep : Ar ["self","many"] ["self","many"] (Af sTooDeep) := by trivial
theorem ok_TooDeep (B : GBase K mg "GrantError" G) (D : XTop K mg "TooDeep" "many" sTooDeep cx G) : XAt P w K mg base "TooDeep" 1 "many" cx := by
 obtain ⟨df,_,f,fd,hi,hfn,F,hb⟩ := D
 refine ⟨df,f,fd,hi,hfn,F.ok scTooDeep (fun vs H Q E h => ?_) (fun cdv A outer s H vs Q E hr h => ?_),hb⟩
 ·obtain ⟨e,v,rfl,_⟩ := h
  rfl
 ·obtain ⟨e,v,rfl,he,q⟩ := h
  refine ⟨_,(Ad (At (pe_binit B rfl (Aa (pv 0) (Aa Al Ab)))) (Ae (ps_xfld (pv 0) (pv 1)))),?_⟩
  refine ⟨_,rfl,e,cx,none,_,rfl,he,df.ok.mkk,?_⟩
  exact ⟨_,rfl,_,rfl,e,cx,rfl,he,df.ok,fun dx n1 n2 => q dx n1 n2⟩
structure Has (P : Program) (w : World) (K : PySem.W.Frag) (mg : Str → Option Value) (base : Heap) (c : Cs) : Prop where
 xw : XAt P w K mg base "NoWord" 1 "found" c.w
 mw : MroX K c.w c.g
 xj : XAt P w K mg base "NoJoin" 1 "found" c.j
 mj : MroX K c.j c.g
 xo : XAt P w K mg base "BadOffers" 1 "found" c.o
 mo : MroX K c.o c.g
 xb : XAt P w K mg base "BadBeneath" 1 "found" c.b
 mb : MroX K c.b c.g
 xd : XAt P w K mg base "Doubled" 1 "name" c.d
 md : MroX K c.d c.g
 xm : XAt P w K mg base "TooMany" 1 "many" c.m
 mm : MroX K c.m c.g
 xe : XAt P w K mg base "TooDeep" 1 "many" c.e
 me : MroX K c.e c.g
 gm : mg "GrantError" = some (.ref c.g)
 gc : (PySem.W.clsIn K c.g).isSome = true
 gt : PySem.W.typeIn K (.ref c.g) = some (.type "type")
 gb : PySem.W.mroIn K c.g (.type "BaseException") = some true
 ng : c.w ≠ c.g ∧ c.j ≠ c.g ∧ c.o ≠ c.g ∧ c.b ≠ c.g ∧ c.d ≠ c.g ∧ c.m ≠ c.g ∧ c.e ≠ c.g
 nd : ([c.w,c.j,c.o,c.b,c.d,c.m,c.e] : List Addr).Nodup
variable {c : Cs}
def spMnX (m : Nat) (c : Cs) : Sp := fun vs H _ E => ∃ n : Nat,vs = [.int (n : Nat)] ∧ m < n ∧ XD c H E (.mn n)
def spDpX (c : Cs) : Sp := fun vs H _ E => ∃ n : Nat,vs = [.int (n : Nat)] ∧ 6 < n ∧ XD c H E (.dp n)
theorem ok_need_few_beneathX (T : Txt mg) (D : Has P w K mg base c) (F : Aq K mg "need_few_beneath" Bv ["many"]) : FnAtX P w K mg base "need_few_beneath" 3 ["many"] (spMnX 6 c) := by
 refine F.atX Dl (fun vs H Q E h => ?_) (fun f cdv A outer s H vs Q E hr h => ?_)
 ·obtain ⟨n,rfl,_⟩ := h
  rfl
 ·obtain ⟨n,rfl,hn,xx⟩ := h
  refine ⟨_,(Ae (Bc (Bb op_gt (pv 0) (By rfl T.g_MOST_BENEATH) (Ba _)) (Ae (Da B8 hr.hd (pe_x D.xm hr (by decide) rfl (Aa (pv 0) Ab)))) Ap)),?_⟩
  refine ⟨_,rfl,_,_,rfl,rfl,_,rfl,ite2 (fun h => ?_) (fun h => ?_)⟩
  ·exact ⟨_,rfl,_,rfl,fun a dx' z1 z2 z3 => ⟨a,c.m,some dx',rfl,by rw [Ak (Ne.symm z3)]; exact Ac,D.xm.df.ok.mkk,XatF.go xx (Same.refl _) z1 z2 z3⟩⟩
  ·exact absurd (decide_eq_true (show ((n : Nat) : Int) > (6 : Int) by omega)) h
theorem ok_need_few_partsX (T : Txt mg) (D : Has P w K mg base c) (F : Aq K mg "need_few_parts" B5 ["many"]) : FnAtX P w K mg base "need_few_parts" 3 ["many"] (spMnX 30 c) := by
 refine F.atX scneed_few_parts (fun vs H Q E h => ?_) (fun f cdv A outer s H vs Q E hr h => ?_)
 ·obtain ⟨n,rfl,_⟩ := h
  rfl
 ·obtain ⟨n,rfl,hn,xx⟩ := h
  refine ⟨_,(Ae (Bc (Bb op_gt (pv 0) (By rfl T.g_MOST_PARTS) (Ba _)) (Ae (Da B8 hr.hd (pe_x D.xm hr (by decide) rfl (Aa (pv 0) Ab)))) Ap)),?_⟩
  refine ⟨_,rfl,_,_,rfl,rfl,_,rfl,ite2 (fun h => ?_) (fun h => ?_)⟩
  ·exact ⟨_,rfl,_,rfl,fun a dx' z1 z2 z3 => ⟨a,c.m,some dx',rfl,by rw [Ak (Ne.symm z3)]; exact Ac,D.xm.df.ok.mkk,XatF.go xx (Same.refl _) z1 z2 z3⟩⟩
  ·exact absurd (decide_eq_true (show ((n : Nat) : Int) > (30 : Int) by omega)) h
theorem ok_need_not_deepX (T : Txt mg) (D : Has P w K mg base c) (F : Aq K mg "need_not_deep" Ce ["deep"]) : FnAtX P w K mg base "need_not_deep" 3 ["deep"] (spDpX c) := by
 refine F.atX scneed_not_deep (fun vs H Q E h => ?_) (fun f cdv A outer s H vs Q E hr h => ?_)
 ·obtain ⟨n,rfl,_⟩ := h
  rfl
 ·obtain ⟨n,rfl,hn,xx⟩ := h
  refine ⟨_,(Ae (Bc (Bb op_gt (pv 0) (By rfl T.g_MOST_DEEP) (Ba _)) (Ae (Da B8 hr.hd (pe_x D.xe hr (by decide) rfl (Aa (pv 0) Ab)))) Ap)),?_⟩
  refine ⟨_,rfl,_,_,rfl,rfl,_,rfl,ite2 (fun h => ?_) (fun h => ?_)⟩
  ·exact ⟨_,rfl,_,rfl,fun a dx' z1 z2 z3 => ⟨a,c.e,some dx',rfl,by rw [Ak (Ne.symm z3)]; exact Ac,D.xe.df.ok.mkk,XatF.go xx (Same.refl _) z1 z2 z3⟩⟩
  ·exact absurd (decide_eq_true (show ((n : Nat) : Int) > (6 : Int) by omega)) h
def spJOX (K : PySem.W.Frag) (C : Addr) (c : Cs) : Sp := fun vs H _ E => ∃ x : V,vs = [x] ∧ Odd K C H x ∧ (∀ j,j < 4 → x ≠ .str (nm j)) ∧ XD c H E (.jn x)
end
end K32
namespace K32
open PySem L2 PyProof.Rows PySem.SeqAt
def KArg (K : PySem.W.Frag) (H : Hp) (x : V) : Prop := Arg K H x ∧ ∀ a ys,x = .ref a → H a = some (.tup ys) → ∀ y ∈ ys,Arg K H y ∧ Short y
def NoKeys (K : PySem.W.Frag) (H : Hp) (xs : List V) : Prop := xs.length ≤ 2 ∧ (∀ x ∈ xs,∀ H',Same H H' → KArg K H' x) ∧ ∃ (i : Nat) (x : V),xs[i]? = some x ∧ ∀ H',Same H H' → keyV H' x = false
theorem NoKeys.same {K : PySem.W.Frag} {H H' : Hp} {xs : List V} (h : NoKeys K H xs) (s : Same H H') : NoKeys K H' xs := by
 obtain ⟨h1,h2,i,x,h3,h4⟩ := h
 exact ⟨h1,fun x hx H2 s2 => h2 x hx H2 (s.trans s2),i,x,h3,fun H2 s2 => h4 H2 (s.trans s2)⟩
def Long (xs : List V) : Prop := 2 < xs.length ∧ xs.length ≤ 100
inductive OfBad (K : PySem.W.Frag) (H : Hp) : V → Prop
 | no {v : V} {k : Kd} : KdOf K H v k → k.noSeq = true → k ≠ .non → OfBad K H v
 | ll {l : Addr} {xs : List V} : H l = some (.lst xs) → Long xs → OfBad K H (.ref l)
 | lk {l : Addr} {xs : List V} : H l = some (.lst xs) → NoKeys K H xs → OfBad K H (.ref l)
 | tk {l : Addr} {xs : List V} : H l = some (.tup xs) → NoKeys K H xs → OfBad K H (.ref l)
 | l2 {l p : Addr} {k : Str × Nat} : H l = some (.lst [.ref p,.ref p]) → KeyR H p k → A6 k.1 = true → k.2 < 100 → OfBad K H (.ref l)
theorem OfBad.same {K : PySem.W.Frag} {H H' : Hp} {v : V} (h : OfBad K H v) (s : Same H H') : OfBad K H' v := by
 cases h with
 | no h1 h2 h3 => exact .no (TyOf.same' h1 s) h2 h3
 | ll h1 h2 => exact .ll (s _ _ h1) h2
 | lk h1 h2 => exact .lk (s _ _ h1) (h2.same s)
 | tk h1 h2 => exact .tk (s _ _ h1) (h2.same s)
 | l2 h1 h2 h3 h4 => exact .l2 (s _ _ h1) (s _ _ h2) h3 h4
section
variable {P : Program} {w : World} {K : PySem.W.Frag} {mg : Str → Option Value} {base : Heap} {C : Addr} {J : Js} {c : Cs}
def spAOF (K : PySem.W.Frag) : Sp := fun vs H Q _ => ∃ v : V,vs = [v] ∧ OfBad K H v ∧ ∀ H',Same H H' → Q (.bl false) H'
theorem ok_aoF (T : Txt mg) (F_is_key : FnAt P w K mg base "is_key" 2 ["thing"] (spKey K)) (F : Aq K mg "are_offers" Bn ["thing"]) : FnAt P w K mg base "are_offers" 3 ["thing"] (spAOF K) := by
 refine F.at scare_offers (fun vs H Q E h => ?_) (fun f cdv A outer s H vs Q E hr h => ?_)
 ·obtain ⟨v,rfl,_⟩ := h
  rfl
 ·obtain ⟨v,rfl,hb,q⟩ := h
  have hs : sizeLine = 16777216 := sizeLine_eq
  cases hb with
  | @no v k hk hn h0 =>
    refine ⟨_,(Ad (Bc (PW.pt (pw_or (Bg (Bj (Ah call_isNT rfl T.n_isinstance boot_isinstance (Aa (pv 0) (Aa (Ai (Aa (Au (v := .ty "list") rfl T.n_list boot_list rfl) (Aa (Au (v := .ty "tuple") rfl T.n_tuple boot_tuple rfl) Ab))) Ab))))) (Cp (Bb op_gt (Ah Av rfl T.n_len boot_len (Aa (pv 0) Ab)) (By rfl T.g_MOST_OFFERS) (Ba _))))) (Ae (As pe_bl)) Ap)
     (Ae An)),?_⟩
    refine ⟨_,rfl,(by exact Z2),fun tp htp => ?_⟩
    have s1 := Same.new (o := .tup [.ty "list",.ty "tuple"]) htp
    exact ⟨v,k,tp,rfl,TyOf.same' hk s1,hn,SqT.of Ac,_,rfl,iteT (q _ s1)⟩
  | @ll l xs hl hlong =>
    refine ⟨_,(Ad (Bc (PW.pt (pw_or (Bg (Bj (Ah Co rfl T.n_isinstance boot_isinstance (Aa (pv 0) (Aa (Ai (Aa (Au (v := .ty "list") rfl T.n_list boot_list rfl) (Aa (Au (v := .ty "tuple") rfl T.n_tuple boot_tuple rfl) Ab))) Ab))))) (Cp (Bb op_gt (Ah Av rfl T.n_len boot_len (Aa (pv 0) Ab)) (By rfl T.g_MOST_OFFERS) (Ba _))))) (Ae (As pe_bl)) Ap)
     (Ae An)),?_⟩
    refine ⟨_,rfl,(by exact Z2),fun tp htp => ?_⟩
    generalize hq : upd H tp (.tup [.ty "list",.ty "tuple"]) = H1
    have s1 := Nw hq htp
    have e1 := Ns hq
    refine ⟨l,_,tp,rfl,s1 _ _ hl,SqT.of e1,_,rfl,iteF ?_⟩
    refine ⟨_,rfl,_,_,rfl,.inl ⟨_,SqL.of (s1 _ _ hl),rfl⟩,_,_,rfl,rfl,_,rfl,ite2 (fun _ => q _ s1) (fun h => absurd (decide_eq_true (show ((xs.length : Nat) : Int) > (2 : Int) by have := hlong.1; omega)) h)⟩
  | @lk l xs hl hk =>
    refine ⟨_,(Ad (Bc (PW.pt (pw_or (Bg (Bj (Ah Co rfl T.n_isinstance boot_isinstance (Aa (pv 0) (Aa (Ai (Aa (Au (v := .ty "list") rfl T.n_list boot_list rfl) (Aa (Au (v := .ty "tuple") rfl T.n_tuple boot_tuple rfl) Ab))) Ab))))) (Cp (Bb op_gt (Ah Av rfl T.n_len boot_len (Aa (pv 0) Ab)) (By rfl T.g_MOST_OFFERS) (Ba _))))) (Ae (As pe_bl)) Ap)
     (Ae (As (B9 (Ah (Bw rfl) rfl T.n_all boot_all (Aa (Bz (sc := Af Bn) (N0 := ["thing"]) (xs := ["key"]) (ys := []) (js := []) (by trivial) rfl (Be (pv 0)) (fun _ _ _ _ => (Ao (i := 0) (show (["key"] : List Str).Nodup by decide +kernel) rfl (by trivial))) (fun _ _ _ _ => B7) (fun _ _ _ _ => (Ay F_is_key hr (by decide) rfl (Aa (pv 0) Ab)))) Ab)) (Cq (Cc Dw (pe_lenK hr.hd (hu64 hr) rfl T.n_len rfl T.n_set (pv 0)) (Ah Av rfl T.n_len boot_len (Aa (pv 0) Ab)) (Ba _))))))),?_⟩
    obtain ⟨h2,ha,bi,bx,hbx,hbf⟩ := hk
    refine ⟨_,rfl,(by exact Z2),fun tp htp => ?_⟩
    generalize hq : upd H tp (.tup [.ty "list",.ty "tuple"]) = H1
    have s1 := Nw hq htp
    have e1 := Ns hq
    refine ⟨l,_,tp,rfl,s1 _ _ hl,SqT.of e1,_,rfl,iteF ?_⟩
    refine ⟨_,rfl,_,_,rfl,.inl ⟨_,SqL.of (s1 _ _ hl),rfl⟩,_,_,rfl,rfl,_,rfl,ite2 (fun h => absurd (of_decide_eq_true h) (by show ¬ (((xs.length : Nat) : Int) > (2 : Int)); omega)) (fun _ => ?_)⟩
    refine ⟨_,rfl,l,rfl,⟨_,SqL.of (s1 _ _ hl)⟩,B2 (K := K) (a := l) (xs := xs) (fun i ys H' => ∃ bs : List Bool,ys = bs.map V.bl ∧ bs.length = i ∧ (bi < i → bs[bi]? = some false) ∧ Same H H') ⟨[],rfl,rfl,fun h => by omega,s1⟩ (by omega) ?_ ?_ ?_ ?_⟩
    ·rintro i ys H' ⟨bs,rfl,e,_⟩
     rw [List.length_map]; omega
    ·rintro i ys H' _ ⟨_,_,_,_,s'⟩
     exact SqL.of (s' _ _ hl)
    ·rintro i x ys H' hx ⟨bs,rfl,e,hb,s'⟩
     obtain ⟨k1,k2⟩ := ha x (List.mem_of_getElem? hx) H' s'
     refine ⟨_,rfl,x,rfl,k1,k2,fun H2 s2 => ⟨bs ++ [keyV H' x],by rw [List.map_append]; rfl,by rw [List.length_append,e]; rfl,fun h => ?_,s'.trans s2⟩⟩
     by_cases hlt : bi < i
     ·rw [List.getElem?_append_left (by omega)]
      exact hb hlt
     ·obtain rfl : bi = i := by omega
      rw [hx] at hbx
      cases hbx
      rw [List.getElem?_append_right (by omega),e,Nat.sub_self,hbf H' s']
      rfl
    ·rintro ys H' ⟨bs,rfl,e,hb,s'⟩ l2 hl2
     have hf := hb (List.getElem?_eq_some_iff.mp hbx).1
     have al : bs.all id = false := by
      rw [Bool.eq_false_iff]
      intro h
      have := List.all_eq_true.mp h false (List.mem_of_getElem? hf)
      cases this
     refine ⟨l2,bs,rfl,SqL.of Ac,?_⟩
     rw [al]
     exact ⟨_,rfl,iteF (q _ (s'.trans (Same.new hl2)))⟩
  | @tk l xs hl hk =>
    refine ⟨_,(Ad (Bc (PW.pt (pw_or (Bg (Bj (Ah call_isTT rfl T.n_isinstance boot_isinstance (Aa (pv 0) (Aa (Ai (Aa (Au (v := .ty "list") rfl T.n_list boot_list rfl) (Aa (Au (v := .ty "tuple") rfl T.n_tuple boot_tuple rfl) Ab))) Ab))))) (Cp (Bb op_gt (Ah Av rfl T.n_len boot_len (Aa (pv 0) Ab)) (By rfl T.g_MOST_OFFERS) (Ba _))))) (Ae (As pe_bl)) Ap)
     (Ae (As (B9 (Ah (Bw rfl) rfl T.n_all boot_all (Aa (Bz (sc := Af Bn) (N0 := ["thing"]) (xs := ["key"]) (ys := []) (js := []) (by trivial) rfl (pi_tup (pv 0)) (fun _ _ _ _ => (Ao (i := 0) (show (["key"] : List Str).Nodup by decide +kernel) rfl (by trivial))) (fun _ _ _ _ => B7) (fun _ _ _ _ => (Ay F_is_key hr (by decide) rfl (Aa (pv 0) Ab)))) Ab)) (Cq (Cc Dw (pe_lenKT hr.hd (hu64 hr) rfl T.n_len rfl T.n_set (pv 0)) (Ah Av rfl T.n_len boot_len (Aa (pv 0) Ab)) (Ba _))))))),?_⟩
    obtain ⟨h2,ha,bi,bx,hbx,hbf⟩ := hk
    refine ⟨_,rfl,(by exact Z2),fun tp htp => ?_⟩
    generalize hq : upd H tp (.tup [.ty "list",.ty "tuple"]) = H1
    have s1 := Nw hq htp
    have e1 := Ns hq
    refine ⟨l,_,tp,rfl,s1 _ _ hl,SqT.of e1,_,rfl,iteF ?_⟩
    refine ⟨_,rfl,_,_,rfl,.inr ⟨_,SqT.of (s1 _ _ hl),rfl⟩,_,_,rfl,rfl,_,rfl,ite2 (fun h => absurd (of_decide_eq_true h) (by show ¬ (((xs.length : Nat) : Int) > (2 : Int)); omega)) (fun _ => ?_)⟩
    refine ⟨_,rfl,l,rfl,⟨_,SqT.of (s1 _ _ hl)⟩,De (K := K) (a := l) (xs := xs) (fun i ys H' => ∃ bs : List Bool,ys = bs.map V.bl ∧ bs.length = i ∧ (bi < i → bs[bi]? = some false) ∧ Same H H') ⟨[],rfl,rfl,fun h => by omega,s1⟩ (by omega) ?_ ?_ ?_ ?_⟩
    ·rintro i ys H' ⟨bs,rfl,e,_⟩
     rw [List.length_map]; omega
    ·rintro i ys H' _ ⟨_,_,_,_,s'⟩
     exact SqT.of (s' _ _ hl)
    ·rintro i x ys H' hx ⟨bs,rfl,e,hb,s'⟩
     obtain ⟨k1,k2⟩ := ha x (List.mem_of_getElem? hx) H' s'
     refine ⟨_,rfl,x,rfl,k1,k2,fun H2 s2 => ⟨bs ++ [keyV H' x],by rw [List.map_append]; rfl,by rw [List.length_append,e]; rfl,fun h => ?_,s'.trans s2⟩⟩
     by_cases hlt : bi < i
     ·rw [List.getElem?_append_left (by omega)]
      exact hb hlt
     ·obtain rfl : bi = i := by omega
      rw [hx] at hbx
      cases hbx
      rw [List.getElem?_append_right (by omega),e,Nat.sub_self,hbf H' s']
      rfl
    ·rintro ys H' ⟨bs,rfl,e,hb,s'⟩ l2 hl2
     have hf := hb (List.getElem?_eq_some_iff.mp hbx).1
     have al : bs.all id = false := by
      rw [Bool.eq_false_iff]
      intro h
      have := List.all_eq_true.mp h false (List.mem_of_getElem? hf)
      cases this
     refine ⟨l2,bs,rfl,SqL.of Ac,?_⟩
     rw [al]
     exact ⟨_,rfl,iteF (q _ (s'.trans (Same.new hl2)))⟩
  | @l2 l p k hl hp hw hk =>
    refine ⟨_,(Ad (Bc (PW.pt (pw_or (Bg (Bj (Ah Co rfl T.n_isinstance boot_isinstance (Aa (pv 0) (Aa (Ai (Aa (Au (v := .ty "list") rfl T.n_list boot_list rfl) (Aa (Au (v := .ty "tuple") rfl T.n_tuple boot_tuple rfl) Ab))) Ab))))) (Cp (Bb op_gt (Ah Av rfl T.n_len boot_len (Aa (pv 0) Ab)) (By rfl T.g_MOST_OFFERS) (Ba _))))) (Ae (As pe_bl)) Ap)
     (Ae (As (B9 (Ah (Bw rfl) rfl T.n_all boot_all (Aa (Bz (sc := Af Bn) (N0 := ["thing"]) (xs := ["key"]) (ys := []) (js := []) (by trivial) rfl (Be (pv 0)) (fun _ _ _ _ => (Ao (i := 0) (show (["key"] : List Str).Nodup by decide +kernel) rfl (by trivial))) (fun _ _ _ _ => B7) (fun _ _ _ _ => (Ay F_is_key hr (by decide) rfl (Aa (pv 0) Ab)))) Ab)) (Cq (Cc Dw (pe_lenD hr.hd (hu64 hr) rfl T.n_len rfl T.n_set (pv 0)) (Ah Av rfl T.n_len boot_len (Aa (pv 0) Ab)) (Ba _))))))),?_⟩
    refine ⟨_,rfl,(by exact Z2),fun tp htp => ?_⟩
    generalize hq : upd H tp (.tup [.ty "list",.ty "tuple"]) = H1
    have s1 := Nw hq htp
    have e1 := Ns hq
    refine ⟨l,_,tp,rfl,s1 _ _ hl,SqT.of e1,_,rfl,iteF ?_⟩
    refine ⟨_,rfl,_,_,rfl,.inl ⟨_,SqL.of (s1 _ _ hl),rfl⟩,_,_,rfl,rfl,_,rfl,iteF ?_⟩
    refine ⟨_,rfl,l,rfl,⟨_,SqL.of (s1 _ _ hl)⟩,B2 (K := K) (a := l) (xs := [.ref p,.ref p]) (fun i ys H' => ys = (List.replicate i true).map V.bl ∧ Same H H') ⟨rfl,s1⟩ (by exact Z2) ?_ ?_ ?_ ?_⟩
    ·rintro i ys H' ⟨rfl,_⟩
     rw [List.length_map,List.length_replicate]; exact Nat.le_refl _
    ·rintro i ys H' _ ⟨_,s'⟩
     exact SqL.of (s' _ _ hl)
    ·rintro i x ys H' hx ⟨rfl,s'⟩
     obtain rfl : x = .ref p := by
      have := List.mem_of_getElem? hx
      simpa using this
     have hk2 : KeyR H' p k := s' _ _ hp
     refine ⟨_,rfl,.ref p,rfl,⟨.tup,.tup hk2⟩,key_args hk2 ⟨hw,hk⟩,fun H2 s2 => ⟨?_,s'.trans s2⟩⟩
     rw [key_true hk2 ⟨hw,hk⟩,List.replicate_succ',List.map_append]
     rfl
    ·rintro ys H' ⟨rfl,s'⟩ l2 hl2
     generalize hq : upd H' l2 (.lst ((List.replicate ([.ref p,.ref p] : List V).length true).map V.bl)) = H2
     have s2 := s'.trans (Nw hq hl2)
     have e2 : H2 l2 = some (.lst (([true,true] : List Bool).map V.bl)) := Ns hq
     refine ⟨l2,[true,true],rfl,SqL.of e2,_,rfl,iteT ?_⟩
     refine ⟨_,rfl,l,p,[.inr k.1,.inl (k.2 : Int)],rfl,SqL.of (s2 _ _ hl),s2 _ _ hp,?_⟩
     exact ⟨_,rfl,_,_,rfl,.inl ⟨_,SqL.of (s2 _ _ hl),rfl⟩,rfl,q _ s2⟩
def spKOX (K : PySem.W.Frag) (c : Cs) : Sp := fun vs H _ E => ∃ v : V,vs = [v] ∧ OfBad K H v ∧ XD c H E (.of v)
theorem ofBad_non {H : Hp} {v : V} (h : OfBad K H v) : v ≠ .non := by
 rintro rfl
 cases h with
 | @no _ k h1 h2 h3 =>
   have h1 : TyOf K H .non (.type k.nm) := h1
   generalize hT : Value.type k.nm = T at h1
   cases h1
   cases k <;> first | exact h3 rfl | exact absurd (Value.type.inj hT) (by decide)
theorem ok_koX (X : Has P w K mg base c) (F_ao : FnAt P w K mg base "are_offers" 3 ["thing"] (spAOF K)) (F : Aq K mg "kept_offers" C0 ["offers"]) : FnAtX P w K mg base "kept_offers" 5 ["offers"] (spKOX K c) := by
 refine F.atX sckept_offers (fun vs H Q E h => ?_) (fun f cdv A outer s H vs Q E hr h => ?_)
 ·obtain ⟨v,rfl,_⟩ := h
  rfl
 ·obtain ⟨v,rfl,hb,xx⟩ := h
  refine ⟨_,(Ad (Bc (pt_cmp (pc_isN (pv 0))) (Ae An) Ap)
   (Ad (Bc (Bg (Bj (Ay F_ao hr (by decide) rfl (Aa (pv 0) Ab)))) (Ae (Da B8 hr.hd (pe_x X.xo hr (by decide) rfl (Aa (pv 0) Ab)))) Ap)
   (Ae An))),?_⟩
  refine ⟨_,rfl,_,rfl,?_⟩
  rw [decide_eq_false (ofBad_non hb)]
  refine iteF ⟨_,rfl,v,rfl,hb,fun H1 s1 => ⟨_,rfl,iteT ?_⟩⟩
  exact ⟨_,rfl,_,rfl,fun a dx' z1 z2 z3 => ⟨a,c.o,some dx',rfl,by rw [Ak (Ne.symm z3)]; exact Ac,X.xo.df.ok.mkk,XatF.go xx s1 z1 z2 z3⟩⟩
end
end K32
namespace K32
open PySem L2 PyProof.Rows PySem.SeqAt
structure PKit2 (K : PySem.W.Frag) (C : Addr) : Prop where
 tp : PySem.W.kitOne K (.ref C) (.type "tuple") = some false
 nn : PySem.W.kitOne K (.type "NoneType") (.ref C) = some false
def JRow (C : Addr) (H : Hp) (x w : V) : Prop := ∃ p a d,x = .ref p ∧ H p = some (.tup [w,.ref a]) ∧ PAt C H a d
theorem JRow.same {C : Addr} {H H' : Hp} {x w : V} (h : JRow C H x w) (s : Same H H') : JRow C H' x w := by
 obtain ⟨p,a,d,h1,h2,h3⟩ := h
 exact ⟨p,a,d,h1,s _ _ h2,h3.same s⟩
inductive NJ (K : PySem.W.Frag) (C : Addr) (H : Hp) : V → Prop
 | kd {v : V} {k : Kd} : KdOf K H v k → k.isA .tup = false → NJ K C H v
 | ins {a dx : Addr} {fs : List (Str × V)} : H a = some (.ins C dx fs) → NJ K C H (.ref a)
 | ln {p : Addr} {xs : List V} : H p = some (.tup xs) → xs.length ≠ 2 → xs.length ≤ 100 → NJ K C H (.ref p)
 | n2 {p : Addr} {w : V} : H p = some (.tup [w,.non]) → NJ K C H (.ref p)
theorem NJ.same {K : PySem.W.Frag} {C : Addr} {H H' : Hp} {v : V} (h : NJ K C H v) (s : Same H H') : NJ K C H' v := by
 cases h with
 | kd h1 h2 => exact .kd (TyOf.same' h1 s) h2
 | ins h1 => exact .ins (s _ _ h1)
 | ln h1 h2 h3 => exact .ln (s _ _ h1) h2 h3
 | n2 h1 => exact .n2 (s _ _ h1)
def JB (K : PySem.W.Frag) (C : Addr) (H : Hp) (v : V) (b : Bool) : Prop := (b = true ∧ ∃ w,JRow C H v w) ∨ (b = false ∧ NJ K C H v)
theorem JB.same {K : PySem.W.Frag} {C : Addr} {H H' : Hp} {v : V} {b : Bool} (h : JB K C H v b) (s : Same H H') : JB K C H' v b := by
 rcases h with ⟨h1,w,h2⟩ | ⟨h1,h2⟩
 ·exact .inl ⟨h1,w,h2.same s⟩
 ·exact .inr ⟨h1,h2.same s⟩
section
variable {P : Program} {w : World} {K : PySem.W.Frag} {mg : Str → Option Value} {base : Heap} {C : Addr} {J : Js} {c : Cs}
def spJB (K : PySem.W.Frag) (C : Addr) : Sp := fun vs H Q _ => ∃ (v : V) (b : Bool),vs = [v] ∧ JB K C H v b ∧ Q (.bl b) H
theorem ok_jb (T : Txt mg) (kit : PKit K C) (kit2 : PKit2 K C) (mC : mg "Part" = some (.ref C)) (F : Aq K mg "is_joined_part" B6 ["thing"]) : FnAt P w K mg base "is_joined_part" 1 ["thing"] (spJB K C) := by
 refine F.at scis_joined_part (fun vs H Q E h => ?_) (fun f cdv A outer s H vs Q E hr h => ?_)
 ·obtain ⟨v,b,rfl,_⟩ := h
  rfl
 ·obtain ⟨v,b,rfl,⟨rfl,w,p,a,d,rfl,hp,dx,po,pb,kt,ha,_⟩ | ⟨rfl,hn⟩,q⟩ := h
  ·refine ⟨_,(Ae (As (B9 (Ah (Bt .tup (by simp)) rfl T.n_isinstance boot_isinstance (Aa (pv 0) (Aa (Au (v := .ty "tuple") rfl T.n_tuple boot_tuple rfl) Ab))) (B9 (Cc Dw (Ah Av rfl T.n_len boot_len (Aa (pv 0) Ab)) Ag (Ba _)) (Cq (Ah B1 rfl T.n_isinstance boot_isinstance (Aa (Bk Di (pv 0) Ag (fun _ _ => rfl)) (Aa (Dt (v := .ref C) rfl mC rfl) Ab)))))))),?_⟩
   refine ⟨_,rfl,.ref p,.tup,rfl,.tup hp,_,rfl,iteT ?_⟩
   refine ⟨_,rfl,_,_,rfl,.inr ⟨_,SqT.of hp,rfl⟩,rfl,_,rfl,iteT ?_⟩
   exact ⟨_,rfl,p,_,_,_,rfl,rfl,SqT.of hp,rfl,_,_,.ref C,.ref C,true,rfl,rfl,kit.ty ha,kit.kC,q⟩
  ·cases hn with
   | @kd v k hk h2 =>
     refine ⟨_,(Ae (As (B9 (Ah (Bt .tup (by simp)) rfl T.n_isinstance boot_isinstance (Aa (pv 0) (Aa (Au (v := .ty "tuple") rfl T.n_tuple boot_tuple rfl) Ab))) (B9 (Cc Dw (Ah Av rfl T.n_len boot_len (Aa (pv 0) Ab)) Ag (Ba _)) (Cq (Ah B1 rfl T.n_isinstance boot_isinstance (Aa (Bk Di (pv 0) Ag (fun _ _ => rfl)) (Aa (Dt (v := .ref C) rfl mC rfl) Ab)))))))),?_⟩
     refine ⟨_,rfl,v,k,rfl,hk,_,rfl,?_⟩
     rw [h2]
     exact iteF q
   | @ins a dx fs ha =>
     refine ⟨_,(Ae (As (B9 (Ah B1 rfl T.n_isinstance boot_isinstance (Aa (pv 0) (Aa (Au (v := .ty "tuple") rfl T.n_tuple boot_tuple rfl) Ab))) (B9 (Cc Dw (Ah Av rfl T.n_len boot_len (Aa (pv 0) Ab)) Ag (Ba _)) (Cq (Ah B1 rfl T.n_isinstance boot_isinstance (Aa (Bk Di (pv 0) Ag (fun _ _ => rfl)) (Aa (Dt (v := .ref C) rfl mC rfl) Ab)))))))),?_⟩
     exact ⟨_,rfl,_,_,.ref C,.type "tuple",false,rfl,rfl,kit.ty ha,kit2.tp,_,rfl,iteF q⟩
   | @ln p xs hp h2 h3 =>
     refine ⟨_,(Ae (As (B9 (Ah (Bt .tup (by simp)) rfl T.n_isinstance boot_isinstance (Aa (pv 0) (Aa (Au (v := .ty "tuple") rfl T.n_tuple boot_tuple rfl) Ab))) (B9 (Cc Dw (Ah Av rfl T.n_len boot_len (Aa (pv 0) Ab)) Ag (Ba _)) (Cq (Ah B1 rfl T.n_isinstance boot_isinstance (Aa (Bk Di (pv 0) Ag (fun _ _ => rfl)) (Aa (Dt (v := .ref C) rfl mC rfl) Ab)))))))),?_⟩
     refine ⟨_,rfl,.ref p,.tup,rfl,.tup hp,_,rfl,iteT ?_⟩
     refine ⟨_,rfl,_,_,rfl,.inr ⟨_,SqT.of hp,rfl⟩,rfl,_,rfl,?_⟩
     rw [decide_eq_false (fun z => h2 (by have := V.int.inj z; omega))]
     exact iteF q
   | @n2 p w' hp =>
     refine ⟨_,(Ae (As (B9 (Ah (Bt .tup (by simp)) rfl T.n_isinstance boot_isinstance (Aa (pv 0) (Aa (Au (v := .ty "tuple") rfl T.n_tuple boot_tuple rfl) Ab))) (B9 (Cc Dw (Ah Av rfl T.n_len boot_len (Aa (pv 0) Ab)) Ag (Ba _)) (Cq (Ah B1 rfl T.n_isinstance boot_isinstance (Aa (Bk Di (pv 0) Ag (fun _ _ => rfl)) (Aa (Dt (v := .ref C) rfl mC rfl) Ab)))))))),?_⟩
     refine ⟨_,rfl,.ref p,.tup,rfl,.tup hp,_,rfl,iteT ?_⟩
     refine ⟨_,rfl,_,_,rfl,.inr ⟨_,SqT.of hp,rfl⟩,rfl,_,rfl,iteT ?_⟩
     exact ⟨_,rfl,p,_,_,_,rfl,rfl,SqT.of hp,rfl,_,_,.type "NoneType",.ref C,false,rfl,rfl,TyOf.non,kit2.nn,q⟩
def spJOB (K : PySem.W.Frag) (C : Addr) (J : Js) (c : Cs) : Sp := fun vs H Q E => spJO J vs H Q E ∨ spJOX K C c vs H Q E
theorem ok_job (D : JHas P w K mg base J) (X : Has P w K mg base c) (o : EqO K C) (F_all_joins : FnAt P w K mg base "all_joins" 1 [] (spAll J)) (F : Aq K mg "join_of" sjoin_of ["word"]) : FnAtX P w K mg base "join_of" 3 ["word"] (spJOB K C J c) := by
 refine F.atX scjoin_of (fun vs H Q E h => ?_) (fun f cdv A outer s H vs Q E hr h => ?_)
 ·rcases h with ⟨j,_,rfl,_⟩ | ⟨x,rfl,_⟩ <;> rfl
 ·rcases h with ⟨j,hj,rfl,q⟩ | ⟨x,rfl,hx,hn,xx⟩
  ·refine ⟨_,(Ad (Ck PassesOwn.leaving rfl (Be (pe_fn0 F_all_joins hr (by decide) rfl)) (Ao (i := 1) scjoin_of.nd rfl (by trivial)) (Ae (Bc (Bb Dw (pe_methD (D := DW J) (pv 1) D.hDW (hr.mono (by decide)) Db) (pv 0) (Ba _)) (Ae (As (pv 1))) Ap)))
    (Ae An)),?_⟩
   refine ⟨rfl,fun l p0 p1 p2 p3 H1 s1 el a0 a1 a2 a3 => ?_⟩
   refine ⟨l,rfl,⟨_,SqL.of el⟩,B0 (K := K) (a := l) (xs := [V.ref p0,V.ref p1,V.ref p2,V.ref p3]) (fun i σ H' => ∃ u : Option V,σ = [some (.str (nm j)),u] ∧ H' = H1 ∧ i ≤ j) ⟨_,rfl,rfl,Nat.zero_le _⟩ (fun i σ H' _ ⟨_,_,e,_⟩ => by rw [e]; exact SqL.of el) ?_ ?_⟩
   ·rintro i y σ H' hi ⟨u,rfl,rfl,hij⟩
    obtain ⟨p,dx,h4,rfl,hp⟩ := at4 a0 a1 a2 a3 i y hi
    refine ⟨_,rfl,p,J.c i,dx,[],spC (.str (nm i)),rfl,hp,rfl,⟨i,h4,rfl,rfl⟩,⟨p,rfl⟩,_,rfl,rfl,_,rfl,?_⟩
    show if decide (V.str (nm i) = V.str (nm j)) = true then _ else _
    rw [nm_eq h4 hj]
    refine ite2 (fun e => ?_) (fun e => ?_)
    ·have e : i = j := of_decide_eq_true e
     subst e
     exact ⟨_,rfl,q p _ s1 ⟨dx,hp⟩⟩
    ·have e : ¬ i = j := fun z => e (decide_eq_true z)
     exact ⟨_,rfl,rfl,by omega⟩
   ·rintro σ H' ⟨u,rfl,rfl,hij⟩
    have : (4 : Nat) ≤ j := hij
    omega
  ·refine ⟨_,(Ad (Ck PassesOwn.leaving rfl (Be (pe_fn0 F_all_joins hr (by decide) rfl)) (Ao (i := 1) scjoin_of.nd rfl (by trivial)) (Ae (Bc (Bb (op_eqO o (hu0 hr)) (pe_methD (D := DW J) (pv 1) D.hDW (hr.mono (by decide)) Db) (pv 0) (Ba _)) (Ae (As (pv 1))) Ap)))
    (Ae (Da B8 hr.hd (pe_x X.xj hr (by decide) rfl (Aa (pv 0) Ab))))),?_⟩
   refine ⟨rfl,fun l p0 p1 p2 p3 H1 s1 el a0 a1 a2 a3 => ?_⟩
   refine ⟨l,rfl,⟨_,SqL.of el⟩,B0 (K := K) (a := l) (xs := [V.ref p0,V.ref p1,V.ref p2,V.ref p3]) (fun i σ H' => ∃ u : Option V,σ = [some x,u] ∧ H' = H1) ⟨_,rfl,rfl⟩ (fun i σ H' _ ⟨_,_,e⟩ => by rw [e]; exact SqL.of el) ?_ ?_⟩
   ·rintro i y σ H' hi ⟨u,rfl,rfl⟩
    obtain ⟨p,dx,h4,rfl,hp⟩ := at4 a0 a1 a2 a3 i y hi
    refine ⟨_,rfl,p,J.c i,dx,[],spC (.str (nm i)),rfl,hp,rfl,⟨i,h4,rfl,rfl⟩,⟨p,rfl⟩,_,rfl,_,rfl,hx.same s1,_,rfl,?_⟩
    rw [decide_eq_false (hn i h4)]
    exact iteF ⟨_,rfl,rfl⟩
   ·rintro σ H' ⟨u,rfl,rfl⟩
    exact ⟨_,rfl,_,rfl,fun a dx' z1 z2 z3 => ⟨a,c.j,some dx',rfl,by rw [Ak (Ne.symm z3)]; exact Ac,X.xj.df.ok.mkk,XatF.go xx s1 z1 z2 z3⟩⟩
end
end K32
namespace K32
open PySem L2 PyProof.Rows PySem.SeqAt
inductive BnBad (K : PySem.W.Frag) (C : Addr) (H : Hp) : V → Due → Prop
 | no {v : V} {k : Kd} : KdOf K H v k → k.noSeq = true → v ≠ .non → BnBad K C H v (.bn v)
 | nj {l : Addr} {xs : List V} {bs : List Bool} : H l = some (.lst xs) → xs.length ≤ 100 → A2 (JB K C H) xs bs → bs.all id = false → BnBad K C H (.ref l) (.bn (.ref l))
 | mn {l : Addr} {xs ws : List V} : H l = some (.lst xs) → xs.length ≤ 100 → A2 (JRow C H) xs ws → 6 < xs.length → BnBad K C H (.ref l) (.mn xs.length)
 | jn {l : Addr} {xs ws : List V} {i : Nat} {w : V} : H l = some (.lst xs) → A2 (JRow C H) xs ws → xs.length ≤ 6 → ws[i]? = some w → (∀ k u,k < i → ws[k]? = some u → ∃ j,j < 4 ∧ u = .str (nm j)) → Odd K C H w → (∀ j,j < 4 → w ≠ .str (nm j)) → BnBad K C H (.ref l) (.jn w)
theorem BnBad.same {K : PySem.W.Frag} {C : Addr} {H H' : Hp} {v : V} {u : Due} (h : BnBad K C H v u) (s : Same H H') : BnBad K C H' v u := by
 cases h with
 | no h1 h2 h3 => exact .no (TyOf.same' h1 s) h2 h3
 | nj h1 h2 h3 h4 => exact .nj (s _ _ h1) h2 (h3.imp fun _ _ e => e.same s) h4
 | mn h1 h2 h3 h4 => exact .mn (s _ _ h1) h2 (h3.imp fun _ _ e => e.same s) h4
 | jn h1 h2 h3 h4 h5 h6 h7 => exact .jn (s _ _ h1) (h2.imp fun _ _ e => e.same s) h3 h4 h5 (h6.same s) h7
theorem rows_jb {K : PySem.W.Frag} {C : Addr} {H : Hp} {xs ws : List V} (h : A2 (JRow C H) xs ws) : A2 (JB K C H) xs (List.replicate xs.length true) := by
 refine ⟨by rw [List.length_replicate],fun i x b e1 e2 => ?_⟩
 obtain ⟨w,_,hw⟩ := h.at e1
 have : b = true := by
  have := List.mem_of_getElem? e2
  rw [List.mem_replicate] at this
  exact this.2
 exact .inl ⟨this,w,hw⟩
section
variable {P : Program} {w : World} {K : PySem.W.Frag} {mg : Str → Option Value} {base : Heap} {C fP : Addr} {dP : FuncData} {J : Js} {c : Cs}
def spKBX (K : PySem.W.Frag) (C : Addr) (c : Cs) : Sp := fun vs H _ E => ∃ (v : V) (u : Due),vs = [v] ∧ BnBad K C H v u ∧ XD c H E u
theorem ok_kbX (T : Txt mg) (X : Has P w K mg base c) (F_jb : FnAt P w K mg base "is_joined_part" 1 ["thing"] (spJB K C)) (F_few : FnAt P w K mg base "need_few_beneath" 1 ["many"] (spFew 6)) (F_fewX : FnAtX P w K mg base "need_few_beneath" 3 ["many"] (spMnX 6 c)) (F_job : FnAtX P w K mg base "join_of" 3 ["word"] (spJOB K C J c)) (F : Aq K mg "kept_beneath" A9 ["beneath"]) : FnAtX P w K mg base "kept_beneath" 5 ["beneath"] (spKBX K C c) := by
 refine F.atX B3 (fun vs H Q E h => ?_) (fun f cdv A outer s H vs Q E hr h => ?_)
 ·obtain ⟨v,u,rfl,_⟩ := h
  rfl
 ·obtain ⟨v,u,rfl,hb,xx⟩ := h
  have hs : sizeLine = 16777216 := sizeLine_eq
  cases hb with
  | @no v k hk hn h0 =>
    refine ⟨_,(Ad (Bc (pt_cmp (pc_isN (pv 0))) (Ae An) Ap)
     (Ad (Bc (PW.pt (pw_or (Bg (Bj (Ah call_isNT rfl T.n_isinstance boot_isinstance (Aa (pv 0) (Aa (Ai (Aa (Au (v := .ty "list") rfl T.n_list boot_list rfl) (Aa (Au (v := .ty "tuple") rfl T.n_tuple boot_tuple rfl) Ab))) Ab))))) (Cp (Bg (Bj (Ah (Bw rfl) rfl T.n_all boot_all (Aa (Bz (sc := Af A9) (N0 := ["beneath","row"]) (xs := ["thing"]) (ys := []) (js := []) (by trivial) rfl (Be (pv 0)) (fun _ _ _ _ => (Ao (i := 0) (show (["thing"] : List Str).Nodup by decide +kernel) rfl (by trivial))) (fun _ _ _ _ => B7) (fun _ _ _ _ => (Ay F_jb hr (by decide) rfl (Aa (pv 0) Ab)))) Ab))))))) (Ae (Da B8 hr.hd (pe_x X.xb hr (by decide) rfl (Aa (pv 0) Ab)))) Ap)
     (Ad An (Ad An (Ae An))))),?_⟩
    refine ⟨_,rfl,_,rfl,?_⟩
    rw [decide_eq_false h0]
    refine iteF ⟨_,rfl,(by exact Z2),fun tp htp => ?_⟩
    have s1 := Same.new (o := .tup [.ty "list",.ty "tuple"]) htp
    refine ⟨v,k,tp,rfl,TyOf.same' hk s1,hn,SqT.of Ac,_,rfl,iteT ?_⟩
    exact ⟨_,rfl,_,rfl,fun a dx' z1 z2 z3 => ⟨a,c.b,some dx',rfl,by rw [Ak (Ne.symm z3)]; exact Ac,X.xb.df.ok.mkk,XatF.go xx s1 z1 z2 z3⟩⟩
  | @nj l xs bs hl h100 hbs hal =>
    refine ⟨_,(Ad (Bc (pt_cmp (pc_isN (pv 0))) (Ae An) Ap)
     (Ad (Bc (PW.pt (pw_or (Bg (Bj (Ah Co rfl T.n_isinstance boot_isinstance (Aa (pv 0) (Aa (Ai (Aa (Au (v := .ty "list") rfl T.n_list boot_list rfl) (Aa (Au (v := .ty "tuple") rfl T.n_tuple boot_tuple rfl) Ab))) Ab))))) (Cp (Bg (Bj (Ah (Bw rfl) rfl T.n_all boot_all (Aa (Bz (sc := Af A9) (N0 := ["beneath","row"]) (xs := ["thing"]) (ys := []) (js := []) (by trivial) rfl (Be (pv 0)) (fun _ _ _ _ => (Ao (i := 0) (show (["thing"] : List Str).Nodup by decide +kernel) rfl (by trivial))) (fun _ _ _ _ => B7) (fun _ _ _ _ => (Ay F_jb hr (by decide) rfl (Aa (pv 0) Ab)))) Ab))))))) (Ae (Da B8 hr.hd (pe_x X.xb hr (by decide) rfl (Aa (pv 0) Ab)))) Ap)
     (Ad An (Ad An (Ae An))))),?_⟩
    refine ⟨_,rfl,_,rfl,iteF ?_⟩
    refine ⟨_,rfl,(by exact Z2),fun tp htp => ?_⟩
    generalize hq : upd H tp (.tup [.ty "list",.ty "tuple"]) = H1
    have s1 := Nw hq htp
    have e1 := Ns hq
    have l1 := s1 _ _ hl
    refine ⟨l,_,tp,rfl,l1,SqT.of e1,_,rfl,iteF ?_⟩
    refine ⟨_,rfl,l,rfl,⟨_,SqL.of l1⟩,B2 (K := K) (a := l) (xs := xs) (fun i ys H' => ys = (bs.take i).map V.bl ∧ H' = H1) ⟨by simp,rfl⟩ (by omega) ?_ ?_ ?_ ?_⟩
    ·rintro i ys H' ⟨rfl,_⟩
     rw [List.length_map,List.length_take]; omega
    ·rintro i ys H' _ ⟨_,rfl⟩
     exact SqL.of l1
    ·rintro i x ys H' hx ⟨rfl,rfl⟩
     obtain ⟨b,hb,hjb⟩ := hbs.at hx
     refine ⟨_,rfl,x,b,rfl,hjb.same s1,?_,rfl⟩
     rw [A8 hb,List.map_append]
     rfl
    rintro ys H' ⟨rfl,rfl⟩ l2 hl2
    rw [hbs.1,List.take_length]
    generalize hq : upd H' l2 (.lst (bs.map V.bl)) = H2
    have s2 := s1.trans (Nw hq hl2)
    have e2 := Ns hq
    refine ⟨l2,bs,rfl,SqL.of e2,?_⟩
    rw [hal]
    refine ⟨_,rfl,iteT ?_⟩
    exact ⟨_,rfl,_,rfl,fun a dx' z1 z2 z3 => ⟨a,c.b,some dx',rfl,by rw [Ak (Ne.symm z3)]; exact Ac,X.xb.df.ok.mkk,XatF.go xx s2 z1 z2 z3⟩⟩
  | @mn l xs ws hl h100 hrw h6 =>
    have ps : ∀ {N qual scope f cdv A outer s₀ H₀},Dx (CXR P w) (cxOf (CXR P w) P w K mg base N qual scope f cdv A outer s₀ H₀ E) E := passes_def fun _ _ h => h
    refine ⟨_,(Ad (Bc (pt_cmp (pc_isN (pv 0))) (Ae An) Ap)
     (Ad (Bc (PW.pt (pw_or (Bg (Bj (Ah Co rfl T.n_isinstance boot_isinstance (Aa (pv 0) (Aa (Ai (Aa (Au (v := .ty "list") rfl T.n_list boot_list rfl) (Aa (Au (v := .ty "tuple") rfl T.n_tuple boot_tuple rfl) Ab))) Ab))))) (Cp (Bg (Bj (Ah (Bw rfl) rfl T.n_all boot_all (Aa (Bz (sc := Af A9) (N0 := ["beneath","row"]) (xs := ["thing"]) (ys := []) (js := []) (by trivial) rfl (Be (pv 0)) (fun _ _ _ _ => (Ao (i := 0) (show (["thing"] : List Str).Nodup by decide +kernel) rfl (by trivial))) (fun _ _ _ _ => B7) (fun _ _ _ _ => (Ay F_jb hr (by decide) rfl (Aa (pv 0) Ab)))) Ab))))))) (Ae An) Ap)
     (Ad (At (pe_fnX (E := E) F_fewX ps hr (by decide) rfl (Aa (Ah Av rfl T.n_len boot_len (Aa (pv 0) Ab)) Ab))) (Ad An (Ae An))))),?_⟩
    refine ⟨_,rfl,_,rfl,iteF ?_⟩
    have hbs := rows_jb (K := K) hrw
    generalize hbb : List.replicate xs.length true = bs at hbs
    refine ⟨_,rfl,(by exact Z2),fun tp htp => ?_⟩
    generalize hq : upd H tp (.tup [.ty "list",.ty "tuple"]) = H1
    have s1 := Nw hq htp
    have e1 := Ns hq
    have l1 := s1 _ _ hl
    refine ⟨l,_,tp,rfl,l1,SqT.of e1,_,rfl,iteF ?_⟩
    refine ⟨_,rfl,l,rfl,⟨_,SqL.of l1⟩,B2 (K := K) (a := l) (xs := xs) (fun i ys H' => ys = (bs.take i).map V.bl ∧ H' = H1) ⟨by simp,rfl⟩ (by omega) ?_ ?_ ?_ ?_⟩
    ·rintro i ys H' ⟨rfl,_⟩
     rw [List.length_map,List.length_take]; omega
    ·rintro i ys H' _ ⟨_,rfl⟩
     exact SqL.of l1
    ·rintro i x ys H' hx ⟨rfl,rfl⟩
     obtain ⟨b,hb,hjb⟩ := hbs.at hx
     refine ⟨_,rfl,x,b,rfl,hjb.same s1,?_,rfl⟩
     rw [A8 hb,List.map_append]
     rfl
    rintro ys H' ⟨rfl,rfl⟩ l2 hl2
    rw [hbs.1,List.take_length]
    generalize hq : upd H' l2 (.lst (bs.map V.bl)) = H2
    have s2 := s1.trans (Nw hq hl2)
    have e2 := Ns hq
    refine ⟨l2,bs,rfl,SqL.of e2,?_⟩
    rw [show bs.all id = true by rw [← hbb]; simp]
    refine ⟨_,rfl,iteF ?_⟩
    exact ⟨_,rfl,_,_,rfl,.inl ⟨_,SqL.of (s2 _ _ hl),rfl⟩,xs.length,rfl,h6,XatF.same xx s2⟩
  | @jn l xs ws i wv hl hrw h6 hi hbef hodd hno =>
    have ps : ∀ {N qual scope f cdv A outer s₀ H₀},Dx (CXR P w) (cxOf (CXR P w) P w K mg base N qual scope f cdv A outer s₀ H₀ E) E := passes_def fun _ _ h => h
    refine ⟨_,(Ad (Bc (pt_cmp (pc_isN (pv 0))) (Ae An) Ap)
     (Ad (Bc (PW.pt (pw_or (Bg (Bj (Ah Co rfl T.n_isinstance boot_isinstance (Aa (pv 0) (Aa (Ai (Aa (Au (v := .ty "list") rfl T.n_list boot_list rfl) (Aa (Au (v := .ty "tuple") rfl T.n_tuple boot_tuple rfl) Ab))) Ab))))) (Cp (Bg (Bj (Ah (Bw rfl) rfl T.n_all boot_all (Aa (Bz (sc := Af A9) (N0 := ["beneath","row"]) (xs := ["thing"]) (ys := []) (js := []) (by trivial) rfl (Be (pv 0)) (fun _ _ _ _ => (Ao (i := 0) (show (["thing"] : List Str).Nodup by decide +kernel) rfl (by trivial))) (fun _ _ _ _ => B7) (fun _ _ _ _ => (Ay F_jb hr (by decide) rfl (Aa (pv 0) Ab)))) Ab))))))) (Ae An) Ap)
     (Ad (At (Ay F_few hr (by decide) rfl (Aa (Ah Av rfl T.n_len boot_len (Aa (pv 0) Ab)) Ab)))
     (Ad (Ck PassesOwn.leaving rfl (Be (pv 0)) (Ao (i := 1) B3.nd rfl (by trivial)) (Ae (At (pe_fnX (E := E) F_job ps hr (by decide) rfl (Aa (Bk Di (pv 1) Ag (fun _ _ => rfl)) Ab)))))
     (Ae An))))),?_⟩
    refine ⟨_,rfl,_,rfl,iteF ?_⟩
    have hbs := rows_jb (K := K) hrw
    generalize hbb : List.replicate xs.length true = bs at hbs
    refine ⟨_,rfl,(by exact Z2),fun tp htp => ?_⟩
    generalize hq : upd H tp (.tup [.ty "list",.ty "tuple"]) = H1
    have s1 := Nw hq htp
    have e1 := Ns hq
    have l1 := s1 _ _ hl
    refine ⟨l,_,tp,rfl,l1,SqT.of e1,_,rfl,iteF ?_⟩
    refine ⟨_,rfl,l,rfl,⟨_,SqL.of l1⟩,B2 (K := K) (a := l) (xs := xs) (fun i ys H' => ys = (bs.take i).map V.bl ∧ H' = H1) ⟨by simp,rfl⟩ (by omega) ?_ ?_ ?_ ?_⟩
    ·rintro i ys H' ⟨rfl,_⟩
     rw [List.length_map,List.length_take]; omega
    ·rintro i ys H' _ ⟨_,rfl⟩
     exact SqL.of l1
    ·rintro i x ys H' hx ⟨rfl,rfl⟩
     obtain ⟨b,hb,hjb⟩ := hbs.at hx
     refine ⟨_,rfl,x,b,rfl,hjb.same s1,?_,rfl⟩
     rw [A8 hb,List.map_append]
     rfl
    rintro ys H' ⟨rfl,rfl⟩ l2 hl2
    rw [hbs.1,List.take_length]
    generalize hq : upd H' l2 (.lst (bs.map V.bl)) = H2
    have s2 := s1.trans (Nw hq hl2)
    have e2 := Ns hq
    refine ⟨l2,bs,rfl,SqL.of e2,?_⟩
    rw [show bs.all id = true by rw [← hbb]; simp]
    refine ⟨_,rfl,iteF ?_⟩
    refine ⟨_,rfl,_,_,rfl,.inl ⟨_,SqL.of (s2 _ _ hl),rfl⟩,_,rfl,by show ((xs.length : Nat) : Int) ≤ 6; omega,?_⟩
    have hil : i < xs.length := by rw [hrw.1]; exact (List.getElem?_eq_some_iff.mp hi).1
    refine ⟨_,rfl,l,rfl,⟨_,SqL.of (s2 _ _ hl)⟩,B0 (K := K) (a := l) (xs := xs) (fun k σ H' => ∃ u : Option V,σ = [some (.ref l),u] ∧ Same H H' ∧ k ≤ i) ⟨_,rfl,s2,Nat.zero_le _⟩ (fun k σ H' _ ⟨_,_,s',_⟩ => SqL.of (s' _ _ hl)) ?_ ?_⟩
    ·rintro k x σ H3 hx ⟨u,rfl,s3,hki⟩
     obtain ⟨u',hu',p,a,d,rfl,hp,_⟩ := hrw.at hx
     refine ⟨_,rfl,p,_,_,u',rfl,rfl,SqT.of (s3 _ _ hp),rfl,?_⟩
     by_cases hk : k < i
     ·obtain ⟨j,hj,rfl⟩ := hbef k u' hk hu'
      exact .inl ⟨j,hj,rfl,fun p2 H4 s4 _ => ⟨_,rfl,s3.trans s4,hk⟩⟩
     ·obtain rfl : k = i := by omega
      rw [hi] at hu'
      cases hu'
      exact .inr ⟨wv,rfl,hodd.same s3,hno,XatF.same xx s3⟩
    ·rintro σ H3 ⟨u,rfl,s3,hki⟩
     omega
inductive BdBad (d : Nd) : Due → Prop
 | db {i : Nat} {z : Str} : (names d)[i]? = some z → z ∈ (names d).take i → ((names d).take i).Nodup → BdBad d (.db (.str z))
 | mn : (names d).Nodup → 30 < d.ks.size + 1 → BdBad d (.mn (d.ks.size + 1))
 | dp : (names d).Nodup → d.ks.size + 1 ≤ 30 → 6 < d.ks.ht + 1 → BdBad d (.dp (d.ks.ht + 1))
end
end K32
namespace K32
open PySem L2 PyProof.Rows PySem.SeqAt
section
variable {P : Program} {w : World} {K : PySem.W.Frag} {mg : Str → Option Value} {base : Heap} {C fP : Addr} {dP : FuncData} {J : Js} {c : Cs}
def spNBX (C : Addr) (c : Cs) : Sp := fun vs H _ E => ∃ (a : Addr) (d : Nd) (u : Due),vs = [.ref a] ∧ PAt C H a d ∧ d.ks.ht < 7 ∧ d.ks.size ≤ 1000 ∧ BdBad d u ∧ XD c H E u
theorem ok_nbX (T : Txt mg) (kit : PKit K C) (X : Has P w K mg base c) (F_walked : FnAt P w K mg base "walked" 7 ["work"] (spWk C 7)) (F_nfp : FnAt P w K mg base "need_few_parts" 1 ["many"] (spFew 30)) (F_nfpX : FnAtX P w K mg base "need_few_parts" 3 ["many"] (spMnX 30 c)) (F_nndX : FnAtX P w K mg base "need_not_deep" 3 ["deep"] (spDpX c)) (F_dp : FnAt P w K mg base "depth_of" 8 ["work"] (spDp C)) (F : Aq K mg "need_bounds" Cz ["work"]) : FnAtX P w K mg base "need_bounds" 10 ["work"] (spNBX C c) := by
 refine F.atX A1 (fun vs H Q E h => ?_) (fun f cdv A outer s H vs Q E hr h => ?_)
 ·obtain ⟨a,d,u,rfl,_⟩ := h
  rfl
 ·obtain ⟨a,d,u,rfl,hP,h7,hz,hb,xx⟩ := h
  have hs : sizeLine = 16777216 := sizeLine_eq
  have nl : (names d).length = d.ks.size + 1 := by unfold names; rw [List.length_map,Cd]
  have ps : ∀ {N qual scope f cdv A outer s₀ H₀},Dx (CXR P w) (cxOf (CXR P w) P w K mg base N qual scope f cdv A outer s₀ H₀ E) E := passes_def fun _ _ h => h
  cases hb with
  | @db bi z hbi hz2 nd =>
    refine ⟨_,(Ad (A3 (i := 1) A1.nd rfl (by trivial) (Am Ab))
     (Ad (Ck PassesOwn.leaving rfl (Be (Ay F_walked hr (by decide) rfl (Aa (pv 0) Ab))) (pg_tup rfl (A4 (Ao (i := 2) A1.nd rfl (by trivial)) (A4 (Ao (i := 3) A1.nd rfl (by trivial)) Cl))) (Ad (Bc (Bb op_in_seq (Cm (pv 3) rfl) (pv 1) (by with_unfolding_all rfl)) (Ae (Da B8 hr.hd (pe_x X.xd hr (by decide) rfl (Aa (Cm (pv 3) rfl) Ab)))) Ap)
     (Ae (At (C3 PySem.F.plainAttrs_list PySem.F.slot_list_append PySem.F.type_list_append Az (pv 1) (Aa (Cm (pv 3) rfl) Ab))))))
     (Ad An
     (Ae An)))),?_⟩
    refine ⟨(by exact Z0),fun ln hln => ?_⟩
    generalize hq : upd H ln (.lst []) = H0
    have s0 := Nw hq hln
    have e0 := Ns hq
    refine ⟨_,rfl,a,d,rfl,hP.same s0,by omega,by omega,fun l rows H1 s1 f1 e1 hrows => ?_⟩
    have n1 : l ≠ ln := (Aj e0 f1).symm
    have nn : ∀ y,H0 y = none → y ≠ ln := fun y hy z => by rw [z,e0] at hy; cases hy
    refine ⟨l,rfl,⟨_,SqL.of e1⟩,B0 (K := K) (a := l) (xs := rows) (fun i σ H' => ∃ (v2 v3 : Option V),σ = [some (.ref a),some (.ref ln),v2,v3] ∧ Same H H' ∧ H' ln = some (.lst (((names d).take i).map V.str)) ∧ H' l = some (.lst rows) ∧ A2 (WRow (fun y => H0 y = none) C H') rows (walkP d) ∧ i ≤ bi)
     ⟨_,_,rfl,s0.trans s1,by simpa using s1 _ _ e0,e1,hrows,Nat.zero_le _⟩ (fun i σ H' _ ⟨_,_,_,_,_,e,_⟩ => SqL.of e) ?_ ?_⟩
    ·rintro i v σ H2 hv ⟨v2,v3,rfl,s2,e2,e2',w2,hib⟩
     obtain ⟨y,hy,p,lr,a1,rfl,_,hp,_,dx1,po1,pb1,kt1,hA1,_⟩ := w2.at hv
     have hn : (names d)[i]? = some y.2.n := by unfold names; rw [List.getElem?_map,hy]; rfl
     obtain ⟨hil,hne⟩ := List.getElem?_eq_some_iff.mp hn
     refine ⟨p,_,rfl,SqT.of hp,rfl,_,_,rfl,_,_,rfl,rfl,?_⟩
     refine ⟨_,rfl,a1,C,dx1,_,_,rfl,hA1,kit.cl,kit.name,C4,_,rfl,ln,_,rfl,.inl (SqL.of e2),rfl,strs_flat _,_,rfl,?_⟩
     show if inV (.str y.2.n) (((names d).take i).map V.str) = true then _ else _
     rw [inV_str]
     by_cases hk : i < bi
     ·have hnot : decide (y.2.n ∈ (names d).take i) = false := decide_eq_false fun m => by
          have h2 : (names d).take (i + 1) = (names d).take i ++ [y.2.n] := A8 hn
          have h3 : ((names d).take (i + 1)).Nodup := by
           have : (names d).take (i + 1) = ((names d).take bi).take (i + 1) := by rw [List.take_take,Nat.min_eq_left (by omega)]
           rw [this]
           exact List.Sublist.nodup (List.take_sublist _ _) nd
          rw [h2,List.nodup_append] at h3
          exact h3.2.2 _ m _ (List.mem_singleton.mpr rfl) rfl
      rw [hnot]
      refine iteF ?_
      refine ⟨_,rfl,.inl ⟨rfl,_,SqL.of e2⟩,_,rfl,a1,C,dx1,_,_,rfl,hA1,kit.cl,kit.name,C4,ln,_,_,rfl,rfl,e2,(by rw [List.length_map,List.length_take]; omega),?_⟩
      refine ⟨_,_,rfl,fun b o e => ?_,?_,?_,w2.imp fun _ _ r => r.upd e2 nn,hk⟩
      ·rw [Ak (Aj e hln)]; exact s2 _ _ e
      ·rw [Ac,A8 hn,List.map_append]; rfl
      ·rw [Ak n1]; exact e2'
     ·obtain rfl : i = bi := by omega
      rw [hbi] at hn
      cases hn
      rw [decide_eq_true hz2]
      refine iteT ⟨_,rfl,a1,C,dx1,_,_,rfl,hA1,kit.cl,kit.name,C4,_,rfl,fun a' dx' z1 z2 z3 => ⟨a',c.d,some dx',rfl,by rw [Ak (Ne.symm z3)]; exact Ac,X.xd.df.ok.mkk,XatF.go xx s2 z1 z2 z3⟩⟩
    ·rintro σ H2 ⟨v2,v3,rfl,s2,e2,e2',w2,hib⟩
     have := (List.getElem?_eq_some_iff.mp hbi).1
     rw [hrows.1,Cd] at hib
     omega
  | mn nd h30 =>
    refine ⟨_,(Ad (A3 (i := 1) A1.nd rfl (by trivial) (Am Ab))
     (Ad (Ck PassesOwn.leaving rfl (Be (Ay F_walked hr (by decide) rfl (Aa (pv 0) Ab))) (pg_tup rfl (A4 (Ao (i := 2) A1.nd rfl (by trivial)) (A4 (Ao (i := 3) A1.nd rfl (by trivial)) Cl))) (Ad (Bc (Bb op_in_seq (Cm (pv 3) rfl) (pv 1) (by with_unfolding_all rfl)) (Ae An) Ap)
     (Ae (At (C3 PySem.F.plainAttrs_list PySem.F.slot_list_append PySem.F.type_list_append Az (pv 1) (Aa (Cm (pv 3) rfl) Ab))))))
     (Ad (At (pe_fnX (E := E) F_nfpX ps hr (by decide) rfl (Aa (Ah Av rfl T.n_len boot_len (Aa (pv 1) Ab)) Ab)))
     (Ae An)))),?_⟩
    refine ⟨(by exact Z0),fun ln hln => ?_⟩
    generalize hq : upd H ln (.lst []) = H0
    have s0 := Nw hq hln
    have e0 := Ns hq
    refine ⟨_,rfl,a,d,rfl,hP.same s0,by omega,by omega,fun l rows H1 s1 f1 e1 hrows => ?_⟩
    have n1 : l ≠ ln := (Aj e0 f1).symm
    have nn : ∀ y,H0 y = none → y ≠ ln := fun y hy z => by rw [z,e0] at hy; cases hy
    refine ⟨l,rfl,⟨_,SqL.of e1⟩,B0 (K := K) (a := l) (xs := rows) (fun i σ H' => ∃ (v2 v3 : Option V),σ = [some (.ref a),some (.ref ln),v2,v3] ∧ Same H H' ∧ H' ln = some (.lst (((names d).take i).map V.str)) ∧ H' l = some (.lst rows) ∧ A2 (WRow (fun y => H0 y = none) C H') rows (walkP d))
     ⟨_,_,rfl,s0.trans s1,by simpa using s1 _ _ e0,e1,hrows⟩ (fun i σ H' _ ⟨_,_,_,_,_,e,_⟩ => SqL.of e) ?_ ?_⟩
    ·rintro i v σ H2 hv ⟨v2,v3,rfl,s2,e2,e2',w2⟩
     obtain ⟨y,hy,p,lr,a1,rfl,_,hp,_,dx1,po1,pb1,kt1,hA1,_⟩ := w2.at hv
     have hn : (names d)[i]? = some y.2.n := by unfold names; rw [List.getElem?_map,hy]; rfl
     obtain ⟨hil,hne⟩ := List.getElem?_eq_some_iff.mp hn
     refine ⟨p,_,rfl,SqT.of hp,rfl,_,_,rfl,_,_,rfl,rfl,?_⟩
     refine ⟨_,rfl,a1,C,dx1,_,_,rfl,hA1,kit.cl,kit.name,C4,_,rfl,ln,_,rfl,.inl (SqL.of e2),rfl,strs_flat _,_,rfl,?_⟩
     show if inV (.str y.2.n) (((names d).take i).map V.str) = true then _ else _
     rw [inV_str]
     have hnot : decide (y.2.n ∈ (names d).take i) = false := decide_eq_false fun m => by
      obtain ⟨j,hj,e⟩ := List.mem_iff_getElem.mp m
      rw [List.length_take] at hj
      rw [List.getElem_take] at e
      exact (List.pairwise_iff_getElem.mp nd) j i (by omega) hil (by omega) (by rw [e,hne])
     rw [hnot]
     refine iteF ?_
     refine ⟨_,rfl,.inl ⟨rfl,_,SqL.of e2⟩,_,rfl,a1,C,dx1,_,_,rfl,hA1,kit.cl,kit.name,C4,ln,_,_,rfl,rfl,e2,(by rw [List.length_map,List.length_take]; omega),?_⟩
     refine ⟨_,_,rfl,fun b o e => ?_,?_,?_,w2.imp fun _ _ r => r.upd e2 nn⟩
     ·rw [Ak (Aj e hln)]; exact s2 _ _ e
     ·rw [Ac,A8 hn,List.map_append]; rfl
     ·rw [Ak n1]; exact e2'
    ·rintro σ H2 ⟨v2,v3,rfl,s2,e2,e2',w2⟩
     rw [hrows.1,Cd,← nl,List.take_length] at e2
     exact ⟨_,rfl,_,_,rfl,.inl ⟨_,SqL.of e2,rfl⟩,d.ks.size + 1,(by rw [List.length_map,nl]; rfl),h30,XatF.same xx s2⟩
  | dp nd h30 h6 =>
    refine ⟨_,(Ad (A3 (i := 1) A1.nd rfl (by trivial) (Am Ab))
     (Ad (Ck PassesOwn.leaving rfl (Be (Ay F_walked hr (by decide) rfl (Aa (pv 0) Ab))) (pg_tup rfl (A4 (Ao (i := 2) A1.nd rfl (by trivial)) (A4 (Ao (i := 3) A1.nd rfl (by trivial)) Cl))) (Ad (Bc (Bb op_in_seq (Cm (pv 3) rfl) (pv 1) (by with_unfolding_all rfl)) (Ae An) Ap)
     (Ae (At (C3 PySem.F.plainAttrs_list PySem.F.slot_list_append PySem.F.type_list_append Az (pv 1) (Aa (Cm (pv 3) rfl) Ab))))))
     (Ad (At (Ay F_nfp hr (by decide) rfl (Aa (Ah Av rfl T.n_len boot_len (Aa (pv 1) Ab)) Ab)))
     (Ae (At (pe_fnX (E := E) F_nndX ps hr (by decide) rfl (Aa (Ay F_dp hr (by decide) rfl (Aa (pv 0) Ab)) Ab))))))),?_⟩
    refine ⟨(by exact Z0),fun ln hln => ?_⟩
    generalize hq : upd H ln (.lst []) = H0
    have s0 := Nw hq hln
    have e0 := Ns hq
    refine ⟨_,rfl,a,d,rfl,hP.same s0,by omega,by omega,fun l rows H1 s1 f1 e1 hrows => ?_⟩
    have n1 : l ≠ ln := (Aj e0 f1).symm
    have nn : ∀ y,H0 y = none → y ≠ ln := fun y hy z => by rw [z,e0] at hy; cases hy
    refine ⟨l,rfl,⟨_,SqL.of e1⟩,B0 (K := K) (a := l) (xs := rows) (fun i σ H' => ∃ (v2 v3 : Option V),σ = [some (.ref a),some (.ref ln),v2,v3] ∧ Same H H' ∧ H' ln = some (.lst (((names d).take i).map V.str)) ∧ H' l = some (.lst rows) ∧ A2 (WRow (fun y => H0 y = none) C H') rows (walkP d))
     ⟨_,_,rfl,s0.trans s1,by simpa using s1 _ _ e0,e1,hrows⟩ (fun i σ H' _ ⟨_,_,_,_,_,e,_⟩ => SqL.of e) ?_ ?_⟩
    ·rintro i v σ H2 hv ⟨v2,v3,rfl,s2,e2,e2',w2⟩
     obtain ⟨y,hy,p,lr,a1,rfl,_,hp,_,dx1,po1,pb1,kt1,hA1,_⟩ := w2.at hv
     have hn : (names d)[i]? = some y.2.n := by unfold names; rw [List.getElem?_map,hy]; rfl
     obtain ⟨hil,hne⟩ := List.getElem?_eq_some_iff.mp hn
     refine ⟨p,_,rfl,SqT.of hp,rfl,_,_,rfl,_,_,rfl,rfl,?_⟩
     refine ⟨_,rfl,a1,C,dx1,_,_,rfl,hA1,kit.cl,kit.name,C4,_,rfl,ln,_,rfl,.inl (SqL.of e2),rfl,strs_flat _,_,rfl,?_⟩
     show if inV (.str y.2.n) (((names d).take i).map V.str) = true then _ else _
     rw [inV_str]
     have hnot : decide (y.2.n ∈ (names d).take i) = false := decide_eq_false fun m => by
      obtain ⟨j,hj,e⟩ := List.mem_iff_getElem.mp m
      rw [List.length_take] at hj
      rw [List.getElem_take] at e
      exact (List.pairwise_iff_getElem.mp nd) j i (by omega) hil (by omega) (by rw [e,hne])
     rw [hnot]
     refine iteF ?_
     refine ⟨_,rfl,.inl ⟨rfl,_,SqL.of e2⟩,_,rfl,a1,C,dx1,_,_,rfl,hA1,kit.cl,kit.name,C4,ln,_,_,rfl,rfl,e2,(by rw [List.length_map,List.length_take]; omega),?_⟩
     refine ⟨_,_,rfl,fun b o e => ?_,?_,?_,w2.imp fun _ _ r => r.upd e2 nn⟩
     ·rw [Ak (Aj e hln)]; exact s2 _ _ e
     ·rw [Ac,A8 hn,List.map_append]; rfl
     ·rw [Ak n1]; exact e2'
    ·rintro σ H2 ⟨v2,v3,rfl,s2,e2,e2',w2⟩
     rw [hrows.1,Cd,← nl,List.take_length] at e2
     refine ⟨_,rfl,_,_,rfl,.inl ⟨_,SqL.of e2,rfl⟩,_,rfl,by rw [List.length_map]; omega,?_⟩
     exact ⟨_,rfl,a,d,rfl,hP.same s2,by omega,by omega,fun H3 s3 => ⟨d.ks.ht + 1,rfl,h6,XatF.same xx (s2.trans s3)⟩⟩
inductive IBad (K : PySem.W.Frag) (C : Addr) (H : Hp) : V → V → V → Due → Prop
 | nm {vn vo vb : V} : Arg K H vn → (∀ z,vn = .str z → z.length ≤ 1000) → C8 vn = false → IBad K C H vn vo vb (.wd vn)
 | of {n : Str} {vo vb : V} : A6 n = true → OfBad K H vo → IBad K C H (.str n) vo vb (.of vo)
 | bn {n : Str} {vo vb : V} {o : List (Str × Nat)} {u : Due} : A6 n = true → OfArg H vo o → BnBad K C H vb u → IBad K C H (.str n) vo vb u
 | bd {n : Str} {vo vb : V} {o : List (Str × Nat)} {f : Fo} {its : List V} {u : Due} : A6 n = true → OfArg H vo o → BnArg C H vb f its → f.ht < 7 → f.size ≤ 1000 → BdBad ⟨n,o,f⟩ u → IBad K C H (.str n) vo vb u
def spPIX (K : PySem.W.Frag) (C : Addr) (c : Cs) : Sp := fun vs H _ E => ∃ (p dx : Addr) (vn vo vb : V) (u : Due) (H0 : Hp),vs = [.ref p,vn,vo,vb] ∧ H p = some (.ins C dx []) ∧ H0 p = none ∧ Same H0 H ∧ IBad K C H0 vn vo vb u ∧ XD c H0 E u
theorem ok_pinitX (kit : PKit K C) (X : Has P w K mg base c) (F_is_word : FnAt P w K mg base "is_word" 1 ["thing"] (spWord K)) (F_ko : FnAt P w K mg base "kept_offers" 4 ["offers"] spKO) (F_koX : FnAtX P w K mg base "kept_offers" 5 ["offers"] (spKOX K c)) (F_kb : FnAt P w K mg base "kept_beneath" 3 ["beneath"] (spKB C)) (F_kbX : FnAtX P w K mg base "kept_beneath" 5 ["beneath"] (spKBX K C c)) (F_nbX : FnAtX P w K mg base "need_bounds" 10 ["work"] (spNBX C c))
 {f : Addr} {fd : FuncData} (F : FunD K "__init__" "Part.__init__" Cu f fd) : FnOk P w K mg base (CXR P w) 12 f fd psP (spPIX K C c) := by
 refine F.okX scPart_init (fun vs H Q E h => ?_) (fun cdv A outer s H vs Q E hr h => ?_)
 ·obtain ⟨p,dx,vn,vo,vb,u,H0,rfl,_⟩ := h
  rfl
 ·obtain ⟨p,dx,vn,vo,vb,u,H0,rfl,hp,hp0,s0,hb,xx⟩ := h
  have ps : ∀ {N qual scope f cdv A outer s₀ H₀},Dx (CXR P w) (cxOf (CXR P w) P w K mg base N qual scope f cdv A outer s₀ H₀ E) E := passes_def fun _ _ h => h
  have up : ∀ {H1 : Hp} {fs : List (Str × V)},Same H0 H1 → Same H0 (upd H1 p (.ins C dx fs)) := fun s1 b o e => by rw [Ak (Aj e hp0)]; exact s1 b o e
  cases hb with
  | nm ha hl hw =>
    refine ⟨_,(Ad (Bc (Bg (Bj (Ay F_is_word hr (by decide) rfl (Aa (pv 1) Ab)))) (Ae (Da B8 hr.hd (pe_x X.xw hr (by decide) rfl (Aa (pv 1) Ab)))) Ap)
     (Ad An (Ad An (Ad An (Ae An))))),?_⟩
    refine ⟨_,rfl,vn,rfl,ha.same s0,hl,fun H1 s1 => ⟨_,rfl,?_⟩⟩
    rw [hw]
    exact iteT ⟨_,rfl,_,rfl,fun a dx' z1 z2 z3 => ⟨a,c.w,some dx',rfl,by rw [Ak (Ne.symm z3)]; exact Ac,X.xw.df.ok.mkk,XatF.go xx (s0.trans s1) z1 z2 z3⟩⟩
  | @of n vo vb hw hvo =>
    refine ⟨_,(Ad (Bc (Bg (Bj (Ay F_is_word hr (by decide) rfl (Aa (pv 1) Ab)))) (Ae An) Ap)
     (Ad (ps_fld (pv 0) (pv 1) rfl)
     (Ad (ps_fld (pv 0) (pe_fnX (E := E) F_koX ps hr (by decide) rfl (Aa (pv 2) Ab)) rfl)
     (Ad An (Ae An))))),?_⟩
    refine ⟨_,rfl,.str n,rfl,⟨.str,.str _⟩,(fun z e => by cases e; have := Cr hw; omega),fun H1 s1 => ⟨_,rfl,?_⟩⟩
    have wv : C8 (.str n) = true := hw
    rw [wv]
    refine iteF ?_
    have p1 := s1 _ _ hp
    refine ⟨_,rfl,_,rfl,p,C,dx,[],rfl,p1,kit.cl,kit.name,(by show 0 < 1000; decide),?_⟩
    have S2 : Same H0 (upd H1 p (.ins C dx (putF "name" (.str n) []))) := up (s0.trans s1)
    have p2 : upd H1 p (.ins C dx (putF "name" (.str n) [])) p = some (.ins C dx (putF "name" (.str n) [])) := Ac
    generalize upd H1 p (.ins C dx (putF "name" (.str n) [])) = H2 at S2 p2 ⊢
    exact ⟨_,rfl,vo,rfl,hvo.same S2,XatF.same xx S2⟩
  | @bn n vo vb o u hw hvo hvb =>
    refine ⟨_,(Ad (Bc (Bg (Bj (Ay F_is_word hr (by decide) rfl (Aa (pv 1) Ab)))) (Ae An) Ap)
     (Ad (ps_fld (pv 0) (pv 1) rfl)
     (Ad (ps_fld (pv 0) (Ay F_ko hr (by decide) rfl (Aa (pv 2) Ab)) rfl)
     (Ad (ps_fld (pv 0) (pe_fnX (E := E) F_kbX ps hr (by decide) rfl (Aa (pv 3) Ab)) rfl) (Ae An))))),?_⟩
    refine ⟨_,rfl,.str n,rfl,⟨.str,.str _⟩,(fun z e => by cases e; have := Cr hw; omega),fun H1 s1 => ⟨_,rfl,?_⟩⟩
    have wv : C8 (.str n) = true := hw
    rw [wv]
    refine iteF ?_
    have p1 := s1 _ _ hp
    refine ⟨_,rfl,_,rfl,p,C,dx,[],rfl,p1,kit.cl,kit.name,(by show 0 < 1000; decide),?_⟩
    have S2 : Same H0 (upd H1 p (.ins C dx (putF "name" (.str n) []))) := up (s0.trans s1)
    have p2 : upd H1 p (.ins C dx (putF "name" (.str n) [])) p = some (.ins C dx (putF "name" (.str n) [])) := Ac
    generalize upd H1 p (.ins C dx (putF "name" (.str n) [])) = H2 at S2 p2 ⊢
    refine ⟨_,rfl,vo,o,rfl,hvo.same S2,fun po H3 s3 e3 => ?_⟩
    have p3 := s3 _ _ p2
    refine ⟨_,rfl,p,C,dx,_,rfl,p3,kit.cl,kit.offers,(Nat.lt_of_le_of_lt (len_put _ _ (n := 0) (Nat.le_refl _)) (by decide)),?_⟩
    have S4 : Same H0 (upd H3 p (.ins C dx (putF "offers" (.ref po) (putF "name" (.str n) [])))) := up (S2.trans s3)
    have p4 : upd H3 p (.ins C dx (putF "offers" (.ref po) (putF "name" (.str n) []))) p = some (.ins C dx (putF "offers" (.ref po) (putF "name" (.str n) []))) := Ac
    have e4 := e3.ins (ob := .ins C dx (putF "offers" (.ref po) (putF "name" (.str n) []))) p3
    generalize upd H3 p (.ins C dx (putF "offers" (.ref po) (putF "name" (.str n) []))) = H4 at S4 p4 e4 ⊢
    exact ⟨_,rfl,vb,u,rfl,hvb.same S4,XatF.same xx S4⟩
  | @bd n vo vb o fo its u hw hvo hvb h7 hz hbd =>
    have hF : FAt C H0 fo its := by
     rcases hvb with ⟨_,rfl,rfl⟩ | ⟨_,_,_,h,_⟩ | ⟨_,_,_,h,_⟩
     ·rfl
     ·exact h
     ·exact h
    refine ⟨_,(Ad (Bc (Bg (Bj (Ay F_is_word hr (by decide) rfl (Aa (pv 1) Ab)))) (Ae An) Ap)
     (Ad (ps_fld (pv 0) (pv 1) rfl)
     (Ad (ps_fld (pv 0) (Ay F_ko hr (by decide) rfl (Aa (pv 2) Ab)) rfl)
     (Ad (ps_fld (pv 0) (Ay F_kb hr (by decide) rfl (Aa (pv 3) Ab)) rfl)
     (Ae (At (pe_fnX (E := E) F_nbX ps hr (by decide) rfl (Aa (pv 0) Ab)))))))),?_⟩
    refine ⟨_,rfl,.str n,rfl,⟨.str,.str _⟩,(fun z e => by cases e; have := Cr hw; omega),fun H1 s1 => ⟨_,rfl,?_⟩⟩
    have wv : C8 (.str n) = true := hw
    rw [wv]
    refine iteF ?_
    have p1 := s1 _ _ hp
    refine ⟨_,rfl,_,rfl,p,C,dx,[],rfl,p1,kit.cl,kit.name,(by show 0 < 1000; decide),?_⟩
    have S2 : Same H0 (upd H1 p (.ins C dx (putF "name" (.str n) []))) := up (s0.trans s1)
    have p2 : upd H1 p (.ins C dx (putF "name" (.str n) [])) p = some (.ins C dx (putF "name" (.str n) [])) := Ac
    generalize upd H1 p (.ins C dx (putF "name" (.str n) [])) = H2 at S2 p2 ⊢
    refine ⟨_,rfl,vo,o,rfl,hvo.same S2,fun po H3 s3 e3 => ?_⟩
    have p3 := s3 _ _ p2
    refine ⟨_,rfl,p,C,dx,_,rfl,p3,kit.cl,kit.offers,(Nat.lt_of_le_of_lt (len_put _ _ (n := 0) (Nat.le_refl _)) (by decide)),?_⟩
    have S4 : Same H0 (upd H3 p (.ins C dx (putF "offers" (.ref po) (putF "name" (.str n) [])))) := up (S2.trans s3)
    have p4 : upd H3 p (.ins C dx (putF "offers" (.ref po) (putF "name" (.str n) []))) p = some (.ins C dx (putF "offers" (.ref po) (putF "name" (.str n) []))) := Ac
    have e4 := e3.ins (ob := .ins C dx (putF "offers" (.ref po) (putF "name" (.str n) []))) p3
    generalize upd H3 p (.ins C dx (putF "offers" (.ref po) (putF "name" (.str n) []))) = H4 at S4 p4 e4 ⊢
    refine ⟨_,rfl,vb,fo,its,rfl,hvb.same S4,fun pb H5 s5 e5 => ?_⟩
    have p5 := s5 _ _ p4
    refine ⟨_,rfl,p,C,dx,_,rfl,p5,kit.cl,kit.beneath,(Nat.lt_of_le_of_lt (len_put _ _ (len_put _ _ (n := 0) (Nat.le_refl _))) (by decide)),?_⟩
    have S6 : Same H0 (upd H5 p (.ins C dx (pF n po pb))) := up (S4.trans s5)
    have hP : PAt C (upd H5 p (.ins C dx (pF n po pb))) p ⟨n,o,fo⟩ := ⟨dx,po,pb,its,Ac,hw,(e4.t (.of s5)).ins p5,by rw [Ak (ne_of e5 p5 (by intro z; cases z))]; exact e5,hF.t (.of S6)⟩
    generalize upd H5 p (.ins C dx (pF n po pb)) = H6 at S6 hP ⊢
    exact ⟨_,rfl,p,_,u,rfl,hP,h7,hz,hbd,XatF.same xx S6⟩
end
end K32
namespace K32
open PySem L2 PyProof.Rows PySem.SeqAt
theorem mro_B {K : PySem.W.Frag} {C G : Addr} (a : MroX K C G) : PySem.W.mroIn K C (.type "BaseException") = some true := by
 obtain ⟨cd,e1,e2⟩ := a.cd
 unfold PySem.W.mroIn
 rw [e1,Option.bind_some,e2]
 simp [bmVE]
theorem mro_X {K : PySem.W.Frag} {C D G : Addr} (a : MroX K C G) (hg : D ≠ G) : PySem.W.mroIn K C (.ref D) = some (decide (C = D)) := by
 obtain ⟨cd,e1,e2⟩ := a.cd
 unfold PySem.W.mroIn
 rw [e1,Option.bind_some,e2]
 by_cases h : C = D
 ·subst h
  simp
 ·simp [bmVE,Ne.symm hg,h,Ne.symm h,hg]
structure PMk (P : Program) (w : World) (K : PySem.W.Frag) (mg : Str → Option Value) (base : Heap) (C fP : Addr) (dP : FuncData) (c : Cs) : Prop where
 mP : mg "Part" = some (.ref C)
 kP : Mk K C fP
 oP : FnOk P w K mg base CX0 10 fP dP psP (spPI C)
 oX : FnOk P w K mg base (CXR P w) 12 fP dP psP (spPIX K C c)
 bP : Df K dP psP []
def spTold (K : PySem.W.Frag) (C : Addr) : Sp := fun vs H Q _ => ∃ vn vo vb : V,vs = [vn,vo,vb] ∧ ((∃ u,IBad K C H vn vo vb u ∧ ∀ (p : Addr) (H' : Hp),Same H H' → H' p = some (.tup [.str u.nm,u.val]) → Q (.ref p) H') ∨
 ∃ (n : Str) (o : List (Str × Nat)) (f : Fo) (its : List V),vn = .str n ∧ A6 n = true ∧ OfArg H vo o ∧ BnArg C H vb f its ∧ Bd ⟨n,o,f⟩ ∧ ∀ (a : Addr) (H' : Hp),Same H H' → PAt C H' a ⟨n,o,f⟩ → Q (.ref a) H')
section
variable {P : Program} {w : World} {K : PySem.W.Frag} {mg : Str → Option Value} {base : Heap} {C fP : Addr} {dP : FuncData} {c : Cs}
abbrev s_law_told : Stmt := top 55
theorem Ax : Ar ["_law_name_here","_law_offers_here","_law_beneath","_law_told_here","e"] ["_law_name_here","_law_offers_here","_law_beneath"] (Af s_law_told) := by trivial
theorem ok_told (X : Has P w K mg base c) (M : PMk P w K mg base C fP dP c) (F : Aq K mg "_law_told" s_law_told ["_law_name_here","_law_offers_here","_law_beneath"]) : FnAt P w K mg base "_law_told" 14 ["_law_name_here","_law_offers_here","_law_beneath"] (spTold K C) := by
 refine F.at Ax (fun vs H Q E h => ?_) (fun f cdv A outer s H vs Q E hr h => ?_)
 ·obtain ⟨vn,vo,vb,rfl,_⟩ := h
  rfl
 ·obtain ⟨vn,vo,vb,rfl,⟨u,hb,q⟩ | ⟨n,o,fo,its,rfl,hw,ho,hbn,bd,q⟩⟩ := h
  ·refine ⟨_,(Ad (A3 (i := 3) Ax.nd rfl (by trivial) C2)
    (Ad (ps_tryN rfl rfl
      (fun RX pn E' hc => Ae (A3 (i := 3) Ax.nd rfl (by trivial) (pe_makeT M.kP M.oX hc (hr.mono (by decide)) rfl M.mP M.bP .nil (Aa (pv 0) (Aa (pv 1) (Aa (pv 2) Ab))))))
      (phs_cons (i := 4) (D := c.w) Ax.nd rfl rfl rfl X.xw.df.mg X.mw.ty X.xw.df.ok.cls (mro_B X.mw) (fun a => Ae (A3 (i := 3) Ax.nd rfl (by trivial) (Ai (Aa Al (Aa (pe_xfldK K (pv 4)) Ab))))) (phs_cons (i := 4) (D := c.o) Ax.nd rfl rfl rfl X.xo.df.mg X.mo.ty X.xo.df.ok.cls (mro_B X.mo) (fun a => Ae (A3 (i := 3) Ax.nd rfl (by trivial) (Ai (Aa Al (Aa (pe_xfldK K (pv 4)) Ab))))) (phs_cons (i := 4) (D := c.b) Ax.nd rfl rfl rfl X.xb.df.mg X.mb.ty X.xb.df.ok.cls (mro_B X.mb) (fun a => Ae (A3 (i := 3) Ax.nd rfl (by trivial) (Ai (Aa Al (Aa (pe_xfldK K (pv 4)) Ab))))) (phs_cons (i := 4) (D := c.j) Ax.nd rfl rfl rfl X.xj.df.mg X.mj.ty X.xj.df.ok.cls (mro_B X.mj) (fun a => Ae (A3 (i := 3) Ax.nd rfl (by trivial) (Ai (Aa Al (Aa (pe_xfldK K (pv 4)) Ab))))) (phs_cons (i := 4) (D := c.d) Ax.nd rfl rfl rfl X.xd.df.mg X.md.ty X.xd.df.ok.cls (mro_B X.md) (fun a => Ae (A3 (i := 3) Ax.nd rfl (by trivial) (Ai (Aa Al (Aa (pe_xfldK K (pv 4)) Ab))))) (phs_cons (i := 4) (D := c.m) Ax.nd rfl rfl rfl X.xm.df.mg X.mm.ty X.xm.df.ok.cls (mro_B X.mm) (fun a => Ae (A3 (i := 3) Ax.nd rfl (by trivial) (Ai (Aa Al (Aa (pe_xfldK K (pv 4)) Ab))))) (phs_cons (i := 4) (D := c.e) Ax.nd rfl rfl rfl X.xe.df.mg X.me.ty X.xe.df.ok.cls (mro_B X.me) (fun a => Ae (A3 (i := 3) Ax.nd rfl (by trivial) (Ai (Aa Al (Aa (pe_xfldK K (pv 4)) Ab))))) phs_nil))))))))
    (Ae (As (pv 3))))),?_⟩
   obtain ⟨gw,gj,go,gb,gd,gm,ge⟩ := X.ng
   have nd := X.nd
   simp only [List.nodup_cons,List.mem_cons,List.not_mem_nil,or_false,not_or,not_false_eq_true,and_true,List.nodup_nil] at nd
   obtain ⟨⟨wj,wo,wb,wd,wm,we⟩,⟨jo,jb,jd,jm,je⟩,⟨ob,od,om,oe⟩,⟨bd',bm,be⟩,⟨dm,de⟩,me⟩ := nd
   refine ⟨_,rfl,_,rfl,_,rfl,fun p dx h1 h2 h3 => ?_⟩
   have s1 : Same H (upd (upd H dx (.own p)) p (.ins C dx [])) := fun b o e => by rw [Ak (Aj e h1),Ak (Aj e h2)]; exact e
   have e1 : upd (upd H dx (.own p)) p (.ins C dx []) p = some (.ins C dx []) := Ac
   generalize upd (upd H dx (.own p)) p (.ins C dx []) = H1 at s1 e1 ⊢
   refine ⟨p,dx,vn,vo,vb,u,H,rfl,e1,h1,s1,hb,fun a dx' H2 s2 y1 y2 => ⟨a,rfl,_,_,y1,?_⟩⟩
   have hx : ∀ {C' : Addr} {fd : Str} {v : V},H2 a = some (excR a C' (some dx')) → H2 dx' = some (.xd [(fd,v)]) → Exc H2 a C' dx' [(fd,v)] := fun h1 h2 => ⟨.inr h1,h2⟩
   have no : ∀ {C' D : Addr},MroX K C' c.g → D ≠ c.g → C' ≠ D → PySem.W.mroIn K C' (.ref D) = some false := fun m h1 h2 => by rw [mro_X m h1,decide_eq_false h2]
   have yes : ∀ {C' : Addr},MroX K C' c.g → C' ≠ c.g → PySem.W.mroIn K C' (.ref C') = some true := fun m h1 => by rw [mro_X m h1,decide_eq_true rfl]
   have fin : ∀ {σ : Str} (e : σ = u.nm),∀ p,H2 p = none → Q (.ref p) (upd H2 p (.tup [.str σ,u.val])) := fun e p hp => q p _ (s2.trans (Same.new hp)) (by rw [Ac,e])
   cases u with
   | wd _ => exact .inl ⟨yes X.mw gw,⟨_,rfl,a,c.w,dx',_,_,rfl,hx y1 y2,X.xw.df.ok,rfl,(by exact Z2),fun p hp => ⟨_,rfl,fin rfl p hp⟩⟩⟩
   | of _ => exact .inr ⟨no X.mo gw (Ne.symm wo),.inl ⟨yes X.mo go,⟨_,rfl,a,c.o,dx',_,_,rfl,hx y1 y2,X.xo.df.ok,rfl,(by exact Z2),fun p hp => ⟨_,rfl,fin rfl p hp⟩⟩⟩⟩
   | bn _ => exact .inr ⟨no X.mb gw (Ne.symm wb),.inr ⟨no X.mb go (Ne.symm ob),.inl ⟨yes X.mb gb,⟨_,rfl,a,c.b,dx',_,_,rfl,hx y1 y2,X.xb.df.ok,rfl,(by exact Z2),fun p hp => ⟨_,rfl,fin rfl p hp⟩⟩⟩⟩⟩
   | jn _ => exact .inr ⟨no X.mj gw (Ne.symm wj),.inr ⟨no X.mj go jo,.inr ⟨no X.mj gb jb,.inl ⟨yes X.mj gj,⟨_,rfl,a,c.j,dx',_,_,rfl,hx y1 y2,X.xj.df.ok,rfl,(by exact Z2),fun p hp => ⟨_,rfl,fin rfl p hp⟩⟩⟩⟩⟩⟩
   | db _ => exact .inr ⟨no X.md gw (Ne.symm wd),.inr ⟨no X.md go (Ne.symm od),.inr ⟨no X.md gb (Ne.symm bd'),.inr ⟨no X.md gj (Ne.symm jd),.inl ⟨yes X.md gd,⟨_,rfl,a,c.d,dx',_,_,rfl,hx y1 y2,X.xd.df.ok,rfl,(by exact Z2),fun p hp => ⟨_,rfl,fin rfl p hp⟩⟩⟩⟩⟩⟩⟩
   | mn _ => exact .inr ⟨no X.mm gw (Ne.symm wm),.inr ⟨no X.mm go (Ne.symm om),.inr ⟨no X.mm gb (Ne.symm bm),.inr ⟨no X.mm gj (Ne.symm jm),.inr ⟨no X.mm gd (Ne.symm dm),.inl ⟨yes X.mm gm,⟨_,rfl,a,c.m,dx',_,_,rfl,hx y1 y2,X.xm.df.ok,rfl,(by exact Z2),fun p hp => ⟨_,rfl,fin rfl p hp⟩⟩⟩⟩⟩⟩⟩⟩
   | dp _ => exact .inr ⟨no X.me gw (Ne.symm we),.inr ⟨no X.me go (Ne.symm oe),.inr ⟨no X.me gb (Ne.symm be),.inr ⟨no X.me gj (Ne.symm je),.inr ⟨no X.me gd (Ne.symm de),.inr ⟨no X.me gm (Ne.symm me),.inl ⟨yes X.me ge,⟨_,rfl,a,c.e,dx',_,_,rfl,hx y1 y2,X.xe.df.ok,rfl,(by exact Z2),fun p hp => ⟨_,rfl,fin rfl p hp⟩⟩⟩⟩⟩⟩⟩⟩⟩
  ·refine ⟨_,(Ad (A3 (i := 3) Ax.nd rfl (by trivial) C2)
    (Ad (ps_tryN rfl rfl
      (fun RX pn E' hc => Ae (A3 (i := 3) Ax.nd rfl (by trivial) (Ch M.kP M.oP (hr.mono (by decide)) rfl M.mP M.bP .nil Db (Aa (pv 0) (Aa (pv 1) (Aa (pv 2) Ab))))))
      phs_nil)
    (Ae (As (pv 3))))),?_⟩
   refine ⟨_,rfl,_,rfl,_,rfl,fun x dx fx fd fne => ?_⟩
   refine ⟨x,dx,vo,vb,n,o,fo,its,H,rfl,Ac,fx,fun b o e => by rw [Ak (Aj e fx),Ak (Aj e fd)]; exact e,hw,ho,hbn,bd,fun H3 s3 hP => ⟨rfl,_,rfl,q x H3 s3 hP⟩⟩
end
end K32
namespace K32
open PySem L2 PyProof.Rows PySem.SeqAt
def OddN (K : PySem.W.Frag) (H : Hp) (v : V) : Prop := Arg K H v ∧ (∀ z,v = .str z → z.length ≤ 1000) ∧ C8 v = false
theorem not_low {z : Str} {c : Nat} (h : c ∈ z.cps.toList) (hc : Dj c = false) : A6 z = false := by
 unfold A6
 rw [Bool.and_eq_false_iff]
 refine .inr ?_
 rw [Bool.eq_false_iff]
 intro ha
 have := List.all_eq_true.mp ha c h
 rw [hc] at this
 cases this
theorem app_list (a b : Str) : (a ++ b).cps.toList = a.cps.toList ++ b.cps.toList := by
 show (a.cps ++ b.cps).toList = _
 simp
theorem word_A (n : Str) : A6 (n ++ Str.ofString "A") = false := not_low (c := 65) (by rw [app_list]; exact List.mem_append_right _ (by decide +kernel)) (by decide)
theorem word_b (n : Str) : A6 (Str.ofString " " ++ n) = false := not_low (c := 32) (by rw [app_list]; exact List.mem_append_left _ (by decide +kernel)) (by decide)
section
variable {P : Program} {w : World} {K : PySem.W.Frag} {mg : Str → Option Value} {base : Heap}
def spNm (K : PySem.W.Frag) : Sp := fun vs H Q _ => ∃ (n : Str) (m : Int),vs = [.str n,.int m] ∧ A6 n = true ∧ ∀ (l : Addr) (v d : V) (H' : Hp),Same H H' → H' l = some (.lst [v,d]) → ((v = .str n ∧ d = .non) ∨ (OddN K H' v ∧ ∃ q,d = .ref q ∧ H' q = some (.tup [.str "word",v]))) → Q (.ref l) H'
abbrev s_law_name : Stmt := top 49
theorem sc_law_name : Ar ["_law_name_here","_law_number","_law_some"] ["_law_name_here","_law_number"] (Af s_law_name) := by trivial
theorem ok_name (F : Aq K mg "_law_name" s_law_name ["_law_name_here","_law_number"]) : FnAt P w K mg base "_law_name" 1 ["_law_name_here","_law_number"] (spNm K) := by
 refine F.at sc_law_name (fun vs H Q E h => ?_) (fun f cdv A outer s H vs Q E hr h => ?_)
 ·obtain ⟨n,m,rfl,_⟩ := h
  rfl
 ·obtain ⟨n,m,rfl,hw,q⟩ := h
  refine ⟨_,(Ad (A3 (i := 2) sc_law_name.nd rfl (by trivial) (Am (Aa C2 (Aa Al (Aa (A7 Cv (pv 0) Al) (Aa Al (Aa Ag (Aa (Am (Aa (pv 0) Ab)) (Aa pe_bl (Aa (Ai (Aa (pv 0) Ab)) (Aa (A7 Cv Al (pv 0)) (Aa pe_dnewK Ab))))))))))))
   (Ad (Bc (Bb op_lt (A7 Cf (pv 1) Ag) Ag (Ba _)) (Ae (As (Am (Aa (pv 0) (Aa C2 Ab))))) Ap)
   (Ae (As (Am (Aa (Bk A5 (pv 2) (A7 Cf (pv 1) Ag) (fun _ _ => rfl)) (Aa (Ai (Aa Al (Aa (Bk A5 (pv 2) (A7 Cf (pv 1) Ag) (fun _ _ => rfl)) Ab))) Ab))))))),?_⟩
  have hs : sizeLine = 16777216 := sizeLine_eq
  have wl := Cr hw
  have lA : (Str.ofString "A").length = 1 := by decide +kernel
  have lb : (Str.ofString " ").length = 1 := by decide +kernel
  refine ⟨_,rfl,n,_,rfl,rfl,(by rw [lA]; omega),_,rfl,(by exact Z1),fun l1 h1 => ?_⟩
  generalize hq : upd H l1 (.lst [.str n]) = H1
  have s1 := Nw hq h1
  have e1 := Ns hq
  refine ⟨_,rfl,(by exact Z1),fun t1 h2 => ?_⟩
  generalize hq : upd H1 t1 (.tup [.str n]) = H2
  have s2 := Nw hq h2
  have e2 := Ns hq
  refine ⟨_,rfl,_,n,rfl,rfl,(by rw [lb]; omega),fun d1 h3 => ?_⟩
  generalize hq : upd H2 d1 (.dK []) = H3
  have s3 := Nw hq h3
  have e3 := Ns hq
  refine ⟨(by exact Z10),fun ls hls => ?_⟩
  have s4 := Same.new (o := .lst [.non,.str "",.str (n ++ Str.ofString "A"),.str "abcdefghi",.int 7,.ref l1,.bl true,.ref t1,.str (Str.ofString " " ++ n),.ref d1]) hls
  have e4 : upd H3 ls (.lst [.non,.str "",.str (n ++ Str.ofString "A"),.str "abcdefghi",.int 7,.ref l1,.bl true,.ref t1,.str (Str.ofString " " ++ n),.ref d1]) ls = some (.lst [.non,.str "",.str (n ++ Str.ofString "A"),.str "abcdefghi",.int 7,.ref l1,.bl true,.ref t1,.str (Str.ofString " " ++ n),.ref d1]) := Ac
  have f1 := s4 _ _ (s3 _ _ (s2 _ _ e1))
  have f2 := s4 _ _ (s3 _ _ e2)
  have f3 := s4 _ _ e3
  generalize upd H3 ls (.lst [.non,.str "",.str (n ++ Str.ofString "A"),.str "abcdefghi",.int 7,.ref l1,.bl true,.ref t1,.str (Str.ofString " " ++ n),.ref d1]) = H4 at s4 e4 f1 f2 f3 ⊢
  have S4 := ((s1.trans s2).trans s3).trans s4
  refine ⟨_,rfl,_,_,rfl,rfl,(by show (0 : Int) < 20; decide),_,_,rfl,rfl,_,rfl,ite2 (fun _ => ?_) (fun _ => ?_)⟩
  ·refine ⟨_,rfl,(by exact Z2),fun l hl => ?_⟩
   exact q l _ _ _ (S4.trans (Same.new hl)) Ac (.inl ⟨rfl,rfl⟩)
  have all : ∀ v ∈ ([.non,.str "",.str (n ++ Str.ofString "A"),.str "abcdefghi",.int 7,.ref l1,.bl true,.ref t1,.str (Str.ofString " " ++ n),.ref d1] : List V),OddN K H4 v := by
   intro v hv
   simp only [List.mem_cons,List.not_mem_nil,or_false] at hv
   rcases hv with rfl | rfl | rfl | rfl | rfl | rfl | rfl | rfl | rfl | rfl
   ·exact ⟨⟨.non,.non⟩,(fun z e => by cases e),rfl⟩
   ·exact ⟨⟨.str,.str _⟩,(fun z e => by cases e; decide +kernel),by decide +kernel⟩
   ·exact ⟨⟨.str,.str _⟩,(fun z e => by cases e; rw [len_app,lA]; omega),word_A n⟩
   ·exact ⟨⟨.str,.str _⟩,(fun z e => by cases e; decide +kernel),by decide +kernel⟩
   ·exact ⟨⟨.int,.int _⟩,(fun z e => by cases e),rfl⟩
   ·exact ⟨⟨.lst,.lst f1⟩,(fun z e => by cases e),rfl⟩
   ·exact ⟨⟨.bl,.bl _⟩,(fun z e => by cases e),rfl⟩
   ·exact ⟨⟨.tup,.tup f2⟩,(fun z e => by cases e),rfl⟩
   ·exact ⟨⟨.str,.str _⟩,(fun z e => by cases e; rw [len_app,lb]; omega),word_b n⟩
   ·exact ⟨⟨.dct,.dK f3⟩,(fun z e => by cases e),rfl⟩
  have m0 : 0 ≤ m % 10 := Int.emod_nonneg _ (by decide)
  have m1 : m % 10 < 10 := Int.emod_lt_of_pos _ (by decide)
  obtain ⟨v,ev,hv⟩ := atI_ex (xs := ([.non,.str "",.str (n ++ Str.ofString "A"),.str "abcdefghi",.int 7,.ref l1,.bl true,.ref t1,.str (Str.ofString " " ++ n),.ref d1] : List V)) m0 m1
  have ov := all v hv
  refine ⟨_,rfl,_,rfl,_,_,rfl,rfl,(by show (0 : Int) < 10; decide),ls,_,_,v,rfl,rfl,SqL.of e4,ev,_,rfl,_,rfl,_,_,rfl,rfl,(by show (0 : Int) < 10; decide),ls,_,_,v,rfl,rfl,SqL.of e4,ev,(by exact Z2),fun t ht => ?_⟩
  generalize hq : upd H4 t (.tup [.str "word",v]) = H5
  have s5 := Nw hq ht
  have e5 := Ns hq
  refine ⟨(by exact Z2),fun l hl => ?_⟩
  have s6 := Same.new (o := .lst [v,.ref t]) hl
  exact q l v (.ref t) _ ((S4.trans s5).trans s6) Ac (.inr ⟨⟨ov.1.same (s5.trans s6),ov.2.1,ov.2.2⟩,t,rfl,s6 _ _ e5⟩)
end
end K32
namespace K32
open PySem L2 PyProof.Rows PySem.SeqAt
theorem nat_of {i : Int} {n : Nat} (h0 : 0 ≤ i) (h1 : i < n) : ∃ k : Nat,i = (k : Int) ∧ k < n := ⟨i.toNat,by omega,by omega⟩
theorem KArg.str {K : PySem.W.Frag} {H : Hp} (z : Str) : KArg K H (.str z) := ⟨⟨.str,.str _⟩,fun a ys e => by cases e⟩
theorem KArg.int {K : PySem.W.Frag} {H : Hp} (z : Int) : KArg K H (.int z) := ⟨⟨.int,.int _⟩,fun a ys e => by cases e⟩
theorem KArg.non {K : PySem.W.Frag} {H : Hp} : KArg K H .non := ⟨⟨.non,.non⟩,fun a ys e => by cases e⟩
theorem KArg.lst {K : PySem.W.Frag} {H : Hp} {p : Addr} {xs : List V} (h : H p = some (.lst xs)) : KArg K H (.ref p) := ⟨⟨.lst,.lst h⟩,fun a ys e h' => by cases e; rw [h] at h'; cases h'⟩
theorem KArg.tup {K : PySem.W.Frag} {H : Hp} {p : Addr} {xs : List V} (h : H p = some (.tup xs)) (hx : ∀ y ∈ xs,Arg K H y ∧ Short y) : KArg K H (.ref p) := ⟨⟨.tup,.tup h⟩,fun a ys e h' => by cases e; rw [h] at h'; cases h'; exact hx⟩
theorem as_str {K : PySem.W.Frag} {H : Hp} {z : Str} (h : z.length ≤ 1000) : Arg K H (.str z) ∧ Short (.str z) := ⟨⟨.str,.str _⟩,fun y e => by cases e; exact h⟩
theorem as_int {K : PySem.W.Frag} {H : Hp} (i : Int) : Arg K H (.int i) ∧ Short (.int i) := ⟨⟨.int,.int _⟩,fun y e => by cases e⟩
theorem as_bl {K : PySem.W.Frag} {H : Hp} (i : Bool) : Arg K H (.bl i) ∧ Short (.bl i) := ⟨⟨.bl,.bl _⟩,fun y e => by cases e⟩
theorem noKeys1 {K : PySem.W.Frag} {H : Hp} {x : V} (h1 : ∀ H',Same H H' → KArg K H' x) (h2 : ∀ H',Same H H' → keyV H' x = false) : NoKeys K H [x] := ⟨by show 1 ≤ 2; decide,fun y hy => by rw [List.mem_singleton] at hy; subst hy; exact h1,0,x,rfl,h2⟩
theorem key_tup2 {H : Hp} {p : Addr} {x y : V} (h : H p = some (.tup [x,y])) (hb : (C8 x && numV y) = false) : keyV H (.ref p) = false := by
 show (match H p with | some (.tup [x,y]) => C8 x && numV y | _ => false) = false
 rw [h]
 exact hb
theorem key_tup3 {H : Hp} {p : Addr} {x y z : V} (h : H p = some (.tup [x,y,z])) : keyV H (.ref p) = false := by
 show (match H p with | some (.tup [x,y]) => C8 x && numV y | _ => false) = false
 rw [h]
theorem key_lst {H : Hp} {p : Addr} {xs : List V} (h : H p = some (.lst xs)) : keyV H (.ref p) = false := by
 show (match H p with | some (.tup [x,y]) => C8 x && numV y | _ => false) = false
 rw [h]
def OfHand (K : PySem.W.Frag) (H : Hp) (v d : V) : Prop := (∃ o,OfArg H v o ∧ d = .non) ∨ (OfBad K H v ∧ Arg K H v ∧ ∃ q,d = .ref q ∧ H q = some (.tup [.str "offers",v]))
section
variable {P : Program} {w : World} {K : PySem.W.Frag} {mg : Str → Option Value} {base : Heap}
def spOfs (K : PySem.W.Frag) : Sp := fun vs H Q _ => ∃ (n : Str) (m : Int),vs = [.str n,.int m] ∧ A6 n = true ∧ ∀ (l : Addr) (v d : V) (H' : Hp),Same H H' → H' l = some (.lst [v,d]) → OfHand K H' v d → Q (.ref l) H'
abbrev Do : Stmt := top 50
theorem Bx : Ar ["_law_name_here","_law_number","_law_one","_law_other","_law_third","_law_good","_law_some"] ["_law_name_here","_law_number"] (Af Do) := by trivial
theorem ok_offers (F : Aq K mg "_law_offers" Do ["_law_name_here","_law_number"]) : FnAt P w K mg base "_law_offers" 1 ["_law_name_here","_law_number"] (spOfs K) := by
 refine F.at Bx (fun vs H Q E h => ?_) (fun f cdv A outer s H vs Q E hr h => ?_)
 ·obtain ⟨n,m,rfl,_⟩ := h
  rfl
 ·obtain ⟨n,m,rfl,hw,q⟩ := h
  refine ⟨_,(Ad (A3 (i := 2) Bx.nd rfl (by trivial) (Ai (Aa (pv 0) (Aa (A7 Cf (A7 op_fdiv (pv 1) Ag) Ag) Ab))))
   (Ad (A3 (i := 3) Bx.nd rfl (by trivial) (Ai (Aa (pv 0) (Aa (A7 Cf (A7 Ds (A7 op_fdiv (pv 1) Ag) Ag) Ag) Ab))))
   (Ad (A3 (i := 4) Bx.nd rfl (by trivial) (Ai (Aa (pv 0) (Aa (A7 Cf (A7 Ds (A7 op_fdiv (pv 1) Ag) Ag) Ag) Ab))))
   (Ad (A3 (i := 5) Bx.nd rfl (by trivial) (Bk A5 (Am (Aa (Ai Ab) (Aa (Am Ab) (Aa C2 (Aa (Ai (Aa (pv 2) Ab)) (Aa (Am (Aa (pv 2) (Aa (pv 3) Ab))) (Aa (Ai (Aa (pv 3) (Aa (pv 2) Ab))) Ab))))))) (A7 Cf (pv 1) Ag) (fun _ _ => rfl)))
   (Ad (A3 (i := 6) Bx.nd rfl (by trivial) (Am (Aa pe_bl (Aa (pv 0) (Aa Ag (Aa pe_dnewK (Aa (Am (Aa (pv 2) (Aa (pv 3) (Aa (pv 4) Ab)))) (Aa (Am (Aa (pv 2) (Aa (pv 2) Ab))) (Aa (Am (Aa (Ai (Aa (pv 0) (Aa Ag Ab))) Ab)) (Aa (Am (Aa (Ai (Aa Al (Aa Ag Ab))) Ab)) (Aa (Am (Aa (Ai (Aa (pv 0) (Aa pe_bl Ab))) Ab)) (Aa (Am (Aa (Am (Aa (pv 0) (Aa Ag Ab))) Ab)) Ab))))))))))))
   (Ad (A3 (i := 6) Bx.nd rfl (by trivial) (A7 op_cat (pv 6) (Am (Aa (pv 2) (Aa (Ai (Aa (pv 2) (Aa C2 Ab))) (Aa (Am (Aa (Ai (Aa (pv 0) (Aa (pe_un un_neg Ag) Ab))) Ab)) (Aa (Am (Aa (Ai (Aa (pv 0) (Aa Ag (Aa Ag Ab)))) Ab)) Ab)))))))
   (Ad (Bc (Bb op_lt (A7 Cf (pv 1) Ag) Ag (Ba _)) (Ae (As (Am (Aa (Bk A5 (pv 6) (A7 Cf (pv 1) Ag) (fun _ _ => rfl)) (Aa (Ai (Aa Al (Aa (Bk A5 (pv 6) (A7 Cf (pv 1) Ag) (fun _ _ => rfl)) Ab))) Ab))))) Ap)
   (Ae (As (Am (Aa (pv 5) (Aa C2 Ab)))))))))))),?_⟩
  have hs : sizeLine = 16777216 := sizeLine_eq
  have wl := Cr hw
  obtain ⟨a,ea,ha⟩ : ∃ a : Nat,m / 32 % 100 = (a : Int) ∧ a < 100 := nat_of (n := 100) (Int.emod_nonneg (m / 32) (by decide)) (Int.emod_lt_of_pos (m / 32) (by decide))
  obtain ⟨b,eb,hb⟩ : ∃ b : Nat,(m / 32 + 1) % 100 = (b : Int) ∧ b < 100 := nat_of (n := 100) (Int.emod_nonneg (m / 32 + 1) (by decide)) (Int.emod_lt_of_pos (m / 32 + 1) (by decide))
  obtain ⟨c3,ec,hc⟩ : ∃ c3 : Nat,(m / 32 + 2) % 100 = (c3 : Int) ∧ c3 < 100 := nat_of (n := 100) (Int.emod_nonneg (m / 32 + 2) (by decide)) (Int.emod_lt_of_pos (m / 32 + 2) (by decide))
  have nab : a ≠ b := by omega
  have g0 : 0 ≤ m % 6 := Int.emod_nonneg _ (by decide)
  have g1 : m % 6 < 6 := Int.emod_lt_of_pos _ (by decide)
  refine ⟨_,rfl,_,rfl,_,_,rfl,rfl,⟨by decide,by decide⟩,_,_,rfl,rfl,(by show (0 : Int) < 100; decide),(by exact Z2),fun p1 h_p1 => ?_⟩
  have s1 := Same.new (o := .tup [.str n,.int (m / 32 % 100)]) h_p1
  have e1 : upd H p1 (.tup [.str n,.int (m / 32 % 100)]) p1 = some (.tup [.str n,.int (a : Nat)]) := by rw [Ac,ea]
  generalize upd H p1 (.tup [.str n,.int (m / 32 % 100)]) = H1 at s1 e1 ⊢
  have S1 := s1
  refine ⟨_,rfl,_,rfl,_,_,rfl,rfl,⟨by decide,by decide⟩,_,_,rfl,rfl,_,_,rfl,rfl,(by show (0 : Int) < 100; decide),(by exact Z2),fun p2 h_p2 => ?_⟩
  have s2 := Same.new (o := .tup [.str n,.int ((m / 32 + 1) % 100)]) h_p2
  have e2 : upd H1 p2 (.tup [.str n,.int ((m / 32 + 1) % 100)]) p2 = some (.tup [.str n,.int (b : Nat)]) := by rw [Ac,eb]
  generalize upd H1 p2 (.tup [.str n,.int ((m / 32 + 1) % 100)]) = H2 at s2 e2 ⊢
  have S2 := S1.trans s2
  refine ⟨_,rfl,_,rfl,_,_,rfl,rfl,⟨by decide,by decide⟩,_,_,rfl,rfl,_,_,rfl,rfl,(by show (0 : Int) < 100; decide),(by exact Z2),fun p3 h_p3 => ?_⟩
  have s3 := Same.new (o := .tup [.str n,.int ((m / 32 + 2) % 100)]) h_p3
  have e3 : upd H2 p3 (.tup [.str n,.int ((m / 32 + 2) % 100)]) p3 = some (.tup [.str n,.int (c3 : Nat)]) := by rw [Ac,ec]
  generalize upd H2 p3 (.tup [.str n,.int ((m / 32 + 2) % 100)]) = H3 at s3 e3 ⊢
  have S3 := S2.trans s3
  refine ⟨(by exact Z0),fun t0 h_t0 => ?_⟩
  generalize hq : upd H3 t0 (.tup []) = H4
  have s4 := Nw hq h_t0
  have e4 := Ns hq
  have S4 := S3.trans s4
  refine ⟨(by exact Z0),fun l0 h_l0 => ?_⟩
  generalize hq : upd H4 l0 (.lst []) = H5
  have s5 := Nw hq h_l0
  have e5 := Ns hq
  have S5 := S4.trans s5
  refine ⟨_,rfl,(by exact Z1),fun t3 h_t3 => ?_⟩
  generalize hq : upd H5 t3 (.tup [.ref p1]) = H6
  have s6 := Nw hq h_t3
  have e6 := Ns hq
  have S6 := S5.trans s6
  refine ⟨_,rfl,_,rfl,(by exact Z2),fun l4 h_l4 => ?_⟩
  generalize hq : upd H6 l4 (.lst [.ref p1,.ref p2]) = H7
  have s7 := Nw hq h_l4
  have e7 := Ns hq
  have S7 := S6.trans s7
  refine ⟨_,rfl,_,rfl,(by exact Z2),fun t5 h_t5 => ?_⟩
  generalize hq : upd H7 t5 (.tup [.ref p2,.ref p1]) = H8
  have s8 := Nw hq h_t5
  have e8 := Ns hq
  have S8 := S7.trans s8
  refine ⟨(by exact Z6),fun lg h_lg => ?_⟩
  generalize hq : upd H8 lg (.lst [.ref t0,.ref l0,.non,.ref t3,.ref l4,.ref t5]) = H9
  have s9 := Nw hq h_lg
  have e9 := Ns hq
  have S9 := S8.trans s9
  obtain ⟨vg,evg,hvg⟩ := atI_ex (xs := ([.ref t0,.ref l0,.non,.ref t3,.ref l4,.ref t5] : List V)) g0 g1
  refine ⟨_,rfl,_,_,rfl,rfl,(by show (0 : Int) < 6; decide),lg,_,_,vg,rfl,rfl,SqL.of e9,evg,?_⟩
  refine ⟨_,rfl,?_⟩
  intro d1 h_d1
  generalize hq : upd H9 d1 (.dK []) = H10
  have s10 := Nw hq h_d1
  have e10 := Ns hq
  have S10 := S9.trans s10
  refine ⟨_,rfl,_,rfl,_,rfl,(by exact Z3),fun l6 h_l6 => ?_⟩
  generalize hq : upd H10 l6 (.lst [.ref p1,.ref p2,.ref p3]) = H11
  have s11 := Nw hq h_l6
  have e11 := Ns hq
  have S11 := S10.trans s11
  refine ⟨_,rfl,_,rfl,(by exact Z2),fun l7 h_l7 => ?_⟩
  generalize hq : upd H11 l7 (.lst [.ref p1,.ref p1]) = H12
  have s12 := Nw hq h_l7
  have e12 := Ns hq
  have S12 := S11.trans s12
  refine ⟨_,rfl,(by exact Z2),fun p8 h_p8 => ?_⟩
  generalize hq : upd H12 p8 (.tup [.str n,.int 100]) = H13
  have s13 := Nw hq h_p8
  have e13 := Ns hq
  have S13 := S12.trans s13
  refine ⟨(by exact Z1),fun l8 h_l8 => ?_⟩
  generalize hq : upd H13 l8 (.lst [.ref p8]) = H14
  have s14 := Nw hq h_l8
  have e14 := Ns hq
  have S14 := S13.trans s14
  refine ⟨(by exact Z2),fun p9 h_p9 => ?_⟩
  generalize hq : upd H14 p9 (.tup [.str "A",.int 1]) = H15
  have s15 := Nw hq h_p9
  have e15 := Ns hq
  have S15 := S14.trans s15
  refine ⟨(by exact Z1),fun l9 h_l9 => ?_⟩
  generalize hq : upd H15 l9 (.lst [.ref p9]) = H16
  have s16 := Nw hq h_l9
  have e16 := Ns hq
  have S16 := S15.trans s16
  refine ⟨_,rfl,(by exact Z2),fun p10 h_p10 => ?_⟩
  generalize hq : upd H16 p10 (.tup [.str n,.bl true]) = H17
  have s17 := Nw hq h_p10
  have e17 := Ns hq
  have S17 := S16.trans s17
  refine ⟨(by exact Z1),fun l10 h_l10 => ?_⟩
  generalize hq : upd H17 l10 (.lst [.ref p10]) = H18
  have s18 := Nw hq h_l10
  have e18 := Ns hq
  have S18 := S17.trans s18
  refine ⟨_,rfl,(by exact Z2),fun q11 h_q11 => ?_⟩
  generalize hq : upd H18 q11 (.lst [.str n,.int 1]) = H19
  have s19 := Nw hq h_q11
  have e19 := Ns hq
  have S19 := S18.trans s19
  refine ⟨(by exact Z1),fun l11 h_l11 => ?_⟩
  generalize hq : upd H19 l11 (.lst [.ref q11]) = H20
  have s20 := Nw hq h_l11
  have e20 := Ns hq
  have S20 := S19.trans s20
  refine ⟨(by exact Z10),fun ls h_ls => ?_⟩
  generalize hq : upd H20 ls (.lst [.bl true,.str n,.int 7,.ref d1,.ref l6,.ref l7,.ref l8,.ref l9,.ref l10,.ref l11]) = H21
  have s21 := Nw hq h_ls
  have e21 := Ns hq
  have S21 := S20.trans s21
  refine ⟨_,rfl,_,rfl,_,rfl,(by exact Z2),fun t12 h_t12 => ?_⟩
  generalize hq : upd H21 t12 (.tup [.ref p1,.non]) = H22
  have s22 := Nw hq h_t12
  have e22 := Ns hq
  have S22 := S21.trans s22
  refine ⟨_,rfl,_,rfl,(by exact Z2),fun p13 h_p13 => ?_⟩
  generalize hq : upd H22 p13 (.tup [.str n,.int (-1)]) = H23
  have s23 := Nw hq h_p13
  have e23 := Ns hq
  have S23 := S22.trans s23
  refine ⟨(by exact Z1),fun l13 h_l13 => ?_⟩
  generalize hq : upd H23 l13 (.lst [.ref p13]) = H24
  have s24 := Nw hq h_l13
  have e24 := Ns hq
  have S24 := S23.trans s24
  refine ⟨_,rfl,(by exact Z3),fun p14 h_p14 => ?_⟩
  generalize hq : upd H24 p14 (.tup [.str n,.int 1,.int 2]) = H25
  have s25 := Nw hq h_p14
  have e25 := Ns hq
  have S25 := S24.trans s25
  refine ⟨(by exact Z1),fun l14 h_l14 => ?_⟩
  generalize hq : upd H25 l14 (.lst [.ref p14]) = H26
  have s26 := Nw hq h_l14
  have e26 := Ns hq
  have S26 := S25.trans s26
  refine ⟨(by exact Z4),fun lm h_lm => ?_⟩
  generalize hq : upd H26 lm (.lst [.ref p1,.ref t12,.ref l13,.ref l14]) = H27
  have s27 := Nw hq h_lm
  have e27 := Ns hq
  have S27 := S26.trans s27
  have q_ls : H27 ls = some (.lst [.bl true,.str n,.int 7,.ref d1,.ref l6,.ref l7,.ref l8,.ref l9,.ref l10,.ref l11]) := by exact s27 _ _ (s26 _ _ (s25 _ _ (s24 _ _ (s23 _ _ (s22 _ _ (e21))))))
  refine ⟨ls,lm,_,_,rfl,rfl,q_ls,e27,(by exact Z14),?_⟩
  intro lc h_lc
  generalize hq : upd H27 lc (.lst ([.bl true,.str n,.int 7,.ref d1,.ref l6,.ref l7,.ref l8,.ref l9,.ref l10,.ref l11] ++ [.ref p1,.ref t12,.ref l13,.ref l14])) = H28
  have s28 := Nw hq h_lc
  have e28 : H28 lc = some (.lst [.bl true,.str n,.int 7,.ref d1,.ref l6,.ref l7,.ref l8,.ref l9,.ref l10,.ref l11,.ref p1,.ref t12,.ref l13,.ref l14]) := Ns hq
  have S28 := S27.trans s28
  have T28 : Same H28 H28 := Same.refl _
  have T27 : Same H27 H28 := s28.trans T28
  have T26 : Same H26 H28 := s27.trans T27
  have T25 : Same H25 H28 := s26.trans T26
  have T24 : Same H24 H28 := s25.trans T25
  have T23 : Same H23 H28 := s24.trans T24
  have T22 : Same H22 H28 := s23.trans T23
  have T21 : Same H21 H28 := s22.trans T22
  have T20 : Same H20 H28 := s21.trans T21
  have T19 : Same H19 H28 := s20.trans T20
  have T18 : Same H18 H28 := s19.trans T19
  have T17 : Same H17 H28 := s18.trans T18
  have T16 : Same H16 H28 := s17.trans T17
  have T15 : Same H15 H28 := s16.trans T16
  have T14 : Same H14 H28 := s15.trans T15
  have T13 : Same H13 H28 := s14.trans T14
  have T12 : Same H12 H28 := s13.trans T13
  have T11 : Same H11 H28 := s12.trans T12
  have T10 : Same H10 H28 := s11.trans T11
  have T9 : Same H9 H28 := s10.trans T10
  have T8 : Same H8 H28 := s9.trans T9
  have T7 : Same H7 H28 := s8.trans T8
  have T6 : Same H6 H28 := s7.trans T7
  have T5 : Same H5 H28 := s6.trans T6
  have T4 : Same H4 H28 := s5.trans T5
  have T3 : Same H3 H28 := s4.trans T4
  have T2 : Same H2 H28 := s3.trans T3
  have T1 : Same H1 H28 := s2.trans T2
  have f_p1 := T1 _ _ e1
  have f_p2 := T2 _ _ e2
  have f_p3 := T3 _ _ e3
  have f_t0 := T4 _ _ e4
  have f_l0 := T5 _ _ e5
  have f_t3 := T6 _ _ e6
  have f_l4 := T7 _ _ e7
  have f_t5 := T8 _ _ e8
  have f_lg := T9 _ _ e9
  have f_d1 := T10 _ _ e10
  have f_l6 := T11 _ _ e11
  have f_l7 := T12 _ _ e12
  have f_p8 := T13 _ _ e13
  have f_l8 := T14 _ _ e14
  have f_p9 := T15 _ _ e15
  have f_l9 := T16 _ _ e16
  have f_p10 := T17 _ _ e17
  have f_l10 := T18 _ _ e18
  have f_q11 := T19 _ _ e19
  have f_l11 := T20 _ _ e20
  have f_ls := T21 _ _ e21
  have f_t12 := T22 _ _ e22
  have f_p13 := T23 _ _ e23
  have f_l13 := T24 _ _ e24
  have f_p14 := T25 _ _ e25
  have f_l14 := T26 _ _ e26
  have f_lm := T27 _ _ e27
  have f_lc := T28 _ _ e28
  have k1 : KeyR H28 p1 (n,a) := f_p1
  have k2 : KeyR H28 p2 (n,b) := f_p2
  have gd : OfArg H28 vg [] ∨ ∃ o,OfArg H28 vg o := by
   simp only [List.mem_cons,List.not_mem_nil,or_false] at hvg
   have ga : GoodO [(n,a)] := ⟨by simp,by simp,fun k hk => by rw [List.mem_singleton] at hk; subst hk; exact ⟨hw,ha⟩⟩
   have gab : GoodO [(n,a),(n,b)] := ⟨by simp,by simp [nab],fun k hk => by simp only [List.mem_cons,List.not_mem_nil,or_false] at hk; rcases hk with rfl | rfl; exact ⟨hw,ha⟩; exact ⟨hw,hb⟩⟩
   have gba : GoodO [(n,b),(n,a)] := ⟨by simp,by simp [Ne.symm nab],fun k hk => by simp only [List.mem_cons,List.not_mem_nil,or_false] at hk; rcases hk with rfl | rfl; exact ⟨hw,hb⟩; exact ⟨hw,ha⟩⟩
   rcases hvg with rfl | rfl | rfl | rfl | rfl | rfl
   ·exact .inr ⟨[],.inr (.inr ⟨t0,[],rfl,f_t0,A2.nil,goodNil⟩)⟩
   ·exact .inr ⟨[],.inr (.inl ⟨l0,[],rfl,f_l0,A2.nil,goodNil⟩)⟩
   ·exact .inr ⟨[],.inl ⟨rfl,rfl⟩⟩
   ·exact .inr ⟨_,.inr (.inr ⟨t3,[p1],rfl,f_t3,A2.one k1,ga⟩)⟩
   ·exact .inr ⟨_,.inr (.inl ⟨l4,[p1,p2],rfl,f_l4,(A2.one k2).cons k1,gab⟩)⟩
   ·exact .inr ⟨_,.inr (.inr ⟨t5,[p2,p1],rfl,f_t5,(A2.one k1).cons k2,gba⟩)⟩
  have gd : ∃ o,OfArg H28 vg o := gd.elim (fun h => ⟨_,h⟩) id
  refine ⟨_,rfl,_,_,rfl,rfl,(by show (0 : Int) < 31; decide),_,_,rfl,rfl,_,rfl,ite2 (fun hlt => ?_) (fun _ => ?_)⟩
  ·have hlt : m % 31 < 14 := of_decide_eq_true hlt
   have r0 : 0 ≤ m % 31 := Int.emod_nonneg _ (by decide)
   obtain ⟨v,ev,hv⟩ := atI_ex (xs := ([.bl true,.str n,.int 7,.ref d1,.ref l6,.ref l7,.ref l8,.ref l9,.ref l10,.ref l11,.ref p1,.ref t12,.ref l13,.ref l14] : List V)) r0 hlt
   have all : OfBad K H28 v ∧ Arg K H28 v := by
    simp only [List.mem_cons,List.not_mem_nil,or_false] at hv
    rcases hv with rfl | rfl | rfl | rfl | rfl | rfl | rfl | rfl | rfl | rfl | rfl | rfl | rfl | rfl
    ·exact ⟨.no (k := .bl) (.bl _) rfl (by decide),.bl,.bl _⟩
    ·exact ⟨.no (k := .str) (.str _) rfl (by decide),.str,.str _⟩
    ·exact ⟨.no (k := .int) (.int _) rfl (by decide),.int,.int _⟩
    ·exact ⟨.no (k := .dct) (.dK f_d1) rfl (by decide),.dct,.dK f_d1⟩
    ·exact ⟨.ll f_l6 ⟨by simp,by simp⟩,.lst,.lst f_l6⟩
    ·exact ⟨.l2 f_l7 k1 hw ha,.lst,.lst f_l7⟩
    ·exact ⟨.lk f_l8 (noKeys1 (fun H' s' => .tup (s' _ _ f_p8) fun y hy => by simp only [List.mem_cons,List.not_mem_nil,or_false] at hy; rcases hy with rfl | rfl; exact as_str (by omega); exact as_int _) fun H' s' => key_tup2 (s' _ _ f_p8) (by rw [Bool.and_eq_false_iff]; exact .inr (by decide))),.lst,.lst f_l8⟩
    ·exact ⟨.lk f_l9 (noKeys1 (fun H' s' => .tup (s' _ _ f_p9) fun y hy => by simp only [List.mem_cons,List.not_mem_nil,or_false] at hy; rcases hy with rfl | rfl; exact as_str (by decide +kernel); exact as_int _) fun H' s' => key_tup2 (s' _ _ f_p9) (by decide +kernel)),.lst,.lst f_l9⟩
    ·exact ⟨.lk f_l10 (noKeys1 (fun H' s' => .tup (s' _ _ f_p10) fun y hy => by simp only [List.mem_cons,List.not_mem_nil,or_false] at hy; rcases hy with rfl | rfl; exact as_str (by omega); exact as_bl _) fun H' s' => key_tup2 (s' _ _ f_p10) (by rw [Bool.and_eq_false_iff]; exact .inr rfl)),.lst,.lst f_l10⟩
    ·exact ⟨.lk f_l11 (noKeys1 (fun H' s' => .lst (s' _ _ f_q11)) fun H' s' => key_lst (s' _ _ f_q11)),.lst,.lst f_l11⟩
    ·exact ⟨.tk f_p1 ⟨by simp,fun x hx => by simp only [List.mem_cons,List.not_mem_nil,or_false] at hx; rcases hx with rfl | rfl; exact fun _ _ => .str _; exact fun _ _ => .int _,0,_,rfl,fun _ _ => rfl⟩,.tup,.tup f_p1⟩
    ·exact ⟨.tk f_t12 ⟨by simp,fun x hx => by simp only [List.mem_cons,List.not_mem_nil,or_false] at hx; rcases hx with rfl | rfl; exact fun H' s' => .tup (s' _ _ f_p1) (fun y hy => by simp only [List.mem_cons,List.not_mem_nil,or_false] at hy; rcases hy with rfl | rfl; exact as_str (by omega); exact as_int _); exact fun _ _ => .non,1,_,rfl,fun _ _ => rfl⟩,.tup,.tup f_t12⟩
    ·exact ⟨.lk f_l13 (noKeys1 (fun H' s' => .tup (s' _ _ f_p13) fun y hy => by simp only [List.mem_cons,List.not_mem_nil,or_false] at hy; rcases hy with rfl | rfl; exact as_str (by omega); exact as_int _) fun H' s' => key_tup2 (s' _ _ f_p13) (by rw [Bool.and_eq_false_iff]; exact .inr (by decide))),.lst,.lst f_l13⟩
    ·exact ⟨.lk f_l14 (noKeys1 (fun H' s' => .tup (s' _ _ f_p14) fun y hy => by simp only [List.mem_cons,List.not_mem_nil,or_false] at hy; rcases hy with rfl | rfl | rfl; exact as_str (by omega); exact as_int _; exact as_int _) fun H' s' => key_tup3 (s' _ _ f_p14)),.lst,.lst f_l14⟩
   refine ⟨_,rfl,_,rfl,_,_,rfl,rfl,(by show (0 : Int) < 31; decide),lc,_,_,v,rfl,rfl,SqL.of f_lc,ev,_,rfl,_,rfl,_,_,rfl,rfl,(by show (0 : Int) < 31; decide),lc,_,_,v,rfl,rfl,SqL.of f_lc,ev,(by exact Z2),fun t ht => ?_⟩
   have sa := Same.new (o := .tup [.str "offers",v]) ht
   have ea' : upd H28 t (.tup [.str "offers",v]) t = some (.tup [.str "offers",v]) := Ac
   generalize upd H28 t (.tup [.str "offers",v]) = HA at sa ea' ⊢
   refine ⟨(by exact Z2),fun l hl => ?_⟩
   have sb := Same.new (o := .lst [v,.ref t]) hl
   have sab := sa.trans sb
   exact q l v (.ref t) _ (S28.trans sab) Ac (.inr ⟨all.1.same sab,all.2.same sab,t,rfl,sb _ _ ea'⟩)
  ·obtain ⟨o,ho⟩ := gd
   refine ⟨_,rfl,(by exact Z2),fun l hl => ?_⟩
   have sb := Same.new (o := .lst [vg,.non]) hl
   exact q l vg .non _ (S28.trans sb) Ac (.inl ⟨o,ho.same sb,rfl⟩)
end
end K32
namespace K32
open PySem L2 PyProof.Rows PySem.SeqAt
inductive FoI where
 | nil
 | cons (j i : Nat) (ks r : FoI)
def FoI.fo (f : Nat → Str) : FoI → Fo
 | .nil => .nil
 | .cons j i ks r => .cons j (f i) [] (ks.fo f) (r.fo f)
def FoI.ixs : FoI → List Nat
 | .nil => []
 | .cons _ i ks r => i :: (ks.ixs ++ r.ixs)
def FoI.ht : FoI → Nat
 | .nil => 0
 | .cons _ _ ks r => max (ks.ht + 1) r.ht
def FoI.size : FoI → Nat
 | .nil => 0
 | .cons _ _ ks r => ks.size + 1 + r.size
def ndI (f : Nat → Str) (i : Nat) (g : FoI) : Nd := ⟨f i,[],g.fo f⟩
theorem fo_ht (f : Nat → Str) : ∀ g : FoI,(g.fo f).ht = g.ht
 | .nil => rfl
 | .cons j i ks r => by rw [FoI.fo,Fo.ht,FoI.ht,fo_ht f ks,fo_ht f r]
theorem fo_size (f : Nat → Str) : ∀ g : FoI,(g.fo f).size = g.size
 | .nil => rfl
 | .cons j i ks r => by rw [FoI.fo,Fo.size,FoI.size,fo_size f ks,fo_size f r]
theorem fo_names (f : Nat → Str) : ∀ g : FoI,(walkF (g.fo f)).map (fun y => y.2.n) = g.ixs.map f
 | .nil => rfl
 | .cons j i ks r => by
   have h1 := fo_names f ks
   have h2 := fo_names f r
   rw [FoI.fo,walkF,FoI.ixs,List.map_append,h2,List.map_map,List.map_cons,List.map_cons,List.map_append,← h1,List.cons_append]
   rfl
theorem nd_names (f : Nat → Str) (i : Nat) (o : List (Str × Nat)) (g : FoI) : names ⟨f i,o,g.fo f⟩ = (i :: g.ixs).map f := by
 unfold names walkP
 rw [List.map_cons,List.map_cons,fo_names]
def Inj (f : Nat → Str) : Prop := (∀ i,i < 34 → A6 (f i) = true) ∧ ∀ i j,i < 34 → j < 34 → f i = f j → i = j
theorem nodup_map {f : Nat → Str} (h : Inj f) {is : List Nat} (hl : ∀ i ∈ is,i < 34) (nd : is.Nodup) : (is.map f).Nodup := by
 rw [List.Nodup,List.pairwise_map]
 refine List.Pairwise.imp_of_mem ?_ nd
 intro a b ha hb ne e
 exact ne (h.2 a b (hl a ha) (hl b hb) e)
def okI (i : Nat) (g : FoI) : Bool := decide (∀ x ∈ i :: g.ixs,x < 34)
def bdI (i : Nat) (g : FoI) : Bool := okI i g && decide (i :: g.ixs).Nodup && decide (g.size + 1 ≤ 30) && decide (g.ht + 1 ≤ 6)
theorem bd_of {f : Nat → Str} (h : Inj f) {i : Nat} {g : FoI} {o : List (Str × Nat)} (hb : bdI i g = true) : Bd ⟨f i,o,g.fo f⟩ := by
 unfold bdI okI at hb
 simp only [Bool.and_eq_true,decide_eq_true_eq] at hb
 obtain ⟨⟨⟨h1,h2⟩,h3⟩,h4⟩ := hb
 refine ⟨?_,?_,?_⟩
 ·rw [nd_names]; exact nodup_map h h1 h2
 ·show (g.fo f).size + 1 ≤ 30; rw [fo_size]; exact h3
 ·show (g.fo f).ht + 1 ≤ 6; rw [fo_ht]; exact h4
def dbI (i : Nat) (g : FoI) (k x : Nat) : Bool := okI i g && decide ((i :: g.ixs)[k]? = some x) && decide (x ∈ (i :: g.ixs).take k) && decide ((i :: g.ixs).take k).Nodup
theorem db_of {f : Nat → Str} (h : Inj f) {i : Nat} {g : FoI} {o : List (Str × Nat)} {k x : Nat} (hb : dbI i g k x = true) : BdBad ⟨f i,o,g.fo f⟩ (.db (.str (f x))) := by
 unfold dbI okI at hb
 simp only [Bool.and_eq_true,decide_eq_true_eq] at hb
 obtain ⟨⟨⟨h1,h2⟩,h3⟩,h4⟩ := hb
 refine .db (i := k) ?_ ?_ ?_
 ·rw [nd_names,List.getElem?_map,h2]; rfl
 ·rw [nd_names,← List.map_take]; exact List.mem_map.mpr ⟨x,h3,rfl⟩
 ·rw [nd_names,← List.map_take]; exact nodup_map h (fun y hy => h1 y (List.mem_of_mem_take hy)) h4
def mnI (i : Nat) (g : FoI) (n : Nat) : Bool := okI i g && decide (i :: g.ixs).Nodup && decide (30 < n) && decide (g.size + 1 = n)
theorem mn_of {f : Nat → Str} (h : Inj f) {i : Nat} {g : FoI} {o : List (Str × Nat)} {n : Nat} (hb : mnI i g n = true) : BdBad ⟨f i,o,g.fo f⟩ (.mn n) := by
 unfold mnI okI at hb
 simp only [Bool.and_eq_true,decide_eq_true_eq] at hb
 obtain ⟨⟨⟨h1,h2⟩,h3⟩,h4⟩ := hb
 have e : (g.fo f).size + 1 = n := by rw [fo_size]; exact h4
 have := BdBad.mn (d := ⟨f i,o,g.fo f⟩) (by rw [nd_names]; exact nodup_map h h1 h2) (by show 30 < (g.fo f).size + 1; omega)
 rw [← e]
 exact this
def dpI (i : Nat) (g : FoI) (n : Nat) : Bool := okI i g && decide (i :: g.ixs).Nodup && decide (g.size + 1 ≤ 30) && decide (6 < n) && decide (g.ht + 1 = n)
theorem dp_of {f : Nat → Str} (h : Inj f) {i : Nat} {g : FoI} {o : List (Str × Nat)} {n : Nat} (hb : dpI i g n = true) : BdBad ⟨f i,o,g.fo f⟩ (.dp n) := by
 unfold dpI okI at hb
 simp only [Bool.and_eq_true,decide_eq_true_eq] at hb
 obtain ⟨⟨⟨⟨h1,h2⟩,h3⟩,h4⟩,h5⟩ := hb
 have e : (g.fo f).ht + 1 = n := by rw [fo_ht]; exact h5
 have := BdBad.dp (d := ⟨f i,o,g.fo f⟩) (by rw [nd_names]; exact nodup_map h h1 h2) (by show (g.fo f).size + 1 ≤ 30; rw [fo_size]; exact h3) (by show 6 < (g.fo f).ht + 1; omega)
 rw [← e]
 exact this
def wideF (j : Nat) : List Nat → FoI
 | [] => .nil
 | i :: r => .cons j i .nil (wideF j r)
def C7 : List Nat → FoI
 | [] => .nil
 | i :: r => .cons 2 i (C7 r) .nil
theorem wide_items (f : Nat → Str) (j : Nat) : ∀ is : List Nat,((wideF j is).fo f).items = is.map fun i => (j,ndI f i .nil)
 | [] => rfl
 | i :: r => by rw [wideF,FoI.fo,Fo.items,wide_items f j r]; rfl
theorem wide_bd : ∀ {is : List Nat} {i : Nat},(∀ x ∈ i :: is,x < 34) → (i :: is).Nodup → is.length ≤ 6 → bdI i (wideF 1 is) = true := by
 intro is i h1 h2 h3
 have e1 : (wideF 1 is).ixs = is := by
  clear h1 h2 h3
  induction is with
  | nil => rfl
  | cons x r ih => rw [wideF,FoI.ixs,ih]; rfl
 have e2 : (wideF 1 is).size = is.length := by
  clear h1 h2 h3 e1
  induction is with
  | nil => rfl
  | cons x r ih => rw [wideF,FoI.size,ih,List.length_cons]; show 0 + 1 + r.length = _; omega
 have e3 : (wideF 1 is).ht ≤ 1 := by
  clear h1 h2 h3 e1 e2
  induction is with
  | nil => exact Nat.zero_le _
  | cons x r ih => rw [wideF,FoI.ht]; show max (0 + 1) _ ≤ 1; omega
 unfold bdI okI
 rw [e1,e2]
 simp only [Bool.and_eq_true,decide_eq_true_eq]
 exact ⟨⟨⟨h1,h2⟩,by omega⟩,by omega⟩
theorem chain_bd : ∀ {is : List Nat} {i : Nat},(∀ x ∈ i :: is,x < 34) → (i :: is).Nodup → is.length ≤ 5 → bdI i (C7 is) = true := by
 intro is i h1 h2 h3
 have e1 : (C7 is).ixs = is := by
  clear h1 h2 h3
  induction is with
  | nil => rfl
  | cons x r ih => rw [C7,FoI.ixs,ih]; exact congrArg _ (List.append_nil _)
 have e2 : (C7 is).size = is.length := by
  clear h1 h2 h3 e1
  induction is with
  | nil => rfl
  | cons x r ih => rw [C7,FoI.size,ih,List.length_cons]; rfl
 have e3 : (C7 is).ht = is.length := by
  clear h1 h2 h3 e1 e2
  induction is with
  | nil => rfl
  | cons x r ih => rw [C7,FoI.ht,ih,List.length_cons]; exact Nat.max_eq_left (Nat.zero_le _)
 unfold bdI okI
 rw [e1,e2,e3]
 simp only [Bool.and_eq_true,decide_eq_true_eq]
 exact ⟨⟨⟨h1,h2⟩,by omega⟩,by omega⟩
section
variable {P : Program} {w : World} {K : PySem.W.Frag} {mg : Str → Option Value} {base : Heap} {C fP : Addr} {dP : FuncData} {c : Cs}
theorem leafP {H : Hp} {f : Nat → Str} (hf : Inj f) {i : Nat} (hi : i < 34) {x dx : Addr} (fx : H x = none) (fd : H dx = none) {R : VK} {E : XK} (q : ∀ H' : Hp,Same H H' → PAt C H' x (ndI f i .nil) → R .non H') :
 spPI C (.ref x :: ([.str (f i)] ++ [.non,.non])) (upd (upd H dx (.own x)) x (.ins C dx [])) R E :=
 ⟨x,dx,.non,.non,f i,[],.nil,[],H,rfl,Ac,fx,fun b o e => by rw [Ak (Aj e fx),Ak (Aj e fd)]; exact e,hf.1 i hi,.inl ⟨rfl,rfl⟩,.inl ⟨rfl,rfl,rfl⟩,bd_of (g := .nil) hf (by unfold bdI okI; simp [FoI.ixs,FoI.size,FoI.ht,hi]),q⟩
theorem nodeP {H : Hp} {f : Nat → Str} (hf : Inj f) {i : Nat} (hi : i < 34) {g : FoI} {to lb : Addr} {its : List V} (ht : H to = some (.tup [])) (hb : H lb = some (.lst its)) (hF : FAt C H (g.fo f) its) (h6 : its.length ≤ 6) (bd : bdI i g = true) {x dx : Addr} (fx : H x = none) (fd : H dx = none) {R : VK} {E : XK} (q : ∀ H' : Hp,Same H H' → PAt C H' x (ndI f i g) → R .non H') :
 spPI C (.ref x :: ([.str (f i),.ref to,.ref lb] ++ [])) (upd (upd H dx (.own x)) x (.ins C dx [])) R E :=
 ⟨x,dx,.ref to,.ref lb,f i,[],g.fo f,its,H,rfl,Ac,fx,fun b o e => by rw [Ak (Aj e fx),Ak (Aj e fd)]; exact e,hf.1 i hi,.inr (.inr ⟨to,[],rfl,ht,A2.nil,goodNil⟩),.inr (.inl ⟨lb,rfl,hb,hF,h6⟩),bd_of hf bd,q⟩
def spWide (C : Addr) : Sp := fun vs H Q _ => ∃ (l : Addr) (m : Nat) (f : Nat → Str) (ys : List Str) (i : Nat) (is : List Nat),vs = [.ref l,.int (m : Nat)] ∧ H l = some (.lst (ys.map V.str)) ∧ ys.take m = (i :: is).map f ∧ Inj f ∧ (∀ x ∈ i :: is,x < 34) ∧ (i :: is).Nodup ∧ is.length ≤ 6 ∧ ys.length ≤ 100 ∧ ∀ (a : Addr) (H' : Hp),Same H H' → PAt C H' a (ndI f i (wideF 1 is)) → Q (.ref a) H'
def spChain (C : Addr) : Sp := fun vs H Q _ => ∃ (l : Addr) (m : Nat) (f : Nat → Str) (ys : List Str) (i : Nat) (is : List Nat),vs = [.ref l,.int (m : Nat)] ∧ H l = some (.lst (ys.map V.str)) ∧ ys.take m = (i :: is).map f ∧ Inj f ∧ (∀ x ∈ i :: is,x < 34) ∧ (i :: is).Nodup ∧ is.length ≤ 5 ∧ ys.length ≤ 100 ∧ ∀ (a : Addr) (H' : Hp) (k : Nat) (ks : List Nat),(i :: is).reverse = k :: ks → Same H H' → PAt C H' a (ndI f k (C7 ks)) → Q (.ref a) H'
theorem cut1m {ys : List Str} {m : Nat} {z : Str} {r : List Str} (h : ys.take m = z :: r) : cutV (ys.map V.str) (some 1) (some (m : Int)) = r.map V.str := by
 cases ys with
 | nil => simp at h
 | cons y ys =>
   cases m with
   | zero => simp at h
   | succ m =>
     rw [List.take_succ_cons,List.cons.injEq] at h
     obtain ⟨rfl,rfl⟩ := h
     have e : HT.sIx (((y :: ys).map V.str).length) 0 (some 1) = 1 := by
      rw [show (1 : Int) = ((1 : Nat) : Int) from rfl,HT.sIx_nat,List.length_map,List.length_cons]
      omega
     unfold cutV
     rw [e,HT.sIx_nat,List.map_cons,List.drop_one,List.tail_cons,List.length_cons,List.length_map,List.map_take]
     by_cases hm : m ≤ ys.length
     ·rw [Nat.min_eq_left (by omega)]; rfl
     ·rw [Nat.min_eq_right (by omega),List.take_of_length_le (by rw [List.length_map]; omega),List.take_of_length_le (by rw [List.length_map]; omega)]
abbrev Du : Stmt := top 52
theorem sc_law_wide : Ar ["_law_names","_law_many"] ["_law_names","_law_many"] (Af Du) := by trivial
theorem ok_wide (M : PMk P w K mg base C fP dP c) (BD : Df K dP psP [.none,.none]) (F : Aq K mg "_law_wide" Du ["_law_names","_law_many"]) : FnAt P w K mg base "_law_wide" 13 ["_law_names","_law_many"] (spWide C) := by
 refine F.at sc_law_wide (fun vs H Q E h => ?_) (fun f cdv A outer s H vs Q E hr h => ?_)
 ·obtain ⟨l,m,f,ys,i,is,rfl,_⟩ := h
  rfl
 ·obtain ⟨l,m,f,ys,i,is,rfl,hl,htk,hf,h34,hnd,h6,h100,q⟩ := h
  have hB : Vals [.non,.non] [.none,.none] := .cons rfl (.cons rfl .nil)
  refine ⟨_,(Ae (As (Ch M.kP M.oP (hr.mono (by decide)) rfl M.mP M.bP .nil Db (Aa (Bk A5 (pv 0) Ag (fun _ _ => rfl)) (Aa (Ai Ab) (Aa (Bz (sc := Af Du) (N0 := ["_law_names","_law_many"]) (xs := ["_law_name_here"]) (ys := []) (js := []) (by trivial) rfl (Be (Bl Ca (pv 0) (Br Ag) (Br (pv 1)))) (fun _ _ _ _ => (Ao (i := 0) (show (["_law_name_here"] : List Str).Nodup by decide +kernel) rfl (by trivial))) (fun _ _ _ _ => B7) (fun _ _ _ _ => (Ai (Aa Al (Aa (Ch M.kP M.oP (hr.mono (by decide)) rfl M.mP BD hB Db (Aa (pv 0) Ab)) Ab))))) Ab)))))),?_⟩
  have hs : sizeLine = 16777216 := sizeLine_eq
  have h0 : (ys.map V.str)[0]? = some (.str (f i)) := by
   rw [List.getElem?_map]
   have : ys[0]? = some (f i) := by
    cases ys with
    | nil => simp at htk
    | cons y r =>
      cases m with
      | zero => simp at htk
      | succ m => rw [List.take_succ_cons,List.map_cons,List.cons.injEq] at htk; rw [htk.1]; rfl
   rw [this]; rfl
  refine ⟨_,rfl,l,_,_,V.str (f i),rfl,rfl,SqL.of hl,atI_nat (j := 0) h0,(by exact Z0),fun to hto => ?_⟩
  generalize hq : upd H to (.tup []) = H1
  have s1 := Nw hq hto
  have e1 := Ns hq
  refine ⟨_,rfl,_,rfl,_,rfl,_,rfl,l,_,rfl,SqL.of (s1 _ _ hl),fun cs hcs => ?_⟩
  rw [List.map_cons] at htk
  rw [cut1m htk]
  generalize hq : upd H1 cs (.lst ((is.map f).map V.str)) = H2
  have s2 := Nw hq hcs
  have e2 := Ns hq
  refine ⟨cs,rfl,⟨_,SqL.of e2⟩,B2 (K := K) (a := cs) (xs := (is.map f).map V.str) (fun k us H' => ∃ its : List V,us = its ∧ Same H2 H' ∧ A2 (JPAt C H') its ((is.take k).map fun x => (1,ndI f x .nil))) ⟨[],rfl,Same.refl _,A2.nil⟩ (by rw [List.length_map,List.length_map]; omega) ?_ ?_ ?_ ?_⟩
  ·rintro k us H' ⟨its,rfl,_,h⟩
   rw [h.1,List.length_map,List.length_take]; omega
  ·rintro k us H' _ ⟨_,_,s',_⟩
   exact SqL.of (s' _ _ e2)
  ·rintro k x us H' hx ⟨its,rfl,s',h⟩
   rw [List.getElem?_map,List.getElem?_map] at hx
   obtain ⟨z,hz,rfl⟩ := Option.map_eq_some_iff.mp hx
   obtain ⟨x,hxi,rfl⟩ := Option.map_eq_some_iff.mp hz
   refine ⟨_,rfl,fun a dx' z1 z2 _ => leafP hf (h34 x (List.mem_cons_of_mem _ (List.mem_of_getElem? hxi))) z1 z2 fun H3 s3 hP => ⟨rfl,?_⟩⟩
   refine ⟨(by exact Z2),fun t ht => ?_⟩
   have s4 := Same.new (o := .tup [.str (nm 1),.ref a]) ht
   refine ⟨us ++ [.ref t],rfl,(s'.trans s3).trans s4,?_⟩
   rw [A8 hxi,List.map_append]
   exact (h.imp fun _ _ e => e.t (.of (s3.trans s4))).app (A2.one ⟨t,a,rfl,Ac,by show 1 < 4; decide,hP.same s4⟩)
  ·rintro us H' ⟨its,rfl,s',h⟩ lb hlb
   rw [List.length_map,List.length_map,List.take_length] at h
   generalize hq : upd H' lb (.lst us) = H4
   have s4 := Nw hq hlb
   have e4 := Ns hq
   have S4 := ((s1.trans s2).trans s').trans s4
   have hF : FAt C H4 ((wideF 1 is).fo f) us := FAt.of (by rw [wide_items]; exact h.imp fun _ _ e => e.t (.of s4))
   refine fun a dx' z1 z2 _ => nodeP hf (h34 i List.mem_cons_self) (((s2.trans s').trans s4) _ _ e1) e4 hF (by rw [h.1,List.length_map]; exact h6) (wide_bd h34 hnd h6) z1 z2 fun H5 s5 hP => ⟨rfl,?_⟩
   exact q a H5 (S4.trans s5) hP
abbrev s_law_chain : Stmt := top 51
theorem Dm : Ar ["_law_names","_law_many","_law_part","_law_name_here"] ["_law_names","_law_many"] (Af s_law_chain) := by trivial
theorem ok_chain (M : PMk P w K mg base C fP dP c) (BD : Df K dP psP [.none,.none]) (F : Aq K mg "_law_chain" s_law_chain ["_law_names","_law_many"]) : FnAt P w K mg base "_law_chain" 13 ["_law_names","_law_many"] (spChain C) := by
 refine F.at Dm (fun vs H Q E h => ?_) (fun f cdv A outer s H vs Q E hr h => ?_)
 ·obtain ⟨l,m,f,ys,i,is,rfl,_⟩ := h
  rfl
 ·obtain ⟨l,m,f,ys,i,is,rfl,hl,htk,hf,h34,hnd,h6,h100,q⟩ := h
  have hB : Vals [.non,.non] [.none,.none] := .cons rfl (.cons rfl .nil)
  refine ⟨_,(Ad (A3 (i := 2) Dm.nd rfl (by trivial) (Ch M.kP M.oP (hr.mono (by decide)) rfl M.mP BD hB Db (Aa (Bk A5 (pv 0) Ag (fun _ _ => rfl)) Ab)))
   (Ad (Ck PassesOwn.never rfl (Be (Bl Ca (pv 0) (Br Ag) (Br (pv 1)))) (Ao (i := 3) Dm.nd rfl (by trivial)) (Ae (A3 (i := 2) Dm.nd rfl (by trivial) (Ch M.kP M.oP (hr.mono (by decide)) rfl M.mP M.bP .nil Db (Aa (pv 3) (Aa (Ai Ab) (Aa (Am (Aa (Ai (Aa Al (Aa (pv 2) Ab))) Ab)) Ab)))))))
   (Ae (As (pv 2))))),?_⟩
  have hs : sizeLine = 16777216 := sizeLine_eq
  have h0 : (ys.map V.str)[0]? = some (.str (f i)) := by
   rw [List.getElem?_map]
   have : ys[0]? = some (f i) := by
    cases ys with
    | nil => simp at htk
    | cons y r =>
      cases m with
      | zero => simp at htk
      | succ m => rw [List.take_succ_cons,List.map_cons,List.cons.injEq] at htk; rw [htk.1]; rfl
   rw [this]; rfl
  refine ⟨_,rfl,l,_,_,V.str (f i),rfl,rfl,SqL.of hl,atI_nat (j := 0) h0,fun a0 dx' z1 z2 _ => leafP hf (h34 i List.mem_cons_self) z1 z2 fun H1 s1 hP0 => ⟨rfl,?_⟩⟩
  refine ⟨_,rfl,_,rfl,_,rfl,_,rfl,l,_,rfl,SqL.of (s1 _ _ hl),fun cs hcs => ?_⟩
  rw [List.map_cons] at htk
  rw [cut1m htk]
  generalize hq : upd H1 cs (.lst ((is.map f).map V.str)) = H2
  have s2 := Nw hq hcs
  have e2 := Ns hq
  refine ⟨cs,rfl,⟨_,SqL.of e2⟩,B0 (K := K) (a := cs) (xs := (is.map f).map V.str) (fun k σ H' => ∃ (a : Addr) (v3 : Option V) (x : Nat) (xs : List Nat),σ = [some (.ref l),some (.int m),some (.ref a),v3] ∧ Same H2 H' ∧ (i :: is.take k).reverse = x :: xs ∧ PAt C H' a (ndI f x (C7 xs))) ⟨a0,_,i,[],rfl,Same.refl _,rfl,hP0.same s2⟩ (fun k σ H' _ ⟨_,_,_,_,_,s',_⟩ => SqL.of (s' _ _ e2)) ?_ ?_⟩
  ·rintro k v σ H3 hv ⟨a,v3,x,xs,rfl,s3,hrev,hP⟩
   rw [List.getElem?_map,List.getElem?_map] at hv
   obtain ⟨z,hz,rfl⟩ := Option.map_eq_some_iff.mp hv
   obtain ⟨y,hy,rfl⟩ := Option.map_eq_some_iff.mp hz
   have hrev2 : (i :: is.take (k + 1)).reverse = y :: x :: xs := by
    rw [A8 hy,← List.cons_append,List.reverse_append,hrev]
    rfl
   have hsub : ∀ u ∈ y :: x :: xs,u ∈ i :: is := fun u hu => by
    rw [← hrev2,List.mem_reverse] at hu
    rcases List.mem_cons.mp hu with rfl | hu
    ·exact List.mem_cons_self
    ·exact List.mem_cons_of_mem _ (List.mem_of_mem_take hu)
   have hnd2 : (y :: x :: xs).Nodup := by
    rw [← hrev2]
    exact (List.reverse_perm _).nodup_iff.mpr (List.Sublist.nodup (List.Sublist.cons_cons i (List.take_sublist _ _)) hnd)
   have hln : (x :: xs).length ≤ 5 := by
    have := congrArg List.length hrev
    rw [List.length_reverse,List.length_cons,List.length_take] at this
    have hk : k < is.length := (List.getElem?_eq_some_iff.mp hy).1
    omega
   refine ⟨_,rfl,(by exact Z0),fun to hto => ?_⟩
   generalize hq : upd H3 to (.tup []) = H4
   have s4 := Nw hq hto
   have e4 := Ns hq
   refine ⟨_,rfl,(by exact Z2),fun t ht => ?_⟩
   have s5 := Same.new (o := .tup [.str (nm 2),.ref a]) ht
   have e5 : upd H4 t (.tup [.str (nm 2),.ref a]) t = some (.tup [.str (nm 2),.ref a]) := Ac
   refine ⟨(by exact Z1),fun lb hlb => ?_⟩
   have s5' : Same H4 (upd H4 t (.tup [.str "joined",.ref a])) := s5
   have e5' : upd H4 t (.tup [.str "joined",.ref a]) t = some (.tup [.str (nm 2),.ref a]) := e5
   generalize upd H4 t (.tup [.str "joined",.ref a]) = H5 at s5' e5' hlb ⊢
   generalize hq : upd H5 lb (.lst [.ref t]) = H6
   have s6 := Nw hq hlb
   have e6 := Ns hq
   have S36 := (s4.trans s5').trans s6
   have hF : FAt C H6 ((C7 (x :: xs)).fo f) [.ref t] := FAt.of (A2.one ⟨t,a,rfl,s6 _ _ e5',by show 2 < 4; decide,hP.same S36⟩)
   refine fun a' dx' z1 z2 _ => nodeP hf (h34 y (hsub y List.mem_cons_self)) ((s5'.trans s6) _ _ e4) e6 hF (by show 1 ≤ 6; decide) (chain_bd (fun u hu => h34 u (hsub u hu)) hnd2 hln) z1 z2 fun H7 s7 hP7 => ⟨rfl,?_⟩
   exact ⟨a',_,y,x :: xs,rfl,(s3.trans S36).trans s7,hrev2,hP7⟩
  ·rintro σ H3 ⟨a,v3,x,xs,rfl,s3,hrev,hP⟩
   rw [List.length_map,List.length_map,List.take_length] at hrev
   exact ⟨_,rfl,q a H3 x xs hrev ((s1.trans s2).trans s3) hP⟩
end
end K32
namespace L2
open PySem PySem.Spec PyProof.Rows
theorem Like2.sm {K : PySem.W.Frag} {H H' : Hp} {x y : V} (h : Like2 K H x y) (s : Same H H') : Like2 K H' x y := by
 cases h with
 | same h => exact .same h
 | tups h1 h2 h3 => exact .tups (Same.tup s h1) (Same.tup s h2) h3
theorem Like3.sm {K : PySem.W.Frag} {H H' : Hp} {x y : V} (h : Like3 K H x y) (s : Same H H') : Like3 K H' x y := by
 cases h with
 | two h => exact .two (h.sm s)
 | lsts h1 h2 h3 =>
   refine .lsts (Same.seq s h1) (Same.seq s h2) ?_
   clear h1 h2
   induction h3 with
   | nil => exact .nil
   | cons h _ ih => exact .cons (h.sm s) ih
end L2
namespace K32
open PySem L2 PyProof.Rows PySem.SeqAt
def isB : V → Bool
 | .bl _ => true
 | _ => false
def C5 (K : PySem.W.Frag) (H : Hp) (u : Due) (d : V) : Prop := ∃ (q : Addr) (v : V),d = .ref q ∧ H q = some (.tup [.str u.nm,v]) ∧ Like3 K H u.val v ∧ Arg K H u.val ∧ Arg K H v ∧ isB u.val = isB v
theorem C5.same {K : PySem.W.Frag} {H H' : Hp} {u : Due} {d : V} (h : C5 K H u d) (s : Same H H') : C5 K H' u d := by
 obtain ⟨q,v,h1,h2,h3,h4,h5,h6⟩ := h
 exact ⟨q,v,h1,s _ _ h2,h3.sm s,h4.same s,h5.same s,h6⟩
theorem C5.it {K : PySem.W.Frag} {H : Hp} {u : Due} {q : Addr} (h : H q = some (.tup [.str u.nm,u.val])) (ha : Arg K H u.val) (hp : Plain u.val) : C5 K H u (.ref q) := ⟨q,u.val,rfl,h,.two (.same hp),ha,ha,rfl⟩
def BnU (K : PySem.W.Frag) (C : Addr) (f : Nat → Str) (H : Hp) (v : V) (u : Due) : Prop := BnBad K C H v u ∨ ∃ (its : List V) (g : FoI),BnArg C H v (g.fo f) its ∧ g.ht < 7 ∧ g.size ≤ 1000 ∧ ∀ o,BdBad ⟨f 0,o,g.fo f⟩ u
theorem BnU.same {K : PySem.W.Frag} {C : Addr} {f : Nat → Str} {H H' : Hp} {v : V} {u : Due} (h : BnU K C f H v u) (s : Same H H') : BnU K C f H' v u := by
 rcases h with h | ⟨its,g,h1,h2,h3,h4⟩
 ·exact .inl (h.same s)
 ·exact .inr ⟨its,g,h1.same s,h2,h3,h4⟩
def TE (K : PySem.W.Frag) (C : Addr) (f : Nat → Str) (H : Hp) (v d : V) : Prop := (∃ (its : List V) (g : FoI),BnArg C H v (g.fo f) its ∧ bdI 0 g = true ∧ d = .non) ∨ ∃ u,BnU K C f H v u ∧ C5 K H u d
theorem TE.same {K : PySem.W.Frag} {C : Addr} {f : Nat → Str} {H H' : Hp} {v d : V} (h : TE K C f H v d) (s : Same H H') : TE K C f H' v d := by
 rcases h with ⟨its,g,h1,h2,h3⟩ | ⟨u,h1,h2⟩
 ·exact .inl ⟨its,g,h1.same s,h2,h3⟩
 ·exact .inr ⟨u,h1.same s,h2.same s⟩
def TEr (K : PySem.W.Frag) (C : Addr) (f : Nat → Str) (H : Hp) (r : Addr) : Prop := ∃ v d,H r = some (.lst [v,d]) ∧ TE K C f H v d
theorem TEr.same {K : PySem.W.Frag} {C : Addr} {f : Nat → Str} {H H' : Hp} {r : Addr} (h : TEr K C f H r) (s : Same H H') : TEr K C f H' r := by
 obtain ⟨v,d,h1,h2⟩ := h
 exact ⟨v,d,s _ _ h1,h2.same s⟩
structure St (K : PySem.W.Frag) (C : Addr) (f : Nat → Str) (D H : Hp) (ls : Addr) (n : Nat) : Prop where
 dn : D ls = none
 eq : ∀ a,a ≠ ls → D a = H a
 rows : ∃ rs : List Addr,H ls = some (.lst (rs.map V.ref)) ∧ rs.length = n ∧ ∀ r ∈ rs,TEr K C f D r
section
variable {K : PySem.W.Frag} {C : Addr} {f : Nat → Str} {D H : Hp} {ls : Addr} {n : Nat}
theorem St.sub (h : St K C f D H ls n) : Same D H := fun a o e => by
 rw [← h.eq a (fun z => by rw [z,h.dn] at e; cases e)]
 exact e
theorem St.new (h : St K C f D H ls n) {x : Addr} {o : HO} (hx : H x = none) : D x = none ∧ St K C f (upd D x o) (upd H x o) ls n := by
 obtain ⟨rs,h1,h2,h3⟩ := h.rows
 have nx : x ≠ ls := fun z => by rw [z,h1] at hx; cases hx
 have dx : D x = none := by rw [h.eq x nx]; exact hx
 refine ⟨dx,by rw [Ak (Ne.symm nx)]; exact h.dn,fun a ha => ?_,rs,by rw [Ak (Ne.symm nx)]; exact h1,h2,fun r hr => (h3 r hr).same (Same.new dx)⟩
 by_cases e : a = x
 ·rw [e,Ac,Ac]
 ·rw [Ak e,Ak e]; exact h.eq a ha
theorem St.call (h : St K C f D H ls n) {H' : Hp} (s : Same H H') : ∃ D',St K C f D' H' ls n ∧ Same D D' ∧ TpIn H' D' := by
 obtain ⟨rs,h1,h2,h3⟩ := h.rows
 have e1 := s _ _ h1
 have sd : Same D (fun a => if a = ls then none else H' a) := fun a o e => by
  have na : a ≠ ls := fun z => by rw [z,h.dn] at e; cases e
  show (if a = ls then none else H' a) = some o
  rw [if_neg na]
  exact s _ _ (by rw [← h.eq a na]; exact e)
 refine ⟨fun a => if a = ls then none else H' a,⟨if_pos rfl,fun a ha => if_neg ha,rs,e1,h2,fun r hr => (h3 r hr).same sd⟩,sd,fun a o e k => ?_⟩
 show (if a = ls then none else H' a) = some o
 rw [if_neg (fun z => by rw [z,e1] at e; cases e; rcases k with ⟨_,z⟩ | ⟨_,_,_,z⟩ <;> cases z)]
 exact e
theorem St.app (h : St K C f D H ls n) {xs : List V} (e : H ls = some (.lst xs)) {r : Addr} (hr : TEr K C f D r) : St K C f D (upd H ls (.lst (xs ++ [.ref r]))) ls (n + 1) := by
 obtain ⟨rs,h1,h2,h3⟩ := h.rows
 rw [h1] at e
 cases e
 refine ⟨h.dn,fun a ha => by rw [Ak ha]; exact h.eq a ha,rs ++ [r],by rw [Ac,List.map_append]; rfl,by rw [List.length_append,h2]; rfl,fun x hx => ?_⟩
 rcases List.mem_append.mp hx with hx | hx
 ·exact h3 x hx
 ·rw [List.mem_singleton] at hx; rw [hx]; exact hr
theorem St.ln (h : St K C f D H ls n) : ∃ xs : List V,H ls = some (.lst xs) ∧ xs.length = n := by
 obtain ⟨rs,h1,h2,_⟩ := h.rows
 exact ⟨_,h1,by rw [List.length_map]; exact h2⟩
end
def nz (zs : List Str) (i : Nat) : Str := zs.getD i Str.empty
structure Nms (zs : List Str) : Prop where
 l : zs.length = 34
 w : ∀ z ∈ zs,A6 z = true
 n : zs.Nodup
theorem nz_at {zs : List Str} (h : Nms zs) {i : Nat} (hi : i < 34) : zs[i]? = some (nz zs i) := by
 have hl : i < zs.length := by rw [h.l]; exact hi
 unfold nz
 rw [List.getD_eq_getElem?_getD,List.getElem?_eq_getElem hl]
 rfl
theorem Nms.inj {zs : List Str} (h : Nms zs) : Inj (nz zs) := by
 refine ⟨fun i hi => h.w _ (List.mem_of_getElem? (nz_at h hi)),fun i j hi hj e => ?_⟩
 have h1 := nz_at h hi
 have h2 := nz_at h hj
 rw [e] at h1
 by_cases hij : i = j
 ·exact hij
 ·have li : i < zs.length := by rw [h.l]; exact hi
  have lj : j < zs.length := by rw [h.l]; exact hj
  rw [List.getElem?_eq_getElem li] at h1
  rw [List.getElem?_eq_getElem lj] at h2
  have e2 : zs[i] = zs[j] := by rw [Option.some.inj h1,Option.some.inj h2]
  exact absurd e2 (by
   have := List.pairwise_iff_getElem.mp h.n
   rcases Nat.lt_or_gt_of_ne hij with h | h
   ·exact this i j li lj h
   ·exact fun z => this j i lj li h z.symm)
theorem nz_ix {zs : List Str} (h : Nms zs) {i : Nat} (hi : i < 34) : atI (zs.map V.str) ((i : Nat) : Int) = some (.str (nz zs i)) := atI_nat (by rw [List.getElem?_map,nz_at h hi]; rfl)
theorem Dd {zs : List Str} (h : Nms zs) {k : Nat} (hk : k ≤ 34) : cutV (zs.map V.str) (some (k : Int)) none = (zs.drop k).map V.str := by
 unfold cutV
 rw [HT.sIx_nat,HT.sIx_none,List.length_map,h.l,Nat.min_eq_left hk,List.map_drop]
 exact List.take_of_length_le (by rw [List.length_drop,List.length_map,h.l]; omega)
theorem stretch_ix {zs : List Str} (h : Nms zs) : ∀ {m k : Nat},k + m ≤ 34 → (zs.drop k).take m = (List.range' k m).map (nz zs)
 | 0,k,_ => by simp
 | m + 1,k,hk => by
   have e : zs.drop k = nz zs k :: zs.drop (k + 1) := by
    have hl : k < zs.length := by rw [h.l]; omega
    rw [List.drop_eq_getElem_cons hl]
    congr 1
    have := nz_at h (i := k) (by omega)
    rw [List.getElem?_eq_getElem hl] at this
    exact Option.some.inj this
   rw [e,List.take_succ_cons,List.range'_succ,List.map_cons,stretch_ix h (by omega)]
theorem range34 {k m : Nat} (h : k + m ≤ 34) : ∀ x ∈ List.range' k m,x < 34 := fun x hx => by
 have := List.mem_range'_1.mp hx
 omega
end K32
namespace K32
open PySem L2 PyProof.Rows PySem.SeqAt
theorem St.start {K : PySem.W.Frag} {C : Addr} {f : Nat → Str} {H : Hp} {ls : Addr} (h : H ls = none) {rs : List Addr} (hr : ∀ r ∈ rs,TEr K C f H r) : St K C f H (upd H ls (.lst (rs.map V.ref))) ls rs.length :=
 ⟨h,fun a ha => by rw [Ak ha],rs,Ac,rfl,hr⟩
def wdI (j : Nat) : FoI := wideF 1 (List.range' (2 + 7 * j) 6)
def gG (r : FoI) : FoI := .cons 2 1 (wdI 0) (.cons 2 8 (wdI 1) (.cons 2 15 (wdI 2) (.cons 2 22 (wdI 3) r)))
def gG1 (r : FoI) : FoI := .cons 2 8 (wdI 1) (.cons 2 15 (wdI 2) (.cons 2 22 (wdI 3) r))
def gIt (f : Nat → Str) (j : Nat) : Nat × Nd := (2,ndI f (1 + 7 * j) (wdI j))
theorem its4 {α β : Type} {R : α → β → Prop} {xs : List α} {b0 b1 b2 b3 : β} (h : A2 R xs [b0,b1,b2,b3]) : ∃ x0 x1 x2 x3,xs = [x0,x1,x2,x3] ∧ R x0 b0 ∧ R x1 b1 ∧ R x2 b2 ∧ R x3 b3 := by
 match xs,h with
 | [x0,x1,x2,x3],h =>
   obtain ⟨a0,h⟩ := A2.inv h
   obtain ⟨a1,h⟩ := A2.inv h
   obtain ⟨a2,h⟩ := A2.inv h
   obtain ⟨a3,_⟩ := A2.inv h
   exact ⟨x0,x1,x2,x3,rfl,a0,a1,a2,a3⟩
 | [],h => have := h.1; simp at this
 | [_],h => have := h.1; simp at this
 | [_,_],h => have := h.1; simp at this
 | [_,_,_],h => have := h.1; simp at this
 | _ :: _ :: _ :: _ :: _ :: _,h => have := h.1; simp at this
section
variable {P : Program} {w : World} {K : PySem.W.Frag} {mg : Str → Option Value} {base : Heap} {C fP : Addr} {dP : FuncData} {c : Cs}
def spGreat (K : PySem.W.Frag) (C : Addr) : Sp := fun vs H Q _ => ∃ (ln : Addr) (zs : List Str),vs = [.ref ln] ∧ H ln = some (.lst (zs.map V.str)) ∧ Nms zs ∧ ∀ (l : Addr) (rs : List Addr) (H' : Hp),Same H H' → H' l = some (.lst (rs.map V.ref)) → rs.length = 6 → (∀ r ∈ rs,TEr K C (nz zs) H' r) → Q (.ref l) H'
abbrev nGr : List Str := ["_law_names","_law_many","_law_great_here","_law_deep","_law_some"]
abbrev Ct : Stmt := top 54
theorem C1 : Ar nGr ["_law_names"] (Af Ct) := by trivial
theorem ok_great (T : Txt mg) (M : PMk P w K mg base C fP dP c) (BD : Df K dP psP [.none,.none]) (F__law_wide : FnAt P w K mg base "_law_wide" 13 ["_law_names","_law_many"] (spWide C)) (F__law_chain : FnAt P w K mg base "_law_chain" 13 ["_law_names","_law_many"] (spChain C)) (F : Aq K mg "_law_great" Ct ["_law_names"]) : FnAt P w K mg base "_law_great" 14 ["_law_names"] (spGreat K C) := by
 refine F.at C1 (fun vs H Q E h => ?_) (fun fa cdv A outer s H vs Q E hr h => ?_)
 ·obtain ⟨ln,zs,rfl,_⟩ := h
  rfl
 ·obtain ⟨ln,zs,rfl,hln,hN,q⟩ := h
  have hB : Vals [.non,.non] [.none,.none] := .cons rfl (.cons rfl .nil)
  have hf : Inj (nz zs) := hN.inj
  refine ⟨_,(Ad (ps_setComp (i := 1) (sc := Af Ct) (N0 := nGr) (xs := ["_law_k"]) (ys := ["_law_names"]) (js := [0]) (by trivial) rfl C1.nd rfl rfl (pi_range1 rfl T.n_range (Aa Ag Ab)) (fun _ _ _ _ => (Ao (i := 0) (show (["_law_k","_law_names"] : List Str).Nodup by decide +kernel) rfl (by trivial))) (fun _ _ _ _ => B7) (fun _ _ _ _ => (Ay F__law_wide hr (by decide) rfl (Aa (Bl (sl_listK K rfl) (pv 1) (Br (A7 Ds Ag (A7 op_mul Ag (pv 0)))) Cb) (Aa Ag Ab)))))
   (Ad (ps_setComp (i := 2) (sc := Af Ct) (N0 := nGr) (xs := ["_law_part"]) (ys := []) (js := []) (by trivial) rfl C1.nd rfl rfl (Be (pv 1)) (fun _ _ _ _ => (Ao (i := 0) (show (["_law_part"] : List Str).Nodup by decide +kernel) rfl (by trivial))) (fun _ _ _ _ => B7) (fun _ _ _ _ => (Ai (Aa Al (Aa (pv 0) Ab)))))
   (Ad (A3 (i := 3) C1.nd rfl (by trivial) (Ay F__law_chain hr (by decide) rfl (Aa (Bl Ca (pv 0) (Br Ag) Cb) (Aa Ag Ab))))
   (Ad (A3 (i := 4) C1.nd rfl (by trivial) (Am (Aa (Am (Aa (A7 op_cat (pv 2) (Am (Aa (Ai (Aa Al (Aa (Ch M.kP M.oP (hr.mono (by decide)) rfl M.mP BD hB Db (Aa (Bk A5 (pv 0) Ag (fun _ _ => rfl)) Ab)) Ab))) Ab))) (Aa C2 Ab))) Ab)))
   (Ad (At (C3 PySem.F.plainAttrs_list PySem.F.slot_list_append PySem.F.type_list_append Az (pv 4) (Aa (Am (Aa (A7 op_cat (pv 2) (Am (Aa (Ai (Aa Al (Aa (Ay F__law_wide hr (by decide) rfl (Aa (Bl Ca (pv 0) (Br Ag) Cb) (Aa Ag Ab))) Ab))) Ab))) (Aa (Ai (Aa Al (Aa Ag Ab))) Ab))) Ab)))
   (Ad (At (C3 PySem.F.plainAttrs_list PySem.F.slot_list_append PySem.F.type_list_append Az (pv 4) (Aa (Am (Aa (A7 op_cat (pv 2) (Am (Aa (Ai (Aa Al (Aa (Ay F__law_wide hr (by decide) rfl (Aa (Am (Aa (Bk A5 (pv 0) Ag (fun _ _ => rfl)) (Aa (Bk A5 (pv 0) Ag (fun _ _ => rfl)) Ab))) (Aa Ag Ab))) Ab))) Ab))) (Aa (Ai (Aa Al (Aa (Bk A5 (pv 0) Ag (fun _ _ => rfl)) Ab))) Ab))) Ab)))
   (Ad (At (C3 PySem.F.plainAttrs_list PySem.F.slot_list_append PySem.F.type_list_append Az (pv 4) (Aa (Am (Aa (A7 op_cat (pv 2) (Am (Aa (Ai (Aa Al (Aa (Ay F__law_wide hr (by decide) rfl (Aa (Bl Ca (pv 0) (Br Ag) Cb) (Aa Ag Ab))) Ab))) Ab))) (Aa (Ai (Aa Al (Aa Ag Ab))) Ab))) Ab)))
   (Ad (At (C3 PySem.F.plainAttrs_list PySem.F.slot_list_append PySem.F.type_list_append Az (pv 4) (Aa (Am (Aa (Am (Aa (Ai (Aa Al (Aa (pv 3) Ab))) (Aa (Ai (Aa Al (Aa (Ch M.kP M.oP (hr.mono (by decide)) rfl M.mP BD hB Db (Aa (Bk A5 (pv 0) Ag (fun _ _ => rfl)) Ab)) Ab))) Ab))) (Aa (Ai (Aa Al (Aa (Bk A5 (pv 0) Ag (fun _ _ => rfl)) Ab))) Ab))) Ab)))
   (Ad (At (C3 PySem.F.plainAttrs_list PySem.F.slot_list_append PySem.F.type_list_append Az (pv 4) (Aa (Am (Aa (A7 op_cat (Bl Ca (pv 2) (Br Ag) Cb) (Am (Aa (Ai (Aa Al (Aa (pv 3) Ab))) (Aa (Ai (Aa Al (Aa (Ay F__law_wide hr (by decide) rfl (Aa (Bl Ca (pv 0) (Br Ag) Cb) (Aa Ag Ab))) Ab))) Ab)))) (Aa (Ai (Aa Al (Aa Ag Ab))) Ab))) Ab)))
   (Ae (As (pv 4)))))))))))),?_⟩
  have hs : sizeLine = 16777216 := sizeLine_eq
  generalize hfz : nz zs = f at hf
  have hz : ∀ {k m : Nat},k + m ≤ 34 → (zs.drop k).take m = (List.range' k m).map f := fun h => by rw [← hfz]; exact stretch_ix hN h
  have hx : ∀ {i : Nat},i < 34 → atI (zs.map V.str) ((i : Nat) : Int) = some (.str (f i)) := fun h => by rw [← hfz]; exact nz_ix hN h
  refine ⟨4,rfl,(by decide),(by decide),comp_range (n := 4) (fun k ys H' => ∃ as : List Addr,ys = as.map V.ref ∧ Same H H' ∧ A2 (fun a x => PAt C H' a x.2) as ((List.range k).map (gIt f))) ⟨[],rfl,Same.refl _,A2.nil⟩ (by decide) ?_ ?_ ?_⟩
  ·rintro k ys H' ⟨as,rfl,_,h⟩
   rw [List.length_map,h.1,List.length_map,List.length_range]; exact Nat.le_refl _
  ·rintro k ys H1 hk ⟨as,rfl,s1,h1⟩
   refine ⟨_,rfl,_,rfl,_,_,rfl,rfl,.inl ⟨by decide,by decide⟩,_,_,rfl,rfl,_,rfl,ln,_,rfl,SqL.of (s1 _ _ hln),fun cs hcs => ?_⟩
   rw [show (1 : Int) + 7 * (0 + (k : Int)) = ((1 + 7 * k : Nat) : Int) by omega,Dd hN (by omega)]
   generalize hq : upd H1 cs (.lst ((zs.drop (1 + 7 * k)).map V.str)) = H2
   have s2 := Nw hq hcs
   have e2 := Ns hq
   refine ⟨cs,7,f,_,1 + 7 * k,List.range' (2 + 7 * k) 6,rfl,e2,(by rw [hz (by omega),List.range'_succ,show 1 + 7 * k + 1 = 2 + 7 * k by omega]),hf,(fun x hx => ?_),?_,(by rw [List.length_range']; exact Nat.le_refl _),(by rw [List.length_drop,hN.l]; omega),fun a H3 s3 hP => ?_⟩
   ·rcases List.mem_cons.mp hx with rfl | hx
    ·omega
    ·exact range34 (by omega) x hx
   ·have := List.nodup_range' (s := 1 + 7 * k) (n := 7) (step := 1) (by decide)
    rw [List.range'_succ,show 1 + 7 * k + 1 = 2 + 7 * k by omega] at this
    exact this
   refine ⟨as ++ [a],by rw [List.map_append]; rfl,(s1.trans s2).trans s3,?_⟩
   rw [List.range_succ,List.map_append]
   exact (h1.imp fun _ _ e => e.same (s2.trans s3)).app (A2.one hP)
  rintro ys H1 ⟨as,rfl,s1,h1⟩ lm hlm
  generalize hq : upd H1 lm (.lst (as.map V.ref)) = H2
  have s2 := Nw hq hlm
  have e2 := Ns hq
  have h2 : A2 (fun a x => PAt C H2 a x.2) as ((List.range 4).map (gIt f)) := h1.imp fun _ _ e => e.same s2
  have al : as.length = 4 := by rw [h1.1,List.length_map,List.length_range]
  refine ⟨_,rfl,lm,rfl,⟨_,SqL.of e2⟩,B2 (K := K) (a := lm) (xs := as.map V.ref) (fun k ys H' => ∃ its : List V,ys = its ∧ Same H2 H' ∧ A2 (JPAt C H') its (((List.range 4).map (gIt f)).take k)) ⟨[],rfl,Same.refl _,A2.nil⟩ (by rw [List.length_map,al,hs]; decide) ?_ ?_ ?_ ?_⟩
  ·rintro k ys H' ⟨its,rfl,_,h⟩
   rw [h.1,List.length_take]; omega
  ·rintro k ys H' _ ⟨_,_,s',_⟩
   exact SqL.of (s' _ _ e2)
  ·rintro k x ys H' hx ⟨its,rfl,s',h⟩
   rw [List.getElem?_map] at hx
   obtain ⟨a,ha,rfl⟩ := Option.map_eq_some_iff.mp hx
   obtain ⟨y,hy,hP⟩ := h2.at ha
   have hy2 : y.1 = 2 := by
    rw [List.getElem?_map] at hy
    obtain ⟨_,_,rfl⟩ := Option.map_eq_some_iff.mp hy
    rfl
   refine ⟨_,rfl,(by exact Z2),fun t ht => ?_⟩
   have s3 := Same.new (o := .tup [.str (nm 2),.ref a]) ht
   refine ⟨ys ++ [.ref t],rfl,s'.trans s3,?_⟩
   rw [A8 hy]
   exact (h.imp fun _ _ e => e.t (.of s3)).app (A2.one ⟨t,a,rfl,by rw [hy2]; exact Ac,by rw [hy2]; decide,hP.same (s'.trans s3)⟩)
  rintro ys H3 ⟨its,rfl,s3,h3⟩ lg hlg
  rw [List.length_map,al] at h3
  have h3 : A2 (JPAt C H3) ys [gIt f 0,gIt f 1,gIt f 2,gIt f 3] := h3
  obtain ⟨t0,t1,t2,t3,rfl,j0,j1,j2,j3⟩ := its4 h3
  generalize hq : upd H3 lg (.lst [t0,t1,t2,t3]) = H4
  have s4 := Nw hq hlg
  have e4 := Ns hq
  have S4 := ((s1.trans s2).trans s3).trans s4
  refine ⟨_,rfl,_,rfl,ln,_,rfl,SqL.of (S4 _ _ hln),fun cs hcs => ?_⟩
  rw [show cutV (zs.map V.str) (some 1) none = (zs.drop 1).map V.str from Dd hN (k := 1) (by decide)]
  generalize hq : upd H4 cs (.lst ((zs.drop 1).map V.str)) = H5
  have s5 := Nw hq hcs
  have e5 := Ns hq
  refine ⟨cs,6,f,_,1,[2,3,4,5,6],rfl,e5,hz (k := 1) (m := 6) (by decide),hf,by decide,by decide,by decide,(by rw [List.length_drop,hN.l]; decide),fun ad H6 kk kks hrev s6 hPd => ?_⟩
  have hrev : [6,5,4,3,2,1] = kk :: kks := hrev
  cases hrev
  have s46 := s5.trans s6
  refine ⟨_,rfl,_,rfl,ln,_,_,_,rfl,rfl,SqL.of ((S4.trans s46) _ _ hln),hx (i := 29) (by decide),fun a29 dx' y1 y2 _ => leafP hf (by decide) y1 y2 fun H7 s7 hP29 => ⟨rfl,?_⟩⟩
  refine ⟨(by exact Z2),fun t29 h29 => ?_⟩
  have s8 := Same.new (o := .tup [.str (nm 0),.ref a29]) h29
  have e8 : upd H7 t29 (.tup [.str (nm 0),.ref a29]) t29 = some (.tup [.str (nm 0),.ref a29]) := Ac
  refine ⟨(by exact Z1),fun l29 hl29 => ?_⟩
  have s8' : Same H7 (upd H7 t29 (.tup [.str "called",.ref a29])) := s8
  have e8' : upd H7 t29 (.tup [.str "called",.ref a29]) t29 = some (.tup [.str (nm 0),.ref a29]) := e8
  generalize upd H7 t29 (.tup [.str "called",.ref a29]) = H8 at s8' e8' hl29 ⊢
  generalize hq : upd H8 l29 (.lst [.ref t29]) = H9
  have s9 := Nw hq hl29
  have e9 := Ns hq
  have s69 := (s7.trans s8').trans s9
  refine ⟨lg,l29,_,_,rfl,rfl,((s46.trans s69) _ _ e4),e9,(by exact Z5),fun b0 hb0 => ?_⟩
  have s10 := Same.new (o := .lst [t0,t1,t2,t3,.ref t29]) hb0
  have e10 : upd H9 b0 (.lst [t0,t1,t2,t3,.ref t29]) b0 = some (.lst [t0,t1,t2,t3,.ref t29]) := Ac
  refine ⟨(by exact Z2),fun r0 hr0 => ?_⟩
  have s10' : Same H9 (upd H9 b0 (.lst ([t0,t1,t2,t3] ++ [.ref t29]))) := s10
  have e10' : upd H9 b0 (.lst ([t0,t1,t2,t3] ++ [.ref t29])) b0 = some (.lst [t0,t1,t2,t3,.ref t29]) := e10
  generalize upd H9 b0 (.lst ([t0,t1,t2,t3] ++ [.ref t29])) = H10 at s10' e10' hr0 ⊢
  generalize hq : upd H10 r0 (.lst [.ref b0,.non]) = H11
  have s11 := Nw hq hr0
  have e11 := Ns hq
  have s911 := s10'.trans s11
  have s411 := (s46.trans s69).trans s911
  have s311 := s4.trans s411
  have te0 : TEr K C f H11 r0 := by
   refine ⟨_,_,e11,.inl ⟨[t0,t1,t2,t3,.ref t29],gG (.cons 0 29 .nil .nil),.inr (.inl ⟨b0,rfl,s11 _ _ e10',FAt.of ?_,(by show 5 ≤ 6; decide)⟩),by decide +kernel,rfl⟩⟩
   exact A2.cons (j0.t (.of s311)) (A2.cons (j1.t (.of s311)) (A2.cons (j2.t (.of s311)) (A2.cons (j3.t (.of s311)) (A2.one ⟨t29,a29,rfl,(s9.trans s911) _ _ e8',(by dsimp only; decide),hP29.same ((s8'.trans s9).trans s911)⟩))))
  refine ⟨(by exact Z1),fun ls hls => ?_⟩
  have st0 : St K C f H11 (upd H11 ls (.lst [.ref r0])) ls 1 := St.start (rs := [r0]) hls fun r hr => by rw [List.mem_singleton] at hr; rw [hr]; exact te0
  have cq : Same H H11 := S4.trans s411
  have c_ln := cq _ _ hln
  have c_lg := s411 _ _ e4
  have cpd := hPd.same (s69.trans s911)
  have ca : A2 (JPAt C H11) [t0,t1,t2,t3] [gIt f 0,gIt f 1,gIt f 2,gIt f 3] := h3.imp fun _ _ e => e.t (.of s311)
  generalize upd H11 ls (.lst [.ref r0]) = H0 at st0 ⊢
  generalize H11 = D0 at st0 cq c_ln c_lg cpd ca
  clear h1 h2 h3 e2 e4 e5 e8 e8' e9 e10 e10' e11 te0 s1 s2 s3 s4 s5 s6 s7 s8 s8' s9 s10 s10' s11 s46 s69 s911 s411 s311 S4 hPd hP29 j0 j1 j2 j3
  obtain ⟨xs0,ex0,_⟩ := st0.ln
  obtain ⟨j0,j1'⟩ := A2.inv ca; obtain ⟨j1,j2'⟩ := A2.inv j1'; obtain ⟨j2,j3'⟩ := A2.inv j2'; obtain ⟨j3,_⟩ := A2.inv j3'; clear j1' j2' j3'
  refine ⟨_,rfl,.inl ⟨rfl,_,SqL.of ex0⟩,_,rfl,?_⟩
  refine ⟨_,rfl,_,rfl,ln,_,rfl,SqL.of (st0.sub _ _ c_ln),?_⟩
  rw [show cutV (zs.map V.str) (some 29) none = (zs.drop 29).map V.str from Dd hN (k := 29) (by decide)]
  intro c_a h_c_a
  obtain ⟨n1,st1⟩ := st0.new (o := .lst ((zs.drop 29).map V.str)) h_c_a
  have d1 := Same.new (o := .lst ((zs.drop 29).map V.str)) n1
  have e_c_a : upd D0 c_a (.lst ((zs.drop 29).map V.str)) c_a = some (.lst ((zs.drop 29).map V.str)) := Ac
  generalize upd D0 c_a (.lst ((zs.drop 29).map V.str)) = D1 at st1 d1 e_c_a
  generalize upd H0 c_a (.lst ((zs.drop 29).map V.str)) = H1 at st1 ⊢
  refine ⟨c_a,2,f,_,29,[30],rfl,(st1.sub _ _ e_c_a),hz (k := 29) (m := 2) (by decide),hf,by decide,by decide,by decide,(by rw [List.length_drop,hN.l]; decide),fun a H2 s2 hP_a => ?_⟩
  obtain ⟨D2,st2,d2,tp2⟩ := st1.call s2
  have p_a := hP_a.t tp2
  refine ⟨(by exact Z2),fun t h_t => ?_⟩
  obtain ⟨n3,st3⟩ := st2.new (o := .tup [.str "called",.ref a]) h_t
  have d3 := Same.new (o := .tup [.str "called",.ref a]) n3
  have e_t : upd D2 t (.tup [.str "called",.ref a]) t = some (.tup [.str "called",.ref a]) := Ac
  generalize upd D2 t (.tup [.str "called",.ref a]) = D3 at st3 d3 e_t
  generalize upd H2 t (.tup [.str "called",.ref a]) = H3 at st3 ⊢
  refine ⟨(by exact Z1),fun l1 h_l1 => ?_⟩
  obtain ⟨n4,st4⟩ := st3.new (o := .lst [.ref t]) h_l1
  have d4 := Same.new (o := .lst [.ref t]) n4
  have e_l1 : upd D3 l1 (.lst [.ref t]) l1 = some (.lst [.ref t]) := Ac
  generalize upd D3 l1 (.lst [.ref t]) = D4 at st4 d4 e_l1
  generalize upd H3 l1 (.lst [.ref t]) = H4 at st4 ⊢
  refine ⟨lg,l1,_,_,rfl,rfl,(st4.sub _ _ ((d1.trans (d2.trans (d3.trans d4))) _ _ c_lg)),(st4.sub _ _ e_l1),(by exact Z5),?_⟩
  intro b h_b
  obtain ⟨n5,st5⟩ := st4.new (o := .lst ([t0,t1,t2,t3] ++ [.ref t])) h_b
  have d5 := Same.new (o := .lst ([t0,t1,t2,t3] ++ [.ref t])) n5
  have e_b : upd D4 b (.lst ([t0,t1,t2,t3] ++ [.ref t])) b = some (.lst ([t0,t1,t2,t3] ++ [.ref t])) := Ac
  generalize upd D4 b (.lst ([t0,t1,t2,t3] ++ [.ref t])) = D5 at st5 d5 e_b
  generalize upd H4 b (.lst ([t0,t1,t2,t3] ++ [.ref t])) = H5 at st5 ⊢
  refine ⟨(by exact Z2),fun qd h_qd => ?_⟩
  obtain ⟨n6,st6⟩ := st5.new (o := .tup [.str "many",.int 31]) h_qd
  have d6 := Same.new (o := .tup [.str "many",.int 31]) n6
  have e_qd : upd D5 qd (.tup [.str "many",.int 31]) qd = some (.tup [.str "many",.int 31]) := Ac
  generalize upd D5 qd (.tup [.str "many",.int 31]) = D6 at st6 d6 e_qd
  generalize upd H5 qd (.tup [.str "many",.int 31]) = H6 at st6 ⊢
  refine ⟨(by exact Z2),fun r h_r => ?_⟩
  obtain ⟨n7,st7⟩ := st6.new (o := .lst [.ref b,.ref qd]) h_r
  have d7 := Same.new (o := .lst [.ref b,.ref qd]) n7
  have e_r : upd D6 r (.lst [.ref b,.ref qd]) r = some (.lst [.ref b,.ref qd]) := Ac
  generalize upd D6 r (.lst [.ref b,.ref qd]) = D7 at st7 d7 e_r
  generalize upd H6 r (.lst [.ref b,.ref qd]) = H7 at st7 ⊢
  obtain ⟨ys7,ey7,el7⟩ := st7.ln
  have te7 : TEr K C f D7 r := ⟨_,_,e_r,.inr ⟨_,.inr ⟨[t0,t1,t2,t3,.ref t],gG (.cons 0 29 (wideF 1 [30]) .nil),.inr (.inl ⟨b,rfl,((d6.trans d7) _ _ e_b),FAt.of (A2.cons (j0.t (.of (d1.trans (d2.trans (d3.trans (d4.trans (d5.trans (d6.trans d7)))))))) (A2.cons (j1.t (.of (d1.trans (d2.trans (d3.trans (d4.trans (d5.trans (d6.trans d7)))))))) (A2.cons (j2.t (.of (d1.trans (d2.trans (d3.trans (d4.trans (d5.trans (d6.trans d7)))))))) (A2.cons (j3.t (.of (d1.trans (d2.trans (d3.trans (d4.trans (d5.trans (d6.trans d7)))))))) (A2.one ⟨t,a,rfl,((d4.trans (d5.trans (d6.trans d7))) _ _ e_t),(by dsimp only; decide),(p_a.same (d3.trans (d4.trans (d5.trans (d6.trans d7)))))⟩))))),(by show 5 ≤ 6; decide)⟩),by decide +kernel,by decide +kernel,fun o => mn_of hf (by decide +kernel)⟩,C5.it (u := .mn 31) (d7 _ _ e_qd) ⟨.int,.int _⟩ trivial⟩⟩
  refine ⟨ls,_,_,rfl,rfl,ey7,(by omega),?_⟩
  have sa7 := st7.app ey7 te7
  generalize upd H7 ls (.lst (ys7 ++ [.ref r])) = H8 at sa7 ⊢
  replace c_ln := ((d1.trans (d2.trans (d3.trans (d4.trans (d5.trans (d6.trans d7)))))) _ _ c_ln)
  replace c_lg := ((d1.trans (d2.trans (d3.trans (d4.trans (d5.trans (d6.trans d7)))))) _ _ c_lg)
  replace cpd := (cpd.same (d1.trans (d2.trans (d3.trans (d4.trans (d5.trans (d6.trans d7)))))))
  replace ca := ca.imp fun _ _ e => e.t (.of (d1.trans (d2.trans (d3.trans (d4.trans (d5.trans (d6.trans d7)))))))
  replace cq := cq.trans (d1.trans (d2.trans (d3.trans (d4.trans (d5.trans (d6.trans d7))))))
  have st8 := sa7
  have d8 := Same.refl D7
  obtain ⟨D8,hD8⟩ : ∃ D',D' = D7 := ⟨_,rfl⟩
  rw [← hD8] at st8 d8 c_ln c_lg cpd ca cq
  clear hD8
  clear j0 j1 j2 j3
  obtain ⟨xs8,ex8,_⟩ := st8.ln
  obtain ⟨j0,j1'⟩ := A2.inv ca; obtain ⟨j1,j2'⟩ := A2.inv j1'; obtain ⟨j2,j3'⟩ := A2.inv j2'; obtain ⟨j3,_⟩ := A2.inv j3'; clear j1' j2' j3'
  refine ⟨_,rfl,.inl ⟨rfl,_,SqL.of ex8⟩,_,rfl,?_⟩
  refine ⟨_,rfl,ln,_,_,_,rfl,rfl,SqL.of (st8.sub _ _ c_ln),hx (i := 29) (by decide),?_⟩
  refine ⟨_,rfl,ln,_,_,_,rfl,rfl,SqL.of (st8.sub _ _ c_ln),hx (i := 1) (by decide),?_⟩
  refine ⟨(by exact Z2),fun c_a h_c_a => ?_⟩
  obtain ⟨n9,st9⟩ := st8.new (o := .lst [.str (f 29),.str (f 1)]) h_c_a
  have d9 := Same.new (o := .lst [.str (f 29),.str (f 1)]) n9
  have e_c_a : upd D8 c_a (.lst [.str (f 29),.str (f 1)]) c_a = some (.lst [.str (f 29),.str (f 1)]) := Ac
  generalize upd D8 c_a (.lst [.str (f 29),.str (f 1)]) = D9 at st9 d9 e_c_a
  generalize upd H8 c_a (.lst [.str (f 29),.str (f 1)]) = H9 at st9 ⊢
  refine ⟨c_a,2,f,[f 29,f 1],29,[1],rfl,(st9.sub _ _ e_c_a),rfl,hf,by decide,by decide,by decide,(by show 2 ≤ 100; decide),fun a H10 s10 hP_a => ?_⟩
  obtain ⟨D10,st10,d10,tp10⟩ := st9.call s10
  have p_a := hP_a.t tp10
  refine ⟨(by exact Z2),fun t h_t => ?_⟩
  obtain ⟨n11,st11⟩ := st10.new (o := .tup [.str "called",.ref a]) h_t
  have d11 := Same.new (o := .tup [.str "called",.ref a]) n11
  have e_t : upd D10 t (.tup [.str "called",.ref a]) t = some (.tup [.str "called",.ref a]) := Ac
  generalize upd D10 t (.tup [.str "called",.ref a]) = D11 at st11 d11 e_t
  generalize upd H10 t (.tup [.str "called",.ref a]) = H11 at st11 ⊢
  refine ⟨(by exact Z1),fun l1 h_l1 => ?_⟩
  obtain ⟨n12,st12⟩ := st11.new (o := .lst [.ref t]) h_l1
  have d12 := Same.new (o := .lst [.ref t]) n12
  have e_l1 : upd D11 l1 (.lst [.ref t]) l1 = some (.lst [.ref t]) := Ac
  generalize upd D11 l1 (.lst [.ref t]) = D12 at st12 d12 e_l1
  generalize upd H11 l1 (.lst [.ref t]) = H12 at st12 ⊢
  refine ⟨lg,l1,_,_,rfl,rfl,(st12.sub _ _ ((d9.trans (d10.trans (d11.trans d12))) _ _ c_lg)),(st12.sub _ _ e_l1),(by exact Z5),?_⟩
  intro b h_b
  obtain ⟨n13,st13⟩ := st12.new (o := .lst ([t0,t1,t2,t3] ++ [.ref t])) h_b
  have d13 := Same.new (o := .lst ([t0,t1,t2,t3] ++ [.ref t])) n13
  have e_b : upd D12 b (.lst ([t0,t1,t2,t3] ++ [.ref t])) b = some (.lst ([t0,t1,t2,t3] ++ [.ref t])) := Ac
  generalize upd D12 b (.lst ([t0,t1,t2,t3] ++ [.ref t])) = D13 at st13 d13 e_b
  generalize upd H12 b (.lst ([t0,t1,t2,t3] ++ [.ref t])) = H13 at st13 ⊢
  refine ⟨_,rfl,ln,_,_,_,rfl,rfl,SqL.of (st13.sub _ _ ((d9.trans (d10.trans (d11.trans (d12.trans d13)))) _ _ c_ln)),hx (i := 1) (by decide),(by exact Z2),fun qd h_qd => ?_⟩
  obtain ⟨n14,st14⟩ := st13.new (o := .tup [.str "doubled",.str (f 1)]) h_qd
  have d14 := Same.new (o := .tup [.str "doubled",.str (f 1)]) n14
  have e_qd : upd D13 qd (.tup [.str "doubled",.str (f 1)]) qd = some (.tup [.str "doubled",.str (f 1)]) := Ac
  generalize upd D13 qd (.tup [.str "doubled",.str (f 1)]) = D14 at st14 d14 e_qd
  generalize upd H13 qd (.tup [.str "doubled",.str (f 1)]) = H14 at st14 ⊢
  refine ⟨(by exact Z2),fun r h_r => ?_⟩
  obtain ⟨n15,st15⟩ := st14.new (o := .lst [.ref b,.ref qd]) h_r
  have d15 := Same.new (o := .lst [.ref b,.ref qd]) n15
  have e_r : upd D14 r (.lst [.ref b,.ref qd]) r = some (.lst [.ref b,.ref qd]) := Ac
  generalize upd D14 r (.lst [.ref b,.ref qd]) = D15 at st15 d15 e_r
  generalize upd H14 r (.lst [.ref b,.ref qd]) = H15 at st15 ⊢
  obtain ⟨ys15,ey15,el15⟩ := st15.ln
  have te15 : TEr K C f D15 r := ⟨_,_,e_r,.inr ⟨_,.inr ⟨[t0,t1,t2,t3,.ref t],gG (.cons 0 29 (wideF 1 [1]) .nil),.inr (.inl ⟨b,rfl,((d14.trans d15) _ _ e_b),FAt.of (A2.cons (j0.t (.of (d9.trans (d10.trans (d11.trans (d12.trans (d13.trans (d14.trans d15)))))))) (A2.cons (j1.t (.of (d9.trans (d10.trans (d11.trans (d12.trans (d13.trans (d14.trans d15)))))))) (A2.cons (j2.t (.of (d9.trans (d10.trans (d11.trans (d12.trans (d13.trans (d14.trans d15)))))))) (A2.cons (j3.t (.of (d9.trans (d10.trans (d11.trans (d12.trans (d13.trans (d14.trans d15)))))))) (A2.one ⟨t,a,rfl,((d12.trans (d13.trans (d14.trans d15))) _ _ e_t),(by dsimp only; decide),(p_a.same (d11.trans (d12.trans (d13.trans (d14.trans d15)))))⟩))))),(by show 5 ≤ 6; decide)⟩),by decide +kernel,by decide +kernel,fun o => db_of (k := 30) (x := 1) hf (by decide +kernel)⟩,C5.it (u := .db (.str (f 1))) (d15 _ _ e_qd) ⟨.str,.str _⟩ trivial⟩⟩
  refine ⟨ls,_,_,rfl,rfl,ey15,(by omega),?_⟩
  have sa15 := st15.app ey15 te15
  generalize upd H15 ls (.lst (ys15 ++ [.ref r])) = H16 at sa15 ⊢
  replace c_ln := ((d9.trans (d10.trans (d11.trans (d12.trans (d13.trans (d14.trans d15)))))) _ _ c_ln)
  replace c_lg := ((d9.trans (d10.trans (d11.trans (d12.trans (d13.trans (d14.trans d15)))))) _ _ c_lg)
  replace cpd := (cpd.same (d9.trans (d10.trans (d11.trans (d12.trans (d13.trans (d14.trans d15)))))))
  replace ca := ca.imp fun _ _ e => e.t (.of (d9.trans (d10.trans (d11.trans (d12.trans (d13.trans (d14.trans d15)))))))
  replace cq := cq.trans (d9.trans (d10.trans (d11.trans (d12.trans (d13.trans (d14.trans d15))))))
  have st16 := sa15
  have d16 := Same.refl D15
  obtain ⟨D16,hD16⟩ : ∃ D',D' = D15 := ⟨_,rfl⟩
  rw [← hD16] at st16 d16 c_ln c_lg cpd ca cq
  clear hD16
  clear j0 j1 j2 j3
  obtain ⟨xs16,ex16,_⟩ := st16.ln
  obtain ⟨j0,j1'⟩ := A2.inv ca; obtain ⟨j1,j2'⟩ := A2.inv j1'; obtain ⟨j2,j3'⟩ := A2.inv j2'; obtain ⟨j3,_⟩ := A2.inv j3'; clear j1' j2' j3'
  refine ⟨_,rfl,.inl ⟨rfl,_,SqL.of ex16⟩,_,rfl,?_⟩
  refine ⟨_,rfl,_,rfl,ln,_,rfl,SqL.of (st16.sub _ _ c_ln),?_⟩
  rw [show cutV (zs.map V.str) (some 29) none = (zs.drop 29).map V.str from Dd hN (k := 29) (by decide)]
  intro c_a h_c_a
  obtain ⟨n17,st17⟩ := st16.new (o := .lst ((zs.drop 29).map V.str)) h_c_a
  have d17 := Same.new (o := .lst ((zs.drop 29).map V.str)) n17
  have e_c_a : upd D16 c_a (.lst ((zs.drop 29).map V.str)) c_a = some (.lst ((zs.drop 29).map V.str)) := Ac
  generalize upd D16 c_a (.lst ((zs.drop 29).map V.str)) = D17 at st17 d17 e_c_a
  generalize upd H16 c_a (.lst ((zs.drop 29).map V.str)) = H17 at st17 ⊢
  refine ⟨c_a,5,f,_,29,[30,31,32,33],rfl,(st17.sub _ _ e_c_a),hz (k := 29) (m := 5) (by decide),hf,by decide,by decide,by decide,(by rw [List.length_drop,hN.l]; decide),fun a H18 s18 hP_a => ?_⟩
  obtain ⟨D18,st18,d18,tp18⟩ := st17.call s18
  have p_a := hP_a.t tp18
  refine ⟨(by exact Z2),fun t h_t => ?_⟩
  obtain ⟨n19,st19⟩ := st18.new (o := .tup [.str "called",.ref a]) h_t
  have d19 := Same.new (o := .tup [.str "called",.ref a]) n19
  have e_t : upd D18 t (.tup [.str "called",.ref a]) t = some (.tup [.str "called",.ref a]) := Ac
  generalize upd D18 t (.tup [.str "called",.ref a]) = D19 at st19 d19 e_t
  generalize upd H18 t (.tup [.str "called",.ref a]) = H19 at st19 ⊢
  refine ⟨(by exact Z1),fun l1 h_l1 => ?_⟩
  obtain ⟨n20,st20⟩ := st19.new (o := .lst [.ref t]) h_l1
  have d20 := Same.new (o := .lst [.ref t]) n20
  have e_l1 : upd D19 l1 (.lst [.ref t]) l1 = some (.lst [.ref t]) := Ac
  generalize upd D19 l1 (.lst [.ref t]) = D20 at st20 d20 e_l1
  generalize upd H19 l1 (.lst [.ref t]) = H20 at st20 ⊢
  refine ⟨lg,l1,_,_,rfl,rfl,(st20.sub _ _ ((d17.trans (d18.trans (d19.trans d20))) _ _ c_lg)),(st20.sub _ _ e_l1),(by exact Z5),?_⟩
  intro b h_b
  obtain ⟨n21,st21⟩ := st20.new (o := .lst ([t0,t1,t2,t3] ++ [.ref t])) h_b
  have d21 := Same.new (o := .lst ([t0,t1,t2,t3] ++ [.ref t])) n21
  have e_b : upd D20 b (.lst ([t0,t1,t2,t3] ++ [.ref t])) b = some (.lst ([t0,t1,t2,t3] ++ [.ref t])) := Ac
  generalize upd D20 b (.lst ([t0,t1,t2,t3] ++ [.ref t])) = D21 at st21 d21 e_b
  generalize upd H20 b (.lst ([t0,t1,t2,t3] ++ [.ref t])) = H21 at st21 ⊢
  refine ⟨(by exact Z2),fun qd h_qd => ?_⟩
  obtain ⟨n22,st22⟩ := st21.new (o := .tup [.str "many",.int 34]) h_qd
  have d22 := Same.new (o := .tup [.str "many",.int 34]) n22
  have e_qd : upd D21 qd (.tup [.str "many",.int 34]) qd = some (.tup [.str "many",.int 34]) := Ac
  generalize upd D21 qd (.tup [.str "many",.int 34]) = D22 at st22 d22 e_qd
  generalize upd H21 qd (.tup [.str "many",.int 34]) = H22 at st22 ⊢
  refine ⟨(by exact Z2),fun r h_r => ?_⟩
  obtain ⟨n23,st23⟩ := st22.new (o := .lst [.ref b,.ref qd]) h_r
  have d23 := Same.new (o := .lst [.ref b,.ref qd]) n23
  have e_r : upd D22 r (.lst [.ref b,.ref qd]) r = some (.lst [.ref b,.ref qd]) := Ac
  generalize upd D22 r (.lst [.ref b,.ref qd]) = D23 at st23 d23 e_r
  generalize upd H22 r (.lst [.ref b,.ref qd]) = H23 at st23 ⊢
  obtain ⟨ys23,ey23,el23⟩ := st23.ln
  have te23 : TEr K C f D23 r := ⟨_,_,e_r,.inr ⟨_,.inr ⟨[t0,t1,t2,t3,.ref t],gG (.cons 0 29 (wideF 1 [30,31,32,33]) .nil),.inr (.inl ⟨b,rfl,((d22.trans d23) _ _ e_b),FAt.of (A2.cons (j0.t (.of (d17.trans (d18.trans (d19.trans (d20.trans (d21.trans (d22.trans d23)))))))) (A2.cons (j1.t (.of (d17.trans (d18.trans (d19.trans (d20.trans (d21.trans (d22.trans d23)))))))) (A2.cons (j2.t (.of (d17.trans (d18.trans (d19.trans (d20.trans (d21.trans (d22.trans d23)))))))) (A2.cons (j3.t (.of (d17.trans (d18.trans (d19.trans (d20.trans (d21.trans (d22.trans d23)))))))) (A2.one ⟨t,a,rfl,((d20.trans (d21.trans (d22.trans d23))) _ _ e_t),(by dsimp only; decide),(p_a.same (d19.trans (d20.trans (d21.trans (d22.trans d23)))))⟩))))),(by show 5 ≤ 6; decide)⟩),by decide +kernel,by decide +kernel,fun o => mn_of hf (by decide +kernel)⟩,C5.it (u := .mn 34) (d23 _ _ e_qd) ⟨.int,.int _⟩ trivial⟩⟩
  refine ⟨ls,_,_,rfl,rfl,ey23,(by omega),?_⟩
  have sa23 := st23.app ey23 te23
  generalize upd H23 ls (.lst (ys23 ++ [.ref r])) = H24 at sa23 ⊢
  replace c_ln := ((d17.trans (d18.trans (d19.trans (d20.trans (d21.trans (d22.trans d23)))))) _ _ c_ln)
  replace c_lg := ((d17.trans (d18.trans (d19.trans (d20.trans (d21.trans (d22.trans d23)))))) _ _ c_lg)
  replace cpd := (cpd.same (d17.trans (d18.trans (d19.trans (d20.trans (d21.trans (d22.trans d23)))))))
  replace ca := ca.imp fun _ _ e => e.t (.of (d17.trans (d18.trans (d19.trans (d20.trans (d21.trans (d22.trans d23)))))))
  replace cq := cq.trans (d17.trans (d18.trans (d19.trans (d20.trans (d21.trans (d22.trans d23))))))
  have st24 := sa23
  have d24 := Same.refl D23
  obtain ⟨D24,hD24⟩ : ∃ D',D' = D23 := ⟨_,rfl⟩
  rw [← hD24] at st24 d24 c_ln c_lg cpd ca cq
  clear hD24
  clear j0 j1 j2 j3
  obtain ⟨xs24,ex24,_⟩ := st24.ln
  refine ⟨_,rfl,.inl ⟨rfl,_,SqL.of ex24⟩,_,rfl,?_⟩
  refine ⟨(by exact Z2),fun t h_t => ?_⟩
  obtain ⟨n25,st25⟩ := st24.new (o := .tup [.str "joined",.ref ad]) h_t
  have d25 := Same.new (o := .tup [.str "joined",.ref ad]) n25
  have e_t : upd D24 t (.tup [.str "joined",.ref ad]) t = some (.tup [.str "joined",.ref ad]) := Ac
  generalize upd D24 t (.tup [.str "joined",.ref ad]) = D25 at st25 d25 e_t
  generalize upd H24 t (.tup [.str "joined",.ref ad]) = H25 at st25 ⊢
  refine ⟨_,rfl,ln,_,_,_,rfl,rfl,SqL.of (st25.sub _ _ (d25 _ _ c_ln)),hx (i := 3) (by decide),fun a dx_a y1_a y2_a _ => leafP hf (by decide) y1_a y2_a fun H26 s26 hP_a => ⟨rfl,?_⟩⟩
  obtain ⟨D26,st26,d26,tp26⟩ := st25.call s26
  have p_a := hP_a.t tp26
  refine ⟨(by exact Z2),fun t' h_t' => ?_⟩
  obtain ⟨n27,st27⟩ := st26.new (o := .tup [.str "called",.ref a]) h_t'
  have d27 := Same.new (o := .tup [.str "called",.ref a]) n27
  have e_t' : upd D26 t' (.tup [.str "called",.ref a]) t' = some (.tup [.str "called",.ref a]) := Ac
  generalize upd D26 t' (.tup [.str "called",.ref a]) = D27 at st27 d27 e_t'
  generalize upd H26 t' (.tup [.str "called",.ref a]) = H27 at st27 ⊢
  refine ⟨(by exact Z2),fun b h_b => ?_⟩
  obtain ⟨n28,st28⟩ := st27.new (o := .lst [.ref t,.ref t']) h_b
  have d28 := Same.new (o := .lst [.ref t,.ref t']) n28
  have e_b : upd D27 b (.lst [.ref t,.ref t']) b = some (.lst [.ref t,.ref t']) := Ac
  generalize upd D27 b (.lst [.ref t,.ref t']) = D28 at st28 d28 e_b
  generalize upd H27 b (.lst [.ref t,.ref t']) = H28 at st28 ⊢
  refine ⟨_,rfl,ln,_,_,_,rfl,rfl,SqL.of (st28.sub _ _ ((d25.trans (d26.trans (d27.trans d28))) _ _ c_ln)),hx (i := 3) (by decide),(by exact Z2),fun qd h_qd => ?_⟩
  obtain ⟨n29,st29⟩ := st28.new (o := .tup [.str "doubled",.str (f 3)]) h_qd
  have d29 := Same.new (o := .tup [.str "doubled",.str (f 3)]) n29
  have e_qd : upd D28 qd (.tup [.str "doubled",.str (f 3)]) qd = some (.tup [.str "doubled",.str (f 3)]) := Ac
  generalize upd D28 qd (.tup [.str "doubled",.str (f 3)]) = D29 at st29 d29 e_qd
  generalize upd H28 qd (.tup [.str "doubled",.str (f 3)]) = H29 at st29 ⊢
  refine ⟨(by exact Z2),fun r h_r => ?_⟩
  obtain ⟨n30,st30⟩ := st29.new (o := .lst [.ref b,.ref qd]) h_r
  have d30 := Same.new (o := .lst [.ref b,.ref qd]) n30
  have e_r : upd D29 r (.lst [.ref b,.ref qd]) r = some (.lst [.ref b,.ref qd]) := Ac
  generalize upd D29 r (.lst [.ref b,.ref qd]) = D30 at st30 d30 e_r
  generalize upd H29 r (.lst [.ref b,.ref qd]) = H30 at st30 ⊢
  obtain ⟨ys30,ey30,el30⟩ := st30.ln
  have te30 : TEr K C f D30 r := ⟨_,_,e_r,.inr ⟨_,.inr ⟨[.ref t,.ref t'],.cons 2 6 (C7 [5,4,3,2,1]) (.cons 0 3 .nil .nil),.inr (.inl ⟨b,rfl,((d29.trans d30) _ _ e_b),FAt.of (A2.cons ⟨t,ad,rfl,((d26.trans (d27.trans (d28.trans (d29.trans d30)))) _ _ e_t),(by dsimp only; decide),(cpd.same (d25.trans (d26.trans (d27.trans (d28.trans (d29.trans d30))))))⟩ (A2.one ⟨t',a,rfl,((d28.trans (d29.trans d30)) _ _ e_t'),(by dsimp only; decide),(p_a.same (d27.trans (d28.trans (d29.trans d30))))⟩)),(by show 2 ≤ 6; decide)⟩),by decide +kernel,by decide +kernel,fun o => db_of (k := 7) (x := 3) hf (by decide +kernel)⟩,C5.it (u := .db (.str (f 3))) (d30 _ _ e_qd) ⟨.str,.str _⟩ trivial⟩⟩
  refine ⟨ls,_,_,rfl,rfl,ey30,(by omega),?_⟩
  have sa30 := st30.app ey30 te30
  generalize upd H30 ls (.lst (ys30 ++ [.ref r])) = H31 at sa30 ⊢
  replace c_ln := ((d25.trans (d26.trans (d27.trans (d28.trans (d29.trans d30))))) _ _ c_ln)
  replace c_lg := ((d25.trans (d26.trans (d27.trans (d28.trans (d29.trans d30))))) _ _ c_lg)
  replace cpd := (cpd.same (d25.trans (d26.trans (d27.trans (d28.trans (d29.trans d30))))))
  replace ca := ca.imp fun _ _ e => e.t (.of (d25.trans (d26.trans (d27.trans (d28.trans (d29.trans d30))))))
  replace cq := cq.trans (d25.trans (d26.trans (d27.trans (d28.trans (d29.trans d30)))))
  have st31 := sa30
  have d31 := Same.refl D30
  obtain ⟨D31,hD31⟩ : ∃ D',D' = D30 := ⟨_,rfl⟩
  rw [← hD31] at st31 d31 c_ln c_lg cpd ca cq
  clear hD31
  obtain ⟨xs31,ex31,_⟩ := st31.ln
  obtain ⟨j0,j1'⟩ := A2.inv ca; obtain ⟨j1,j2'⟩ := A2.inv j1'; obtain ⟨j2,j3'⟩ := A2.inv j2'; obtain ⟨j3,_⟩ := A2.inv j3'; clear j1' j2' j3'
  refine ⟨_,rfl,.inl ⟨rfl,_,SqL.of ex31⟩,_,rfl,_,rfl,lg,_,rfl,SqL.of (st31.sub _ _ c_lg),?_⟩
  intro cg h_cg
  obtain ⟨n32,st32⟩ := st31.new (o := .lst (cutV [t0,t1,t2,t3] (some 1) none)) h_cg
  have d32 := Same.new (o := .lst (cutV [t0,t1,t2,t3] (some 1) none)) n32
  have e_cg : upd D31 cg (.lst (cutV [t0,t1,t2,t3] (some 1) none)) cg = some (.lst (cutV [t0,t1,t2,t3] (some 1) none)) := Ac
  generalize upd D31 cg (.lst (cutV [t0,t1,t2,t3] (some 1) none)) = D32 at st32 d32 e_cg
  generalize upd H31 cg (.lst (cutV [t0,t1,t2,t3] (some 1) none)) = H32 at st32 ⊢
  refine ⟨_,rfl,(by exact Z2),fun t h_t => ?_⟩
  obtain ⟨n33,st33⟩ := st32.new (o := .tup [.str "called",.ref ad]) h_t
  have d33 := Same.new (o := .tup [.str "called",.ref ad]) n33
  have e_t : upd D32 t (.tup [.str "called",.ref ad]) t = some (.tup [.str "called",.ref ad]) := Ac
  generalize upd D32 t (.tup [.str "called",.ref ad]) = D33 at st33 d33 e_t
  generalize upd H32 t (.tup [.str "called",.ref ad]) = H33 at st33 ⊢
  refine ⟨_,rfl,_,rfl,ln,_,rfl,SqL.of (st33.sub _ _ ((d32.trans d33) _ _ c_ln)),?_⟩
  rw [show cutV (zs.map V.str) (some 29) none = (zs.drop 29).map V.str from Dd hN (k := 29) (by decide)]
  intro c_a h_c_a
  obtain ⟨n34,st34⟩ := st33.new (o := .lst ((zs.drop 29).map V.str)) h_c_a
  have d34 := Same.new (o := .lst ((zs.drop 29).map V.str)) n34
  have e_c_a : upd D33 c_a (.lst ((zs.drop 29).map V.str)) c_a = some (.lst ((zs.drop 29).map V.str)) := Ac
  generalize upd D33 c_a (.lst ((zs.drop 29).map V.str)) = D34 at st34 d34 e_c_a
  generalize upd H33 c_a (.lst ((zs.drop 29).map V.str)) = H34 at st34 ⊢
  refine ⟨c_a,3,f,_,29,[30,31],rfl,(st34.sub _ _ e_c_a),hz (k := 29) (m := 3) (by decide),hf,by decide,by decide,by decide,(by rw [List.length_drop,hN.l]; decide),fun a H35 s35 hP_a => ?_⟩
  obtain ⟨D35,st35,d35,tp35⟩ := st34.call s35
  have p_a := hP_a.t tp35
  refine ⟨(by exact Z2),fun t' h_t' => ?_⟩
  obtain ⟨n36,st36⟩ := st35.new (o := .tup [.str "called",.ref a]) h_t'
  have d36 := Same.new (o := .tup [.str "called",.ref a]) n36
  have e_t' : upd D35 t' (.tup [.str "called",.ref a]) t' = some (.tup [.str "called",.ref a]) := Ac
  generalize upd D35 t' (.tup [.str "called",.ref a]) = D36 at st36 d36 e_t'
  generalize upd H35 t' (.tup [.str "called",.ref a]) = H36 at st36 ⊢
  refine ⟨(by exact Z2),fun l1 h_l1 => ?_⟩
  obtain ⟨n37,st37⟩ := st36.new (o := .lst [.ref t,.ref t']) h_l1
  have d37 := Same.new (o := .lst [.ref t,.ref t']) n37
  have e_l1 : upd D36 l1 (.lst [.ref t,.ref t']) l1 = some (.lst [.ref t,.ref t']) := Ac
  generalize upd D36 l1 (.lst [.ref t,.ref t']) = D37 at st37 d37 e_l1
  generalize upd H36 l1 (.lst [.ref t,.ref t']) = H37 at st37 ⊢
  refine ⟨cg,l1,_,_,rfl,rfl,(st37.sub _ _ ((d33.trans (d34.trans (d35.trans (d36.trans d37)))) _ _ e_cg)),(st37.sub _ _ e_l1),(by exact Z5),?_⟩
  intro b h_b
  obtain ⟨n38,st38⟩ := st37.new (o := .lst (cutV [t0,t1,t2,t3] (some 1) none ++ [.ref t,.ref t'])) h_b
  have d38 := Same.new (o := .lst (cutV [t0,t1,t2,t3] (some 1) none ++ [.ref t,.ref t'])) n38
  have e_b : upd D37 b (.lst (cutV [t0,t1,t2,t3] (some 1) none ++ [.ref t,.ref t'])) b = some (.lst (cutV [t0,t1,t2,t3] (some 1) none ++ [.ref t,.ref t'])) := Ac
  generalize upd D37 b (.lst (cutV [t0,t1,t2,t3] (some 1) none ++ [.ref t,.ref t'])) = D38 at st38 d38 e_b
  generalize upd H37 b (.lst (cutV [t0,t1,t2,t3] (some 1) none ++ [.ref t,.ref t'])) = H38 at st38 ⊢
  refine ⟨(by exact Z2),fun qd h_qd => ?_⟩
  obtain ⟨n39,st39⟩ := st38.new (o := .tup [.str "many",.int 31]) h_qd
  have d39 := Same.new (o := .tup [.str "many",.int 31]) n39
  have e_qd : upd D38 qd (.tup [.str "many",.int 31]) qd = some (.tup [.str "many",.int 31]) := Ac
  generalize upd D38 qd (.tup [.str "many",.int 31]) = D39 at st39 d39 e_qd
  generalize upd H38 qd (.tup [.str "many",.int 31]) = H39 at st39 ⊢
  refine ⟨(by exact Z2),fun r h_r => ?_⟩
  obtain ⟨n40,st40⟩ := st39.new (o := .lst [.ref b,.ref qd]) h_r
  have d40 := Same.new (o := .lst [.ref b,.ref qd]) n40
  have e_r : upd D39 r (.lst [.ref b,.ref qd]) r = some (.lst [.ref b,.ref qd]) := Ac
  generalize upd D39 r (.lst [.ref b,.ref qd]) = D40 at st40 d40 e_r
  generalize upd H39 r (.lst [.ref b,.ref qd]) = H40 at st40 ⊢
  obtain ⟨ys40,ey40,el40⟩ := st40.ln
  have te40 : TEr K C f D40 r := ⟨_,_,e_r,.inr ⟨_,.inr ⟨[t1,t2,t3,.ref t,.ref t'],gG1 (.cons 0 6 (C7 [5,4,3,2,1]) (.cons 0 29 (wideF 1 [30,31]) .nil)),.inr (.inl ⟨b,rfl,((d39.trans d40) _ _ e_b),FAt.of (A2.cons (j1.t (.of (d32.trans (d33.trans (d34.trans (d35.trans (d36.trans (d37.trans (d38.trans (d39.trans d40)))))))))) (A2.cons (j2.t (.of (d32.trans (d33.trans (d34.trans (d35.trans (d36.trans (d37.trans (d38.trans (d39.trans d40)))))))))) (A2.cons (j3.t (.of (d32.trans (d33.trans (d34.trans (d35.trans (d36.trans (d37.trans (d38.trans (d39.trans d40)))))))))) (A2.cons ⟨t,ad,rfl,((d34.trans (d35.trans (d36.trans (d37.trans (d38.trans (d39.trans d40)))))) _ _ e_t),(by dsimp only; decide),(cpd.same (d32.trans (d33.trans (d34.trans (d35.trans (d36.trans (d37.trans (d38.trans (d39.trans d40)))))))))⟩ (A2.one ⟨t',a,rfl,((d37.trans (d38.trans (d39.trans d40))) _ _ e_t'),(by dsimp only; decide),(p_a.same (d36.trans (d37.trans (d38.trans (d39.trans d40)))))⟩))))),(by show 5 ≤ 6; decide)⟩),by decide +kernel,by decide +kernel,fun o => mn_of hf (by decide +kernel)⟩,C5.it (u := .mn 31) (d40 _ _ e_qd) ⟨.int,.int _⟩ trivial⟩⟩
  refine ⟨ls,_,_,rfl,rfl,ey40,(by omega),?_⟩
  have sa40 := st40.app ey40 te40
  generalize upd H40 ls (.lst (ys40 ++ [.ref r])) = H41 at sa40 ⊢
  replace c_ln := ((d32.trans (d33.trans (d34.trans (d35.trans (d36.trans (d37.trans (d38.trans (d39.trans d40)))))))) _ _ c_ln)
  replace c_lg := ((d32.trans (d33.trans (d34.trans (d35.trans (d36.trans (d37.trans (d38.trans (d39.trans d40)))))))) _ _ c_lg)
  replace cpd := (cpd.same (d32.trans (d33.trans (d34.trans (d35.trans (d36.trans (d37.trans (d38.trans (d39.trans d40)))))))))
  replace ca := ca.imp fun _ _ e => e.t (.of (d32.trans (d33.trans (d34.trans (d35.trans (d36.trans (d37.trans (d38.trans (d39.trans d40)))))))))
  replace cq := cq.trans (d32.trans (d33.trans (d34.trans (d35.trans (d36.trans (d37.trans (d38.trans (d39.trans d40))))))))
  have st41 := sa40
  have d41 := Same.refl D40
  obtain ⟨D41,hD41⟩ : ∃ D',D' = D40 := ⟨_,rfl⟩
  rw [← hD41] at st41 d41 c_ln c_lg cpd ca cq
  clear hD41
  obtain ⟨rs,er,nr,hr'⟩ := st41.rows
  refine ⟨_,rfl,q ls rs _ (cq.trans st41.sub) er nr ?_⟩
  rw [hfz]
  exact fun r hr => (hr' r hr).same st41.sub
end
end K32
namespace K32
open PySem L2 PyProof.Rows PySem.SeqAt
def wI (w : Nat) : FoI := wideF 1 (List.range' 3 w)
theorem w_good : ∀ w : Fin 7,bdI 0 (.cons 2 1 .nil (.cons 3 2 (wI w.val) .nil)) = true := by decide +kernel
theorem w_db : ∀ w : Fin 7,dbI 0 (.cons 0 2 (wI w.val) (.cons 1 13 (.cons 2 2 .nil .nil) .nil)) (w.val + 3) 2 = true := by decide +kernel
theorem w_sm : ∀ w : Fin 7,FoI.ht (.cons 0 2 (wI w.val) (.cons 1 13 (.cons 2 2 .nil .nil) .nil)) < 7 ∧ FoI.size (.cons 0 2 (wI w.val) (.cons 1 13 (.cons 2 2 .nil .nil) .nil)) ≤ 1000 := by decide +kernel
theorem w_ok : ∀ w : Fin 7,(∀ x ∈ 2 :: List.range' 3 w.val,x < 34) ∧ (2 :: List.range' 3 w.val).Nodup ∧ (List.range' 3 w.val).length ≤ 6 := by decide +kernel
def BnOdd (K : PySem.W.Frag) (C : Addr) (H : Hp) (v : V) : Prop := BnBad K C H v (.bn v) ∧ Arg K H v ∧ Plain v
theorem BnOdd.same {K : PySem.W.Frag} {C : Addr} {H H' : Hp} {v : V} (h : BnOdd K C H v) (s : Same H H') : BnOdd K C H' v := ⟨h.1.same s,h.2.1.same s,h.2.2⟩
def JnOdd (K : PySem.W.Frag) (C : Addr) (H : Hp) (v : V) : Prop := Odd K C H v ∧ (∀ j,j < 4 → v ≠ .str (nm j)) ∧ Arg K H v ∧ Plain v
theorem JnOdd.same {K : PySem.W.Frag} {C : Addr} {H H' : Hp} {v : V} (h : JnOdd K C H v) (s : Same H H') : JnOdd K C H' v := ⟨h.1.same s,h.2.1,h.2.2.1.same s,h.2.2.2⟩
theorem jn_str {z : Str} (h : decide (z = nm 0) = false ∧ decide (z = nm 1) = false ∧ decide (z = nm 2) = false ∧ decide (z = nm 3) = false) : ∀ j,j < 4 → V.str z ≠ .str (nm j) := fun j hj e => by
 have e := V.str.inj e
 rcases j4 hj with rfl | rfl | rfl | rfl
 ·exact absurd e (of_decide_eq_false h.1)
 ·exact absurd e (of_decide_eq_false h.2.1)
 ·exact absurd e (of_decide_eq_false h.2.2.1)
 ·exact absurd e (of_decide_eq_false h.2.2.2)
theorem its7 {α β : Type} {R : α → β → Prop} {xs : List α} {b0 b1 b2 b3 b4 b5 b6 : β} (h : A2 R xs [b0,b1,b2,b3,b4,b5,b6]) : ∃ x0 x1 x2 x3 x4 x5 x6,xs = [x0,x1,x2,x3,x4,x5,x6] ∧ R x0 b0 ∧ R x1 b1 ∧ R x2 b2 ∧ R x3 b3 ∧ R x4 b4 ∧ R x5 b5 ∧ R x6 b6 := by
 match xs,h with
 | [x0,x1,x2,x3,x4,x5,x6],h =>
   obtain ⟨a0,h⟩ := A2.inv h
   obtain ⟨a1,h⟩ := A2.inv h
   obtain ⟨a2,h⟩ := A2.inv h
   obtain ⟨a3,h⟩ := A2.inv h
   obtain ⟨a4,h⟩ := A2.inv h
   obtain ⟨a5,h⟩ := A2.inv h
   obtain ⟨a6,_⟩ := A2.inv h
   exact ⟨x0,x1,x2,x3,x4,x5,x6,rfl,a0,a1,a2,a3,a4,a5,a6⟩
 | [],h => have := h.1; simp at this
 | [_],h => have := h.1; simp at this
 | [_,_],h => have := h.1; simp at this
 | [_,_,_],h => have := h.1; simp at this
 | [_,_,_,_],h => have := h.1; simp at this
 | [_,_,_,_,_],h => have := h.1; simp at this
 | [_,_,_,_,_,_],h => have := h.1; simp at this
 | _ :: _ :: _ :: _ :: _ :: _ :: _ :: _ :: _,h => have := h.1; simp at this
theorem JPAt.row {C : Addr} {H : Hp} {v : V} {x : Nat × Nd} (h : JPAt C H v x) : JRow C H v (.str (nm x.1)) := by
 obtain ⟨p,a,h1,h2,_,h4⟩ := h
 exact ⟨p,a,_,h1,h2,h4⟩
theorem JPAt.rf {C : Addr} {H : Hp} {v : V} {x : Nat × Nd} (h : JPAt C H v x) : ∃ p,v = .ref p := by
 obtain ⟨p,_,h1,_⟩ := h
 exact ⟨p,h1⟩
theorem cut18 {zs : List Str} {f : Nat → Str} (h : Nms zs) (e : nz zs = f) : cutV (zs.map V.str) (some 1) (some 8) = ((List.range' 1 7).map f).map V.str := by
 rw [← e,← stretch_ix h (k := 1) (m := 7) (by decide)]
 unfold cutV
 rw [show (1 : Int) = ((1 : Nat) : Int) from rfl,show (8 : Int) = ((8 : Nat) : Int) from rfl,HT.sIx_nat,HT.sIx_nat,List.length_map,h.l,List.map_take,List.map_drop]
 rfl
section
variable {P : Program} {w : World} {K : PySem.W.Frag} {mg : Str → Option Value} {base : Heap} {C fP : Addr} {dP : FuncData} {c : Cs}
def spTrees (K : PySem.W.Frag) (C : Addr) : Sp := fun vs H Q _ => ∃ (ln : Addr) (zs : List Str) (m : Int),vs = [.ref ln,.int m] ∧ H ln = some (.lst (zs.map V.str)) ∧ Nms zs ∧ ∀ (l : Addr) (rs : List Addr) (H' : Hp),Same H H' → H' l = some (.lst (rs.map V.ref)) → rs.length = 36 → (∀ r ∈ rs,TEr K C (nz zs) H' r) → Q (.ref l) H'
abbrev nTs : List Str := ["_law_names","_law_number","_law_one","_law_two","_law_some","_law_odd","_law_thing","_law_seven","_law_word","_law_other"]
abbrev Dh : Stmt := top 53
theorem Bm : Ar nTs ["_law_names","_law_number"] (Af Dh) := by trivial
theorem ok_trees (kit : PKit K C) (M : PMk P w K mg base C fP dP c) (BD : Df K dP psP [.none,.none]) (F__law_wide : FnAt P w K mg base "_law_wide" 13 ["_law_names","_law_many"] (spWide C)) (F__law_chain : FnAt P w K mg base "_law_chain" 13 ["_law_names","_law_many"] (spChain C)) (F__law_great : FnAt P w K mg base "_law_great" 14 ["_law_names"] (spGreat K C)) (F : Aq K mg "_law_trees" Dh ["_law_names","_law_number"]) : FnAt P w K mg base "_law_trees" 15 ["_law_names","_law_number"] (spTrees K C) := by
 refine F.at Bm (fun vs H Q E h => ?_) (fun fa cdv A outer s H vs Q E hr h => ?_)
 ·obtain ⟨ln,zs,m,rfl,_⟩ := h
  rfl
 ·obtain ⟨ln,zs,m,rfl,hln,hN,q⟩ := h
  have hB : Vals [.non,.non] [.none,.none] := .cons rfl (.cons rfl .nil)
  have hf : Inj (nz zs) := hN.inj
  refine ⟨_,(@Ad _ _ _ _ _ (@A3 _ _ (2) _ _ _ _ Bm.nd rfl (by trivial) (@Ch _ _ _ _ _ _ _ _ _ _ _ _ _ _ _ _ _ M.kP M.oP (hr.mono (by decide)) rfl M.mP BD hB Db (@Aa _ _ _ _ _ (@Bk _ _ _ _ _ _ _ A5 (@pv _ 0 _ _ (by rfl) (by trivial) (by decide) (by decide)) (@Ag _ _ _ _) (fun _ _ => rfl)) (@Ab _) (by rfl)) (by decide) (by rfl) (by rfl)) (by rfl) (by first | exact .inl rfl | exact .inr rfl | assumption)) (@Ad _ _ _ _ _ (@A3 _ _ (3) _ _ _ _ Bm.nd rfl (by trivial) (@Ay _ _ _ _ _ _ _ _ _ _ _ F__law_wide hr (by decide) rfl (@Aa _ _ _ _ _ (@Bl _ _ _ _ _ _ _ _ _ _ Ca (@pv _ 0 _ _ (by rfl) (by trivial) (by decide) (by decide)) (@Br _ _ _ (@Ag _ _ _ _)) (@Cb _)) (@Aa _ _ _ _ _ (@A7 _ _ _ _ _ _ _ _ Ds (@Ag _ _ _ _) (@A7 _ _ _ _ _ _ _ _ Cf (@A7 _ _ _ _ _ _ _ _ op_fdiv (@pv _ 1 _ _ (by rfl) (by trivial) (by decide) (by decide)) (@Ag _ _ _ _)) (@Ag _ _ _ _))) (@Ab _) (by rfl)) (by rfl)) (by decide) (by rfl) (by rfl)) (by rfl) (by first | exact .inl rfl | exact .inr rfl | assumption)) (@Ad _ _ _ _ _ (@A3 _ _ (4) _ _ _ _ Bm.nd rfl (by trivial) (@Am _ _ _ _ (@Aa _ _ _ _ _ (@Am _ _ _ _ (@Aa _ _ _ _ _ (@Am _ _ _ _ (@Ab _)) (@Aa _ _ _ _ _ (@C2 _ _ _) (@Ab _) (by rfl)) (by rfl))) (@Aa _ _ _ _ _ (@Am _ _ _ _ (@Aa _ _ _ _ _ (@C2 _ _ _) (@Aa _ _ _ _ _ (@C2 _ _ _) (@Ab _) (by rfl)) (by rfl))) (@Aa _ _ _ _ _ (@Am _ _ _ _ (@Aa _ _ _ _ _ (@Am _ _ _ _ (@Aa _ _ _ _ _ (@Ai _ _ _ _ _ (@Aa _ _ _ _ _ (@Al _ _ _ _) (@Aa _ _ _ _ _ (@pv _ 2 _ _ (by rfl) (by trivial) (by decide) (by decide)) (@Ab _) (by rfl)) (by rfl))) (@Ab _) (by rfl))) (@Aa _ _ _ _ _ (@C2 _ _ _) (@Ab _) (by rfl)) (by rfl))) (@Aa _ _ _ _ _ (@Am _ _ _ _ (@Aa _ _ _ _ _ (@Ai _ _ _ _ _ (@Aa _ _ _ _ _ (@Ai _ _ _ _ _ (@Aa _ _ _ _ _ (@Al _ _ _ _) (@Aa _ _ _ _ _ (@pv _ 2 _ _ (by rfl) (by trivial) (by decide) (by decide)) (@Ab _) (by rfl)) (by rfl))) (@Aa _ _ _ _ _ (@Ai _ _ _ _ _ (@Aa _ _ _ _ _ (@Al _ _ _ _) (@Aa _ _ _ _ _ (@pv _ 3 _ _ (by rfl) (by trivial) (by decide) (by decide)) (@Ab _) (by rfl)) (by rfl))) (@Ab _) (by rfl)) (by rfl))) (@Aa _ _ _ _ _ (@C2 _ _ _) (@Ab _) (by rfl)) (by rfl))) (@Ab _) (by rfl)) (by rfl)) (by rfl)) (by rfl))) (by rfl) (by first | exact .inl rfl | exact .inr rfl | assumption)) (@Ad _ _ _ _ _ (@A3 _ _ (5) _ _ _ _ Bm.nd rfl (by trivial) (@Am _ _ _ _ (@Aa _ _ _ _ _ (@pe_bl _ _ _ _) (@Aa _ _ _ _ _ (@Ag _ _ _ _) (@Aa _ _ _ _ _ (@Bk _ _ _ _ _ _ _ A5 (@pv _ 0 _ _ (by rfl) (by trivial) (by decide) (by decide)) (@Ag _ _ _ _) (fun _ _ => rfl)) (@Aa _ _ _ _ _ (@pe_dnewK _ _) (@Aa _ _ _ _ _ (@Am _ _ _ _ (@Aa _ _ _ _ _ (@pv _ 2 _ _ (by rfl) (by trivial) (by decide) (by decide)) (@Ab _) (by rfl))) (@Aa _ _ _ _ _ (@Am _ _ _ _ (@Aa _ _ _ _ _ (@Ai _ _ _ _ _ (@Aa _ _ _ _ _ (@Al _ _ _ _) (@Ab _) (by rfl))) (@Ab _) (by rfl))) (@Aa _ _ _ _ _ (@Am _ _ _ _ (@Aa _ _ _ _ _ (@Am _ _ _ _ (@Aa _ _ _ _ _ (@Al _ _ _ _) (@Aa _ _ _ _ _ (@pv _ 2 _ _ (by rfl) (by trivial) (by decide) (by decide)) (@Ab _) (by rfl)) (by rfl))) (@Ab _) (by rfl))) (@Ab _) (by rfl)) (by rfl)) (by rfl)) (by rfl)) (by rfl)) (by rfl)) (by rfl))) (by rfl) (by first | exact .inl rfl | exact .inr rfl | assumption)) (@Ad _ _ _ _ _ (@Ck _ _ _ _ _ _ _ _ PassesOwn.never rfl (@Be _ _ _ _ (@A7 _ _ _ _ _ _ _ _ op_cat (@pv _ 5 _ _ (by rfl) (by trivial) (by decide) (by decide)) (@Am _ _ _ _ (@Aa _ _ _ _ _ (@Am _ _ _ _ (@Aa _ _ _ _ _ (@Ai _ _ _ _ _ (@Aa _ _ _ _ _ (@Al _ _ _ _) (@Aa _ _ _ _ _ (@pv _ 2 _ _ (by rfl) (by trivial) (by decide) (by decide)) (@Aa _ _ _ _ _ (@Ag _ _ _ _) (@Ab _) (by rfl)) (by rfl)) (by rfl))) (@Ab _) (by rfl))) (@Aa _ _ _ _ _ (@Am _ _ _ _ (@Aa _ _ _ _ _ (@Ai _ _ _ _ _ (@Aa _ _ _ _ _ (@Al _ _ _ _) (@Aa _ _ _ _ _ (@C2 _ _ _) (@Ab _) (by rfl)) (by rfl))) (@Ab _) (by rfl))) (@Ab _) (by rfl)) (by rfl))))) (@Ao _ _ (6) _ Bm.nd rfl (by trivial) (by first | exact .inl rfl | exact .inr rfl | assumption)) (@Ae _ _ _ (@At _ _ _ _ (@C3 _ _ _ _ _ _ _ _ _ _ _ _ PySem.F.plainAttrs_list PySem.F.slot_list_append PySem.F.type_list_append Az (@pv _ 4 _ _ (by rfl) (by trivial) (by decide) (by decide)) (@Aa _ _ _ _ _ (@Am _ _ _ _ (@Aa _ _ _ _ _ (@pv _ 6 _ _ (by rfl) (by trivial) (by decide) (by decide)) (@Aa _ _ _ _ _ (@Ai _ _ _ _ _ (@Aa _ _ _ _ _ (@Al _ _ _ _) (@Aa _ _ _ _ _ (@pv _ 6 _ _ (by rfl) (by trivial) (by decide) (by decide)) (@Ab _) (by rfl)) (by rfl))) (@Ab _) (by rfl)) (by rfl))) (@Ab _) (by rfl)) (by rfl) (by rfl) (by rfl) (by rfl) (by rfl)) (by rfl))) (by intro _; rfl)) (@Ad _ _ _ _ _ (@ps_setComp _ _ (Af Dh) (nTs) (["_law_name_here"]) ([]) ([]) _ _ _ _ _ _ _ _ _ (7) _ _ _ (by trivial) rfl Bm.nd rfl rfl (@Be _ _ _ _ (@Bl _ _ _ _ _ _ _ _ _ _ Ca (@pv _ 0 _ _ (by rfl) (by trivial) (by decide) (by decide)) (@Br _ _ _ (@Ag _ _ _ _)) (@Br _ _ _ (@Ag _ _ _ _)))) (fun _ _ _ _ => (@Ao _ _ (0) _ (show (["_law_name_here"] : List Str).Nodup by decide +kernel) rfl (by trivial) (by first | exact .inl rfl | exact .inr rfl | assumption))) (fun _ _ _ _ => (@B7 _)) (fun _ _ _ _ => (@Ai _ _ _ _ _ (@Aa _ _ _ _ _ (@Al _ _ _ _) (@Aa _ _ _ _ _ (@Ch _ _ _ _ _ _ _ _ _ _ _ _ _ _ _ _ _ M.kP M.oP (hr.mono (by decide)) rfl M.mP BD hB Db (@Aa _ _ _ _ _ (@pv _ 0 _ _ (by rfl) (by trivial) (by decide) (by decide)) (@Ab _) (by rfl)) (by decide) (by rfl) (by rfl)) (@Ab _) (by rfl)) (by rfl)))) (by rfl) (by rfl) (by intro _; rfl) (by rfl)) (@Ad _ _ _ _ _ (@At _ _ _ _ (@C3 _ _ _ _ _ _ _ _ _ _ _ _ PySem.F.plainAttrs_list PySem.F.slot_list_append PySem.F.type_list_append Az (@pv _ 4 _ _ (by rfl) (by trivial) (by decide) (by decide)) (@Aa _ _ _ _ _ (@Am _ _ _ _ (@Aa _ _ _ _ _ (@pv _ 7 _ _ (by rfl) (by trivial) (by decide) (by decide)) (@Aa _ _ _ _ _ (@Ai _ _ _ _ _ (@Aa _ _ _ _ _ (@Al _ _ _ _) (@Aa _ _ _ _ _ (@Ag _ _ _ _) (@Ab _) (by rfl)) (by rfl))) (@Ab _) (by rfl)) (by rfl))) (@Ab _) (by rfl)) (by rfl) (by rfl) (by rfl) (by rfl) (by rfl)) (by rfl)) (@Ad _ _ _ _ _ (@At _ _ _ _ (@C3 _ _ _ _ _ _ _ _ _ _ _ _ PySem.F.plainAttrs_list PySem.F.slot_list_append PySem.F.type_list_append Az (@pv _ 4 _ _ (by rfl) (by trivial) (by decide) (by decide)) (@Aa _ _ _ _ _ (@Am _ _ _ _ (@Aa _ _ _ _ _ (@A7 _ _ _ _ _ _ _ _ op_cat (@Bl _ _ _ _ _ _ _ _ _ _ Ca (@pv _ 7 _ _ (by rfl) (by trivial) (by decide) (by decide)) (@Br _ _ _ (@Ag _ _ _ _)) (@Cb _)) (@Am _ _ _ _ (@Aa _ _ _ _ _ (@Ai _ _ _ _ _ (@Aa _ _ _ _ _ (@Al _ _ _ _) (@Aa _ _ _ _ _ (@C2 _ _ _) (@Ab _) (by rfl)) (by rfl))) (@Ab _) (by rfl)))) (@Aa _ _ _ _ _ (@Ai _ _ _ _ _ (@Aa _ _ _ _ _ (@Al _ _ _ _) (@Aa _ _ _ _ _ (@A7 _ _ _ _ _ _ _ _ op_cat (@Bl _ _ _ _ _ _ _ _ _ _ Ca (@pv _ 7 _ _ (by rfl) (by trivial) (by decide) (by decide)) (@Br _ _ _ (@Ag _ _ _ _)) (@Cb _)) (@Am _ _ _ _ (@Aa _ _ _ _ _ (@Ai _ _ _ _ _ (@Aa _ _ _ _ _ (@Al _ _ _ _) (@Aa _ _ _ _ _ (@C2 _ _ _) (@Ab _) (by rfl)) (by rfl))) (@Ab _) (by rfl)))) (@Ab _) (by rfl)) (by rfl))) (@Ab _) (by rfl)) (by rfl))) (@Ab _) (by rfl)) (by rfl) (by rfl) (by rfl) (by rfl) (by rfl)) (by rfl)) (@Ad _ _ _ _ _ (@At _ _ _ _ (@C3 _ _ _ _ _ _ _ _ _ _ _ _ PySem.F.plainAttrs_list PySem.F.slot_list_append PySem.F.type_list_append Az (@pv _ 4 _ _ (by rfl) (by trivial) (by decide) (by decide)) (@Aa _ _ _ _ _ (@Am _ _ _ _ (@Aa _ _ _ _ _ (@A7 _ _ _ _ _ _ _ _ op_cat (@Am _ _ _ _ (@Aa _ _ _ _ _ (@Ai _ _ _ _ _ (@Aa _ _ _ _ _ (@Al _ _ _ _) (@Aa _ _ _ _ _ (@pv _ 2 _ _ (by rfl) (by trivial) (by decide) (by decide)) (@Ab _) (by rfl)) (by rfl))) (@Ab _) (by rfl))) (@Bl _ _ _ _ _ _ _ _ _ _ Ca (@pv _ 7 _ _ (by rfl) (by trivial) (by decide) (by decide)) (@Br _ _ _ (@Ag _ _ _ _)) (@Cb _))) (@Aa _ _ _ _ _ (@Ai _ _ _ _ _ (@Aa _ _ _ _ _ (@Al _ _ _ _) (@Aa _ _ _ _ _ (@Ag _ _ _ _) (@Ab _) (by rfl)) (by rfl))) (@Ab _) (by rfl)) (by rfl))) (@Ab _) (by rfl)) (by rfl) (by rfl) (by rfl) (by rfl) (by rfl)) (by rfl)) (@Ad _ _ _ _ _ (@At _ _ _ _ (@C3 _ _ _ _ _ _ _ _ _ _ _ _ PySem.F.plainAttrs_list PySem.F.slot_list_append PySem.F.type_list_append Az (@pv _ 4 _ _ (by rfl) (by trivial) (by decide) (by decide)) (@Aa _ _ _ _ _ (@Am _ _ _ _ (@Aa _ _ _ _ _ (@Am _ _ _ _ (@Aa _ _ _ _ _ (@Ai _ _ _ _ _ (@Aa _ _ _ _ _ (@Al _ _ _ _) (@Aa _ _ _ _ _ (@pv _ 2 _ _ (by rfl) (by trivial) (by decide) (by decide)) (@Ab _) (by rfl)) (by rfl))) (@Aa _ _ _ _ _ (@Ai _ _ _ _ _ (@Aa _ _ _ _ _ (@Al _ _ _ _) (@Aa _ _ _ _ _ (@pv _ 2 _ _ (by rfl) (by trivial) (by decide) (by decide)) (@Ab _) (by rfl)) (by rfl))) (@Ab _) (by rfl)) (by rfl))) (@Aa _ _ _ _ _ (@Ai _ _ _ _ _ (@Aa _ _ _ _ _ (@Al _ _ _ _) (@Aa _ _ _ _ _ (@Al _ _ _ _) (@Ab _) (by rfl)) (by rfl))) (@Ab _) (by rfl)) (by rfl))) (@Ab _) (by rfl)) (by rfl) (by rfl) (by rfl) (by rfl) (by rfl)) (by rfl)) (@Ad _ _ _ _ _ (@At _ _ _ _ (@C3 _ _ _ _ _ _ _ _ _ _ _ _ PySem.F.plainAttrs_list PySem.F.slot_list_append PySem.F.type_list_append Az (@pv _ 4 _ _ (by rfl) (by trivial) (by decide) (by decide)) (@Aa _ _ _ _ _ (@Am _ _ _ _ (@Aa _ _ _ _ _ (@Am _ _ _ _ (@Aa _ _ _ _ _ (@Ai _ _ _ _ _ (@Aa _ _ _ _ _ (@Al _ _ _ _) (@Aa _ _ _ _ _ (@Ay _ _ _ _ _ _ _ _ _ _ _ F__law_chain hr (by decide) rfl (@Aa _ _ _ _ _ (@Bl _ _ _ _ _ _ _ _ _ _ Ca (@pv _ 0 _ _ (by rfl) (by trivial) (by decide) (by decide)) (@Br _ _ _ (@Ag _ _ _ _)) (@Cb _)) (@Aa _ _ _ _ _ (@Ag _ _ _ _) (@Ab _) (by rfl)) (by rfl)) (by decide) (by rfl) (by rfl)) (@Ab _) (by rfl)) (by rfl))) (@Ab _) (by rfl))) (@Aa _ _ _ _ _ (@Ai _ _ _ _ _ (@Aa _ _ _ _ _ (@Al _ _ _ _) (@Aa _ _ _ _ _ (@Al _ _ _ _) (@Ab _) (by rfl)) (by rfl))) (@Ab _) (by rfl)) (by rfl))) (@Ab _) (by rfl)) (by rfl) (by rfl) (by rfl) (by rfl) (by rfl)) (by rfl)) (@Ad _ _ _ _ _ (@Ck _ _ _ _ _ _ _ _ PassesOwn.never rfl (@Be _ _ _ _ (@Am _ _ _ _ (@Aa _ _ _ _ _ (@Al _ _ _ _) (@Aa _ _ _ _ _ (@Al _ _ _ _) (@Aa _ _ _ _ _ (@Al _ _ _ _) (@Aa _ _ _ _ _ (@C2 _ _ _) (@Aa _ _ _ _ _ (@Ag _ _ _ _) (@Aa _ _ _ _ _ (@Am _ _ _ _ (@Aa _ _ _ _ _ (@Al _ _ _ _) (@Ab _) (by rfl))) (@Aa _ _ _ _ _ (@pe_bl _ _ _ _) (@Ab _) (by rfl)) (by rfl)) (by rfl)) (by rfl)) (by rfl)) (by rfl)) (by rfl)))) (@Ao _ _ (8) _ Bm.nd rfl (by trivial) (by first | exact .inl rfl | exact .inr rfl | assumption)) (@Ae _ _ _ (@At _ _ _ _ (@C3 _ _ _ _ _ _ _ _ _ _ _ _ PySem.F.plainAttrs_list PySem.F.slot_list_append PySem.F.type_list_append Az (@pv _ 4 _ _ (by rfl) (by trivial) (by decide) (by decide)) (@Aa _ _ _ _ _ (@Am _ _ _ _ (@Aa _ _ _ _ _ (@Am _ _ _ _ (@Aa _ _ _ _ _ (@Ai _ _ _ _ _ (@Aa _ _ _ _ _ (@Al _ _ _ _) (@Aa _ _ _ _ _ (@pv _ 3 _ _ (by rfl) (by trivial) (by decide) (by decide)) (@Ab _) (by rfl)) (by rfl))) (@Aa _ _ _ _ _ (@Ai _ _ _ _ _ (@Aa _ _ _ _ _ (@pv _ 8 _ _ (by rfl) (by trivial) (by decide) (by decide)) (@Aa _ _ _ _ _ (@pv _ 2 _ _ (by rfl) (by trivial) (by decide) (by decide)) (@Ab _) (by rfl)) (by rfl))) (@Aa _ _ _ _ _ (@Ai _ _ _ _ _ (@Aa _ _ _ _ _ (@Al _ _ _ _) (@Aa _ _ _ _ _ (@Ch _ _ _ _ _ _ _ _ _ _ _ _ _ _ _ _ _ M.kP M.oP (hr.mono (by decide)) rfl M.mP BD hB Db (@Aa _ _ _ _ _ (@Bk _ _ _ _ _ _ _ A5 (@pv _ 0 _ _ (by rfl) (by trivial) (by decide) (by decide)) (@Ag _ _ _ _) (fun _ _ => rfl)) (@Ab _) (by rfl)) (by decide) (by rfl) (by rfl)) (@Ab _) (by rfl)) (by rfl))) (@Ab _) (by rfl)) (by rfl)) (by rfl))) (@Aa _ _ _ _ _ (@Ai _ _ _ _ _ (@Aa _ _ _ _ _ (@Al _ _ _ _) (@Aa _ _ _ _ _ (@pv _ 8 _ _ (by rfl) (by trivial) (by decide) (by decide)) (@Ab _) (by rfl)) (by rfl))) (@Ab _) (by rfl)) (by rfl))) (@Ab _) (by rfl)) (by rfl) (by rfl) (by rfl) (by rfl) (by rfl)) (by rfl))) (by intro _; rfl)) (@Ad _ _ _ _ _ (@At _ _ _ _ (@C3 _ _ _ _ _ _ _ _ _ _ _ _ PySem.F.plainAttrs_list PySem.F.slot_list_append PySem.F.type_list_append Az (@pv _ 4 _ _ (by rfl) (by trivial) (by decide) (by decide)) (@Aa _ _ _ _ _ (@Am _ _ _ _ (@Aa _ _ _ _ _ (@Am _ _ _ _ (@Aa _ _ _ _ _ (@Ai _ _ _ _ _ (@Aa _ _ _ _ _ (@Al _ _ _ _) (@Aa _ _ _ _ _ (@Ch _ _ _ _ _ _ _ _ _ _ _ _ _ _ _ _ _ M.kP M.oP (hr.mono (by decide)) rfl M.mP BD hB Db (@Aa _ _ _ _ _ (@Bk _ _ _ _ _ _ _ A5 (@pv _ 0 _ _ (by rfl) (by trivial) (by decide) (by decide)) (@Ag _ _ _ _) (fun _ _ => rfl)) (@Ab _) (by rfl)) (by decide) (by rfl) (by rfl)) (@Ab _) (by rfl)) (by rfl))) (@Ab _) (by rfl))) (@Aa _ _ _ _ _ (@Ai _ _ _ _ _ (@Aa _ _ _ _ _ (@Al _ _ _ _) (@Aa _ _ _ _ _ (@Bk _ _ _ _ _ _ _ A5 (@pv _ 0 _ _ (by rfl) (by trivial) (by decide) (by decide)) (@Ag _ _ _ _) (fun _ _ => rfl)) (@Ab _) (by rfl)) (by rfl))) (@Ab _) (by rfl)) (by rfl))) (@Ab _) (by rfl)) (by rfl) (by rfl) (by rfl) (by rfl) (by rfl)) (by rfl)) (@Ad _ _ _ _ _ (@A3 _ _ (9) _ _ _ _ Bm.nd rfl (by trivial) (@Ch _ _ _ _ _ _ _ _ _ _ _ _ _ _ _ _ _ M.kP M.oP (hr.mono (by decide)) rfl M.mP M.bP .nil Db (@Aa _ _ _ _ _ (@Bk _ _ _ _ _ _ _ A5 (@pv _ 0 _ _ (by rfl) (by trivial) (by decide) (by decide)) (@Ag _ _ _ _) (fun _ _ => rfl)) (@Aa _ _ _ _ _ (@Ai _ _ _ _ _ (@Ab _)) (@Aa _ _ _ _ _ (@Am _ _ _ _ (@Aa _ _ _ _ _ (@Ai _ _ _ _ _ (@Aa _ _ _ _ _ (@Al _ _ _ _) (@Aa _ _ _ _ _ (@Ch _ _ _ _ _ _ _ _ _ _ _ _ _ _ _ _ _ M.kP M.oP (hr.mono (by decide)) rfl M.mP BD hB Db (@Aa _ _ _ _ _ (@Bk _ _ _ _ _ _ _ A5 (@pv _ 0 _ _ (by rfl) (by trivial) (by decide) (by decide)) (@Ag _ _ _ _) (fun _ _ => rfl)) (@Ab _) (by rfl)) (by decide) (by rfl) (by rfl)) (@Ab _) (by rfl)) (by rfl))) (@Ab _) (by rfl))) (@Ab _) (by rfl)) (by rfl)) (by rfl)) (by decide) (by rfl) (by rfl)) (by rfl) (by first | exact .inl rfl | exact .inr rfl | assumption)) (@Ad _ _ _ _ _ (@At _ _ _ _ (@C3 _ _ _ _ _ _ _ _ _ _ _ _ PySem.F.plainAttrs_list PySem.F.slot_list_append PySem.F.type_list_append Az (@pv _ 4 _ _ (by rfl) (by trivial) (by decide) (by decide)) (@Aa _ _ _ _ _ (@Am _ _ _ _ (@Aa _ _ _ _ _ (@Am _ _ _ _ (@Aa _ _ _ _ _ (@Ai _ _ _ _ _ (@Aa _ _ _ _ _ (@Al _ _ _ _) (@Aa _ _ _ _ _ (@pv _ 3 _ _ (by rfl) (by trivial) (by decide) (by decide)) (@Ab _) (by rfl)) (by rfl))) (@Aa _ _ _ _ _ (@Ai _ _ _ _ _ (@Aa _ _ _ _ _ (@Al _ _ _ _) (@Aa _ _ _ _ _ (@pv _ 9 _ _ (by rfl) (by trivial) (by decide) (by decide)) (@Ab _) (by rfl)) (by rfl))) (@Ab _) (by rfl)) (by rfl))) (@Aa _ _ _ _ _ (@Ai _ _ _ _ _ (@Aa _ _ _ _ _ (@Al _ _ _ _) (@Aa _ _ _ _ _ (@Bk _ _ _ _ _ _ _ A5 (@pv _ 0 _ _ (by rfl) (by trivial) (by decide) (by decide)) (@Ag _ _ _ _) (fun _ _ => rfl)) (@Ab _) (by rfl)) (by rfl))) (@Ab _) (by rfl)) (by rfl))) (@Ab _) (by rfl)) (by rfl) (by rfl) (by rfl) (by rfl) (by rfl)) (by rfl)) (@Ad _ _ _ _ _ (@At _ _ _ _ (@C3 _ _ _ _ _ _ _ _ _ _ _ _ PySem.F.plainAttrs_list PySem.F.slot_list_append PySem.F.type_list_append Az (@pv _ 4 _ _ (by rfl) (by trivial) (by decide) (by decide)) (@Aa _ _ _ _ _ (@Am _ _ _ _ (@Aa _ _ _ _ _ (@Am _ _ _ _ (@Aa _ _ _ _ _ (@Ai _ _ _ _ _ (@Aa _ _ _ _ _ (@Al _ _ _ _) (@Aa _ _ _ _ _ (@pv _ 2 _ _ (by rfl) (by trivial) (by decide) (by decide)) (@Ab _) (by rfl)) (by rfl))) (@Aa _ _ _ _ _ (@Ai _ _ _ _ _ (@Aa _ _ _ _ _ (@Al _ _ _ _) (@Aa _ _ _ _ _ (@pv _ 2 _ _ (by rfl) (by trivial) (by decide) (by decide)) (@Ab _) (by rfl)) (by rfl))) (@Aa _ _ _ _ _ (@Ai _ _ _ _ _ (@Aa _ _ _ _ _ (@Al _ _ _ _) (@Aa _ _ _ _ _ (@Ch _ _ _ _ _ _ _ _ _ _ _ _ _ _ _ _ _ M.kP M.oP (hr.mono (by decide)) rfl M.mP BD hB Db (@Aa _ _ _ _ _ (@Bk _ _ _ _ _ _ _ A5 (@pv _ 0 _ _ (by rfl) (by trivial) (by decide) (by decide)) (@Ag _ _ _ _) (fun _ _ => rfl)) (@Ab _) (by rfl)) (by decide) (by rfl) (by rfl)) (@Ab _) (by rfl)) (by rfl))) (@Ab _) (by rfl)) (by rfl)) (by rfl))) (@Aa _ _ _ _ _ (@Ai _ _ _ _ _ (@Aa _ _ _ _ _ (@Al _ _ _ _) (@Aa _ _ _ _ _ (@Bk _ _ _ _ _ _ _ A5 (@pv _ 0 _ _ (by rfl) (by trivial) (by decide) (by decide)) (@Ag _ _ _ _) (fun _ _ => rfl)) (@Ab _) (by rfl)) (by rfl))) (@Ab _) (by rfl)) (by rfl))) (@Ab _) (by rfl)) (by rfl) (by rfl) (by rfl) (by rfl) (by rfl)) (by rfl)) (@Ad _ _ _ _ _ (@At _ _ _ _ (@C3 _ _ _ _ _ _ _ _ _ _ _ _ PySem.F.plainAttrs_list PySem.F.slot_list_append PySem.F.type_list_append Az (@pv _ 4 _ _ (by rfl) (by trivial) (by decide) (by decide)) (@Aa _ _ _ _ _ (@Am _ _ _ _ (@Aa _ _ _ _ _ (@Am _ _ _ _ (@Aa _ _ _ _ _ (@Ai _ _ _ _ _ (@Aa _ _ _ _ _ (@Al _ _ _ _) (@Aa _ _ _ _ _ (@Ay _ _ _ _ _ _ _ _ _ _ _ F__law_chain hr (by decide) rfl (@Aa _ _ _ _ _ (@Bl _ _ _ _ _ _ _ _ _ _ Ca (@pv _ 0 _ _ (by rfl) (by trivial) (by decide) (by decide)) (@Br _ _ _ (@Ag _ _ _ _)) (@Cb _)) (@Aa _ _ _ _ _ (@Ag _ _ _ _) (@Ab _) (by rfl)) (by rfl)) (by decide) (by rfl) (by rfl)) (@Ab _) (by rfl)) (by rfl))) (@Ab _) (by rfl))) (@Aa _ _ _ _ _ (@Ai _ _ _ _ _ (@Aa _ _ _ _ _ (@Al _ _ _ _) (@Aa _ _ _ _ _ (@Ag _ _ _ _) (@Ab _) (by rfl)) (by rfl))) (@Ab _) (by rfl)) (by rfl))) (@Ab _) (by rfl)) (by rfl) (by rfl) (by rfl) (by rfl) (by rfl)) (by rfl)) (@Ad _ _ _ _ _ (@A3 _ _ (9) _ _ _ _ Bm.nd rfl (by trivial) (@Ch _ _ _ _ _ _ _ _ _ _ _ _ _ _ _ _ _ M.kP M.oP (hr.mono (by decide)) rfl M.mP M.bP .nil Db (@Aa _ _ _ _ _ (@Bk _ _ _ _ _ _ _ A5 (@pv _ 0 _ _ (by rfl) (by trivial) (by decide) (by decide)) (@Ag _ _ _ _) (fun _ _ => rfl)) (@Aa _ _ _ _ _ (@Ai _ _ _ _ _ (@Ab _)) (@Aa _ _ _ _ _ (@Am _ _ _ _ (@Aa _ _ _ _ _ (@Ai _ _ _ _ _ (@Aa _ _ _ _ _ (@Al _ _ _ _) (@Aa _ _ _ _ _ (@Ay _ _ _ _ _ _ _ _ _ _ _ F__law_chain hr (by decide) rfl (@Aa _ _ _ _ _ (@Bl _ _ _ _ _ _ _ _ _ _ Ca (@pv _ 0 _ _ (by rfl) (by trivial) (by decide) (by decide)) (@Br _ _ _ (@Ag _ _ _ _)) (@Cb _)) (@Aa _ _ _ _ _ (@Ag _ _ _ _) (@Ab _) (by rfl)) (by rfl)) (by decide) (by rfl) (by rfl)) (@Ab _) (by rfl)) (by rfl))) (@Ab _) (by rfl))) (@Ab _) (by rfl)) (by rfl)) (by rfl)) (by decide) (by rfl) (by rfl)) (by rfl) (by first | exact .inl rfl | exact .inr rfl | assumption)) (@Ad _ _ _ _ _ (@At _ _ _ _ (@C3 _ _ _ _ _ _ _ _ _ _ _ _ PySem.F.plainAttrs_list PySem.F.slot_list_append PySem.F.type_list_append Az (@pv _ 4 _ _ (by rfl) (by trivial) (by decide) (by decide)) (@Aa _ _ _ _ _ (@Am _ _ _ _ (@Aa _ _ _ _ _ (@Am _ _ _ _ (@Aa _ _ _ _ _ (@Ai _ _ _ _ _ (@Aa _ _ _ _ _ (@Al _ _ _ _) (@Aa _ _ _ _ _ (@pv _ 2 _ _ (by rfl) (by trivial) (by decide) (by decide)) (@Ab _) (by rfl)) (by rfl))) (@Aa _ _ _ _ _ (@Ai _ _ _ _ _ (@Aa _ _ _ _ _ (@Al _ _ _ _) (@Aa _ _ _ _ _ (@pv _ 9 _ _ (by rfl) (by trivial) (by decide) (by decide)) (@Ab _) (by rfl)) (by rfl))) (@Ab _) (by rfl)) (by rfl))) (@Aa _ _ _ _ _ (@Ai _ _ _ _ _ (@Aa _ _ _ _ _ (@Al _ _ _ _) (@Aa _ _ _ _ _ (@Ag _ _ _ _) (@Ab _) (by rfl)) (by rfl))) (@Ab _) (by rfl)) (by rfl))) (@Ab _) (by rfl)) (by rfl) (by rfl) (by rfl) (by rfl) (by rfl)) (by rfl)) (@Ae _ _ _ (@As _ _ _ _ (@A7 _ _ _ _ _ _ _ _ op_cat (@pv _ 4 _ _ (by rfl) (by trivial) (by decide) (by decide)) (@Ay _ _ _ _ _ _ _ _ _ _ _ F__law_great hr (by decide) rfl (@Aa _ _ _ _ _ (@pv _ 0 _ _ (by rfl) (by trivial) (by decide) (by decide)) (@Ab _) (by rfl)) (by decide) (by rfl) (by rfl)))))))))))))))))))))))),?_⟩
  have hs : sizeLine = 16777216 := sizeLine_eq
  generalize hfz : nz zs = f at hf
  have hz : ∀ {k m : Nat},k + m ≤ 34 → (zs.drop k).take m = (List.range' k m).map f := fun h => by rw [← hfz]; exact stretch_ix hN h
  have hx : ∀ {i : Nat},i < 34 → atI (zs.map V.str) ((i : Nat) : Int) = some (.str (f i)) := fun h => by rw [← hfz]; exact nz_ix hN h
  obtain ⟨wd,ewd,hwd⟩ : ∃ wd : Nat,m / 50 % 7 = (wd : Int) ∧ wd < 7 := nat_of (Int.emod_nonneg _ (by decide)) (Int.emod_lt_of_pos _ (by decide))
  obtain ⟨wo1,wo2,wo3⟩ := w_ok ⟨wd,hwd⟩
  refine ⟨_,rfl,ln,_,_,_,rfl,rfl,SqL.of hln,hx (i := 1) (by decide),fun a1 dx1 y1 y2 _ => leafP hf (by decide) y1 y2 fun G1 g1 hP1 => ⟨rfl,?_⟩⟩
  refine ⟨_,rfl,_,rfl,ln,_,rfl,SqL.of (g1 _ _ hln),fun cs hcs => ?_⟩
  rw [show cutV (zs.map V.str) (some 2) none = (zs.drop 2).map V.str from Dd hN (k := 2) (by decide)]
  generalize hq : upd G1 cs (.lst ((zs.drop 2).map V.str)) = G2
  have g2 := Nw hq hcs
  have e2 := Ns hq
  refine ⟨_,rfl,_,_,rfl,rfl,⟨by decide,by decide⟩,_,_,rfl,rfl,(by show (0 : Int) < 7; decide),_,_,rfl,rfl,?_⟩
  refine ⟨cs,1 + wd,f,_,2,List.range' 3 wd,(by rw [ewd]; show [V.ref cs,V.int (1 + (wd : Int))] = [V.ref cs,V.int ((1 + wd : Nat) : Int)]; rw [show ((1 + wd : Nat) : Int) = 1 + (wd : Int) by omega]),e2,(by rw [hz (by omega),show 1 + wd = wd + 1 by omega,List.range'_succ]),hf,wo1,wo2,wo3,(by rw [List.length_drop,hN.l]; decide),fun a2 G3 g3 hP2 => ?_⟩
  have hP2 : PAt C G3 a2 (ndI f 2 (wI wd)) := hP2
  have hP1 := hP1.same (g2.trans g3)
  have gA := (g1.trans g2).trans g3
  clear g1 g2 g3 e2 hcs y1 y2
  refine ⟨(by exact Z0),fun l0 h_l0 => ?_⟩
  generalize hq : upd G3 l0 (.lst []) = H1
  have s1 := Nw hq h_l0
  have e1 := Ns hq
  have S1 := s1
  refine ⟨(by exact Z2),fun r0 h_r0 => ?_⟩
  generalize hq : upd H1 r0 (.lst [.ref l0,.non]) = H2
  have s2 := Nw hq h_r0
  have e2 := Ns hq
  have S2 := S1.trans s2
  refine ⟨(by exact Z2),fun r1 h_r1 => ?_⟩
  generalize hq : upd H2 r1 (.lst [.non,.non]) = H3
  have s3 := Nw hq h_r1
  have e3 := Ns hq
  have S3 := S2.trans s3
  refine ⟨_,rfl,(by exact Z2),fun t2 h_t2 => ?_⟩
  generalize hq : upd H3 t2 (.tup [.str "called",.ref a1]) = H4
  have s4 := Nw hq h_t2
  have e4 := Ns hq
  have S4 := S3.trans s4
  refine ⟨(by exact Z1),fun l2 h_l2 => ?_⟩
  generalize hq : upd H4 l2 (.lst [.ref t2]) = H5
  have s5 := Nw hq h_l2
  have e5 := Ns hq
  have S5 := S4.trans s5
  refine ⟨(by exact Z2),fun r2 h_r2 => ?_⟩
  generalize hq : upd H5 r2 (.lst [.ref l2,.non]) = H6
  have s6 := Nw hq h_r2
  have e6 := Ns hq
  have S6 := S5.trans s6
  refine ⟨_,rfl,(by exact Z2),fun t3 h_t3 => ?_⟩
  generalize hq : upd H6 t3 (.tup [.str "joined",.ref a1]) = H7
  have s7 := Nw hq h_t3
  have e7 := Ns hq
  have S7 := S6.trans s7
  refine ⟨_,rfl,(by exact Z2),fun t4 h_t4 => ?_⟩
  generalize hq : upd H7 t4 (.tup [.str "changed",.ref a2]) = H8
  have s8 := Nw hq h_t4
  have e8 := Ns hq
  have S8 := S7.trans s8
  refine ⟨(by exact Z2),fun tt h_tt => ?_⟩
  generalize hq : upd H8 tt (.tup [.ref t3,.ref t4]) = H9
  have s9 := Nw hq h_tt
  have e9 := Ns hq
  have S9 := S8.trans s9
  refine ⟨(by exact Z2),fun r3 h_r3 => ?_⟩
  generalize hq : upd H9 r3 (.lst [.ref tt,.non]) = H10
  have s10 := Nw hq h_r3
  have e10 := Ns hq
  have S10 := S9.trans s10
  have T10 : Same H10 H10 := Same.refl _
  have T9 : Same H9 H10 := s10.trans T10
  have T8 : Same H8 H10 := s9.trans T9
  have T7 : Same H7 H10 := s8.trans T8
  have T6 : Same H6 H10 := s7.trans T7
  have T5 : Same H5 H10 := s6.trans T6
  have T4 : Same H4 H10 := s5.trans T5
  have T3 : Same H3 H10 := s4.trans T4
  have T2 : Same H2 H10 := s3.trans T3
  have T1 : Same H1 H10 := s2.trans T2
  have f_l0 := T1 _ _ e1
  have f_r0 := T2 _ _ e2
  have f_r1 := T3 _ _ e3
  have f_t2 := T4 _ _ e4
  have f_l2 := T5 _ _ e5
  have f_r2 := T6 _ _ e6
  have f_t3 := T7 _ _ e7
  have f_t4 := T8 _ _ e8
  have f_tt := T9 _ _ e9
  have f_r3 := T10 _ _ e10
  have q1 := hP1.same S10
  have q2 := hP2.same S10
  refine ⟨(by exact Z4),fun ls hls => ?_⟩
  have st0 : St K C f H10 (upd H10 ls (.lst [.ref r0,.ref r1,.ref r2,.ref r3])) ls 4 := St.start (rs := [r0,r1,r2,r3]) hls fun r hr => by
   simp only [List.mem_cons,List.not_mem_nil,or_false] at hr
   rcases hr with rfl | rfl | rfl | rfl
   ·exact ⟨_,_,f_r0,.inl ⟨[],.nil,.inr (.inl ⟨l0,rfl,f_l0,rfl,by decide⟩),by decide +kernel,rfl⟩⟩
   ·exact ⟨_,_,f_r1,.inl ⟨[],.nil,.inl ⟨rfl,rfl,rfl⟩,by decide +kernel,rfl⟩⟩
   ·exact ⟨_,_,f_r2,.inl ⟨_,.cons 0 1 .nil .nil,.inr (.inl ⟨l2,rfl,f_l2,FAt.of (A2.one ⟨t2,a1,rfl,f_t2,(by dsimp only; decide),q1⟩),(by show 1 ≤ 6; decide)⟩),by decide +kernel,rfl⟩⟩
   ·exact ⟨_,_,f_r3,.inl ⟨_,.cons 2 1 .nil (.cons 3 2 (wI wd) .nil),.inr (.inr ⟨tt,rfl,f_tt,FAt.of (A2.cons ⟨t3,a1,rfl,f_t3,(by dsimp only; decide),q1⟩ (A2.one ⟨t4,a2,rfl,f_t4,(by dsimp only; decide),q2⟩)),(by show 2 ≤ 6; decide)⟩),w_good ⟨wd,hwd⟩,rfl⟩⟩
  have cq : Same H H10 := gA.trans S10
  have c_ln := cq _ _ hln
  have cp1 := q1
  have cp2 := q2
  generalize upd H10 ls (.lst [.ref r0,.ref r1,.ref r2,.ref r3]) = H0 at st0 ⊢
  generalize H10 = D0 at st0 cq c_ln cp1 cp2
  clear q1 q2 gA hP1 hP2 f_l0 f_r0 f_r1 f_t2 f_l2 f_r2 f_t3 f_t4 f_tt f_r3 e1 T1 S1 s1 e2 T2 S2 s2 e3 T3 S3 s3 e4 T4 S4 s4 e5 T5 S5 s5 e6 T6 S6 s6 e7 T7 S7 s7 e8 T8 S8 s8 e9 T9 S9 s9 e10 T10 S10 s10
  refine ⟨_,rfl,ln,_,_,_,rfl,rfl,SqL.of (st0.sub _ _ c_ln),hx (i := 1) (by decide),?_⟩
  intro dd1 h_dd1
  obtain ⟨n1,st1⟩ := st0.new (o := .dK []) h_dd1
  have d1 := Same.new (o := .dK []) n1
  have e_dd1 : upd D0 dd1 (.dK []) dd1 = some (.dK []) := Ac
  generalize upd D0 dd1 (.dK []) = D1 at st1 d1 e_dd1
  generalize upd H0 dd1 (.dK []) = H1 at st1 ⊢
  refine ⟨_,rfl,(by exact Z1),fun l4 h_l4 => ?_⟩
  obtain ⟨n2,st2⟩ := st1.new (o := .lst [.ref a1]) h_l4
  have d2 := Same.new (o := .lst [.ref a1]) n2
  have e_l4 : upd D1 l4 (.lst [.ref a1]) l4 = some (.lst [.ref a1]) := Ac
  generalize upd D1 l4 (.lst [.ref a1]) = D2 at st2 d2 e_l4
  generalize upd H1 l4 (.lst [.ref a1]) = H2 at st2 ⊢
  refine ⟨(by exact Z1),fun t5 h_t5 => ?_⟩
  obtain ⟨n3,st3⟩ := st2.new (o := .tup [.str "joined"]) h_t5
  have d3 := Same.new (o := .tup [.str "joined"]) n3
  have e_t5 : upd D2 t5 (.tup [.str "joined"]) t5 = some (.tup [.str "joined"]) := Ac
  generalize upd D2 t5 (.tup [.str "joined"]) = D3 at st3 d3 e_t5
  generalize upd H2 t5 (.tup [.str "joined"]) = H3 at st3 ⊢
  refine ⟨(by exact Z1),fun l5 h_l5 => ?_⟩
  obtain ⟨n4,st4⟩ := st3.new (o := .lst [.ref t5]) h_l5
  have d4 := Same.new (o := .lst [.ref t5]) n4
  have e_l5 : upd D3 l5 (.lst [.ref t5]) l5 = some (.lst [.ref t5]) := Ac
  generalize upd D3 l5 (.lst [.ref t5]) = D4 at st4 d4 e_l5
  generalize upd H3 l5 (.lst [.ref t5]) = H4 at st4 ⊢
  refine ⟨_,rfl,(by exact Z2),fun q6 h_q6 => ?_⟩
  obtain ⟨n5,st5⟩ := st4.new (o := .lst [.str "joined",.ref a1]) h_q6
  have d5 := Same.new (o := .lst [.str "joined",.ref a1]) n5
  have e_q6 : upd D4 q6 (.lst [.str "joined",.ref a1]) q6 = some (.lst [.str "joined",.ref a1]) := Ac
  generalize upd D4 q6 (.lst [.str "joined",.ref a1]) = D5 at st5 d5 e_q6
  generalize upd H4 q6 (.lst [.str "joined",.ref a1]) = H5 at st5 ⊢
  refine ⟨(by exact Z1),fun l6 h_l6 => ?_⟩
  obtain ⟨n6,st6⟩ := st5.new (o := .lst [.ref q6]) h_l6
  have d6 := Same.new (o := .lst [.ref q6]) n6
  have e_l6 : upd D5 l6 (.lst [.ref q6]) l6 = some (.lst [.ref q6]) := Ac
  generalize upd D5 l6 (.lst [.ref q6]) = D6 at st6 d6 e_l6
  generalize upd H5 l6 (.lst [.ref q6]) = H6 at st6 ⊢
  refine ⟨(by exact Z7),fun lo h_lo => ?_⟩
  obtain ⟨n7,st7⟩ := st6.new (o := .lst [.bl true,.int 7,.str (f 1),.ref dd1,.ref l4,.ref l5,.ref l6]) h_lo
  have d7 := Same.new (o := .lst [.bl true,.int 7,.str (f 1),.ref dd1,.ref l4,.ref l5,.ref l6]) n7
  have e_lo : upd D6 lo (.lst [.bl true,.int 7,.str (f 1),.ref dd1,.ref l4,.ref l5,.ref l6]) lo = some (.lst [.bl true,.int 7,.str (f 1),.ref dd1,.ref l4,.ref l5,.ref l6]) := Ac
  generalize upd D6 lo (.lst [.bl true,.int 7,.str (f 1),.ref dd1,.ref l4,.ref l5,.ref l6]) = D7 at st7 d7 e_lo
  generalize upd H6 lo (.lst [.bl true,.int 7,.str (f 1),.ref dd1,.ref l4,.ref l5,.ref l6]) = H7 at st7 ⊢
  refine ⟨_,rfl,_,rfl,(by exact Z3),fun t7 h_t7 => ?_⟩
  obtain ⟨n8,st8⟩ := st7.new (o := .tup [.str "joined",.ref a1,.int 1]) h_t7
  have d8 := Same.new (o := .tup [.str "joined",.ref a1,.int 1]) n8
  have e_t7 : upd D7 t7 (.tup [.str "joined",.ref a1,.int 1]) t7 = some (.tup [.str "joined",.ref a1,.int 1]) := Ac
  generalize upd D7 t7 (.tup [.str "joined",.ref a1,.int 1]) = D8 at st8 d8 e_t7
  generalize upd H7 t7 (.tup [.str "joined",.ref a1,.int 1]) = H8 at st8 ⊢
  refine ⟨(by exact Z1),fun l7 h_l7 => ?_⟩
  obtain ⟨n9,st9⟩ := st8.new (o := .lst [.ref t7]) h_l7
  have d9 := Same.new (o := .lst [.ref t7]) n9
  have e_l7 : upd D8 l7 (.lst [.ref t7]) l7 = some (.lst [.ref t7]) := Ac
  generalize upd D8 l7 (.lst [.ref t7]) = D9 at st9 d9 e_l7
  generalize upd H8 l7 (.lst [.ref t7]) = H9 at st9 ⊢
  refine ⟨(by exact Z2),fun t8 h_t8 => ?_⟩
  obtain ⟨n10,st10⟩ := st9.new (o := .tup [.str "joined",.non]) h_t8
  have d10 := Same.new (o := .tup [.str "joined",.non]) n10
  have e_t8 : upd D9 t8 (.tup [.str "joined",.non]) t8 = some (.tup [.str "joined",.non]) := Ac
  generalize upd D9 t8 (.tup [.str "joined",.non]) = D10 at st10 d10 e_t8
  generalize upd H9 t8 (.tup [.str "joined",.non]) = H10 at st10 ⊢
  refine ⟨(by exact Z1),fun l8 h_l8 => ?_⟩
  obtain ⟨n11,st11⟩ := st10.new (o := .lst [.ref t8]) h_l8
  have d11 := Same.new (o := .lst [.ref t8]) n11
  have e_l8 : upd D10 l8 (.lst [.ref t8]) l8 = some (.lst [.ref t8]) := Ac
  generalize upd D10 l8 (.lst [.ref t8]) = D11 at st11 d11 e_l8
  generalize upd H10 l8 (.lst [.ref t8]) = H11 at st11 ⊢
  refine ⟨(by exact Z2),fun lx h_lx => ?_⟩
  obtain ⟨n12,st12⟩ := st11.new (o := .lst [.ref l7,.ref l8]) h_lx
  have d12 := Same.new (o := .lst [.ref l7,.ref l8]) n12
  have e_lx : upd D11 lx (.lst [.ref l7,.ref l8]) lx = some (.lst [.ref l7,.ref l8]) := Ac
  generalize upd D11 lx (.lst [.ref l7,.ref l8]) = D12 at st12 d12 e_lx
  generalize upd H11 lx (.lst [.ref l7,.ref l8]) = H12 at st12 ⊢
  refine ⟨lo,lx,_,_,rfl,rfl,(st12.sub _ _ ((d8.trans (d9.trans (d10.trans (d11.trans d12)))) _ _ e_lo)),(st12.sub _ _ e_lx),(by exact Z9),?_⟩
  intro lc h_lc
  obtain ⟨n13,st13⟩ := st12.new (o := .lst ([.bl true,.int 7,.str (f 1),.ref dd1,.ref l4,.ref l5,.ref l6] ++ [.ref l7,.ref l8])) h_lc
  have d13 := Same.new (o := .lst ([.bl true,.int 7,.str (f 1),.ref dd1,.ref l4,.ref l5,.ref l6] ++ [.ref l7,.ref l8])) n13
  have e_lc : upd D12 lc (.lst ([.bl true,.int 7,.str (f 1),.ref dd1,.ref l4,.ref l5,.ref l6] ++ [.ref l7,.ref l8])) lc = some (.lst ([.bl true,.int 7,.str (f 1),.ref dd1,.ref l4,.ref l5,.ref l6] ++ [.ref l7,.ref l8])) := Ac
  generalize upd D12 lc (.lst ([.bl true,.int 7,.str (f 1),.ref dd1,.ref l4,.ref l5,.ref l6] ++ [.ref l7,.ref l8])) = D13 at st13 d13 e_lc
  generalize upd H12 lc (.lst ([.bl true,.int 7,.str (f 1),.ref dd1,.ref l4,.ref l5,.ref l6] ++ [.ref l7,.ref l8])) = H13 at st13 ⊢
  obtain ⟨dx1',fs1,hA1,_⟩ := (cp1.same (d1.trans (d2.trans (d3.trans (d4.trans (d5.trans (d6.trans (d7.trans (d8.trans (d9.trans (d10.trans (d11.trans (d12.trans d13))))))))))))).ins
  have oddA : ∀ v ∈ ([.bl true,.int 7,.str (f 1),.ref dd1,.ref l4,.ref l5,.ref l6,.ref l7,.ref l8] : List V),BnOdd K C D13 v := by
   intro v hv
   simp only [List.mem_cons,List.not_mem_nil,or_false] at hv
   rcases hv with rfl | rfl | rfl | rfl | rfl | rfl | rfl | rfl | rfl
   ·exact ⟨.no (k := .bl) (.bl _) rfl (by intro z; cases z),⟨.bl,.bl _⟩,trivial⟩
   ·exact ⟨.no (k := .int) (.int _) rfl (by intro z; cases z),⟨.int,.int _⟩,trivial⟩
   ·exact ⟨.no (k := .str) (.str _) rfl (by intro z; cases z),⟨.str,.str _⟩,trivial⟩
   ·exact ⟨.no (k := .dct) (.dK ((d2.trans (d3.trans (d4.trans (d5.trans (d6.trans (d7.trans (d8.trans (d9.trans (d10.trans (d11.trans (d12.trans d13))))))))))) _ _ e_dd1)) rfl (by intro z; cases z),⟨.dct,.dK ((d2.trans (d3.trans (d4.trans (d5.trans (d6.trans (d7.trans (d8.trans (d9.trans (d10.trans (d11.trans (d12.trans d13))))))))))) _ _ e_dd1)⟩,trivial⟩
   ·exact ⟨.nj (bs := [false]) ((d3.trans (d4.trans (d5.trans (d6.trans (d7.trans (d8.trans (d9.trans (d10.trans (d11.trans (d12.trans d13)))))))))) _ _ e_l4) (by show 1 ≤ 100; decide) (A2.one (.inr ⟨rfl,.ins hA1⟩)) rfl,⟨.lst,.lst ((d3.trans (d4.trans (d5.trans (d6.trans (d7.trans (d8.trans (d9.trans (d10.trans (d11.trans (d12.trans d13)))))))))) _ _ e_l4)⟩,trivial⟩
   ·exact ⟨.nj (bs := [false]) ((d5.trans (d6.trans (d7.trans (d8.trans (d9.trans (d10.trans (d11.trans (d12.trans d13)))))))) _ _ e_l5) (by show 1 ≤ 100; decide) (A2.one (.inr ⟨rfl,.ln ((d4.trans (d5.trans (d6.trans (d7.trans (d8.trans (d9.trans (d10.trans (d11.trans (d12.trans d13))))))))) _ _ e_t5) (by decide) (by show 1 ≤ 100; decide)⟩)) rfl,⟨.lst,.lst ((d5.trans (d6.trans (d7.trans (d8.trans (d9.trans (d10.trans (d11.trans (d12.trans d13)))))))) _ _ e_l5)⟩,trivial⟩
   ·exact ⟨.nj (bs := [false]) ((d7.trans (d8.trans (d9.trans (d10.trans (d11.trans (d12.trans d13)))))) _ _ e_l6) (by show 1 ≤ 100; decide) (A2.one (.inr ⟨rfl,.kd (k := .lst) (.lst ((d6.trans (d7.trans (d8.trans (d9.trans (d10.trans (d11.trans (d12.trans d13))))))) _ _ e_q6)) rfl⟩)) rfl,⟨.lst,.lst ((d7.trans (d8.trans (d9.trans (d10.trans (d11.trans (d12.trans d13)))))) _ _ e_l6)⟩,trivial⟩
   ·exact ⟨.nj (bs := [false]) ((d10.trans (d11.trans (d12.trans d13))) _ _ e_l7) (by show 1 ≤ 100; decide) (A2.one (.inr ⟨rfl,.ln ((d9.trans (d10.trans (d11.trans (d12.trans d13)))) _ _ e_t7) (by show 3 ≠ 2; decide) (by show 3 ≤ 100; decide)⟩)) rfl,⟨.lst,.lst ((d10.trans (d11.trans (d12.trans d13))) _ _ e_l7)⟩,trivial⟩
   ·exact ⟨.nj (bs := [false]) ((d12.trans d13) _ _ e_l8) (by show 1 ≤ 100; decide) (A2.one (.inr ⟨rfl,.n2 ((d11.trans (d12.trans d13)) _ _ e_t8)⟩)) rfl,⟨.lst,.lst ((d12.trans d13) _ _ e_l8)⟩,trivial⟩
  have e_lc : D13 lc = some (.lst [.bl true,.int 7,.str (f 1),.ref dd1,.ref l4,.ref l5,.ref l6,.ref l7,.ref l8]) := e_lc
  replace c_ln := ((d1.trans (d2.trans (d3.trans (d4.trans (d5.trans (d6.trans (d7.trans (d8.trans (d9.trans (d10.trans (d11.trans (d12.trans d13)))))))))))) _ _ c_ln)
  replace cp1 := (cp1.same (d1.trans (d2.trans (d3.trans (d4.trans (d5.trans (d6.trans (d7.trans (d8.trans (d9.trans (d10.trans (d11.trans (d12.trans d13)))))))))))))
  replace cp2 := (cp2.same (d1.trans (d2.trans (d3.trans (d4.trans (d5.trans (d6.trans (d7.trans (d8.trans (d9.trans (d10.trans (d11.trans (d12.trans d13)))))))))))))
  replace cq := cq.trans (d1.trans (d2.trans (d3.trans (d4.trans (d5.trans (d6.trans (d7.trans (d8.trans (d9.trans (d10.trans (d11.trans (d12.trans d13))))))))))))
  refine ⟨lc,rfl,⟨_,SqL.of (st13.sub _ _ e_lc)⟩,B0 (K := K) (a := lc) (xs := [.bl true,.int 7,.str (f 1),.ref dd1,.ref l4,.ref l5,.ref l6,.ref l7,.ref l8]) (fun i σ H' => ∃ (D' : Hp) (v5 v6 : Option V),σ = [some (.ref ln),some (.int m),some (.ref a1),some (.ref a2),some (.ref ls),v5,v6,none,none,none] ∧ St K C f D' H' ls (4 + i) ∧ Same D13 D') ⟨D13,_,_,rfl,st13,Same.refl _⟩ (fun i σ H' _ ⟨_,_,_,_,st,sd⟩ => SqL.of (st.sub _ _ (sd _ _ e_lc))) ?_ ?_⟩
  ·rintro i v σ H113 hv ⟨D113,v5,v6,rfl,st113,sd⟩
   have od := (oddA v (List.mem_of_getElem? hv)).same sd
   have hi9 : i < 9 := (List.getElem?_eq_some_iff.mp hv).1
   obtain ⟨xs113,ex113,_⟩ := st113.ln
   refine ⟨_,rfl,.inl ⟨rfl,_,SqL.of ex113⟩,_,rfl,?_⟩
   refine ⟨_,rfl,(by exact Z2),fun qd h_qd => ?_⟩
   obtain ⟨n114,st114⟩ := st113.new (o := .tup [.str "beneath",v]) h_qd
   have d114 := Same.new (o := .tup [.str "beneath",v]) n114
   have e_qd : upd D113 qd (.tup [.str "beneath",v]) qd = some (.tup [.str "beneath",v]) := Ac
   generalize upd D113 qd (.tup [.str "beneath",v]) = D114 at st114 d114 e_qd
   generalize upd H113 qd (.tup [.str "beneath",v]) = H114 at st114 ⊢
   refine ⟨(by exact Z2),fun r h_r => ?_⟩
   obtain ⟨n115,st115⟩ := st114.new (o := .lst [v,.ref qd]) h_r
   have d115 := Same.new (o := .lst [v,.ref qd]) n115
   have e_r : upd D114 r (.lst [v,.ref qd]) r = some (.lst [v,.ref qd]) := Ac
   generalize upd D114 r (.lst [v,.ref qd]) = D115 at st115 d115 e_r
   generalize upd H114 r (.lst [v,.ref qd]) = H115 at st115 ⊢
   obtain ⟨ys,ey,el⟩ := st115.ln
   have od2 := od.same (d114.trans d115)
   have te : TEr K C f D115 r := ⟨_,_,e_r,.inr ⟨.bn v,.inl od2.1,C5.it (u := .bn v) (d115 _ _ e_qd) od2.2.1 od2.2.2⟩⟩
   refine ⟨ls,_,_,rfl,rfl,ey,(by omega),?_⟩
   exact ⟨D115,_,_,rfl,st115.app ey te,sd.trans (d114.trans d115)⟩
  rintro σ H14 ⟨D14,v5,v6,rfl,st14,d14⟩
  have st14 : St K C f D14 H14 ls 13 := st14
  replace c_ln := (d14 _ _ c_ln)
  replace cp1 := (cp1.same d14)
  replace cp2 := (cp2.same d14)
  replace cq := cq.trans d14
  clear oddA e_lc
  refine ⟨_,rfl,_,rfl,_,rfl,ln,_,rfl,SqL.of (st14.sub _ _ c_ln),?_⟩
  rw [show cutV (zs.map V.str) (some 1) (some 8) = ((List.range' 1 7).map f).map V.str from cut18 hN hfz]
  intro c7 h_c7
  obtain ⟨n15,st15⟩ := st14.new (o := .lst (((List.range' 1 7).map f).map V.str)) h_c7
  have d15 := Same.new (o := .lst (((List.range' 1 7).map f).map V.str)) n15
  have e_c7 : upd D14 c7 (.lst (((List.range' 1 7).map f).map V.str)) c7 = some (.lst (((List.range' 1 7).map f).map V.str)) := Ac
  generalize upd D14 c7 (.lst (((List.range' 1 7).map f).map V.str)) = D15 at st15 d15 e_c7
  generalize upd H14 c7 (.lst (((List.range' 1 7).map f).map V.str)) = H15 at st15 ⊢
  replace c_ln := (d15 _ _ c_ln)
  replace cp1 := (cp1.same d15)
  replace cp2 := (cp2.same d15)
  replace cq := cq.trans d15
  refine ⟨c7,rfl,⟨_,SqL.of (st15.sub _ _ e_c7)⟩,B2 (K := K) (a := c7) (xs := ((List.range' 1 7).map f).map V.str) (fun k ys H' => ∃ (D' : Hp) (its : List V),ys = its ∧ St K C f D' H' ls 13 ∧ Same D15 D' ∧ A2 (JPAt C D') its (((List.range' 1 7).map fun i => (2,ndI f i .nil)).take k)) ⟨D15,[],rfl,st15,Same.refl _,A2.nil⟩ (by exact Z7) ?_ ?_ ?_ ?_⟩
  ·rintro k ys H' ⟨_,its,rfl,_,_,h⟩
   rw [h.1,List.length_take]; omega
  ·rintro k ys H' _ ⟨_,_,_,st,sd,_⟩
   exact SqL.of (st.sub _ _ (sd _ _ e_c7))
  ·rintro k x ys H' hx7 ⟨D',its,rfl,st,sd,h⟩
   rw [List.getElem?_map,List.getElem?_map] at hx7
   obtain ⟨z,hz7,rfl⟩ := Option.map_eq_some_iff.mp hx7
   obtain ⟨i,hi7,rfl⟩ := Option.map_eq_some_iff.mp hz7
   have h34 : i < 34 := range34 (k := 1) (m := 7) (by decide) i (List.mem_of_getElem? hi7)
   have hy : ((List.range' 1 7).map fun i => (2,ndI f i .nil))[k]? = some (2,ndI f i .nil) := by rw [List.getElem?_map,hi7]; rfl
   refine ⟨_,rfl,fun a dx' y1 y2 _ => leafP hf h34 y1 y2 fun H2 s2 hPa => ⟨rfl,?_⟩⟩
   obtain ⟨D2,st2,d2,tp2⟩ := st.call s2
   have pa := hPa.t tp2
   refine ⟨(by exact Z2),fun t ht => ?_⟩
   obtain ⟨n3,st3⟩ := st2.new (o := .tup [.str "joined",.ref a]) ht
   have d3 := Same.new (o := .tup [.str "joined",.ref a]) n3
   have e3 : upd D2 t (.tup [.str "joined",.ref a]) t = some (.tup [.str "joined",.ref a]) := Ac
   refine ⟨_,ys ++ [.ref t],rfl,st3,(sd.trans d2).trans d3,?_⟩
   rw [A8 hy]
   exact (h.imp fun _ _ e => e.t (.of (d2.trans d3))).app (A2.one ⟨t,a,rfl,e3,(by dsimp only; decide),pa.same d3⟩)
  rintro ys H16 ⟨D16,its,rfl,st16,d16,h7⟩
  replace c_ln := (d16 _ _ c_ln)
  replace cp1 := (cp1.same d16)
  replace cp2 := (cp2.same d16)
  replace cq := cq.trans d16
  have h7 : A2 (JPAt C D16) ys [(2,ndI f 1 .nil),(2,ndI f 2 .nil),(2,ndI f 3 .nil),(2,ndI f 4 .nil),(2,ndI f 5 .nil),(2,ndI f 6 .nil),(2,ndI f 7 .nil)] := h7
  obtain ⟨x0,x1,x2,x3,x4,x5,x6,rfl,j0,j1,j2,j3,j4,j5,j6⟩ := its7 h7
  have ca := h7
  clear h7 j0 j1 j2 j3 j4 j5 j6 e_c7
  intro l7 h_l7
  obtain ⟨n17,st17⟩ := st16.new (o := .lst [x0,x1,x2,x3,x4,x5,x6]) h_l7
  have d17 := Same.new (o := .lst [x0,x1,x2,x3,x4,x5,x6]) n17
  have e_l7 : upd D16 l7 (.lst [x0,x1,x2,x3,x4,x5,x6]) l7 = some (.lst [x0,x1,x2,x3,x4,x5,x6]) := Ac
  generalize upd D16 l7 (.lst [x0,x1,x2,x3,x4,x5,x6]) = D17 at st17 d17 e_l7
  generalize upd H16 l7 (.lst [x0,x1,x2,x3,x4,x5,x6]) = H17 at st17 ⊢
  replace c_ln := (d17 _ _ c_ln)
  replace cp1 := (cp1.same d17)
  replace cp2 := (cp2.same d17)
  replace cq := cq.trans d17
  replace ca := ca.imp fun _ _ e => e.t (.of d17)
  have c_l7 := e_l7
  obtain ⟨xs17,ex17,_⟩ := st17.ln
  obtain ⟨j0,b0⟩ := A2.inv ca; obtain ⟨j1,b1⟩ := A2.inv b0; obtain ⟨j2,b2⟩ := A2.inv b1; obtain ⟨j3,b3⟩ := A2.inv b2; obtain ⟨j4,b4⟩ := A2.inv b3; obtain ⟨j5,b5⟩ := A2.inv b4; obtain ⟨j6,_⟩ := A2.inv b5; clear b0 b1 b2 b3 b4 b5
  refine ⟨_,rfl,.inl ⟨rfl,_,SqL.of ex17⟩,_,rfl,?_⟩
  refine ⟨(by exact Z2),fun qd h_qd => ?_⟩
  obtain ⟨n18,st18⟩ := st17.new (o := .tup [.str "many",.int 7]) h_qd
  have d18 := Same.new (o := .tup [.str "many",.int 7]) n18
  have e_qd : upd D17 qd (.tup [.str "many",.int 7]) qd = some (.tup [.str "many",.int 7]) := Ac
  generalize upd D17 qd (.tup [.str "many",.int 7]) = D18 at st18 d18 e_qd
  generalize upd H17 qd (.tup [.str "many",.int 7]) = H18 at st18 ⊢
  refine ⟨(by exact Z2),fun r h_r => ?_⟩
  obtain ⟨n19,st19⟩ := st18.new (o := .lst [.ref l7,.ref qd]) h_r
  have d19 := Same.new (o := .lst [.ref l7,.ref qd]) n19
  have e_r : upd D18 r (.lst [.ref l7,.ref qd]) r = some (.lst [.ref l7,.ref qd]) := Ac
  generalize upd D18 r (.lst [.ref l7,.ref qd]) = D19 at st19 d19 e_r
  generalize upd H18 r (.lst [.ref l7,.ref qd]) = H19 at st19 ⊢
  obtain ⟨ys19,ey19,el19⟩ := st19.ln
  have te19 : TEr K C f D19 r := ⟨_,_,e_r,.inr ⟨_,.inl (.mn ((d18.trans d19) _ _ c_l7) (by show 7 ≤ 100; decide) (A2.cons (JPAt.row (j0.t (.of (d18.trans d19)))) (A2.cons (JPAt.row (j1.t (.of (d18.trans d19)))) (A2.cons (JPAt.row (j2.t (.of (d18.trans d19)))) (A2.cons (JPAt.row (j3.t (.of (d18.trans d19)))) (A2.cons (JPAt.row (j4.t (.of (d18.trans d19)))) (A2.cons (JPAt.row (j5.t (.of (d18.trans d19)))) (A2.one (JPAt.row (j6.t (.of (d18.trans d19))))))))))) (by show 6 < 7; decide)),C5.it (u := .mn 7) (d19 _ _ e_qd) ⟨.int,.int _⟩ trivial⟩⟩
  refine ⟨ls,_,_,rfl,rfl,ey19,(by omega),?_⟩
  have sa19 := st19.app ey19 te19
  generalize upd H19 ls (.lst (ys19 ++ [.ref r])) = H20 at sa19 ⊢
  replace c_ln := ((d18.trans d19) _ _ c_ln)
  replace cp1 := (cp1.same (d18.trans d19))
  replace cp2 := (cp2.same (d18.trans d19))
  replace cq := cq.trans (d18.trans d19)
  replace ca := ca.imp fun _ _ e => e.t (.of (d18.trans d19))
  replace c_l7 := ((d18.trans d19) _ _ c_l7)
  have st20 := sa19
  have d20 := Same.refl D19
  obtain ⟨D20,hD20⟩ : ∃ D',D' = D19 := ⟨_,rfl⟩
  rw [← hD20] at st20 d20 c_ln cp1 cp2 cq ca c_l7
  clear hD20
  clear j0 j1 j2 j3 j4 j5 j6
  obtain ⟨xs20,ex20,_⟩ := st20.ln
  obtain ⟨j0,b0⟩ := A2.inv ca; obtain ⟨j1,b1⟩ := A2.inv b0; obtain ⟨j2,b2⟩ := A2.inv b1; obtain ⟨j3,b3⟩ := A2.inv b2; obtain ⟨j4,b4⟩ := A2.inv b3; obtain ⟨j5,b5⟩ := A2.inv b4; obtain ⟨j6,_⟩ := A2.inv b5; clear b0 b1 b2 b3 b4 b5
  refine ⟨_,rfl,.inl ⟨rfl,_,SqL.of ex20⟩,_,rfl,_,rfl,l7,_,rfl,SqL.of (st20.sub _ _ c_l7),?_⟩
  intro sa h_sa
  obtain ⟨n21,st21⟩ := st20.new (o := .lst (cutV [x0,x1,x2,x3,x4,x5,x6] (some 1) none)) h_sa
  have d21 := Same.new (o := .lst (cutV [x0,x1,x2,x3,x4,x5,x6] (some 1) none)) n21
  have e_sa : upd D20 sa (.lst (cutV [x0,x1,x2,x3,x4,x5,x6] (some 1) none)) sa = some (.lst (cutV [x0,x1,x2,x3,x4,x5,x6] (some 1) none)) := Ac
  generalize upd D20 sa (.lst (cutV [x0,x1,x2,x3,x4,x5,x6] (some 1) none)) = D21 at st21 d21 e_sa
  generalize upd H20 sa (.lst (cutV [x0,x1,x2,x3,x4,x5,x6] (some 1) none)) = H21 at st21 ⊢
  refine ⟨(by exact Z2),fun ta h_ta => ?_⟩
  obtain ⟨n22,st22⟩ := st21.new (o := .tup [.str "joined",.non]) h_ta
  have d22 := Same.new (o := .tup [.str "joined",.non]) n22
  have e_ta : upd D21 ta (.tup [.str "joined",.non]) ta = some (.tup [.str "joined",.non]) := Ac
  generalize upd D21 ta (.tup [.str "joined",.non]) = D22 at st22 d22 e_ta
  generalize upd H21 ta (.tup [.str "joined",.non]) = H22 at st22 ⊢
  refine ⟨(by exact Z1),fun ma h_ma => ?_⟩
  obtain ⟨n23,st23⟩ := st22.new (o := .lst [.ref ta]) h_ma
  have d23 := Same.new (o := .lst [.ref ta]) n23
  have e_ma : upd D22 ma (.lst [.ref ta]) ma = some (.lst [.ref ta]) := Ac
  generalize upd D22 ma (.lst [.ref ta]) = D23 at st23 d23 e_ma
  generalize upd H22 ma (.lst [.ref ta]) = H23 at st23 ⊢
  refine ⟨sa,ma,_,_,rfl,rfl,(st23.sub _ _ ((d22.trans d23) _ _ e_sa)),(st23.sub _ _ e_ma),(by exact Z7),?_⟩
  intro ba h_ba
  obtain ⟨n24,st24⟩ := st23.new (o := .lst (cutV [x0,x1,x2,x3,x4,x5,x6] (some 1) none ++ [.ref ta])) h_ba
  have d24 := Same.new (o := .lst (cutV [x0,x1,x2,x3,x4,x5,x6] (some 1) none ++ [.ref ta])) n24
  have e_ba : upd D23 ba (.lst (cutV [x0,x1,x2,x3,x4,x5,x6] (some 1) none ++ [.ref ta])) ba = some (.lst (cutV [x0,x1,x2,x3,x4,x5,x6] (some 1) none ++ [.ref ta])) := Ac
  generalize upd D23 ba (.lst (cutV [x0,x1,x2,x3,x4,x5,x6] (some 1) none ++ [.ref ta])) = D24 at st24 d24 e_ba
  generalize upd H23 ba (.lst (cutV [x0,x1,x2,x3,x4,x5,x6] (some 1) none ++ [.ref ta])) = H24 at st24 ⊢
  refine ⟨_,rfl,_,rfl,l7,_,rfl,SqL.of (st24.sub _ _ ((d21.trans (d22.trans (d23.trans d24))) _ _ c_l7)),?_⟩
  intro sb h_sb
  obtain ⟨n25,st25⟩ := st24.new (o := .lst (cutV [x0,x1,x2,x3,x4,x5,x6] (some 1) none)) h_sb
  have d25 := Same.new (o := .lst (cutV [x0,x1,x2,x3,x4,x5,x6] (some 1) none)) n25
  have e_sb : upd D24 sb (.lst (cutV [x0,x1,x2,x3,x4,x5,x6] (some 1) none)) sb = some (.lst (cutV [x0,x1,x2,x3,x4,x5,x6] (some 1) none)) := Ac
  generalize upd D24 sb (.lst (cutV [x0,x1,x2,x3,x4,x5,x6] (some 1) none)) = D25 at st25 d25 e_sb
  generalize upd H24 sb (.lst (cutV [x0,x1,x2,x3,x4,x5,x6] (some 1) none)) = H25 at st25 ⊢
  refine ⟨(by exact Z2),fun tb h_tb => ?_⟩
  obtain ⟨n26,st26⟩ := st25.new (o := .tup [.str "joined",.non]) h_tb
  have d26 := Same.new (o := .tup [.str "joined",.non]) n26
  have e_tb : upd D25 tb (.tup [.str "joined",.non]) tb = some (.tup [.str "joined",.non]) := Ac
  generalize upd D25 tb (.tup [.str "joined",.non]) = D26 at st26 d26 e_tb
  generalize upd H25 tb (.tup [.str "joined",.non]) = H26 at st26 ⊢
  refine ⟨(by exact Z1),fun mb h_mb => ?_⟩
  obtain ⟨n27,st27⟩ := st26.new (o := .lst [.ref tb]) h_mb
  have d27 := Same.new (o := .lst [.ref tb]) n27
  have e_mb : upd D26 mb (.lst [.ref tb]) mb = some (.lst [.ref tb]) := Ac
  generalize upd D26 mb (.lst [.ref tb]) = D27 at st27 d27 e_mb
  generalize upd H26 mb (.lst [.ref tb]) = H27 at st27 ⊢
  refine ⟨sb,mb,_,_,rfl,rfl,(st27.sub _ _ ((d26.trans d27) _ _ e_sb)),(st27.sub _ _ e_mb),(by exact Z7),?_⟩
  intro bb h_bb
  obtain ⟨n28,st28⟩ := st27.new (o := .lst (cutV [x0,x1,x2,x3,x4,x5,x6] (some 1) none ++ [.ref tb])) h_bb
  have d28 := Same.new (o := .lst (cutV [x0,x1,x2,x3,x4,x5,x6] (some 1) none ++ [.ref tb])) n28
  have e_bb : upd D27 bb (.lst (cutV [x0,x1,x2,x3,x4,x5,x6] (some 1) none ++ [.ref tb])) bb = some (.lst (cutV [x0,x1,x2,x3,x4,x5,x6] (some 1) none ++ [.ref tb])) := Ac
  generalize upd D27 bb (.lst (cutV [x0,x1,x2,x3,x4,x5,x6] (some 1) none ++ [.ref tb])) = D28 at st28 d28 e_bb
  generalize upd H27 bb (.lst (cutV [x0,x1,x2,x3,x4,x5,x6] (some 1) none ++ [.ref tb])) = H28 at st28 ⊢
  refine ⟨(by exact Z2),?_⟩
  intro qd h_qd
  obtain ⟨n29,st29⟩ := st28.new (o := .tup [.str "beneath",.ref bb]) h_qd
  have d29 := Same.new (o := .tup [.str "beneath",.ref bb]) n29
  have e_qd : upd D28 qd (.tup [.str "beneath",.ref bb]) qd = some (.tup [.str "beneath",.ref bb]) := Ac
  generalize upd D28 qd (.tup [.str "beneath",.ref bb]) = D29 at st29 d29 e_qd
  generalize upd H28 qd (.tup [.str "beneath",.ref bb]) = H29 at st29 ⊢
  refine ⟨(by exact Z2),fun r h_r => ?_⟩
  obtain ⟨n30,st30⟩ := st29.new (o := .lst [.ref ba,.ref qd]) h_r
  have d30 := Same.new (o := .lst [.ref ba,.ref qd]) n30
  have e_r : upd D29 r (.lst [.ref ba,.ref qd]) r = some (.lst [.ref ba,.ref qd]) := Ac
  generalize upd D29 r (.lst [.ref ba,.ref qd]) = D30 at st30 d30 e_r
  generalize upd H29 r (.lst [.ref ba,.ref qd]) = H30 at st30 ⊢
  obtain ⟨p1,rfl⟩ := JPAt.rf j1
  obtain ⟨p2,rfl⟩ := JPAt.rf j2
  obtain ⟨p3,rfl⟩ := JPAt.rf j3
  obtain ⟨p4,rfl⟩ := JPAt.rf j4
  obtain ⟨p5,rfl⟩ := JPAt.rf j5
  obtain ⟨p6,rfl⟩ := JPAt.rf j6
  obtain ⟨ys30,ey30,el30⟩ := st30.ln
  have te30 : TEr K C f D30 r := ⟨_,_,e_r,.inr ⟨.bn (.ref ba),.inl (.nj (bs := [true,true,true,true,true,true,false]) (show D30 ba = some (.lst [.ref p1,.ref p2,.ref p3,.ref p4,.ref p5,.ref p6,.ref ta]) from ((d25.trans (d26.trans (d27.trans (d28.trans (d29.trans d30))))) _ _ e_ba)) (by show 7 ≤ 100; decide) (A2.cons (.inl ⟨rfl,_,(JPAt.row (j1.t (.of (d21.trans (d22.trans (d23.trans (d24.trans (d25.trans (d26.trans (d27.trans (d28.trans (d29.trans d30))))))))))))⟩) (A2.cons (.inl ⟨rfl,_,(JPAt.row (j2.t (.of (d21.trans (d22.trans (d23.trans (d24.trans (d25.trans (d26.trans (d27.trans (d28.trans (d29.trans d30))))))))))))⟩) (A2.cons (.inl ⟨rfl,_,(JPAt.row (j3.t (.of (d21.trans (d22.trans (d23.trans (d24.trans (d25.trans (d26.trans (d27.trans (d28.trans (d29.trans d30))))))))))))⟩) (A2.cons (.inl ⟨rfl,_,(JPAt.row (j4.t (.of (d21.trans (d22.trans (d23.trans (d24.trans (d25.trans (d26.trans (d27.trans (d28.trans (d29.trans d30))))))))))))⟩) (A2.cons (.inl ⟨rfl,_,(JPAt.row (j5.t (.of (d21.trans (d22.trans (d23.trans (d24.trans (d25.trans (d26.trans (d27.trans (d28.trans (d29.trans d30))))))))))))⟩) (A2.cons (.inl ⟨rfl,_,(JPAt.row (j6.t (.of (d21.trans (d22.trans (d23.trans (d24.trans (d25.trans (d26.trans (d27.trans (d28.trans (d29.trans d30))))))))))))⟩) (A2.one (.inr ⟨rfl,.n2 ((d23.trans (d24.trans (d25.trans (d26.trans (d27.trans (d28.trans (d29.trans d30))))))) _ _ e_ta)⟩)))))))) rfl),qd,.ref bb,rfl,(d30 _ _ e_qd),.lsts (SqL.of (show D30 ba = some (.lst [.ref p1,.ref p2,.ref p3,.ref p4,.ref p5,.ref p6,.ref ta]) from ((d25.trans (d26.trans (d27.trans (d28.trans (d29.trans d30))))) _ _ e_ba))) (SqL.of (show D30 bb = some (.lst [.ref p1,.ref p2,.ref p3,.ref p4,.ref p5,.ref p6,.ref tb]) from ((d29.trans d30) _ _ e_bb))) (.cons (.same trivial) (.cons (.same trivial) (.cons (.same trivial) (.cons (.same trivial) (.cons (.same trivial) (.cons (.same trivial) (.cons (.tups (SqT.of ((d23.trans (d24.trans (d25.trans (d26.trans (d27.trans (d28.trans (d29.trans d30))))))) _ _ e_ta)) (SqT.of ((d27.trans (d28.trans (d29.trans d30))) _ _ e_tb)) (by intro v hv; simp only [List.mem_cons,List.not_mem_nil,or_false] at hv; rcases hv with rfl | rfl <;> trivial)) .nil))))))),⟨.lst,.lst (show D30 ba = some (.lst [.ref p1,.ref p2,.ref p3,.ref p4,.ref p5,.ref p6,.ref ta]) from ((d25.trans (d26.trans (d27.trans (d28.trans (d29.trans d30))))) _ _ e_ba))⟩,⟨.lst,.lst (show D30 bb = some (.lst [.ref p1,.ref p2,.ref p3,.ref p4,.ref p5,.ref p6,.ref tb]) from ((d29.trans d30) _ _ e_bb))⟩,rfl⟩⟩
  refine ⟨ls,_,_,rfl,rfl,ey30,(by omega),?_⟩
  have sa30 := st30.app ey30 te30
  generalize upd H30 ls (.lst (ys30 ++ [.ref r])) = H31 at sa30 ⊢
  replace c_ln := ((d21.trans (d22.trans (d23.trans (d24.trans (d25.trans (d26.trans (d27.trans (d28.trans (d29.trans d30))))))))) _ _ c_ln)
  replace cp1 := (cp1.same (d21.trans (d22.trans (d23.trans (d24.trans (d25.trans (d26.trans (d27.trans (d28.trans (d29.trans d30))))))))))
  replace cp2 := (cp2.same (d21.trans (d22.trans (d23.trans (d24.trans (d25.trans (d26.trans (d27.trans (d28.trans (d29.trans d30))))))))))
  replace cq := cq.trans (d21.trans (d22.trans (d23.trans (d24.trans (d25.trans (d26.trans (d27.trans (d28.trans (d29.trans d30)))))))))
  replace ca := ca.imp fun _ _ e => e.t (.of (d21.trans (d22.trans (d23.trans (d24.trans (d25.trans (d26.trans (d27.trans (d28.trans (d29.trans d30))))))))))
  replace c_l7 := ((d21.trans (d22.trans (d23.trans (d24.trans (d25.trans (d26.trans (d27.trans (d28.trans (d29.trans d30))))))))) _ _ c_l7)
  have st31 := sa30
  have d31 := Same.refl D30
  obtain ⟨D31,hD31⟩ : ∃ D',D' = D30 := ⟨_,rfl⟩
  rw [← hD31] at st31 d31 c_ln cp1 cp2 cq ca c_l7
  clear hD31
  clear j0 j1 j2 j3 j4 j5 j6
  obtain ⟨xs31,ex31,_⟩ := st31.ln
  obtain ⟨j0,b0⟩ := A2.inv ca; obtain ⟨j1,b1⟩ := A2.inv b0; obtain ⟨j2,b2⟩ := A2.inv b1; obtain ⟨j3,b3⟩ := A2.inv b2; obtain ⟨j4,b4⟩ := A2.inv b3; obtain ⟨j5,b5⟩ := A2.inv b4; obtain ⟨j6,_⟩ := A2.inv b5; clear b0 b1 b2 b3 b4 b5
  refine ⟨_,rfl,.inl ⟨rfl,_,SqL.of ex31⟩,?_⟩
  refine ⟨_,rfl,(by exact Z2),fun tn h_tn => ?_⟩
  obtain ⟨n32,st32⟩ := st31.new (o := .tup [.str "none",.ref a1]) h_tn
  have d32 := Same.new (o := .tup [.str "none",.ref a1]) n32
  have e_tn : upd D31 tn (.tup [.str "none",.ref a1]) tn = some (.tup [.str "none",.ref a1]) := Ac
  generalize upd D31 tn (.tup [.str "none",.ref a1]) = D32 at st32 d32 e_tn
  generalize upd H31 tn (.tup [.str "none",.ref a1]) = H32 at st32 ⊢
  refine ⟨(by exact Z1),fun m1 h_m1 => ?_⟩
  obtain ⟨n33,st33⟩ := st32.new (o := .lst [.ref tn]) h_m1
  have d33 := Same.new (o := .lst [.ref tn]) n33
  have e_m1 : upd D32 m1 (.lst [.ref tn]) m1 = some (.lst [.ref tn]) := Ac
  generalize upd D32 m1 (.lst [.ref tn]) = D33 at st33 d33 e_m1
  generalize upd H32 m1 (.lst [.ref tn]) = H33 at st33 ⊢
  refine ⟨_,rfl,_,rfl,l7,_,rfl,SqL.of (st33.sub _ _ ((d32.trans d33) _ _ c_l7)),?_⟩
  intro sv1 h_sv1
  obtain ⟨n34,st34⟩ := st33.new (o := .lst (cutV [x0,.ref p1,.ref p2,.ref p3,.ref p4,.ref p5,.ref p6] (some 1) none)) h_sv1
  have d34 := Same.new (o := .lst (cutV [x0,.ref p1,.ref p2,.ref p3,.ref p4,.ref p5,.ref p6] (some 1) none)) n34
  have e_sv1 : upd D33 sv1 (.lst (cutV [x0,.ref p1,.ref p2,.ref p3,.ref p4,.ref p5,.ref p6] (some 1) none)) sv1 = some (.lst (cutV [x0,.ref p1,.ref p2,.ref p3,.ref p4,.ref p5,.ref p6] (some 1) none)) := Ac
  generalize upd D33 sv1 (.lst (cutV [x0,.ref p1,.ref p2,.ref p3,.ref p4,.ref p5,.ref p6] (some 1) none)) = D34 at st34 d34 e_sv1
  generalize upd H33 sv1 (.lst (cutV [x0,.ref p1,.ref p2,.ref p3,.ref p4,.ref p5,.ref p6] (some 1) none)) = H34 at st34 ⊢
  refine ⟨m1,sv1,_,_,rfl,rfl,(st34.sub _ _ (d34 _ _ e_m1)),(st34.sub _ _ e_sv1),(by exact Z7),?_⟩
  intro b h_b
  obtain ⟨n35,st35⟩ := st34.new (o := .lst ([.ref tn] ++ cutV [x0,.ref p1,.ref p2,.ref p3,.ref p4,.ref p5,.ref p6] (some 1) none)) h_b
  have d35 := Same.new (o := .lst ([.ref tn] ++ cutV [x0,.ref p1,.ref p2,.ref p3,.ref p4,.ref p5,.ref p6] (some 1) none)) n35
  have e_b : upd D34 b (.lst ([.ref tn] ++ cutV [x0,.ref p1,.ref p2,.ref p3,.ref p4,.ref p5,.ref p6] (some 1) none)) b = some (.lst ([.ref tn] ++ cutV [x0,.ref p1,.ref p2,.ref p3,.ref p4,.ref p5,.ref p6] (some 1) none)) := Ac
  generalize upd D34 b (.lst ([.ref tn] ++ cutV [x0,.ref p1,.ref p2,.ref p3,.ref p4,.ref p5,.ref p6] (some 1) none)) = D35 at st35 d35 e_b
  generalize upd H34 b (.lst ([.ref tn] ++ cutV [x0,.ref p1,.ref p2,.ref p3,.ref p4,.ref p5,.ref p6] (some 1) none)) = H35 at st35 ⊢
  refine ⟨(by exact Z2),fun qd h_qd => ?_⟩
  obtain ⟨n36,st36⟩ := st35.new (o := .tup [.str "many",.int 7]) h_qd
  have d36 := Same.new (o := .tup [.str "many",.int 7]) n36
  have e_qd : upd D35 qd (.tup [.str "many",.int 7]) qd = some (.tup [.str "many",.int 7]) := Ac
  generalize upd D35 qd (.tup [.str "many",.int 7]) = D36 at st36 d36 e_qd
  generalize upd H35 qd (.tup [.str "many",.int 7]) = H36 at st36 ⊢
  refine ⟨(by exact Z2),fun r h_r => ?_⟩
  obtain ⟨n37,st37⟩ := st36.new (o := .lst [.ref b,.ref qd]) h_r
  have d37 := Same.new (o := .lst [.ref b,.ref qd]) n37
  have e_r : upd D36 r (.lst [.ref b,.ref qd]) r = some (.lst [.ref b,.ref qd]) := Ac
  generalize upd D36 r (.lst [.ref b,.ref qd]) = D37 at st37 d37 e_r
  generalize upd H36 r (.lst [.ref b,.ref qd]) = H37 at st37 ⊢
  obtain ⟨ys37,ey37,el37⟩ := st37.ln
  have te37 : TEr K C f D37 r := ⟨_,_,e_r,.inr ⟨_,.inl (.mn (show D37 b = some (.lst [.ref tn,.ref p1,.ref p2,.ref p3,.ref p4,.ref p5,.ref p6]) from ((d36.trans d37) _ _ e_b)) (by show 7 ≤ 100; decide) (A2.cons ⟨tn,a1,_,rfl,((d33.trans (d34.trans (d35.trans (d36.trans d37)))) _ _ e_tn),(cp1.same (d32.trans (d33.trans (d34.trans (d35.trans (d36.trans d37))))))⟩ (A2.cons (JPAt.row (j1.t (.of (d32.trans (d33.trans (d34.trans (d35.trans (d36.trans d37)))))))) (A2.cons (JPAt.row (j2.t (.of (d32.trans (d33.trans (d34.trans (d35.trans (d36.trans d37)))))))) (A2.cons (JPAt.row (j3.t (.of (d32.trans (d33.trans (d34.trans (d35.trans (d36.trans d37)))))))) (A2.cons (JPAt.row (j4.t (.of (d32.trans (d33.trans (d34.trans (d35.trans (d36.trans d37)))))))) (A2.cons (JPAt.row (j5.t (.of (d32.trans (d33.trans (d34.trans (d35.trans (d36.trans d37)))))))) (A2.one (JPAt.row (j6.t (.of (d32.trans (d33.trans (d34.trans (d35.trans (d36.trans d37))))))))))))))) (by show 6 < 7; decide)),C5.it (u := .mn 7) (d37 _ _ e_qd) ⟨.int,.int _⟩ trivial⟩⟩
  refine ⟨ls,_,_,rfl,rfl,ey37,(by omega),?_⟩
  have sa37 := st37.app ey37 te37
  generalize upd H37 ls (.lst (ys37 ++ [.ref r])) = H38 at sa37 ⊢
  replace c_ln := ((d32.trans (d33.trans (d34.trans (d35.trans (d36.trans d37))))) _ _ c_ln)
  replace cp1 := (cp1.same (d32.trans (d33.trans (d34.trans (d35.trans (d36.trans d37))))))
  replace cp2 := (cp2.same (d32.trans (d33.trans (d34.trans (d35.trans (d36.trans d37))))))
  replace cq := cq.trans (d32.trans (d33.trans (d34.trans (d35.trans (d36.trans d37)))))
  replace ca := ca.imp fun _ _ e => e.t (.of (d32.trans (d33.trans (d34.trans (d35.trans (d36.trans d37))))))
  replace c_l7 := ((d32.trans (d33.trans (d34.trans (d35.trans (d36.trans d37))))) _ _ c_l7)
  have st38 := sa37
  have d38 := Same.refl D37
  obtain ⟨D38,hD38⟩ : ∃ D',D' = D37 := ⟨_,rfl⟩
  rw [← hD38] at st38 d38 c_ln cp1 cp2 cq ca c_l7
  clear hD38
  clear j0 j1 j2 j3 j4 j5 j6 ca c_l7
  obtain ⟨xs38,ex38,_⟩ := st38.ln
  refine ⟨_,rfl,.inl ⟨rfl,_,SqL.of ex38⟩,?_⟩
  refine ⟨_,rfl,(by exact Z2),fun tn h_tn => ?_⟩
  obtain ⟨n39,st39⟩ := st38.new (o := .tup [.str "none",.ref a1]) h_tn
  have d39 := Same.new (o := .tup [.str "none",.ref a1]) n39
  have e_tn : upd D38 tn (.tup [.str "none",.ref a1]) tn = some (.tup [.str "none",.ref a1]) := Ac
  generalize upd D38 tn (.tup [.str "none",.ref a1]) = D39 at st39 d39 e_tn
  generalize upd H38 tn (.tup [.str "none",.ref a1]) = H39 at st39 ⊢
  refine ⟨_,rfl,(by exact Z2),fun tc h_tc => ?_⟩
  obtain ⟨n40,st40⟩ := st39.new (o := .tup [.str "called",.ref a1]) h_tc
  have d40 := Same.new (o := .tup [.str "called",.ref a1]) n40
  have e_tc : upd D39 tc (.tup [.str "called",.ref a1]) tc = some (.tup [.str "called",.ref a1]) := Ac
  generalize upd D39 tc (.tup [.str "called",.ref a1]) = D40 at st40 d40 e_tc
  generalize upd H39 tc (.tup [.str "called",.ref a1]) = H40 at st40 ⊢
  refine ⟨(by exact Z2),fun b h_b => ?_⟩
  obtain ⟨n41,st41⟩ := st40.new (o := .lst [.ref tn,.ref tc]) h_b
  have d41 := Same.new (o := .lst [.ref tn,.ref tc]) n41
  have e_b : upd D40 b (.lst [.ref tn,.ref tc]) b = some (.lst [.ref tn,.ref tc]) := Ac
  generalize upd D40 b (.lst [.ref tn,.ref tc]) = D41 at st41 d41 e_b
  generalize upd H40 b (.lst [.ref tn,.ref tc]) = H41 at st41 ⊢
  refine ⟨(by exact Z2),fun qd h_qd => ?_⟩
  obtain ⟨n42,st42⟩ := st41.new (o := .tup [.str "join",.str "none"]) h_qd
  have d42 := Same.new (o := .tup [.str "join",.str "none"]) n42
  have e_qd : upd D41 qd (.tup [.str "join",.str "none"]) qd = some (.tup [.str "join",.str "none"]) := Ac
  generalize upd D41 qd (.tup [.str "join",.str "none"]) = D42 at st42 d42 e_qd
  generalize upd H41 qd (.tup [.str "join",.str "none"]) = H42 at st42 ⊢
  refine ⟨(by exact Z2),fun r h_r => ?_⟩
  obtain ⟨n43,st43⟩ := st42.new (o := .lst [.ref b,.ref qd]) h_r
  have d43 := Same.new (o := .lst [.ref b,.ref qd]) n43
  have e_r : upd D42 r (.lst [.ref b,.ref qd]) r = some (.lst [.ref b,.ref qd]) := Ac
  generalize upd D42 r (.lst [.ref b,.ref qd]) = D43 at st43 d43 e_r
  generalize upd H42 r (.lst [.ref b,.ref qd]) = H43 at st43 ⊢
  obtain ⟨ys43,ey43,el43⟩ := st43.ln
  have te43 : TEr K C f D43 r := ⟨_,_,e_r,.inr ⟨_,.inl (.jn (i := 0) ((d42.trans d43) _ _ e_b) (A2.cons ⟨tn,a1,_,rfl,((d40.trans (d41.trans (d42.trans d43))) _ _ e_tn),(cp1.same (d39.trans (d40.trans (d41.trans (d42.trans d43)))))⟩ (A2.one ⟨tc,a1,_,rfl,((d41.trans (d42.trans d43)) _ _ e_tc),(cp1.same (d39.trans (d40.trans (d41.trans (d42.trans d43)))))⟩)) (by show 2 ≤ 6; decide) rfl (fun k u hk _ => absurd hk (Nat.not_lt_zero k)) (.str _) (jn_str (by decide +kernel))),C5.it (u := .jn (.str "none")) (d43 _ _ e_qd) ⟨.str,.str _⟩ trivial⟩⟩
  refine ⟨ls,_,_,rfl,rfl,ey43,(by omega),?_⟩
  have sa43 := st43.app ey43 te43
  generalize upd H43 ls (.lst (ys43 ++ [.ref r])) = H44 at sa43 ⊢
  replace c_ln := ((d39.trans (d40.trans (d41.trans (d42.trans d43)))) _ _ c_ln)
  replace cp1 := (cp1.same (d39.trans (d40.trans (d41.trans (d42.trans d43)))))
  replace cp2 := (cp2.same (d39.trans (d40.trans (d41.trans (d42.trans d43)))))
  replace cq := cq.trans (d39.trans (d40.trans (d41.trans (d42.trans d43))))
  have st44 := sa43
  have d44 := Same.refl D43
  obtain ⟨D44,hD44⟩ : ∃ D',D' = D43 := ⟨_,rfl⟩
  rw [← hD44] at st44 d44 c_ln cp1 cp2 cq
  clear hD44
  obtain ⟨xs44,ex44,_⟩ := st44.ln
  refine ⟨_,rfl,.inl ⟨rfl,_,SqL.of ex44⟩,_,rfl,_,rfl,ln,_,rfl,SqL.of (st44.sub _ _ c_ln),?_⟩
  rw [show cutV (zs.map V.str) (some 1) none = (zs.drop 1).map V.str from Dd hN (k := 1) (by decide)]
  intro c_ad h_c_ad
  obtain ⟨n45,st45⟩ := st44.new (o := .lst ((zs.drop 1).map V.str)) h_c_ad
  have d45 := Same.new (o := .lst ((zs.drop 1).map V.str)) n45
  have e_c_ad : upd D44 c_ad (.lst ((zs.drop 1).map V.str)) c_ad = some (.lst ((zs.drop 1).map V.str)) := Ac
  generalize upd D44 c_ad (.lst ((zs.drop 1).map V.str)) = D45 at st45 d45 e_c_ad
  generalize upd H44 c_ad (.lst ((zs.drop 1).map V.str)) = H45 at st45 ⊢
  refine ⟨c_ad,6,f,_,1,[2,3,4,5,6],rfl,(st45.sub _ _ e_c_ad),hz (k := 1) (m := 6) (by decide),hf,by decide,by decide,by decide,(by rw [List.length_drop,hN.l]; decide),fun ad H46 kk_ad kks_ad hrev_ad s46 hP_ad => ?_⟩
  have hrev_ad : [6,5,4,3,2,1] = kk_ad :: kks_ad := hrev_ad
  cases hrev_ad
  obtain ⟨D46,st46,d46,tp46⟩ := st45.call s46
  have p_ad := hP_ad.t tp46
  refine ⟨(by exact Z2),fun tn h_tn => ?_⟩
  obtain ⟨n47,st47⟩ := st46.new (o := .tup [.str "none",.ref ad]) h_tn
  have d47 := Same.new (o := .tup [.str "none",.ref ad]) n47
  have e_tn : upd D46 tn (.tup [.str "none",.ref ad]) tn = some (.tup [.str "none",.ref ad]) := Ac
  generalize upd D46 tn (.tup [.str "none",.ref ad]) = D47 at st47 d47 e_tn
  generalize upd H46 tn (.tup [.str "none",.ref ad]) = H47 at st47 ⊢
  refine ⟨(by exact Z1),fun b h_b => ?_⟩
  obtain ⟨n48,st48⟩ := st47.new (o := .lst [.ref tn]) h_b
  have d48 := Same.new (o := .lst [.ref tn]) n48
  have e_b : upd D47 b (.lst [.ref tn]) b = some (.lst [.ref tn]) := Ac
  generalize upd D47 b (.lst [.ref tn]) = D48 at st48 d48 e_b
  generalize upd H47 b (.lst [.ref tn]) = H48 at st48 ⊢
  refine ⟨(by exact Z2),fun qd h_qd => ?_⟩
  obtain ⟨n49,st49⟩ := st48.new (o := .tup [.str "join",.str "none"]) h_qd
  have d49 := Same.new (o := .tup [.str "join",.str "none"]) n49
  have e_qd : upd D48 qd (.tup [.str "join",.str "none"]) qd = some (.tup [.str "join",.str "none"]) := Ac
  generalize upd D48 qd (.tup [.str "join",.str "none"]) = D49 at st49 d49 e_qd
  generalize upd H48 qd (.tup [.str "join",.str "none"]) = H49 at st49 ⊢
  refine ⟨(by exact Z2),fun r h_r => ?_⟩
  obtain ⟨n50,st50⟩ := st49.new (o := .lst [.ref b,.ref qd]) h_r
  have d50 := Same.new (o := .lst [.ref b,.ref qd]) n50
  have e_r : upd D49 r (.lst [.ref b,.ref qd]) r = some (.lst [.ref b,.ref qd]) := Ac
  generalize upd D49 r (.lst [.ref b,.ref qd]) = D50 at st50 d50 e_r
  generalize upd H49 r (.lst [.ref b,.ref qd]) = H50 at st50 ⊢
  obtain ⟨ys50,ey50,el50⟩ := st50.ln
  have te50 : TEr K C f D50 r := ⟨_,_,e_r,.inr ⟨_,.inl (.jn (i := 0) ((d49.trans d50) _ _ e_b) (A2.one ⟨tn,ad,_,rfl,((d48.trans (d49.trans d50)) _ _ e_tn),(p_ad.same (d47.trans (d48.trans (d49.trans d50))))⟩) (by show 1 ≤ 6; decide) rfl (fun k u hk _ => absurd hk (Nat.not_lt_zero k)) (.str _) (jn_str (by decide +kernel))),C5.it (u := .jn (.str "none")) (d50 _ _ e_qd) ⟨.str,.str _⟩ trivial⟩⟩
  refine ⟨ls,_,_,rfl,rfl,ey50,(by omega),?_⟩
  have sa50 := st50.app ey50 te50
  generalize upd H50 ls (.lst (ys50 ++ [.ref r])) = H51 at sa50 ⊢
  replace c_ln := ((d45.trans (d46.trans (d47.trans (d48.trans (d49.trans d50))))) _ _ c_ln)
  replace cp1 := (cp1.same (d45.trans (d46.trans (d47.trans (d48.trans (d49.trans d50))))))
  replace cp2 := (cp2.same (d45.trans (d46.trans (d47.trans (d48.trans (d49.trans d50))))))
  replace cq := cq.trans (d45.trans (d46.trans (d47.trans (d48.trans (d49.trans d50)))))
  have st51 := sa50
  have d51 := Same.refl D50
  obtain ⟨D51,hD51⟩ : ∃ D',D' = D50 := ⟨_,rfl⟩
  rw [← hD51] at st51 d51 c_ln cp1 cp2 cq
  clear hD51
  refine ⟨(by exact Z1),fun lj h_lj => ?_⟩
  obtain ⟨n52,st52⟩ := st51.new (o := .lst [.str "joined"]) h_lj
  have d52 := Same.new (o := .lst [.str "joined"]) n52
  have e_lj : upd D51 lj (.lst [.str "joined"]) lj = some (.lst [.str "joined"]) := Ac
  generalize upd D51 lj (.lst [.str "joined"]) = D52 at st52 d52 e_lj
  generalize upd H51 lj (.lst [.str "joined"]) = H52 at st52 ⊢
  refine ⟨(by exact Z7),fun lw h_lw => ?_⟩
  obtain ⟨n53,st53⟩ := st52.new (o := .lst [.str "",.str "Joined",.str "called ",.non,.int 5,.ref lj,.bl true]) h_lw
  have d53 := Same.new (o := .lst [.str "",.str "Joined",.str "called ",.non,.int 5,.ref lj,.bl true]) n53
  have e_lw : upd D52 lw (.lst [.str "",.str "Joined",.str "called ",.non,.int 5,.ref lj,.bl true]) lw = some (.lst [.str "",.str "Joined",.str "called ",.non,.int 5,.ref lj,.bl true]) := Ac
  generalize upd D52 lw (.lst [.str "",.str "Joined",.str "called ",.non,.int 5,.ref lj,.bl true]) = D53 at st53 d53 e_lw
  generalize upd H52 lw (.lst [.str "",.str "Joined",.str "called ",.non,.int 5,.ref lj,.bl true]) = H53 at st53 ⊢
  have jnA : ∀ v ∈ ([.str "",.str "Joined",.str "called ",.non,.int 5,.ref lj,.bl true] : List V),JnOdd K C D53 v := by
   intro v hv
   simp only [List.mem_cons,List.not_mem_nil,or_false] at hv
   rcases hv with rfl | rfl | rfl | rfl | rfl | rfl | rfl
   ·exact ⟨.str _,jn_str (by decide +kernel),⟨.str,.str _⟩,trivial⟩
   ·exact ⟨.str _,jn_str (by decide +kernel),⟨.str,.str _⟩,trivial⟩
   ·exact ⟨.str _,jn_str (by decide +kernel),⟨.str,.str _⟩,trivial⟩
   ·exact ⟨.non,(fun j _ e => by cases e),⟨.non,.non⟩,trivial⟩
   ·exact ⟨.int _,(fun j _ e => by cases e),⟨.int,.int _⟩,trivial⟩
   ·exact ⟨.lst1 (d53 _ _ e_lj) (by decide +kernel),(fun j _ e => by cases e),⟨.lst,.lst (d53 _ _ e_lj)⟩,trivial⟩
   ·exact ⟨.bl _,(fun j _ e => by cases e),⟨.bl,.bl _⟩,trivial⟩
  replace c_ln := ((d52.trans d53) _ _ c_ln)
  replace cp1 := (cp1.same (d52.trans d53))
  replace cp2 := (cp2.same (d52.trans d53))
  replace cq := cq.trans (d52.trans d53)
  have bef1 : ∀ (v : V) (k : Nat) (u : V),k < 1 → ([.str "beside",v,.str "none"] : List V)[k]? = some u → ∃ j,j < 4 ∧ u = .str (nm j) := fun v k u hk hu => by
   obtain rfl : k = 0 := by omega
   cases hu
   exact ⟨1,by decide,rfl⟩
  refine ⟨lw,rfl,⟨_,SqL.of (st53.sub _ _ e_lw)⟩,B0 (K := K) (a := lw) (xs := [.str "",.str "Joined",.str "called ",.non,.int 5,.ref lj,.bl true]) (fun i σ H' => ∃ (D' : Hp) (v5 v6 v7 v8 : Option V),σ = [some (.ref ln),some (.int m),some (.ref a1),some (.ref a2),some (.ref ls),v5,v6,v7,v8,none] ∧ St K C f D' H' ls (18 + i) ∧ Same D53 D') ⟨D53,_,_,_,_,rfl,st53,Same.refl _⟩ (fun i σ H' _ ⟨_,_,_,_,_,_,st,sd⟩ => SqL.of (st.sub _ _ (sd _ _ e_lw))) ?_ ?_⟩
  ·rintro i v σ H253 hv ⟨D253,v5,v6,v7,v8,rfl,st253,sd⟩
   have od := (jnA v (List.mem_of_getElem? hv)).same sd
   have hi9 : i < 7 := (List.getElem?_eq_some_iff.mp hv).1
   have c_ln := sd _ _ c_ln
   have cp1 := cp1.same sd
   have cp2 := cp2.same sd
   obtain ⟨xs253,ex253,_⟩ := st253.ln
   refine ⟨_,rfl,.inl ⟨rfl,_,SqL.of ex253⟩,?_⟩
   refine ⟨_,rfl,(by exact Z2),fun tb h_tb => ?_⟩
   obtain ⟨n254,st254⟩ := st253.new (o := .tup [.str "beside",.ref a2]) h_tb
   have d254 := Same.new (o := .tup [.str "beside",.ref a2]) n254
   have e_tb : upd D253 tb (.tup [.str "beside",.ref a2]) tb = some (.tup [.str "beside",.ref a2]) := Ac
   generalize upd D253 tb (.tup [.str "beside",.ref a2]) = D254 at st254 d254 e_tb
   generalize upd H253 tb (.tup [.str "beside",.ref a2]) = H254 at st254 ⊢
   refine ⟨_,rfl,_,rfl,(by exact Z2),fun tv h_tv => ?_⟩
   obtain ⟨n255,st255⟩ := st254.new (o := .tup [v,.ref a1]) h_tv
   have d255 := Same.new (o := .tup [v,.ref a1]) n255
   have e_tv : upd D254 tv (.tup [v,.ref a1]) tv = some (.tup [v,.ref a1]) := Ac
   generalize upd D254 tv (.tup [v,.ref a1]) = D255 at st255 d255 e_tv
   generalize upd H254 tv (.tup [v,.ref a1]) = H255 at st255 ⊢
   refine ⟨_,rfl,ln,_,_,_,rfl,rfl,SqL.of (st255.sub _ _ ((d254.trans d255) _ _ c_ln)),hx (i := 12) (by decide),fun a12 dx_a12 y1_a12 y2_a12 _ => leafP hf (by decide) y1_a12 y2_a12 fun H256 s256 hP_a12 => ⟨rfl,?_⟩⟩
   obtain ⟨D256,st256,d256,tp256⟩ := st255.call s256
   have p_a12 := hP_a12.t tp256
   refine ⟨(by exact Z2),fun tn h_tn => ?_⟩
   obtain ⟨n257,st257⟩ := st256.new (o := .tup [.str "none",.ref a12]) h_tn
   have d257 := Same.new (o := .tup [.str "none",.ref a12]) n257
   have e_tn : upd D256 tn (.tup [.str "none",.ref a12]) tn = some (.tup [.str "none",.ref a12]) := Ac
   generalize upd D256 tn (.tup [.str "none",.ref a12]) = D257 at st257 d257 e_tn
   generalize upd H256 tn (.tup [.str "none",.ref a12]) = H257 at st257 ⊢
   refine ⟨(by exact Z3),fun b h_b => ?_⟩
   obtain ⟨n258,st258⟩ := st257.new (o := .lst [.ref tb,.ref tv,.ref tn]) h_b
   have d258 := Same.new (o := .lst [.ref tb,.ref tv,.ref tn]) n258
   have e_b : upd D257 b (.lst [.ref tb,.ref tv,.ref tn]) b = some (.lst [.ref tb,.ref tv,.ref tn]) := Ac
   generalize upd D257 b (.lst [.ref tb,.ref tv,.ref tn]) = D258 at st258 d258 e_b
   generalize upd H257 b (.lst [.ref tb,.ref tv,.ref tn]) = H258 at st258 ⊢
   refine ⟨_,rfl,(by exact Z2),fun qd h_qd => ?_⟩
   obtain ⟨n259,st259⟩ := st258.new (o := .tup [.str "join",v]) h_qd
   have d259 := Same.new (o := .tup [.str "join",v]) n259
   have e_qd : upd D258 qd (.tup [.str "join",v]) qd = some (.tup [.str "join",v]) := Ac
   generalize upd D258 qd (.tup [.str "join",v]) = D259 at st259 d259 e_qd
   generalize upd H258 qd (.tup [.str "join",v]) = H259 at st259 ⊢
   refine ⟨(by exact Z2),fun r h_r => ?_⟩
   obtain ⟨n260,st260⟩ := st259.new (o := .lst [.ref b,.ref qd]) h_r
   have d260 := Same.new (o := .lst [.ref b,.ref qd]) n260
   have e_r : upd D259 r (.lst [.ref b,.ref qd]) r = some (.lst [.ref b,.ref qd]) := Ac
   generalize upd D259 r (.lst [.ref b,.ref qd]) = D260 at st260 d260 e_r
   generalize upd H259 r (.lst [.ref b,.ref qd]) = H260 at st260 ⊢
   obtain ⟨ys,ey,el⟩ := st260.ln
   have od2 := od.same (d254.trans (d255.trans (d256.trans (d257.trans (d258.trans (d259.trans d260))))))
   have te : TEr K C f D260 r := ⟨_,_,e_r,.inr ⟨.jn v,.inl (.jn (i := 1) ((d259.trans d260) _ _ e_b) (A2.cons ⟨tb,a2,_,rfl,((d255.trans (d256.trans (d257.trans (d258.trans (d259.trans d260))))) _ _ e_tb),(cp2.same (d254.trans (d255.trans (d256.trans (d257.trans (d258.trans (d259.trans d260)))))))⟩ (A2.cons ⟨tv,a1,_,rfl,((d256.trans (d257.trans (d258.trans (d259.trans d260)))) _ _ e_tv),(cp1.same (d254.trans (d255.trans (d256.trans (d257.trans (d258.trans (d259.trans d260)))))))⟩ (A2.one ⟨tn,a12,_,rfl,((d258.trans (d259.trans d260)) _ _ e_tn),(p_a12.same (d257.trans (d258.trans (d259.trans d260))))⟩))) (by show 3 ≤ 6; decide) rfl (bef1 v) od2.1 od2.2.1),C5.it (u := .jn v) (d260 _ _ e_qd) od2.2.2.1 od2.2.2.2⟩⟩
   refine ⟨ls,_,_,rfl,rfl,ey,(by omega),?_⟩
   exact ⟨D260,_,_,_,_,rfl,st260.app ey te,sd.trans (d254.trans (d255.trans (d256.trans (d257.trans (d258.trans (d259.trans d260))))))⟩
  rintro σ H54 ⟨D54,v5,v6,v7,v8,rfl,st54,d54⟩
  have st54 : St K C f D54 H54 ls 25 := st54
  replace c_ln := (d54 _ _ c_ln)
  replace cp1 := (cp1.same d54)
  replace cp2 := (cp2.same d54)
  replace cq := cq.trans d54
  clear jnA bef1 e_lw
  obtain ⟨xs54,ex54,_⟩ := st54.ln
  refine ⟨_,rfl,.inl ⟨rfl,_,SqL.of ex54⟩,_,rfl,ln,_,_,_,rfl,rfl,SqL.of (st54.sub _ _ c_ln),hx (i := 0) (by decide),fun a0 dx_a0 y1_a0 y2_a0 _ => leafP hf (by decide) y1_a0 y2_a0 fun H55 s55 hP_a0 => ⟨rfl,?_⟩⟩
  obtain ⟨D55,st55,d55,tp55⟩ := st54.call s55
  have p_a0 := hP_a0.t tp55
  refine ⟨(by exact Z2),fun tc h_tc => ?_⟩
  obtain ⟨n56,st56⟩ := st55.new (o := .tup [.str "called",.ref a0]) h_tc
  have d56 := Same.new (o := .tup [.str "called",.ref a0]) n56
  have e_tc : upd D55 tc (.tup [.str "called",.ref a0]) tc = some (.tup [.str "called",.ref a0]) := Ac
  generalize upd D55 tc (.tup [.str "called",.ref a0]) = D56 at st56 d56 e_tc
  generalize upd H55 tc (.tup [.str "called",.ref a0]) = H56 at st56 ⊢
  refine ⟨(by exact Z1),fun b h_b => ?_⟩
  obtain ⟨n57,st57⟩ := st56.new (o := .lst [.ref tc]) h_b
  have d57 := Same.new (o := .lst [.ref tc]) n57
  have e_b : upd D56 b (.lst [.ref tc]) b = some (.lst [.ref tc]) := Ac
  generalize upd D56 b (.lst [.ref tc]) = D57 at st57 d57 e_b
  generalize upd H56 b (.lst [.ref tc]) = H57 at st57 ⊢
  refine ⟨_,rfl,ln,_,_,_,rfl,rfl,SqL.of (st57.sub _ _ ((d55.trans (d56.trans d57)) _ _ c_ln)),hx (i := 0) (by decide),(by exact Z2),fun qd h_qd => ?_⟩
  obtain ⟨n58,st58⟩ := st57.new (o := .tup [.str "doubled",.str (f 0)]) h_qd
  have d58 := Same.new (o := .tup [.str "doubled",.str (f 0)]) n58
  have e_qd : upd D57 qd (.tup [.str "doubled",.str (f 0)]) qd = some (.tup [.str "doubled",.str (f 0)]) := Ac
  generalize upd D57 qd (.tup [.str "doubled",.str (f 0)]) = D58 at st58 d58 e_qd
  generalize upd H57 qd (.tup [.str "doubled",.str (f 0)]) = H58 at st58 ⊢
  refine ⟨(by exact Z2),fun r h_r => ?_⟩
  obtain ⟨n59,st59⟩ := st58.new (o := .lst [.ref b,.ref qd]) h_r
  have d59 := Same.new (o := .lst [.ref b,.ref qd]) n59
  have e_r : upd D58 r (.lst [.ref b,.ref qd]) r = some (.lst [.ref b,.ref qd]) := Ac
  generalize upd D58 r (.lst [.ref b,.ref qd]) = D59 at st59 d59 e_r
  generalize upd H58 r (.lst [.ref b,.ref qd]) = H59 at st59 ⊢
  obtain ⟨ys59,ey59,el59⟩ := st59.ln
  have te59 : TEr K C f D59 r := ⟨_,_,e_r,.inr ⟨_,.inr ⟨_,.cons 0 0 .nil .nil,.inr (.inl ⟨b,rfl,((d58.trans d59) _ _ e_b),FAt.of (A2.one ⟨tc,a0,rfl,((d57.trans (d58.trans d59)) _ _ e_tc),(by dsimp only; decide),(p_a0.same (d56.trans (d57.trans (d58.trans d59))))⟩),(by show 1 ≤ 6; decide)⟩),by decide +kernel,by decide +kernel,fun o => db_of (k := 1) (x := 0) hf (by decide +kernel)⟩,C5.it (u := .db (.str (f 0))) (d59 _ _ e_qd) ⟨.str,.str _⟩ trivial⟩⟩
  refine ⟨ls,_,_,rfl,rfl,ey59,(by omega),?_⟩
  have sa59 := st59.app ey59 te59
  generalize upd H59 ls (.lst (ys59 ++ [.ref r])) = H60 at sa59 ⊢
  replace c_ln := ((d55.trans (d56.trans (d57.trans (d58.trans d59)))) _ _ c_ln)
  replace cp1 := (cp1.same (d55.trans (d56.trans (d57.trans (d58.trans d59)))))
  replace cp2 := (cp2.same (d55.trans (d56.trans (d57.trans (d58.trans d59)))))
  replace cq := cq.trans (d55.trans (d56.trans (d57.trans (d58.trans d59))))
  have st60 := sa59
  have d60 := Same.refl D59
  obtain ⟨D60,hD60⟩ : ∃ D',D' = D59 := ⟨_,rfl⟩
  rw [← hD60] at st60 d60 c_ln cp1 cp2 cq
  clear hD60
  refine ⟨_,rfl,ln,_,_,_,rfl,rfl,SqL.of (st60.sub _ _ c_ln),hx (i := 13) (by decide),?_⟩
  refine ⟨(by exact Z0),fun to h_to => ?_⟩
  obtain ⟨n61,st61⟩ := st60.new (o := .tup []) h_to
  have d61 := Same.new (o := .tup []) n61
  have e_to : upd D60 to (.tup []) to = some (.tup []) := Ac
  generalize upd D60 to (.tup []) = D61 at st61 d61 e_to
  generalize upd H60 to (.tup []) = H61 at st61 ⊢
  refine ⟨_,rfl,ln,_,_,_,rfl,rfl,SqL.of (st61.sub _ _ (d61 _ _ c_ln)),hx (i := 2) (by decide),fun ax dx_ax y1_ax y2_ax _ => leafP hf (by decide) y1_ax y2_ax fun H62 s62 hP_ax => ⟨rfl,?_⟩⟩
  obtain ⟨D62,st62,d62,tp62⟩ := st61.call s62
  have p_ax := hP_ax.t tp62
  refine ⟨(by exact Z2),fun tx h_tx => ?_⟩
  obtain ⟨n63,st63⟩ := st62.new (o := .tup [.str "joined",.ref ax]) h_tx
  have d63 := Same.new (o := .tup [.str "joined",.ref ax]) n63
  have e_tx : upd D62 tx (.tup [.str "joined",.ref ax]) tx = some (.tup [.str "joined",.ref ax]) := Ac
  generalize upd D62 tx (.tup [.str "joined",.ref ax]) = D63 at st63 d63 e_tx
  generalize upd H62 tx (.tup [.str "joined",.ref ax]) = H63 at st63 ⊢
  refine ⟨(by exact Z1),fun lb h_lb => ?_⟩
  obtain ⟨n64,st64⟩ := st63.new (o := .lst [.ref tx]) h_lb
  have d64 := Same.new (o := .lst [.ref tx]) n64
  have e_lb : upd D63 lb (.lst [.ref tx]) lb = some (.lst [.ref tx]) := Ac
  generalize upd D63 lb (.lst [.ref tx]) = D64 at st64 d64 e_lb
  generalize upd H63 lb (.lst [.ref tx]) = H64 at st64 ⊢
  refine fun ao dx_o y1_o y2_o _ => nodeP (g := .cons 2 2 .nil .nil) hf (by decide) (st64.sub _ _ ((d62.trans (d63.trans d64)) _ _ e_to)) (st64.sub _ _ e_lb) (FAt.t (.of st64.sub) (FAt.of (A2.one ⟨tx,ax,rfl,(d64 _ _ e_tx),(by dsimp only; decide),(p_ax.same (d63.trans d64))⟩))) (by show 1 ≤ 6; decide) (by decide +kernel) y1_o y2_o fun H65 s65 hP_ao => ⟨rfl,?_⟩
  obtain ⟨D65,st65,d65,tp65⟩ := st64.call s65
  have p_ao := hP_ao.t tp65
  have cpo := p_ao
  replace c_ln := ((d61.trans (d62.trans (d63.trans (d64.trans d65)))) _ _ c_ln)
  replace cp1 := (cp1.same (d61.trans (d62.trans (d63.trans (d64.trans d65)))))
  replace cp2 := (cp2.same (d61.trans (d62.trans (d63.trans (d64.trans d65)))))
  replace cq := cq.trans (d61.trans (d62.trans (d63.trans (d64.trans d65))))
  obtain ⟨xs65,ex65,_⟩ := st65.ln
  refine ⟨_,rfl,.inl ⟨rfl,_,SqL.of ex65⟩,?_⟩
  refine ⟨_,rfl,(by exact Z2),fun tc h_tc => ?_⟩
  obtain ⟨n66,st66⟩ := st65.new (o := .tup [.str "called",.ref a2]) h_tc
  have d66 := Same.new (o := .tup [.str "called",.ref a2]) n66
  have e_tc : upd D65 tc (.tup [.str "called",.ref a2]) tc = some (.tup [.str "called",.ref a2]) := Ac
  generalize upd D65 tc (.tup [.str "called",.ref a2]) = D66 at st66 d66 e_tc
  generalize upd H65 tc (.tup [.str "called",.ref a2]) = H66 at st66 ⊢
  refine ⟨_,rfl,(by exact Z2),fun tb h_tb => ?_⟩
  obtain ⟨n67,st67⟩ := st66.new (o := .tup [.str "beside",.ref ao]) h_tb
  have d67 := Same.new (o := .tup [.str "beside",.ref ao]) n67
  have e_tb : upd D66 tb (.tup [.str "beside",.ref ao]) tb = some (.tup [.str "beside",.ref ao]) := Ac
  generalize upd D66 tb (.tup [.str "beside",.ref ao]) = D67 at st67 d67 e_tb
  generalize upd H66 tb (.tup [.str "beside",.ref ao]) = H67 at st67 ⊢
  refine ⟨(by exact Z2),fun b h_b => ?_⟩
  obtain ⟨n68,st68⟩ := st67.new (o := .lst [.ref tc,.ref tb]) h_b
  have d68 := Same.new (o := .lst [.ref tc,.ref tb]) n68
  have e_b : upd D67 b (.lst [.ref tc,.ref tb]) b = some (.lst [.ref tc,.ref tb]) := Ac
  generalize upd D67 b (.lst [.ref tc,.ref tb]) = D68 at st68 d68 e_b
  generalize upd H67 b (.lst [.ref tc,.ref tb]) = H68 at st68 ⊢
  refine ⟨_,rfl,ln,_,_,_,rfl,rfl,SqL.of (st68.sub _ _ ((d66.trans (d67.trans d68)) _ _ c_ln)),hx (i := 2) (by decide),(by exact Z2),fun qd h_qd => ?_⟩
  obtain ⟨n69,st69⟩ := st68.new (o := .tup [.str "doubled",.str (f 2)]) h_qd
  have d69 := Same.new (o := .tup [.str "doubled",.str (f 2)]) n69
  have e_qd : upd D68 qd (.tup [.str "doubled",.str (f 2)]) qd = some (.tup [.str "doubled",.str (f 2)]) := Ac
  generalize upd D68 qd (.tup [.str "doubled",.str (f 2)]) = D69 at st69 d69 e_qd
  generalize upd H68 qd (.tup [.str "doubled",.str (f 2)]) = H69 at st69 ⊢
  refine ⟨(by exact Z2),fun r h_r => ?_⟩
  obtain ⟨n70,st70⟩ := st69.new (o := .lst [.ref b,.ref qd]) h_r
  have d70 := Same.new (o := .lst [.ref b,.ref qd]) n70
  have e_r : upd D69 r (.lst [.ref b,.ref qd]) r = some (.lst [.ref b,.ref qd]) := Ac
  generalize upd D69 r (.lst [.ref b,.ref qd]) = D70 at st70 d70 e_r
  generalize upd H69 r (.lst [.ref b,.ref qd]) = H70 at st70 ⊢
  obtain ⟨ys70,ey70,el70⟩ := st70.ln
  have te70 : TEr K C f D70 r := ⟨_,_,e_r,.inr ⟨_,.inr ⟨_,.cons 0 2 (wI wd) (.cons 1 13 (.cons 2 2 .nil .nil) .nil),.inr (.inl ⟨b,rfl,((d69.trans d70) _ _ e_b),FAt.of (A2.cons ⟨tc,a2,rfl,((d67.trans (d68.trans (d69.trans d70))) _ _ e_tc),(by dsimp only; decide),(cp2.same (d66.trans (d67.trans (d68.trans (d69.trans d70)))))⟩ (A2.one ⟨tb,ao,rfl,((d68.trans (d69.trans d70)) _ _ e_tb),(by dsimp only; decide),(cpo.same (d66.trans (d67.trans (d68.trans (d69.trans d70)))))⟩)),(by show 2 ≤ 6; decide)⟩),(w_sm ⟨wd,hwd⟩).1,(w_sm ⟨wd,hwd⟩).2,fun o => db_of (k := wd + 3) (x := 2) hf (w_db ⟨wd,hwd⟩)⟩,C5.it (u := .db (.str (f 2))) (d70 _ _ e_qd) ⟨.str,.str _⟩ trivial⟩⟩
  refine ⟨ls,_,_,rfl,rfl,ey70,(by omega),?_⟩
  have sa70 := st70.app ey70 te70
  generalize upd H70 ls (.lst (ys70 ++ [.ref r])) = H71 at sa70 ⊢
  replace c_ln := ((d66.trans (d67.trans (d68.trans (d69.trans d70)))) _ _ c_ln)
  replace cp1 := (cp1.same (d66.trans (d67.trans (d68.trans (d69.trans d70)))))
  replace cp2 := (cp2.same (d66.trans (d67.trans (d68.trans (d69.trans d70)))))
  replace cq := cq.trans (d66.trans (d67.trans (d68.trans (d69.trans d70))))
  replace cpo := (cpo.same (d66.trans (d67.trans (d68.trans (d69.trans d70)))))
  have st71 := sa70
  have d71 := Same.refl D70
  obtain ⟨D71,hD71⟩ : ∃ D',D' = D70 := ⟨_,rfl⟩
  rw [← hD71] at st71 d71 c_ln cp1 cp2 cq cpo
  clear hD71
  clear cpo
  obtain ⟨xs71,ex71,_⟩ := st71.ln
  refine ⟨_,rfl,.inl ⟨rfl,_,SqL.of ex71⟩,?_⟩
  refine ⟨_,rfl,(by exact Z2),fun tc h_tc => ?_⟩
  obtain ⟨n72,st72⟩ := st71.new (o := .tup [.str "called",.ref a1]) h_tc
  have d72 := Same.new (o := .tup [.str "called",.ref a1]) n72
  have e_tc : upd D71 tc (.tup [.str "called",.ref a1]) tc = some (.tup [.str "called",.ref a1]) := Ac
  generalize upd D71 tc (.tup [.str "called",.ref a1]) = D72 at st72 d72 e_tc
  generalize upd H71 tc (.tup [.str "called",.ref a1]) = H72 at st72 ⊢
  refine ⟨_,rfl,(by exact Z2),fun tb h_tb => ?_⟩
  obtain ⟨n73,st73⟩ := st72.new (o := .tup [.str "beside",.ref a1]) h_tb
  have d73 := Same.new (o := .tup [.str "beside",.ref a1]) n73
  have e_tb : upd D72 tb (.tup [.str "beside",.ref a1]) tb = some (.tup [.str "beside",.ref a1]) := Ac
  generalize upd D72 tb (.tup [.str "beside",.ref a1]) = D73 at st73 d73 e_tb
  generalize upd H72 tb (.tup [.str "beside",.ref a1]) = H73 at st73 ⊢
  refine ⟨_,rfl,ln,_,_,_,rfl,rfl,SqL.of (st73.sub _ _ ((d72.trans d73) _ _ c_ln)),hx (i := 0) (by decide),fun a0 dx_a0 y1_a0 y2_a0 _ => leafP hf (by decide) y1_a0 y2_a0 fun H74 s74 hP_a0 => ⟨rfl,?_⟩⟩
  obtain ⟨D74,st74,d74,tp74⟩ := st73.call s74
  have p_a0 := hP_a0.t tp74
  refine ⟨(by exact Z2),fun tj h_tj => ?_⟩
  obtain ⟨n75,st75⟩ := st74.new (o := .tup [.str "joined",.ref a0]) h_tj
  have d75 := Same.new (o := .tup [.str "joined",.ref a0]) n75
  have e_tj : upd D74 tj (.tup [.str "joined",.ref a0]) tj = some (.tup [.str "joined",.ref a0]) := Ac
  generalize upd D74 tj (.tup [.str "joined",.ref a0]) = D75 at st75 d75 e_tj
  generalize upd H74 tj (.tup [.str "joined",.ref a0]) = H75 at st75 ⊢
  refine ⟨(by exact Z3),fun b h_b => ?_⟩
  obtain ⟨n76,st76⟩ := st75.new (o := .lst [.ref tc,.ref tb,.ref tj]) h_b
  have d76 := Same.new (o := .lst [.ref tc,.ref tb,.ref tj]) n76
  have e_b : upd D75 b (.lst [.ref tc,.ref tb,.ref tj]) b = some (.lst [.ref tc,.ref tb,.ref tj]) := Ac
  generalize upd D75 b (.lst [.ref tc,.ref tb,.ref tj]) = D76 at st76 d76 e_b
  generalize upd H75 b (.lst [.ref tc,.ref tb,.ref tj]) = H76 at st76 ⊢
  refine ⟨_,rfl,ln,_,_,_,rfl,rfl,SqL.of (st76.sub _ _ ((d72.trans (d73.trans (d74.trans (d75.trans d76)))) _ _ c_ln)),hx (i := 1) (by decide),(by exact Z2),fun qd h_qd => ?_⟩
  obtain ⟨n77,st77⟩ := st76.new (o := .tup [.str "doubled",.str (f 1)]) h_qd
  have d77 := Same.new (o := .tup [.str "doubled",.str (f 1)]) n77
  have e_qd : upd D76 qd (.tup [.str "doubled",.str (f 1)]) qd = some (.tup [.str "doubled",.str (f 1)]) := Ac
  generalize upd D76 qd (.tup [.str "doubled",.str (f 1)]) = D77 at st77 d77 e_qd
  generalize upd H76 qd (.tup [.str "doubled",.str (f 1)]) = H77 at st77 ⊢
  refine ⟨(by exact Z2),fun r h_r => ?_⟩
  obtain ⟨n78,st78⟩ := st77.new (o := .lst [.ref b,.ref qd]) h_r
  have d78 := Same.new (o := .lst [.ref b,.ref qd]) n78
  have e_r : upd D77 r (.lst [.ref b,.ref qd]) r = some (.lst [.ref b,.ref qd]) := Ac
  generalize upd D77 r (.lst [.ref b,.ref qd]) = D78 at st78 d78 e_r
  generalize upd H77 r (.lst [.ref b,.ref qd]) = H78 at st78 ⊢
  obtain ⟨ys78,ey78,el78⟩ := st78.ln
  have te78 : TEr K C f D78 r := ⟨_,_,e_r,.inr ⟨_,.inr ⟨_,.cons 0 1 .nil (.cons 1 1 .nil (.cons 2 0 .nil .nil)),.inr (.inl ⟨b,rfl,((d77.trans d78) _ _ e_b),FAt.of (A2.cons ⟨tc,a1,rfl,((d73.trans (d74.trans (d75.trans (d76.trans (d77.trans d78))))) _ _ e_tc),(by dsimp only; decide),(cp1.same (d72.trans (d73.trans (d74.trans (d75.trans (d76.trans (d77.trans d78)))))))⟩ (A2.cons ⟨tb,a1,rfl,((d74.trans (d75.trans (d76.trans (d77.trans d78)))) _ _ e_tb),(by dsimp only; decide),(cp1.same (d72.trans (d73.trans (d74.trans (d75.trans (d76.trans (d77.trans d78)))))))⟩ (A2.one ⟨tj,a0,rfl,((d76.trans (d77.trans d78)) _ _ e_tj),(by dsimp only; decide),(p_a0.same (d75.trans (d76.trans (d77.trans d78))))⟩))),(by show 3 ≤ 6; decide)⟩),by decide +kernel,by decide +kernel,fun o => db_of (k := 2) (x := 1) hf (by decide +kernel)⟩,C5.it (u := .db (.str (f 1))) (d78 _ _ e_qd) ⟨.str,.str _⟩ trivial⟩⟩
  refine ⟨ls,_,_,rfl,rfl,ey78,(by omega),?_⟩
  have sa78 := st78.app ey78 te78
  generalize upd H78 ls (.lst (ys78 ++ [.ref r])) = H79 at sa78 ⊢
  replace c_ln := ((d72.trans (d73.trans (d74.trans (d75.trans (d76.trans (d77.trans d78)))))) _ _ c_ln)
  replace cp1 := (cp1.same (d72.trans (d73.trans (d74.trans (d75.trans (d76.trans (d77.trans d78)))))))
  replace cp2 := (cp2.same (d72.trans (d73.trans (d74.trans (d75.trans (d76.trans (d77.trans d78)))))))
  replace cq := cq.trans (d72.trans (d73.trans (d74.trans (d75.trans (d76.trans (d77.trans d78))))))
  have st79 := sa78
  have d79 := Same.refl D78
  obtain ⟨D79,hD79⟩ : ∃ D',D' = D78 := ⟨_,rfl⟩
  rw [← hD79] at st79 d79 c_ln cp1 cp2 cq
  clear hD79
  obtain ⟨xs79,ex79,_⟩ := st79.ln
  refine ⟨_,rfl,.inl ⟨rfl,_,SqL.of ex79⟩,_,rfl,_,rfl,ln,_,rfl,SqL.of (st79.sub _ _ c_ln),?_⟩
  rw [show cutV (zs.map V.str) (some 1) none = (zs.drop 1).map V.str from Dd hN (k := 1) (by decide)]
  intro c_ad h_c_ad
  obtain ⟨n80,st80⟩ := st79.new (o := .lst ((zs.drop 1).map V.str)) h_c_ad
  have d80 := Same.new (o := .lst ((zs.drop 1).map V.str)) n80
  have e_c_ad : upd D79 c_ad (.lst ((zs.drop 1).map V.str)) c_ad = some (.lst ((zs.drop 1).map V.str)) := Ac
  generalize upd D79 c_ad (.lst ((zs.drop 1).map V.str)) = D80 at st80 d80 e_c_ad
  generalize upd H79 c_ad (.lst ((zs.drop 1).map V.str)) = H80 at st80 ⊢
  refine ⟨c_ad,6,f,_,1,[2,3,4,5,6],rfl,(st80.sub _ _ e_c_ad),hz (k := 1) (m := 6) (by decide),hf,by decide,by decide,by decide,(by rw [List.length_drop,hN.l]; decide),fun ad H81 kk_ad kks_ad hrev_ad s81 hP_ad => ?_⟩
  have hrev_ad : [6,5,4,3,2,1] = kk_ad :: kks_ad := hrev_ad
  cases hrev_ad
  obtain ⟨D81,st81,d81,tp81⟩ := st80.call s81
  have p_ad := hP_ad.t tp81
  refine ⟨(by exact Z2),fun tc h_tc => ?_⟩
  obtain ⟨n82,st82⟩ := st81.new (o := .tup [.str "changed",.ref ad]) h_tc
  have d82 := Same.new (o := .tup [.str "changed",.ref ad]) n82
  have e_tc : upd D81 tc (.tup [.str "changed",.ref ad]) tc = some (.tup [.str "changed",.ref ad]) := Ac
  generalize upd D81 tc (.tup [.str "changed",.ref ad]) = D82 at st82 d82 e_tc
  generalize upd H81 tc (.tup [.str "changed",.ref ad]) = H82 at st82 ⊢
  refine ⟨(by exact Z1),fun b h_b => ?_⟩
  obtain ⟨n83,st83⟩ := st82.new (o := .lst [.ref tc]) h_b
  have d83 := Same.new (o := .lst [.ref tc]) n83
  have e_b : upd D82 b (.lst [.ref tc]) b = some (.lst [.ref tc]) := Ac
  generalize upd D82 b (.lst [.ref tc]) = D83 at st83 d83 e_b
  generalize upd H82 b (.lst [.ref tc]) = H83 at st83 ⊢
  refine ⟨(by exact Z2),fun qd h_qd => ?_⟩
  obtain ⟨n84,st84⟩ := st83.new (o := .tup [.str "deep",.int 7]) h_qd
  have d84 := Same.new (o := .tup [.str "deep",.int 7]) n84
  have e_qd : upd D83 qd (.tup [.str "deep",.int 7]) qd = some (.tup [.str "deep",.int 7]) := Ac
  generalize upd D83 qd (.tup [.str "deep",.int 7]) = D84 at st84 d84 e_qd
  generalize upd H83 qd (.tup [.str "deep",.int 7]) = H84 at st84 ⊢
  refine ⟨(by exact Z2),fun r h_r => ?_⟩
  obtain ⟨n85,st85⟩ := st84.new (o := .lst [.ref b,.ref qd]) h_r
  have d85 := Same.new (o := .lst [.ref b,.ref qd]) n85
  have e_r : upd D84 r (.lst [.ref b,.ref qd]) r = some (.lst [.ref b,.ref qd]) := Ac
  generalize upd D84 r (.lst [.ref b,.ref qd]) = D85 at st85 d85 e_r
  generalize upd H84 r (.lst [.ref b,.ref qd]) = H85 at st85 ⊢
  obtain ⟨ys85,ey85,el85⟩ := st85.ln
  have te85 : TEr K C f D85 r := ⟨_,_,e_r,.inr ⟨_,.inr ⟨_,.cons 3 6 (C7 [5,4,3,2,1]) .nil,.inr (.inl ⟨b,rfl,((d84.trans d85) _ _ e_b),FAt.of (A2.one ⟨tc,ad,rfl,((d83.trans (d84.trans d85)) _ _ e_tc),(by dsimp only; decide),(p_ad.same (d82.trans (d83.trans (d84.trans d85))))⟩),(by show 1 ≤ 6; decide)⟩),by decide +kernel,by decide +kernel,fun o => dp_of hf (by decide +kernel)⟩,C5.it (u := .dp 7) (d85 _ _ e_qd) ⟨.int,.int _⟩ trivial⟩⟩
  refine ⟨ls,_,_,rfl,rfl,ey85,(by omega),?_⟩
  have sa85 := st85.app ey85 te85
  generalize upd H85 ls (.lst (ys85 ++ [.ref r])) = H86 at sa85 ⊢
  replace c_ln := ((d80.trans (d81.trans (d82.trans (d83.trans (d84.trans d85))))) _ _ c_ln)
  replace cp1 := (cp1.same (d80.trans (d81.trans (d82.trans (d83.trans (d84.trans d85))))))
  replace cp2 := (cp2.same (d80.trans (d81.trans (d82.trans (d83.trans (d84.trans d85))))))
  replace cq := cq.trans (d80.trans (d81.trans (d82.trans (d83.trans (d84.trans d85)))))
  have st86 := sa85
  have d86 := Same.refl D85
  obtain ⟨D86,hD86⟩ : ∃ D',D' = D85 := ⟨_,rfl⟩
  rw [← hD86] at st86 d86 c_ln cp1 cp2 cq
  clear hD86
  refine ⟨_,rfl,ln,_,_,_,rfl,rfl,SqL.of (st86.sub _ _ c_ln),hx (i := 20) (by decide),?_⟩
  refine ⟨(by exact Z0),fun to h_to => ?_⟩
  obtain ⟨n87,st87⟩ := st86.new (o := .tup []) h_to
  have d87 := Same.new (o := .tup []) n87
  have e_to : upd D86 to (.tup []) to = some (.tup []) := Ac
  generalize upd D86 to (.tup []) = D87 at st87 d87 e_to
  generalize upd H86 to (.tup []) = H87 at st87 ⊢
  refine ⟨_,rfl,_,rfl,ln,_,rfl,SqL.of (st87.sub _ _ (d87 _ _ c_ln)),?_⟩
  rw [show cutV (zs.map V.str) (some 2) none = (zs.drop 2).map V.str from Dd hN (k := 2) (by decide)]
  intro c_ac h_c_ac
  obtain ⟨n88,st88⟩ := st87.new (o := .lst ((zs.drop 2).map V.str)) h_c_ac
  have d88 := Same.new (o := .lst ((zs.drop 2).map V.str)) n88
  have e_c_ac : upd D87 c_ac (.lst ((zs.drop 2).map V.str)) c_ac = some (.lst ((zs.drop 2).map V.str)) := Ac
  generalize upd D87 c_ac (.lst ((zs.drop 2).map V.str)) = D88 at st88 d88 e_c_ac
  generalize upd H87 c_ac (.lst ((zs.drop 2).map V.str)) = H88 at st88 ⊢
  refine ⟨c_ac,5,f,_,2,[3,4,5,6],rfl,(st88.sub _ _ e_c_ac),hz (k := 2) (m := 5) (by decide),hf,by decide,by decide,by decide,(by rw [List.length_drop,hN.l]; decide),fun ac H89 kk_ac kks_ac hrev_ac s89 hP_ac => ?_⟩
  have hrev_ac : [6,5,4,3,2] = kk_ac :: kks_ac := hrev_ac
  cases hrev_ac
  obtain ⟨D89,st89,d89,tp89⟩ := st88.call s89
  have p_ac := hP_ac.t tp89
  refine ⟨(by exact Z2),fun tx h_tx => ?_⟩
  obtain ⟨n90,st90⟩ := st89.new (o := .tup [.str "called",.ref ac]) h_tx
  have d90 := Same.new (o := .tup [.str "called",.ref ac]) n90
  have e_tx : upd D89 tx (.tup [.str "called",.ref ac]) tx = some (.tup [.str "called",.ref ac]) := Ac
  generalize upd D89 tx (.tup [.str "called",.ref ac]) = D90 at st90 d90 e_tx
  generalize upd H89 tx (.tup [.str "called",.ref ac]) = H90 at st90 ⊢
  refine ⟨(by exact Z1),fun lb h_lb => ?_⟩
  obtain ⟨n91,st91⟩ := st90.new (o := .lst [.ref tx]) h_lb
  have d91 := Same.new (o := .lst [.ref tx]) n91
  have e_lb : upd D90 lb (.lst [.ref tx]) lb = some (.lst [.ref tx]) := Ac
  generalize upd D90 lb (.lst [.ref tx]) = D91 at st91 d91 e_lb
  generalize upd H90 lb (.lst [.ref tx]) = H91 at st91 ⊢
  refine fun ao dx_o y1_o y2_o _ => nodeP (g := .cons 0 6 (C7 [5,4,3,2]) .nil) hf (by decide) (st91.sub _ _ ((d88.trans (d89.trans (d90.trans d91))) _ _ e_to)) (st91.sub _ _ e_lb) (FAt.t (.of st91.sub) (FAt.of (A2.one ⟨tx,ac,rfl,(d91 _ _ e_tx),(by dsimp only; decide),(p_ac.same (d90.trans d91))⟩))) (by show 1 ≤ 6; decide) (by decide +kernel) y1_o y2_o fun H92 s92 hP_ao => ⟨rfl,?_⟩
  obtain ⟨D92,st92,d92,tp92⟩ := st91.call s92
  have p_ao := hP_ao.t tp92
  have cpo := p_ao
  replace c_ln := ((d87.trans (d88.trans (d89.trans (d90.trans (d91.trans d92))))) _ _ c_ln)
  replace cp1 := (cp1.same (d87.trans (d88.trans (d89.trans (d90.trans (d91.trans d92))))))
  replace cp2 := (cp2.same (d87.trans (d88.trans (d89.trans (d90.trans (d91.trans d92))))))
  replace cq := cq.trans (d87.trans (d88.trans (d89.trans (d90.trans (d91.trans d92)))))
  obtain ⟨xs92,ex92,_⟩ := st92.ln
  refine ⟨_,rfl,.inl ⟨rfl,_,SqL.of ex92⟩,?_⟩
  refine ⟨_,rfl,(by exact Z2),fun tc h_tc => ?_⟩
  obtain ⟨n93,st93⟩ := st92.new (o := .tup [.str "called",.ref a1]) h_tc
  have d93 := Same.new (o := .tup [.str "called",.ref a1]) n93
  have e_tc : upd D92 tc (.tup [.str "called",.ref a1]) tc = some (.tup [.str "called",.ref a1]) := Ac
  generalize upd D92 tc (.tup [.str "called",.ref a1]) = D93 at st93 d93 e_tc
  generalize upd H92 tc (.tup [.str "called",.ref a1]) = H93 at st93 ⊢
  refine ⟨_,rfl,(by exact Z2),fun tb h_tb => ?_⟩
  obtain ⟨n94,st94⟩ := st93.new (o := .tup [.str "changed",.ref ao]) h_tb
  have d94 := Same.new (o := .tup [.str "changed",.ref ao]) n94
  have e_tb : upd D93 tb (.tup [.str "changed",.ref ao]) tb = some (.tup [.str "changed",.ref ao]) := Ac
  generalize upd D93 tb (.tup [.str "changed",.ref ao]) = D94 at st94 d94 e_tb
  generalize upd H93 tb (.tup [.str "changed",.ref ao]) = H94 at st94 ⊢
  refine ⟨(by exact Z2),fun b h_b => ?_⟩
  obtain ⟨n95,st95⟩ := st94.new (o := .lst [.ref tc,.ref tb]) h_b
  have d95 := Same.new (o := .lst [.ref tc,.ref tb]) n95
  have e_b : upd D94 b (.lst [.ref tc,.ref tb]) b = some (.lst [.ref tc,.ref tb]) := Ac
  generalize upd D94 b (.lst [.ref tc,.ref tb]) = D95 at st95 d95 e_b
  generalize upd H94 b (.lst [.ref tc,.ref tb]) = H95 at st95 ⊢
  refine ⟨(by exact Z2),fun qd h_qd => ?_⟩
  obtain ⟨n96,st96⟩ := st95.new (o := .tup [.str "deep",.int 7]) h_qd
  have d96 := Same.new (o := .tup [.str "deep",.int 7]) n96
  have e_qd : upd D95 qd (.tup [.str "deep",.int 7]) qd = some (.tup [.str "deep",.int 7]) := Ac
  generalize upd D95 qd (.tup [.str "deep",.int 7]) = D96 at st96 d96 e_qd
  generalize upd H95 qd (.tup [.str "deep",.int 7]) = H96 at st96 ⊢
  refine ⟨(by exact Z2),fun r h_r => ?_⟩
  obtain ⟨n97,st97⟩ := st96.new (o := .lst [.ref b,.ref qd]) h_r
  have d97 := Same.new (o := .lst [.ref b,.ref qd]) n97
  have e_r : upd D96 r (.lst [.ref b,.ref qd]) r = some (.lst [.ref b,.ref qd]) := Ac
  generalize upd D96 r (.lst [.ref b,.ref qd]) = D97 at st97 d97 e_r
  generalize upd H96 r (.lst [.ref b,.ref qd]) = H97 at st97 ⊢
  obtain ⟨ys97,ey97,el97⟩ := st97.ln
  have te97 : TEr K C f D97 r := ⟨_,_,e_r,.inr ⟨_,.inr ⟨_,.cons 0 1 .nil (.cons 3 20 (.cons 0 6 (C7 [5,4,3,2]) .nil) .nil),.inr (.inl ⟨b,rfl,((d96.trans d97) _ _ e_b),FAt.of (A2.cons ⟨tc,a1,rfl,((d94.trans (d95.trans (d96.trans d97))) _ _ e_tc),(by dsimp only; decide),(cp1.same (d93.trans (d94.trans (d95.trans (d96.trans d97)))))⟩ (A2.one ⟨tb,ao,rfl,((d95.trans (d96.trans d97)) _ _ e_tb),(by dsimp only; decide),(cpo.same (d93.trans (d94.trans (d95.trans (d96.trans d97)))))⟩)),(by show 2 ≤ 6; decide)⟩),by decide +kernel,by decide +kernel,fun o => dp_of hf (by decide +kernel)⟩,C5.it (u := .dp 7) (d97 _ _ e_qd) ⟨.int,.int _⟩ trivial⟩⟩
  refine ⟨ls,_,_,rfl,rfl,ey97,(by omega),?_⟩
  have sa97 := st97.app ey97 te97
  generalize upd H97 ls (.lst (ys97 ++ [.ref r])) = H98 at sa97 ⊢
  replace c_ln := ((d93.trans (d94.trans (d95.trans (d96.trans d97)))) _ _ c_ln)
  replace cp1 := (cp1.same (d93.trans (d94.trans (d95.trans (d96.trans d97)))))
  replace cp2 := (cp2.same (d93.trans (d94.trans (d95.trans (d96.trans d97)))))
  replace cq := cq.trans (d93.trans (d94.trans (d95.trans (d96.trans d97))))
  replace cpo := (cpo.same (d93.trans (d94.trans (d95.trans (d96.trans d97)))))
  have st98 := sa97
  have d98 := Same.refl D97
  obtain ⟨D98,hD98⟩ : ∃ D',D' = D97 := ⟨_,rfl⟩
  rw [← hD98] at st98 d98 c_ln cp1 cp2 cq cpo
  clear hD98
  have cn := st98.sub _ _ c_ln
  refine ⟨_,rfl,_,rfl,ln,zs,rfl,cn,hN,fun l2 rs2 HA sA eA nA hA => ?_⟩
  obtain ⟨rs,er,nr,hr'⟩ := st98.rows
  refine ⟨ls,l2,_,_,rfl,rfl,sA _ _ er,eA,(by rw [List.length_map,List.length_map,nr,nA,hs]; decide),fun lf hlf => ?_⟩
  have sB := Same.new (o := .lst (rs.map V.ref ++ rs2.map V.ref)) hlf
  refine q lf (rs ++ rs2) _ (((cq.trans st98.sub).trans sA).trans sB) (by rw [Ac,List.map_append]) (by rw [List.length_append,nr,nA]) fun r hr => ?_
  rcases List.mem_append.mp hr with hr | hr
  ·rw [hfz]; exact ((hr' r hr).same st98.sub).same (sA.trans sB)
  ·exact (hA r hr).same sB
end
end K32
namespace L2
open PySem PySem.Spec PyProof.Rows
section
variable {X : Cx}
theorem pss_or {st : List Stmt} {t1 t2 : TS} (h1 : PSs X st t1) (h2 : PSs X st t2) : PSs X st (fun D σ H => t1 D σ H ∨ t2 D σ H) := fun pins s σ H D I h => h.elim (h1 pins s σ H D I) (h2 pins s σ H D I)
def tOrT (K : PySem.W.Frag) (ta tb : TE) : TE := fun σ H Q => ta σ H fun x H1 => ∃ k,TruV K x H1 k ∧ if k = true then Q x H1 else tb σ H1 Q
theorem pe_orT {a b : Expr} {rest : List Expr} {pos : Pos} {ta tb : TE} (ha : PE X a ta) (hb : PE X (.BoolOp .Or (b :: rest) pos) tb) : PE X (.BoolOp .Or (a :: b :: rest) pos) (tOrT X.K ta tb) := by
 intro pins s σ H Q I h
 refine BoolOp_or (thn (ha pins s σ H _ I h) fun v s1 ⟨x,H1,I1,r1,k,tv,q1⟩ => ?_)
 refine thn (tru_ok pins s1 σ H1 x v (fun c H2 => c = k ∧ H2 = H1) I1 r1 ⟨k,tv,rfl,rfl⟩) fun c s2 ⟨H2,I2,e1,e2⟩ => ?_
 subst e1 e2
 cases c with
 | false => exact hb pins s2 σ _ Q I2 q1
 | true => exact ⟨x,_,I2,r1,q1⟩
def Seq0 (K : PySem.W.Frag) (H : Hp) (x : V) (xs : List V) : Prop := (x = .non ∧ xs = []) ∨ (∃ l,x = .ref l ∧ SqL K H l xs) ∨ ∃ l,x = .ref l ∧ H l = some (.tup xs)
def tTupOr (K : PySem.W.Frag) (i : Nat) : TE := fun σ H Q => tVar i σ H fun x H1 => ∃ xs,Seq0 K H1 x xs ∧ ∀ p HX,Same H1 HX → HX p = some (.tup xs) → Q (.ref p) HX
theorem pe_tupOr {i k : Nat} {a : Expr} {p pos p1 p2 : Pos} (ha : PE X a (tVar i)) (hg : Gl X "tuple") (hm : X.mg "tuple" = none) (hs : starEach [.BoolOp .Or [a,.Tuple [] k p2] p1] X.env = (false,eval (.BoolOp .Or [a,.Tuple [] k p2] p1) X.env) :: starEach [] X.env := by rfl) (hs2 : (backTo pos (starEach [] X.env)).any (·.1) = false := by rfl) :
 PE X (.Call (.Name "tuple" p) [.BoolOp .Or [a,.Tuple [] k p2] p1] [] pos) (tTupOr X.K i) := by
 intro pins s σ H Q I h
 refine (Cn Bs hg hm boot_tuple (Aa (pe_orT ha (Cq (Ai Ab))) Ab)) pins s σ H Q I ?_
 obtain ⟨x,hx,xs,hq,q⟩ := h
 have nilc : xs = [] → TruV X.K x H false → ∃ k,TruV X.K x H k ∧ (if k = true then (∃ p ys,[x] = [.ref p] ∧ ((SqL X.K H p ys ∧ ∀ l,H l = none → Q (.ref l) (upd H l (.tup ys))) ∨ (SqT X.K H p ys ∧ Q (.ref p) H))) else (0 ≤ sizeLine ∧ ∀ p,H p = none → ∃ p' ys,[V.ref p] = [.ref p'] ∧ ((SqL X.K (upd H p (.tup [])) p' ys ∧ ∀ l,upd H p (.tup []) l = none → Q (.ref l) (upd (upd H p (.tup [])) l (.tup ys))) ∨ (SqT X.K (upd H p (.tup [])) p' ys ∧ Q (.ref p') (upd H p (.tup [])))))) := fun e tv =>
  ⟨false,tv,iteF ⟨Nat.zero_le _,fun p hp => ⟨p,[],rfl,.inr ⟨SqT.of Ac,q p _ (Same.new hp) (by rw [Ac,e])⟩⟩⟩⟩
 refine ⟨x,hx,?_⟩
 rcases hq with ⟨rfl,e⟩ | ⟨l,rfl,hl⟩ | ⟨l,rfl,hl⟩
 ·exact nilc e rfl
 ·cases xs with
  | nil => exact nilc rfl (.inl ⟨[],hl,rfl⟩)
  | cons y ys => exact ⟨true,.inl ⟨_,hl,rfl⟩,iteT ⟨l,_,rfl,.inl ⟨hl,fun p hp => q p _ (Same.new hp) Ac⟩⟩⟩
 ·cases xs with
  | nil => exact nilc rfl (.inr (.inl ⟨[],SqT.of hl,rfl⟩))
  | cons y ys => exact ⟨true,.inr (.inl ⟨_,SqT.of hl,rfl⟩),iteT ⟨l,_,rfl,.inr ⟨SqT.of hl,q l _ (Same.refl _) hl⟩⟩⟩
end
end L2
namespace K32
open PySem L2 PyProof.Rows PySem.SeqAt
theorem hu8 {A : Around} {k : Nat} (hr : Room k A) : A.units + 8 < cLine := by have := hr.units; omega
theorem kd_plain {K : PySem.W.Frag} {H : Hp} {x : V} {k : Kd} (h : KdOf K H x k) : Plain x := by
 have h : TyOf K H x (.type k.nm) := h
 generalize hT : Value.type k.nm = T at h
 cases h <;> first | trivial | (cases k <;> exact absurd (Value.type.inj hT) (by decide))
theorem kd_bl {K : PySem.W.Frag} {H : Hp} {x : V} {k : Kd} (h : KdOf K H x k) : k.isA .bl = isB x := by
 have h : TyOf K H x (.type k.nm) := h
 generalize hT : Value.type k.nm = T at h
 cases h <;> first | (cases k <;> first | rfl | exact absurd (Value.type.inj hT) (by decide)) | cases hT
theorem two_shaped {C : Addr} {H : Hp} {a : Addr} {d : Nd} (h : PAt C H a d) : shaped (.tuple [.str d.n,.tuple (d.o.map keyD)]) = true := by
 obtain ⟨dx,po,pb,kt,h1,h2,⟨ps,_,_,g⟩,h4,h5⟩ := h
 obtain ⟨a3,b3⟩ := keys_lay g.ok
 unfold shaped
 rw [Bool.and_eq_true,decide_eq_true_eq]
 refine ⟨by simp [PyData.canLay0,PyData.canLayAll0,a3,word_ok h2],?_⟩
 simp only [PyData.depth,PyData.depthAll]
 omega
theorem kidsL_shaped {C : Addr} {H : Hp} {f : Fo} {its : List V} (h : FAt C H f its) (h7 : f.ht < 7) : shaped (.list (toldF f)) = true := by
 obtain ⟨a1,b1⟩ := told_lay h
 unfold shaped
 rw [Bool.and_eq_true,decide_eq_true_eq]
 refine ⟨by simp [PyData.canLay0,a1],?_⟩
 simp only [PyData.depth]
 omega
def Dues (K : PySem.W.Frag) (H : Hp) (ds : List V) (u : Due) : Prop := ∃ (j : Nat) (dv : V),ds[j]? = some dv ∧ C5 K H u dv ∧ ∀ k x,k < j → ds[k]? = some x → x = .non
section
variable {P : Program} {w : World} {K : PySem.W.Frag} {mg : Str → Option Value} {base : Heap} {C fP : Addr} {dP : FuncData} {c : Cs}
def spRight : Sp := fun vs H Q _ => ∃ (ln : Addr) (zs : List Str) (m : Int),vs = [.ref ln,.int m] ∧ H ln = some (.lst (zs.map V.str)) ∧ Nms zs ∧ ∀ H',Same H H' → Q (.bl true) H'
abbrev nRt : List Str := ["_law_names","_law_cell_here","_law_name_here","_law_first","_law_offers_here","_law_second","_law_some","_law_beneath","_law_third","_law_told_here","_law_due","_law_found"]
abbrev Cg : Stmt := top 56
theorem Bi : Ar nRt ["_law_names","_law_cell_here"] (Af Cg) := by trivial
theorem ok_right (T : Txt mg) (kit : PKit K C) (M : PMk P w K mg base C fP dP c) (F__law_mixed : FnAt P w K mg base "_law_mixed" 1 ["_law_cell_here","_law_k"] spMixed) (F__law_name : FnAt P w K mg base "_law_name" 1 ["_law_name_here","_law_number"] (spNm K)) (F__law_offers : FnAt P w K mg base "_law_offers" 1 ["_law_name_here","_law_number"] (spOfs K)) (F__law_trees : FnAt P w K mg base "_law_trees" 15 ["_law_names","_law_number"] (spTrees K C)) (F__law_told : FnAt P w K mg base "_law_told" 14 ["_law_name_here","_law_offers_here","_law_beneath"] (spTold K C))
 (MTD : ∀ C' sp,DTd K C 7 C' sp → MethD P w K mg base CX0 7 C' "told" ["self"] sp) (F : Aq K mg "_law_right" Cg ["_law_names","_law_cell_here"]) : FnAt P w K mg base "_law_right" 16 ["_law_names","_law_cell_here"] spRight := by
 refine F.at Bi (fun vs H Q E h => ?_) (fun fa cdv A outer s H vs Q E hr h => ?_)
 ·obtain ⟨ln,zs,m,rfl,_⟩ := h
  rfl
 ·obtain ⟨ln,zs,m,rfl,hln,hN,q⟩ := h
  refine ⟨_,(Ad (ps_asg (Ay F__law_name hr (by decide) rfl (Aa (Bk A5 (pv 0) Ag (fun _ _ => rfl)) (Aa (Ay F__law_mixed hr (by decide) rfl (Aa (pv 1) (Aa Ag Ab))) Ab))) (pg_lstK (n := 2) K rfl (A4 (Ao (i := 2) Bi.nd rfl (by trivial)) (A4 (Ao (i := 3) Bi.nd rfl (by trivial)) Cl))))
   (Ad (ps_asg (Ay F__law_offers hr (by decide) rfl (Aa (Bk A5 (pv 0) Ag (fun _ _ => rfl)) (Aa (Ay F__law_mixed hr (by decide) rfl (Aa (pv 1) (Aa Ag Ab))) Ab))) (pg_lstK (n := 2) K rfl (A4 (Ao (i := 4) Bi.nd rfl (by trivial)) (A4 (Ao (i := 5) Bi.nd rfl (by trivial)) Cl))))
   (Ad (A3 (i := 6) Bi.nd rfl (by trivial) (Ay F__law_trees hr (by decide) rfl (Aa (pv 0) (Aa (Ay F__law_mixed hr (by decide) rfl (Aa (pv 1) (Aa Ag Ab))) Ab))))
   (Ad (ps_asg (Bk A5 (pv 6) (A7 Cf (Ay F__law_mixed hr (by decide) rfl (Aa (pv 1) (Aa Ag Ab))) (Ah Av rfl T.n_len boot_len (Aa (pv 6) Ab))) (fun _ _ => rfl)) (pg_lstK (n := 2) K rfl (A4 (Ao (i := 7) Bi.nd rfl (by trivial)) (A4 (Ao (i := 8) Bi.nd rfl (by trivial)) Cl))))
   (Ad (A3 (i := 9) Bi.nd rfl (by trivial) (Ay F__law_told hr (by decide) rfl (Aa (pv 2) (Aa (pv 4) (Aa (pv 7) Ab)))))
   (Ad (Ck PassesOwn.never rfl (Be (Am (Aa (pv 3) (Aa (pv 5) (Aa (pv 8) Ab))))) (Ao (i := 10) Bi.nd rfl (by trivial)) (Ae (Bc (pt_cmp (pc_notN (pv 10))) (Ad (Bc (PW.pt (pw_or (Bg (Bj (Ah (Bt .tup (by simp)) rfl T.n_isinstance boot_isinstance (Aa (pv 9) (Aa (Au (v := .ty "tuple") rfl T.n_tuple boot_tuple rfl) Ab))))) (Cp (Bb (op_neTup3 (hu8 hr)) (pv 9) (pv 10) (Ba _))))) (Ae (As pe_bl)) Ap)
   (Ae (As (Cc Dw (Ah (Bt .bl (by simp)) rfl T.n_isinstance boot_isinstance (Aa (Bk Di (pv 9) Ag (fun _ _ => rfl)) (Aa (Au (v := .ty "bool") rfl T.n_bool boot_bool rfl) Ab))) (Ah (Bt .bl (by simp)) rfl T.n_isinstance boot_isinstance (Aa (Bk Di (pv 10) Ag (fun _ _ => rfl)) (Aa (Au (v := .ty "bool") rfl T.n_bool boot_bool rfl) Ab))) (Ba _))))) Ap)))
   (Ad (Bc (PW.pt (pw_or (Bg (Bj (Ah B1 rfl T.n_isinstance boot_isinstance (Aa (pv 9) (Aa (Dt (v := .ref C) rfl M.mP rfl) Ab))))) (Cp (Bb (op_neSD (hu64 hr)) (Ai (Aa (Cm (pv 9) rfl) (Aa (Cm (pv 9) rfl) Ab))) (Ai (Aa (pv 2) (Aa (pe_tupOr (i := 4) (pv 4) rfl T.n_tuple) Ab))) (Ba _))))) (Ae (As pe_bl)) Ap)
   (Ad (ps_setComp (i := 11) (sc := Af Cg) (N0 := nRt) (xs := ["_law_word","_law_part"]) (ys := []) (js := []) (by trivial) rfl Bi.nd rfl rfl (pi_tup (Cm (pv 9) rfl)) (fun _ _ _ _ => (pg_tupK (n := 2) K rfl (A4 (Ao (i := 0) (show (["_law_word","_law_part"] : List Str).Nodup by decide +kernel) rfl (by trivial)) (A4 (Ao (i := 1) (show (["_law_word","_law_part"] : List Str).Nodup by decide +kernel) rfl (by trivial)) Cl)))) (fun _ _ _ _ => B7) (fun _ _ _ _ => (Ai (Aa (pv 0) (Aa (pe_methD (D := DTd K C 7) (pv 1) MTD (hr.mono (by decide)) Db) Ab)))))
   (pss_or (Ae (As (B9 (Ah (Bt .tup (by simp)) rfl T.n_isinstance boot_isinstance (Aa (Cm (pv 9) rfl) (Aa (Au (v := .ty "tuple") rfl T.n_tuple boot_tuple rfl) Ab))) (Cq (Cc (op_eqSD (hu64 hr)) (pv 11) (Bz (sc := Af Cg) (N0 := nRt) (xs := ["_law_word","_law_part"]) (ys := []) (js := []) (by trivial) rfl (pi_tup (pe_orT (pv 7) (Cq (Ai Ab)))) (fun _ _ _ _ => (pg_tupK (n := 2) K rfl (A4 (Ao (i := 0) (show (["_law_word","_law_part"] : List Str).Nodup by decide +kernel) rfl (by trivial)) (A4 (Ao (i := 1) (show (["_law_word","_law_part"] : List Str).Nodup by decide +kernel) rfl (by trivial)) Cl)))) (fun _ _ _ _ => B7) (fun _ _ _ _ => (Ai (Aa (pv 0) (Aa (pe_methD (D := DTd K C 7) (pv 1) MTD (hr.mono (by decide)) Db) Ab))))) (Ba _))))))
   (Ae (As (B9 (Ah (Bt .tup (by simp)) rfl T.n_isinstance boot_isinstance (Aa (Cm (pv 9) rfl) (Aa (Au (v := .ty "tuple") rfl T.n_tuple boot_tuple rfl) Ab))) (Cq (Cc (op_eqSD (hu64 hr)) (pv 11) (Bz (sc := Af Cg) (N0 := nRt) (xs := ["_law_word","_law_part"]) (ys := []) (js := []) (by trivial) rfl (Be (pe_orT (pv 7) (Cq (Ai Ab)))) (fun _ _ _ _ => (pg_tupK (n := 2) K rfl (A4 (Ao (i := 0) (show (["_law_word","_law_part"] : List Str).Nodup by decide +kernel) rfl (by trivial)) (A4 (Ao (i := 1) (show (["_law_word","_law_part"] : List Str).Nodup by decide +kernel) rfl (by trivial)) Cl)))) (fun _ _ _ _ => B7) (fun _ _ _ _ => (Ai (Aa (pv 0) (Aa (pe_methD (D := DTd K C 7) (pv 1) MTD (hr.mono (by decide)) Db) Ab))))) (Ba _))))))))))))))),?_⟩
  have hs : sizeLine = 16777216 := sizeLine_eq
  have hf : Inj (nz zs) := hN.inj
  have hw0 : A6 (nz zs 0) = true := hf.1 0 (by decide)
  refine ⟨_,rfl,ln,_,_,_,rfl,rfl,SqL.of hln,nz_ix hN (i := 0) (by decide),_,rfl,m,1,rfl,fun r1 => ⟨nz zs 0,r1,rfl,hw0,fun l1 vn dn H1 s1 e1 hn => ?_⟩⟩
  refine ⟨l1,_,rfl,SqL.of e1,rfl,_,_,rfl,_,_,rfl,rfl,?_⟩
  refine ⟨_,rfl,ln,_,_,_,rfl,rfl,SqL.of (s1 _ _ hln),nz_ix hN (i := 0) (by decide),_,rfl,m,2,rfl,fun r2 => ⟨nz zs 0,r2,rfl,hw0,fun l2 vo do_ H2 s2 e2 ho => ?_⟩⟩
  refine ⟨l2,_,rfl,SqL.of e2,rfl,_,_,rfl,_,_,rfl,rfl,?_⟩
  have S2 := s1.trans s2
  refine ⟨_,rfl,_,rfl,m,3,rfl,fun r3 => ⟨ln,zs,r3,rfl,S2 _ _ hln,hN,fun lt rs H3 s3 e3 n3 te => ?_⟩⟩
  have S3 := S2.trans s3
  have ln36 : (rs.map V.ref).length = 36 := by rw [List.length_map]; exact n3
  refine ⟨_,rfl,_,rfl,m,4,rfl,fun r4 => ?_⟩
  have i0 : 0 ≤ r4 % 36 := Int.emod_nonneg _ (by decide)
  have i1 : r4 % 36 < 36 := Int.emod_lt_of_pos _ (by decide)
  obtain ⟨vr,evr,hvr⟩ := atI_ex (xs := rs.map V.ref) i0 (by rw [ln36]; exact i1)
  obtain ⟨rr,hrr,rfl⟩ := List.mem_map.mp hvr
  obtain ⟨vb,db,hrow,hte⟩ := te rr hrr
  refine ⟨_,rfl,_,_,rfl,.inl ⟨_,SqL.of e3,rfl⟩,_,_,rfl,rfl,(by rw [ln36]; show (0 : Int) < 36; decide),lt,_,_,.ref rr,rfl,rfl,SqL.of e3,(by rw [ln36]; exact evr),?_⟩
  refine ⟨rr,_,rfl,SqL.of hrow,rfl,_,_,rfl,_,_,rfl,rfl,?_⟩
  generalize nz zs = f at hf hw0 hn hte
  have ho3 : OfHand K H3 vo do_ := by
   rcases ho with ⟨o,h1,h2⟩ | ⟨h1,h2,qo,h3,h4⟩
   ·exact .inl ⟨o,h1.same s3,h2⟩
   ·exact .inr ⟨h1.same s3,h2.same s3,qo,h3,s3 _ _ h4⟩
  have hn3 : (vn = .str (f 0) ∧ dn = .non) ∨ (OddN K H3 vn ∧ ∃ q,dn = .ref q ∧ H3 q = some (.tup [.str "word",vn])) := by
   rcases hn with h | ⟨⟨h1,h2,h3⟩,q,h4,h5⟩
   ·exact .inl h
   ·exact .inr ⟨⟨h1.same (s2.trans s3),h2,h3⟩,q,h4,(s2.trans s3) _ _ h5⟩
  have cases4 : (∃ u,IBad K C H3 vn vo vb u ∧ Dues K H3 [dn,do_,db] u) ∨ ∃ (o : List (Str × Nat)) (its : List V) (g : FoI),vn = .str (f 0) ∧ OfArg H3 vo o ∧ BnArg C H3 vb (g.fo f) its ∧ bdI 0 g = true ∧ dn = .non ∧ do_ = .non ∧ db = .non := by
   rcases hn3 with ⟨rfl,rfl⟩ | ⟨⟨h1,h2,h3⟩,qn,rfl,h5⟩
   ·rcases ho3 with ⟨o,h1,rfl⟩ | ⟨h1,h2,qo,rfl,h4⟩
    ·rcases hte with ⟨its,g,h2,h3,rfl⟩ | ⟨u,hu,hd⟩
     ·exact .inr ⟨o,its,g,rfl,h1,h2,h3,rfl,rfl,rfl⟩
     ·refine .inl ⟨u,?_,2,_,rfl,hd,fun k x hk hx => ?_⟩
      ·rcases hu with hu | ⟨its,g,h2,h3,h4,h5⟩
       ·exact .bn hw0 h1 hu
       ·exact .bd hw0 h1 h2 (by rw [fo_ht]; exact h3) (by rw [fo_size]; exact h4) (h5 o)
      ·match k,hk,hx with
       | 0,_,hx => cases hx; rfl
       | 1,_,hx => cases hx; rfl
    ·obtain ⟨kk,hkk⟩ := h2
     refine .inl ⟨.of vo,.of hw0 h1,1,_,rfl,C5.it (u := .of vo) h4 ⟨kk,hkk⟩ (kd_plain hkk),fun k x hk hx => ?_⟩
     match k,hk,hx with
     | 0,_,hx => cases hx; rfl
   ·obtain ⟨kk,hkk⟩ := h1
    exact .inl ⟨.wd vn,.nm ⟨kk,hkk⟩ h2 h3,0,_,rfl,C5.it (u := .wd vn) h5 ⟨kk,hkk⟩ (kd_plain hkk),fun k x hk => absurd hk (Nat.not_lt_zero k)⟩
  rcases cases4 with ⟨u,hbad,j,dv,hj,hdv,hbef⟩ | ⟨o,its,g,rfl,hof,hb,hbd,rfl,rfl,rfl⟩
  ·refine ⟨_,rfl,_,rfl,_,rfl,vn,vo,vb,rfl,.inl ⟨u,hbad,fun p H4 s4 e4 => ?_⟩⟩
   refine ⟨_,rfl,_,rfl,_,rfl,(by exact Z3),fun ld hld => ?_⟩
   generalize hq : upd H4 ld (.lst [dn,do_,db]) = H5
   have s5 := Nw hq hld
   have e5 := Ns hq
   have e45 := s5 _ _ e4
   have hd5 := hdv.same (s4.trans s5)
   have hjl : j < 3 := (List.getElem?_eq_some_iff.mp hj).1
   refine ⟨ld,rfl,⟨_,SqL.of e5⟩,B0 (K := K) (a := ld) (xs := [dn,do_,db]) (fun i σ H' => ∃ v10 : Option V,σ = [some (.ref ln),some (.int m),some vn,some dn,some vo,some do_,some (.ref lt),some vb,some db,some (.ref p),v10,none] ∧ H' = H5 ∧ i ≤ j) ⟨_,rfl,rfl,Nat.zero_le _⟩ (fun i σ H' _ ⟨_,_,e,_⟩ => by rw [e]; exact SqL.of e5) ?_ ?_⟩
   ·rintro i v σ H' hv ⟨v10,rfl,rfl,hij⟩
    by_cases hlt : i < j
    ·have := hbef i v hlt hv
     subst this
     exact ⟨_,rfl,_,rfl,iteF ⟨_,rfl,rfl,hlt⟩⟩
    ·obtain rfl : i = j := by omega
     rw [hj] at hv
     cases hv
     obtain ⟨qd,v',rfl,hq,lk,⟨k1,hk1⟩,⟨k2,hk2⟩,hB⟩ := hd5
     refine ⟨_,rfl,_,rfl,iteT ?_⟩
     refine ⟨_,rfl,.ref p,.tup,rfl,.tup e45,_,rfl,iteF ?_⟩
     refine ⟨_,rfl,_,rfl,p,qd,_,_,rfl,rfl,SqT.of e45,SqT.of hq,.cons (.two (.same trivial)) (.cons lk .nil),_,rfl,iteF ?_⟩
     refine ⟨_,rfl,p,_,_,u.val,rfl,rfl,SqT.of e45,rfl,u.val,k1,rfl,hk1,_,rfl,qd,_,_,v',rfl,rfl,SqT.of hq,rfl,v',k2,rfl,hk2,rfl,?_⟩
     have := q H' (((S3.trans s4)).trans s5)
     rw [kd_bl hk1,kd_bl hk2,hB,decide_eq_true rfl]
     exact this
   ·rintro σ H' ⟨v10,rfl,rfl,hij⟩
    have : (3 : Nat) ≤ j := hij
    omega
  ·refine ⟨_,rfl,_,rfl,_,rfl,.str (f 0),vo,vb,rfl,.inr ⟨f 0,o,g.fo f,its,rfl,hw0,hof,hb,bd_of hf hbd,fun a H4 s4 hP => ?_⟩⟩
   refine ⟨_,rfl,_,rfl,_,rfl,(by exact Z3),fun ld hld => ?_⟩
   generalize hq : upd H4 ld (.lst [.non,.non,.non]) = H5
   have s5 := Nw hq hld
   have e5 := Ns hq
   have s35 := s4.trans s5
   have S5 := S3.trans s35
   have hP5 := hP.same s5
   have ho5 := hof.same s35
   have hb5 := hb.same s35
   have bd := bd_of (o := o) hf hbd
   refine ⟨ld,rfl,⟨_,SqL.of e5⟩,B0 (K := K) (a := ld) (xs := [.non,.non,.non]) (fun i σ H' => ∃ v10 : Option V,σ = [some (.ref ln),some (.int m),some (.str (f 0)),some .non,some vo,some .non,some (.ref lt),some vb,some .non,some (.ref a),v10,none] ∧ H' = H5) ⟨_,rfl,rfl⟩ (fun i σ H' _ ⟨_,_,e⟩ => by rw [e]; exact SqL.of e5) ?_ ?_⟩
   ·rintro i v σ H' hv ⟨v10,rfl,rfl⟩
    have : v = .non := by
     have := List.mem_of_getElem? hv
     simp only [List.mem_cons,List.not_mem_nil,or_false,or_self] at this
     exact this
    subst this
    exact ⟨_,rfl,_,rfl,iteF ⟨_,rfl,rfl⟩⟩
   rintro σ HE ⟨v10,rfl,rfl⟩
   obtain ⟨dxa,po,pb,kt,hAa,hwa,⟨ps,hpo,hkr,go⟩,hpb,hF⟩ := id hP5
   have hF : FAt C HE (g.fo f) kt := hF
   have h7 : (g.fo f).ht < 7 := by have := bd.h; have : (g.fo f).ht + 1 ≤ 6 := this; omega
   have hz : (g.fo f).size ≤ 1000 := by have := bd.z; have : (g.fo f).size + 1 ≤ 30 := this; omega
   obtain ⟨qs,hsq,hkq⟩ : ∃ qs : List Addr,((vo = .non ∧ qs.map V.ref = []) ∨ (∃ l,vo = .ref l ∧ HE l = some (.lst (qs.map V.ref))) ∨ ∃ l,vo = .ref l ∧ HE l = some (.tup (qs.map V.ref))) ∧ A2 (KeyR HE) qs o := by
    rcases ho5 with ⟨h1,rfl⟩ | ⟨l,qs,h1,h2,h3,_⟩ | ⟨l,qs,h1,h2,h3,_⟩
    ·exact ⟨[],.inl ⟨h1,rfl⟩,A2.nil⟩
    ·exact ⟨qs,.inr (.inl ⟨l,h1,h2⟩),h3⟩
    ·exact ⟨qs,.inr (.inr ⟨l,h1,h2⟩),h3⟩
   have nilI : ∀ {ls : List V},ls = [] → FAt C HE (g.fo f) ls → (g.fo f).items = [] := fun e h => by
    have := h.items.1
    rw [e] at this
    exact List.eq_nil_of_length_eq_zero this.symm
   refine ⟨_,rfl,_,_,.ref C,.ref C,true,rfl,rfl,kit.ty hAa,kit.kC,_,rfl,iteF ?_⟩
   refine ⟨_,rfl,a,C,dxa,_,_,rfl,hAa,kit.cl,kit.name,C4,_,rfl,a,C,dxa,_,_,rfl,hAa,kit.cl,kit.offers,pF_offers,(by exact Z2),fun tA hA => ?_⟩
   generalize hq : upd HE tA (.tup [.str (f 0),.ref po]) = HA
   have sA := Nw hq hA
   have eA := Ns hq
   refine ⟨_,rfl,_,rfl,qs.map V.ref,hsq.imp (fun h => h) (Or.imp (fun ⟨l,h1,h2⟩ => ⟨l,h1,SqL.of (sA _ _ h2)⟩) (fun ⟨l,h1,h2⟩ => ⟨l,h1,sA _ _ h2⟩)),fun p2 HX sX eX => ?_⟩
   refine ⟨(by exact Z2),fun tB hB => ?_⟩
   generalize hq : upd HX tB (.tup [.str (f 0),.ref p2]) = HB
   have sB := Nw hq hB
   have eB := Ns hq
   have sAB := sX.trans sB
   have s5B := sA.trans sAB
   have rA : RdT HB (.ref tA) (.tuple [.str (f 0),.tuple (o.map keyD)]) := .tup (sAB _ _ eA) (.cons (.str _) (.cons (.tup (s5B _ _ hpo) (rt_keys (hkr.imp fun _ _ e => s5B _ _ e))) .nil))
   have rB : RdT HB (.ref tB) (.tuple [.str (f 0),.tuple (o.map keyD)]) := .tup eB (.cons (.str _) (.cons (.tup (sB _ _ eX) (rt_keys (hkq.imp fun _ _ e => s5B _ _ e))) .nil))
   refine ⟨_,rA.rd,rB.rd,two_shaped hP5,_,rfl,iteF ?_⟩
   have hAB := s5B _ _ hAa
   have hpbB := s5B _ _ hpb
   have hFB := (hF.t (.of s5B)).items
   have kl : kt.length ≤ 1000 := by rw [hFB.1]; have := items_le (g.fo f); omega
   refine ⟨_,rfl,a,C,dxa,_,_,rfl,hAB,kit.cl,kit.beneath,Ci,pb,rfl,⟨_,SqT.of hpbB⟩,?_⟩
   refine De (K := K) (a := pb) (xs := kt) (fun i ys H' => Same HB H' ∧ ys.length = i ∧ RdTs H' ys (((g.fo f).items.take i).map fun x => .tuple [.str (nm x.1),toldD x.2])) ⟨Same.refl _,rfl,.nil⟩ (by omega) ?_ ?_ ?_ ?_
   ·rintro i ys H' ⟨_,h,_⟩
    omega
   ·rintro i ys H' _ ⟨s',_⟩
    exact SqT.of (s' _ _ hpbB)
   ·rintro i v ys H' hv ⟨s',hy,hr'⟩
    obtain ⟨x,hx,p,a1,rfl,hp,h4,hP1⟩ := hFB.at hv
    have hm := Dc (List.mem_of_getElem? hx)
    have hP1' := hP1.same s'
    obtain ⟨dx1,fs1,hA1,hfs1⟩ := hP1'.ins
    refine ⟨p,_,rfl,SqT.of (s' _ _ hp),rfl,_,_,rfl,_,_,rfl,rfl,?_⟩
    refine ⟨_,rfl,_,rfl,a1,C,dx1,fs1,spTd K C 7,rfl,hA1,hfs1 _ (by decide +kernel) (by decide +kernel) (by decide +kernel),⟨rfl,rfl⟩,a1,x.2,rfl,hP1',by omega,by omega,fun t H6 s6 ht => ?_⟩
    refine ⟨(by exact Z2),fun t2 ht2 => ?_⟩
    have s7 := s6.trans (Same.new (o := .tup [.str (nm x.1),.ref t]) ht2)
    refine ⟨s'.trans s7,by rw [List.length_append,hy]; rfl,?_⟩
    rw [A8 hx,List.map_append]
    exact rt_snoc (hr'.t (.of s7)) (.tup Ac (.cons (.str _) (.cons (ht.t (.of (Same.new ht2))) .nil)))
   rintro ys H' ⟨s',hy,hr'⟩ l2 hl2
   rw [hFB.1,List.take_length,← B4] at hr'
   have sC := Same.new (o := .lst ys) hl2
   have eC : upd H' l2 (.lst ys) l2 = some (.lst ys) := Ac
   have rC := hr'.t (.of sC)
   generalize upd H' l2 (.lst ys) = HC at sC eC rC ⊢
   have sBC := s'.trans sC
   have s5C := s5B.trans sBC
   have sh := kidsL_shaped hF h7
   rcases hb5 with ⟨rfl,e1,e2⟩ | ⟨lb,rfl,hl,hFb,hb6⟩ | ⟨lb,rfl,hl,hFb,hb6⟩
   ·have hnil : (g.fo f).items = [] := by rw [e1]; rfl
    refine .inl ?_
    refine ⟨_,rfl,a,C,dxa,_,_,rfl,s5C _ _ hAa,kit.cl,kit.beneath,Ci,.ref pb,.tup,rfl,.tup (s5C _ _ hpb),_,rfl,iteT ?_⟩
    refine ⟨_,rfl,_,rfl,false,rfl,iteF ⟨Nat.zero_le _,fun pn hpn => ?_⟩⟩
    generalize hq : upd HC pn (.tup []) = HN
    have sN := Nw hq hpn
    have eN := Ns hq
    have hI : A2 (JPAt C HN) ([] : List V) (g.fo f).items := by rw [hnil]; exact A2.nil
    refine ⟨pn,rfl,⟨_,SqT.of eN⟩,?_⟩
    refine De (K := K) (a := pn) (xs := []) (fun i ys H' => Same HN H' ∧ ys.length = i ∧ RdTs H' ys (((g.fo f).items.take i).map fun x => .tuple [.str (nm x.1),toldD x.2])) ⟨Same.refl _,rfl,.nil⟩ (Nat.zero_le _) ?_ ?_ ?_ ?_
    ·rintro i ys H' ⟨_,h,_⟩
     omega
    ·rintro i ys H' _ ⟨s',_⟩
     exact SqT.of (s' _ _ eN)
    ·rintro i v ys H' hv ⟨s',hy,hr'⟩
     obtain ⟨x,hx,p,a1,rfl,hp,h4,hP1⟩ := hI.at hv
     have hm := Dc (List.mem_of_getElem? hx)
     have hP1' := hP1.same s'
     obtain ⟨dx1,fs1,hA1,hfs1⟩ := hP1'.ins
     refine ⟨p,_,rfl,SqT.of (s' _ _ hp),rfl,_,_,rfl,_,_,rfl,rfl,?_⟩
     refine ⟨_,rfl,_,rfl,a1,C,dx1,fs1,spTd K C 7,rfl,hA1,hfs1 _ (by decide +kernel) (by decide +kernel) (by decide +kernel),⟨rfl,rfl⟩,a1,x.2,rfl,hP1',by omega,by omega,fun t H6 s6 ht => ?_⟩
     refine ⟨(by exact Z2),fun t2 ht2 => ?_⟩
     have s7 := s6.trans (Same.new (o := .tup [.str (nm x.1),.ref t]) ht2)
     refine ⟨s'.trans s7,by rw [List.length_append,hy]; rfl,?_⟩
     rw [A8 hx,List.map_append]
     exact rt_snoc (hr'.t (.of s7)) (.tup Ac (.cons (.str _) (.cons (ht.t (.of (Same.new ht2))) .nil)))
    rintro ys2 H'2 ⟨s'2,hy2,hr'2⟩ l3 hl3
    rw [hI.1,List.take_length,← B4] at hr'2
    have sD := Same.new (o := .lst ys2) hl3
    have eD : upd H'2 l3 (.lst ys2) l3 = some (.lst ys2) := Ac
    have rD := hr'2.t (.of sD)
    generalize upd H'2 l3 (.lst ys2) = HD at sD eD rD ⊢
    have sCD := sN.trans (s'2.trans sD)
    exact ⟨.list (toldF (g.fo f)),.lst (SqL.of (sCD _ _ eC)) (rC.t (.of sCD)).rd,.lst (SqL.of eD) rD.rd,sh,q _ ((S5.trans s5C).trans sCD)⟩
   ·cases its with
    | nil =>
      have hnil := nilI rfl hFb
      refine .inl ?_
      refine ⟨_,rfl,a,C,dxa,_,_,rfl,s5C _ _ hAa,kit.cl,kit.beneath,Ci,.ref pb,.tup,rfl,.tup (s5C _ _ hpb),_,rfl,iteT ?_⟩
      refine ⟨_,rfl,_,rfl,false,.inl ⟨[],SqL.of (s5C _ _ hl),rfl⟩,iteF ⟨Nat.zero_le _,fun pn hpn => ?_⟩⟩
      generalize hq : upd HC pn (.tup []) = HN
      have sN := Nw hq hpn
      have eN := Ns hq
      have hI : A2 (JPAt C HN) ([] : List V) (g.fo f).items := by rw [hnil]; exact A2.nil
      refine ⟨pn,rfl,⟨_,SqT.of eN⟩,?_⟩
      refine De (K := K) (a := pn) (xs := []) (fun i ys H' => Same HN H' ∧ ys.length = i ∧ RdTs H' ys (((g.fo f).items.take i).map fun x => .tuple [.str (nm x.1),toldD x.2])) ⟨Same.refl _,rfl,.nil⟩ (Nat.zero_le _) ?_ ?_ ?_ ?_
      ·rintro i ys H' ⟨_,h,_⟩
       omega
      ·rintro i ys H' _ ⟨s',_⟩
       exact SqT.of (s' _ _ eN)
      ·rintro i v ys H' hv ⟨s',hy,hr'⟩
       obtain ⟨x,hx,p,a1,rfl,hp,h4,hP1⟩ := hI.at hv
       have hm := Dc (List.mem_of_getElem? hx)
       have hP1' := hP1.same s'
       obtain ⟨dx1,fs1,hA1,hfs1⟩ := hP1'.ins
       refine ⟨p,_,rfl,SqT.of (s' _ _ hp),rfl,_,_,rfl,_,_,rfl,rfl,?_⟩
       refine ⟨_,rfl,_,rfl,a1,C,dx1,fs1,spTd K C 7,rfl,hA1,hfs1 _ (by decide +kernel) (by decide +kernel) (by decide +kernel),⟨rfl,rfl⟩,a1,x.2,rfl,hP1',by omega,by omega,fun t H6 s6 ht => ?_⟩
       refine ⟨(by exact Z2),fun t2 ht2 => ?_⟩
       have s7 := s6.trans (Same.new (o := .tup [.str (nm x.1),.ref t]) ht2)
       refine ⟨s'.trans s7,by rw [List.length_append,hy]; rfl,?_⟩
       rw [A8 hx,List.map_append]
       exact rt_snoc (hr'.t (.of s7)) (.tup Ac (.cons (.str _) (.cons (ht.t (.of (Same.new ht2))) .nil)))
      rintro ys2 H'2 ⟨s'2,hy2,hr'2⟩ l3 hl3
      rw [hI.1,List.take_length,← B4] at hr'2
      have sD := Same.new (o := .lst ys2) hl3
      have eD : upd H'2 l3 (.lst ys2) l3 = some (.lst ys2) := Ac
      have rD := hr'2.t (.of sD)
      generalize upd H'2 l3 (.lst ys2) = HD at sD eD rD ⊢
      have sCD := sN.trans (s'2.trans sD)
      exact ⟨.list (toldF (g.fo f)),.lst (SqL.of (sCD _ _ eC)) (rC.t (.of sCD)).rd,.lst (SqL.of eD) rD.rd,sh,q _ ((S5.trans s5C).trans sCD)⟩
    | cons y ys0 =>
      refine .inr ?_
      refine ⟨_,rfl,a,C,dxa,_,_,rfl,s5C _ _ hAa,kit.cl,kit.beneath,Ci,.ref pb,.tup,rfl,.tup (s5C _ _ hpb),_,rfl,iteT ?_⟩
      have hlC := s5C _ _ hl
      have hI := (hFb.t (.of s5C)).items
      have kl2 : (y :: ys0).length ≤ 6 := hb6
      refine ⟨_,rfl,_,rfl,true,.inl ⟨_,SqL.of hlC,rfl⟩,iteT ?_⟩
      refine ⟨lb,rfl,⟨_,SqL.of hlC⟩,?_⟩
      refine B2 (K := K) (a := lb) (xs := (y :: ys0)) (fun i ys H' => Same HC H' ∧ ys.length = i ∧ RdTs H' ys (((g.fo f).items.take i).map fun x => .tuple [.str (nm x.1),toldD x.2])) ⟨Same.refl _,rfl,.nil⟩ (by omega) ?_ ?_ ?_ ?_
      ·rintro i ys H' ⟨_,h,_⟩
       omega
      ·rintro i ys H' _ ⟨s',_⟩
       exact SqL.of (s' _ _ hlC)
      ·rintro i v ys H' hv ⟨s',hy,hr'⟩
       obtain ⟨x,hx,p,a1,rfl,hp,h4,hP1⟩ := hI.at hv
       have hm := Dc (List.mem_of_getElem? hx)
       have hP1' := hP1.same s'
       obtain ⟨dx1,fs1,hA1,hfs1⟩ := hP1'.ins
       refine ⟨p,_,rfl,SqT.of (s' _ _ hp),rfl,_,_,rfl,_,_,rfl,rfl,?_⟩
       refine ⟨_,rfl,_,rfl,a1,C,dx1,fs1,spTd K C 7,rfl,hA1,hfs1 _ (by decide +kernel) (by decide +kernel) (by decide +kernel),⟨rfl,rfl⟩,a1,x.2,rfl,hP1',by omega,by omega,fun t H6 s6 ht => ?_⟩
       refine ⟨(by exact Z2),fun t2 ht2 => ?_⟩
       have s7 := s6.trans (Same.new (o := .tup [.str (nm x.1),.ref t]) ht2)
       refine ⟨s'.trans s7,by rw [List.length_append,hy]; rfl,?_⟩
       rw [A8 hx,List.map_append]
       exact rt_snoc (hr'.t (.of s7)) (.tup Ac (.cons (.str _) (.cons (ht.t (.of (Same.new ht2))) .nil)))
      rintro ys2 H'2 ⟨s'2,hy2,hr'2⟩ l3 hl3
      rw [hI.1,List.take_length,← B4] at hr'2
      have sD := Same.new (o := .lst ys2) hl3
      have eD : upd H'2 l3 (.lst ys2) l3 = some (.lst ys2) := Ac
      have rD := hr'2.t (.of sD)
      generalize upd H'2 l3 (.lst ys2) = HD at sD eD rD ⊢
      have sCD := (Same.refl HC).trans (s'2.trans sD)
      exact ⟨.list (toldF (g.fo f)),.lst (SqL.of (sCD _ _ eC)) (rC.t (.of sCD)).rd,.lst (SqL.of eD) rD.rd,sh,q _ ((S5.trans s5C).trans sCD)⟩
   ·cases its with
    | nil =>
      have hnil := nilI rfl hFb
      refine .inl ?_
      refine ⟨_,rfl,a,C,dxa,_,_,rfl,s5C _ _ hAa,kit.cl,kit.beneath,Ci,.ref pb,.tup,rfl,.tup (s5C _ _ hpb),_,rfl,iteT ?_⟩
      refine ⟨_,rfl,_,rfl,false,.inr (.inl ⟨[],SqT.of (s5C _ _ hl),rfl⟩),iteF ⟨Nat.zero_le _,fun pn hpn => ?_⟩⟩
      generalize hq : upd HC pn (.tup []) = HN
      have sN := Nw hq hpn
      have eN := Ns hq
      have hI : A2 (JPAt C HN) ([] : List V) (g.fo f).items := by rw [hnil]; exact A2.nil
      refine ⟨pn,rfl,⟨_,SqT.of eN⟩,?_⟩
      refine De (K := K) (a := pn) (xs := []) (fun i ys H' => Same HN H' ∧ ys.length = i ∧ RdTs H' ys (((g.fo f).items.take i).map fun x => .tuple [.str (nm x.1),toldD x.2])) ⟨Same.refl _,rfl,.nil⟩ (Nat.zero_le _) ?_ ?_ ?_ ?_
      ·rintro i ys H' ⟨_,h,_⟩
       omega
      ·rintro i ys H' _ ⟨s',_⟩
       exact SqT.of (s' _ _ eN)
      ·rintro i v ys H' hv ⟨s',hy,hr'⟩
       obtain ⟨x,hx,p,a1,rfl,hp,h4,hP1⟩ := hI.at hv
       have hm := Dc (List.mem_of_getElem? hx)
       have hP1' := hP1.same s'
       obtain ⟨dx1,fs1,hA1,hfs1⟩ := hP1'.ins
       refine ⟨p,_,rfl,SqT.of (s' _ _ hp),rfl,_,_,rfl,_,_,rfl,rfl,?_⟩
       refine ⟨_,rfl,_,rfl,a1,C,dx1,fs1,spTd K C 7,rfl,hA1,hfs1 _ (by decide +kernel) (by decide +kernel) (by decide +kernel),⟨rfl,rfl⟩,a1,x.2,rfl,hP1',by omega,by omega,fun t H6 s6 ht => ?_⟩
       refine ⟨(by exact Z2),fun t2 ht2 => ?_⟩
       have s7 := s6.trans (Same.new (o := .tup [.str (nm x.1),.ref t]) ht2)
       refine ⟨s'.trans s7,by rw [List.length_append,hy]; rfl,?_⟩
       rw [A8 hx,List.map_append]
       exact rt_snoc (hr'.t (.of s7)) (.tup Ac (.cons (.str _) (.cons (ht.t (.of (Same.new ht2))) .nil)))
      rintro ys2 H'2 ⟨s'2,hy2,hr'2⟩ l3 hl3
      rw [hI.1,List.take_length,← B4] at hr'2
      have sD := Same.new (o := .lst ys2) hl3
      have eD : upd H'2 l3 (.lst ys2) l3 = some (.lst ys2) := Ac
      have rD := hr'2.t (.of sD)
      generalize upd H'2 l3 (.lst ys2) = HD at sD eD rD ⊢
      have sCD := sN.trans (s'2.trans sD)
      exact ⟨.list (toldF (g.fo f)),.lst (SqL.of (sCD _ _ eC)) (rC.t (.of sCD)).rd,.lst (SqL.of eD) rD.rd,sh,q _ ((S5.trans s5C).trans sCD)⟩
    | cons y ys0 =>
      refine .inl ?_
      refine ⟨_,rfl,a,C,dxa,_,_,rfl,s5C _ _ hAa,kit.cl,kit.beneath,Ci,.ref pb,.tup,rfl,.tup (s5C _ _ hpb),_,rfl,iteT ?_⟩
      have hlC := s5C _ _ hl
      have hI := (hFb.t (.of s5C)).items
      have kl2 : (y :: ys0).length ≤ 6 := hb6
      refine ⟨_,rfl,_,rfl,true,.inr (.inl ⟨_,SqT.of hlC,rfl⟩),iteT ?_⟩
      refine ⟨lb,rfl,⟨_,SqT.of hlC⟩,?_⟩
      refine De (K := K) (a := lb) (xs := (y :: ys0)) (fun i ys H' => Same HC H' ∧ ys.length = i ∧ RdTs H' ys (((g.fo f).items.take i).map fun x => .tuple [.str (nm x.1),toldD x.2])) ⟨Same.refl _,rfl,.nil⟩ (by omega) ?_ ?_ ?_ ?_
      ·rintro i ys H' ⟨_,h,_⟩
       omega
      ·rintro i ys H' _ ⟨s',_⟩
       exact SqT.of (s' _ _ hlC)
      ·rintro i v ys H' hv ⟨s',hy,hr'⟩
       obtain ⟨x,hx,p,a1,rfl,hp,h4,hP1⟩ := hI.at hv
       have hm := Dc (List.mem_of_getElem? hx)
       have hP1' := hP1.same s'
       obtain ⟨dx1,fs1,hA1,hfs1⟩ := hP1'.ins
       refine ⟨p,_,rfl,SqT.of (s' _ _ hp),rfl,_,_,rfl,_,_,rfl,rfl,?_⟩
       refine ⟨_,rfl,_,rfl,a1,C,dx1,fs1,spTd K C 7,rfl,hA1,hfs1 _ (by decide +kernel) (by decide +kernel) (by decide +kernel),⟨rfl,rfl⟩,a1,x.2,rfl,hP1',by omega,by omega,fun t H6 s6 ht => ?_⟩
       refine ⟨(by exact Z2),fun t2 ht2 => ?_⟩
       have s7 := s6.trans (Same.new (o := .tup [.str (nm x.1),.ref t]) ht2)
       refine ⟨s'.trans s7,by rw [List.length_append,hy]; rfl,?_⟩
       rw [A8 hx,List.map_append]
       exact rt_snoc (hr'.t (.of s7)) (.tup Ac (.cons (.str _) (.cons (ht.t (.of (Same.new ht2))) .nil)))
      rintro ys2 H'2 ⟨s'2,hy2,hr'2⟩ l3 hl3
      rw [hI.1,List.take_length,← B4] at hr'2
      have sD := Same.new (o := .lst ys2) hl3
      have eD : upd H'2 l3 (.lst ys2) l3 = some (.lst ys2) := Ac
      have rD := hr'2.t (.of sD)
      generalize upd H'2 l3 (.lst ys2) = HD at sD eD rD ⊢
      have sCD := (Same.refl HC).trans (s'2.trans sD)
      exact ⟨.list (toldF (g.fo f)),.lst (SqL.of (sCD _ _ eC)) (rC.t (.of sCD)).rd,.lst (SqL.of eD) rD.rd,sh,q _ ((S5.trans s5C).trans sCD)⟩
end
end K32
namespace K32
open PySem L2 PyProof.Rows PySem.SeqAt
section
variable {P : Program} {w : World} {K : PySem.W.Frag} {mg : Str → Option Value} {base : Heap} {C : Addr}
abbrev slaw : Stmt := top 57
abbrev nLaw : List Str := ["_law_script","_law_names","_law_k"]
theorem sclaw : Ar nLaw ["_law_script"] (Af slaw) := by trivial
theorem law_body (T : Txt mg) (F__law_cell : FnAt P w K mg base "_law_cell" 1 ["_law_script","_law_k"] (spCell K)) (F__law_words : FnAt P w K mg base "_law_words" 3 ["_law_cell_here","_law_many"] spWords) (F__law_right : FnAt P w K mg base "_law_right" 16 ["_law_names","_law_cell_here"] spRight)
 (f : Addr) (cdv : Value) (A : Around) (outer : List Env) (s : Shared) (H : Hp) (vs : List V) (Q : VK) (E : XK) (hr : Room 16 (A.deeper (envOfC "law" (Af slaw) s.heap.objs.size f cdv))) (h : spLaw K vs H Q E) :
 ∃ t,PSs (cxOf CX0 P w K mg base nLaw "law" (Af slaw) f cdv A outer s H E).nox (Bu slaw) t ∧ t { nx := fun _ H' => Q .non H',rt := Q } (start nLaw vs) H := by
 obtain ⟨a,ns,rfl,hS,hl63,q⟩ := h
 refine ⟨_,(Ad (A3 (i := 1) sclaw.nd rfl (by trivial) (Ay F__law_words hr (by decide) rfl (Aa (Ay F__law_cell hr (by decide) rfl (Aa (pv 0) (Aa Ag Ab))) (Aa Ag Ab))))
  (Ad (Ck PassesOwn.never rfl (pi_range1 rfl T.n_range (Aa (Ah (call_max2 rfl) rfl T.n_max boot_max (Aa Ag (Aa (Ah (call_min2 rfl) rfl T.n_min boot_min (Aa (Ah Av rfl T.n_len boot_len (Aa (pv 0) Ab)) (Aa Ag Ab))) Ab))) Ab)) (Ao (i := 2) sclaw.nd rfl (by trivial)) (Ae (Bc (Bg (Bj (Ay F__law_right hr (by decide) rfl (Aa (pv 1) (Aa (Ay F__law_cell hr (by decide) rfl (Aa (pv 0) (Aa (pv 2) Ab))) Ab))))) (Ae (As pe_bl)) Ap)))
  (Ae (As pe_bl)))),?_⟩
 have hs : sizeLine = 16777216 := sizeLine_eq
 refine ⟨_,rfl,a,ns,0,rfl,hS,fun c0 => ⟨c0,34,(by decide),rfl,fun ln zs H1 s1 e1 z34 zw znd _ => ?_⟩⟩
 have hN : Nms zs := ⟨z34,zw,znd⟩
 refine ⟨_,rfl,_,_,rfl,.inl ⟨_,s1.seq hS,rfl⟩,_,_,rfl,_,_,rfl,?_⟩
 generalize hL : (((ns.map V.int).length : Nat) : Int) = L
 obtain ⟨N,eN,h8⟩ : ∃ N : Nat,(if (if (8 : Int) < L then (8 : Int) else L) > (4 : Int) then (if (8 : Int) < L then (8 : Int) else L) else (4 : Int)) = (N : Int) ∧ N ≤ 8 := by
  refine ⟨(if (if (8 : Int) < L then (8 : Int) else L) > (4 : Int) then (if (8 : Int) < L then (8 : Int) else L) else (4 : Int)).toNat,?_,?_⟩ <;> split <;> split <;> omega
 rw [eN]
 refine ⟨N,rfl,(by omega),(by omega),for_range (n := N) (fun i σ H' => ∃ v2 : Option V,σ = [some (.ref a),some (.ref ln),v2] ∧ Same H1 H') ⟨_,rfl,Same.refl _⟩ ?_ ?_⟩
 ·rintro i σ H2 hi ⟨v2,rfl,s2⟩
  refine ⟨_,rfl,_,rfl,_,rfl,a,ns,i,(by show [V.ref a,V.int (0 + (i : Int))] = _; rw [Int.zero_add]),(s1.trans s2).seq hS,fun ci => ?_⟩
  refine ⟨ln,zs,ci,rfl,s2 _ _ e1,hN,fun H3 s3 => ⟨_,rfl,iteF ⟨_,rfl,s2.trans s3⟩⟩⟩
 ·rintro σ H2 ⟨v2,rfl,s2⟩
  exact q _
end
end K32
namespace K32
open PySem L2 PyProof.Rows
def pOk (K : PySem.W.Frag) (C : Addr) : Bool := PySem.W.plainGet K C Str.empty && PySem.W.hasDictIn K C && PySem.W.plainOver K C && PySem.W.findIn K (.ref C) "__setattr__" == some (some (.builtin "object.__setattr__")) && PySem.W.findIn K (.ref C) "name" == some none && PySem.W.findIn K (.ref C) "offers" == some none && PySem.W.findIn K (.ref C) "beneath" == some none && PySem.W.findIn K (.ref C) "__class__" == some (some (.builtin "object.__class__")) && PySem.W.specialIn K (.builtin "object.__class__") "__get__" == some (some (.builtin "getset_descriptor.__get__")) && PySem.W.takesIn K (.builtin "object.__class__") == some true && PySem.W.mroIn K C (.type "object") == some true && PySem.W.kitOne K (.ref C) (.ref C) == some true
theorem pOk_of {K : PySem.W.Frag} {C : Addr} (h : pOk K C = true) : PKit K C := by
 unfold pOk at h
 simp only [Bool.and_eq_true,beq_iff_eq] at h
 obtain ⟨⟨⟨⟨⟨⟨⟨⟨⟨⟨⟨a,b⟩,c⟩,d⟩,e⟩,f⟩,g⟩,i⟩,j⟩,k⟩,l⟩,m⟩ := h
 exact ⟨⟨a,b,c,d⟩,e,f,g,i,j,k,l,m⟩
def eOk (K : PySem.W.Frag) (C : Addr) : Bool := PySem.W.findIn K (.ref C) "__eq__" == some (some (.builtin "object.__eq__")) && PySem.W.mroIn K C (.type "object") == some true && PySem.W.mroIn K C (.type "str") == some false && PySem.W.kitOne K (.ref C) (.type "tuple") == some false && PySem.W.kitOne K (.type "NoneType") (.ref C) == some false
theorem eOk_of {K : PySem.W.Frag} {C : Addr} (h : eOk K C = true) : EqO K C ∧ PKit2 K C := by
 unfold eOk at h
 simp only [Bool.and_eq_true,beq_iff_eq] at h
 obtain ⟨⟨⟨⟨h1,h2⟩,h3⟩,h4⟩,h5⟩ := h
 exact ⟨⟨h1,h2,h3⟩,⟨h4,h5⟩⟩
structure PTop (K : PySem.W.Frag) (C : Addr) : Prop where
 ex : ∃ (f : Addr) (fd : FuncData),FunD K "__init__" "Part.__init__" Cu f fd ∧ Mk K C f ∧ Df K fd psP [] ∧ Df K fd psP [.none,.none]
theorem ptop_of {K : PySem.W.Frag} {h : Heap} {C f D : Addr} {oc oc2 : Value} {od an od2 : Option Addr} {osl osl2 : Array (Option Value)} {kV doc pm cdv ct : Value} {n2 : Nat} (X : K.In h)
 (a : PySem.W.findIn K (.ref C) "__init__" = some (some (.ref f))) (i : PySem.W.isFn K (.ref f) = true) (l : K.lookup f = some ⟨oc,od,.func (PySem.W.fnOf "__init__" "Part.__init__" (Cy Cu) (Bu Cu) (Af Cu) (.ref D) kV doc pm an cdv ct),osl⟩)
 (c : PySem.W.codeIn K cdv "Part.__init__" = true) (k : PySem.W.keepIn K (.ref f) = true) (mk : PySem.W.makesIn K C = true) (kc : PySem.W.keepIn K (.ref C) = true)
 (dd : K.lookup D = some ⟨oc2,od2,.seq #[.none,.none] n2,osl2⟩) : PTop (KOf X) C :=
 ⟨f,_,⟨⟨oc,od,_,kV,doc,pm,an,cdv,ct,osl,rfl,l,c⟩,k⟩,⟨mk,a,i,kc⟩,
   (fun s us hK hl => (match us,(show us.length = 4 by simpa using hl) with | [_,_,_,_],_ => PySem.W.binds_K hK rfl dd rfl rfl rfl)),
   (fun s us hK hl => (match us,(show us.length = 2 by simpa using hl) with | [_,_],_ => PySem.W.binds_K hK rfl dd rfl rfl rfl))⟩
def jOk (K : PySem.W.Frag) (C : Addr) : Bool := PySem.W.plainGet K C Str.empty && PySem.W.hasDictIn K C && PySem.W.plainOver K C && PySem.W.findIn K (.ref C) "__setattr__" == some (some (.builtin "object.__setattr__")) && PySem.W.makesIn K C && PySem.W.findIn K (.ref C) "__init__" == some (some (.builtin "object.__init__")) && PySem.W.keepIn K (.ref C)
theorem jOk_of {K : PySem.W.Frag} {C : Addr} (h : jOk K C = true) : Cls K C ∧ PySem.W.makesIn K C = true ∧ PySem.W.findIn K (.ref C) "__init__" = some (some (.builtin "object.__init__")) ∧ PySem.W.keepIn K (.ref C) = true := by
 unfold jOk at h
 simp only [Bool.and_eq_true,beq_iff_eq] at h
 obtain ⟨⟨⟨⟨⟨⟨a,b⟩,c⟩,d⟩,e⟩,f⟩,g⟩ := h
 exact ⟨⟨a,b,c,d⟩,e,f,g⟩
structure KTop (K : PySem.W.Frag) (mg : Str → Option Value) (cP cw cj co cb cd cm ce g c0 c1 c2 c3 : Addr) : Prop where
 gb : GBase K mg "GrantError" g
 xw : XTop K mg "NoWord" "found" sNoWord cw g
 xj : XTop K mg "NoJoin" "found" sNoJoin cj g
 xo : XTop K mg "BadOffers" "found" sBadOffers co g
 xb : XTop K mg "BadBeneath" "found" sBadBeneath cb g
 xd : XTop K mg "Doubled" "name" sDoubled cd g
 xm : XTop K mg "TooMany" "many" sTooMany cm g
 xe : XTop K mg "TooDeep" "many" sTooDeep ce g
 gc : (PySem.W.clsIn K g).isSome = true
 gt : PySem.W.typeIn K (.ref g) = some (.type "type")
 ge : PySem.W.mroIn K g (.type "BaseException") = some true
 ng : cw ≠ g ∧ cj ≠ g ∧ co ≠ g ∧ cb ≠ g ∧ cd ≠ g ∧ cm ≠ g ∧ ce ≠ g
 nd : ([cw,cj,co,cb,cd,cm,ce] : List Addr).Nodup
 eP : eOk K cP = true
 mP : mg "Part" = some (.ref cP)
 m0 : mg "Called" = some (.ref c0)
 m1 : mg "Beside" = some (.ref c1)
 m2 : mg "Joined" = some (.ref c2)
 m3 : mg "Changed" = some (.ref c3)
 oP : pOk K cP = true
 iP : PTop K cP
 o0 : jOk K c0 = true
 o1 : jOk K c1 = true
 o2 : jOk K c2 = true
 o3 : jOk K c3 = true
 ptd : MTop K cP "told" "Part.told" Dv ["self"]
 w0 : MTop K c0 "word" "Called.word" Dq ["self"]
 w1 : MTop K c1 "word" "Beside.word" Dr ["self"]
 w2 : MTop K c2 "word" "Joined.word" Dp ["self"]
 w3 : MTop K c3 "word" "Changed.word" C9 ["self"]
theorem ktop_mk {K : PySem.W.Frag} {mg : Str → Option Value} {cP cw cj co cb cd cm ce g c0 c1 c2 c3 : Addr} (gb : GBase K mg "GrantError" g) (xw : XTop K mg "NoWord" "found" sNoWord cw g) (xj : XTop K mg "NoJoin" "found" sNoJoin cj g) (xo : XTop K mg "BadOffers" "found" sBadOffers co g) (xb : XTop K mg "BadBeneath" "found" sBadBeneath cb g) (xd : XTop K mg "Doubled" "name" sDoubled cd g) (xm : XTop K mg "TooMany" "many" sTooMany cm g) (xe : XTop K mg "TooDeep" "many" sTooDeep ce g) (gc : (PySem.W.clsIn K g).isSome = true) (gt : PySem.W.typeIn K (.ref g) = some (.type "type")) (ge : PySem.W.mroIn K g (.type "BaseException") = some true) (ng : cw ≠ g ∧ cj ≠ g ∧ co ≠ g ∧ cb ≠ g ∧ cd ≠ g ∧ cm ≠ g ∧ ce ≠ g) (nd : ([cw,cj,co,cb,cd,cm,ce] : List Addr).Nodup) (eP : eOk K cP = true) (mP : mg "Part" = some (.ref cP)) (m0 : mg "Called" = some (.ref c0)) (m1 : mg "Beside" = some (.ref c1)) (m2 : mg "Joined" = some (.ref c2)) (m3 : mg "Changed" = some (.ref c3)) (oP : pOk K cP = true) (iP : PTop K cP) (o0 : jOk K c0 = true) (o1 : jOk K c1 = true) (o2 : jOk K c2 = true) (o3 : jOk K c3 = true) (ptd : MTop K cP "told" "Part.told" Dv ["self"]) (w0 : MTop K c0 "word" "Called.word" Dq ["self"]) (w1 : MTop K c1 "word" "Beside.word" Dr ["self"]) (w2 : MTop K c2 "word" "Joined.word" Dp ["self"]) (w3 : MTop K c3 "word" "Changed.word" C9 ["self"]) : ∃ cP cw cj co cb cd cm ce g c0 c1 c2 c3,KTop K mg cP cw cj co cb cd cm ce g c0 c1 c2 c3 := ⟨cP,cw,cj,co,cb,cd,cm,ce,g,c0,c1,c2,c3,gb,xw,xj,xo,xb,xd,xm,xe,gc,gt,ge,ng,nd,eP,mP,m0,m1,m2,m3,oP,iP,o0,o1,o2,o3,ptd,w0,w1,w2,w3⟩
section
variable {P : Program} {w : World} {K : PySem.W.Frag} {mg : Str → Option Value} {base : Heap} {cP cw cj co cb cd cm ce g c0 c1 c2 c3 : Addr}
theorem jhas_of (h : KTop K mg cP cw cj co cb cd cm ce g c0 c1 c2 c3) : JHas P w K mg base ⟨c0,c1,c2,c3⟩ := by
 have q0 := jOk_of h.o0
 have q1 := jOk_of h.o1
 have q2 := jOk_of h.o2
 have q3 := jOk_of h.o3
 refine ⟨⟨h.m0,q0.2.1,q0.2.2.1,q0.2.2.2⟩,⟨h.m1,q1.2.1,q1.2.2.1,q1.2.2.2⟩,⟨h.m2,q2.2.1,q2.2.2.1,q2.2.2.2⟩,⟨h.m3,q3.2.1,q3.2.2.1,q3.2.2.2⟩,fun j hj => ?_⟩
 ·rcases j4 hj with rfl | rfl | rfl | rfl
  ·exact methD_of q0.1 h.w0 fun f fd F => ok_Called_word F
  ·exact methD_of q1.1 h.w1 fun f fd F => ok_Beside_word F
  ·exact methD_of q2.1 h.w2 fun f fd F => ok_Joined_word F
  ·exact methD_of q3.1 h.w3 fun f fd F => ok_Changed_word F
end
theorem law_fn2 {P : Program} {w : World} {K : PySem.W.Frag} {mg : Str → Option Value} {fa : Addr} (hfa : mg "law" = some (.ref fa)) (T : Txt mg)
 (tis_whole : Aq K mg "is_whole" sis_whole ["thing"]) (tis_word : Aq K mg "is_word" sis_word ["thing"]) (tis_key : Aq K mg "is_key" sis_key ["thing"]) (tall_joins : Aq K mg "all_joins" sall_joins []) (tjoin_of : Aq K mg "join_of" sjoin_of ["word"]) (tare_offers : Aq K mg "are_offers" Bn ["thing"]) (tkept_offers : Aq K mg "kept_offers" C0 ["offers"]) (tneed_few_beneath : Aq K mg "need_few_beneath" Bv ["many"]) (tneed_few_parts : Aq K mg "need_few_parts" B5 ["many"]) (tneed_not_deep : Aq K mg "need_not_deep" Ce ["deep"]) (tis_joined_part : Aq K mg "is_joined_part" B6 ["thing"]) (tkept_beneath : Aq K mg "kept_beneath" A9 ["beneath"]) (twalked : Aq K mg "walked" swalked ["work"]) (tdepth_of : Aq K mg "depth_of" sdepth_of ["work"]) (tneed_bounds : Aq K mg "need_bounds" Cz ["work"]) (t_law_cell : Aq K mg "_law_cell" s_law_cell ["_law_script","_law_k"]) (t_law_mixed : Aq K mg "_law_mixed" s_law_mixed ["_law_cell_here","_law_k"]) (t_law_box : Aq K mg "_law_box" s_law_box ["_law_cell_here"]) (t_law_take : Aq K mg "_law_take" s_law_take ["_law_box_here","_law_many"]) (t_law_words : Aq K mg "_law_words" Dg ["_law_cell_here","_law_many"]) (t_law_name : Aq K mg "_law_name" s_law_name ["_law_name_here","_law_number"]) (t_law_offers : Aq K mg "_law_offers" Do ["_law_name_here","_law_number"]) (t_law_chain : Aq K mg "_law_chain" s_law_chain ["_law_names","_law_many"]) (t_law_wide : Aq K mg "_law_wide" Du ["_law_names","_law_many"]) (t_law_trees : Aq K mg "_law_trees" Dh ["_law_names","_law_number"]) (t_law_great : Aq K mg "_law_great" Ct ["_law_names"]) (t_law_told : Aq K mg "_law_told" s_law_told ["_law_name_here","_law_offers_here","_law_beneath"]) (t_law_right : Aq K mg "_law_right" Cg ["_law_names","_law_cell_here"]) (tlaw : Aq K mg "law" slaw ["_law_script"]) (hk : ∃ cP cw cj co cb cd cm ce g c0 c1 c2 c3,KTop K mg cP cw cj co cb cd cm ce g c0 c1 c2 c3) :
 ∃ fd : FuncData,(∀ (s : Shared) (v : Value),BindsTo s fd ⟨[v],[]⟩ [("_law_script",v)]) ∧ ∀ base : Heap,K.In base → base.Ns mainGlobals mg → FnOk P w K mg base CX0 17 fa fd ["_law_script"] (spLaw K) := by
 obtain ⟨cP,cw,cj,co,cb,cd,cm,ce,g,c0,c1,c2,c3,k⟩ := hk
 obtain ⟨fP,dP,FP,MP,BP,BD⟩ := k.iP.ex
 obtain ⟨eq,kit2⟩ := eOk_of k.eP
 have kit : PKit K cP := pOk_of k.oP
 exact law_mk tlaw hfa sclaw fun base _ _ f cdv A outer s H vs Q E hr h =>
  have Fw := ok_whole T tis_whole
  have Fwo := ok_word T tis_word
  have Fk := ok_key T Fwo Fw tis_key
  have JD : JHas P w K mg base ⟨c0,c1,c2,c3⟩ := jhas_of k
  have Faj := ok_all JD tall_joins
  have Fjo := ok_join_of JD Faj tjoin_of
  have Fao := ok_ao T Fk tare_offers
  have Faot := ok_aoT T Fk tare_offers
  have Fko := ok_ko T Fao Faot tkept_offers
  have Fkb := ok_kb T (ok_jp T kit k.mP tis_joined_part) (ok_nfb T tneed_few_beneath) Fjo tkept_beneath
  have Fwk := ok_wk kit twalked 7
  have Fdp := ok_dp T Fwk tdepth_of
  have Fnb := ok_nb T kit Fwk (ok_nfp T tneed_few_parts) (ok_nnd T tneed_not_deep) Fdp tneed_bounds
  have OP : FnOk P w K mg base CX0 10 fP dP psP (spPI cP) := ok_pinit kit Fwo Fko Fkb Fnb FP
  have XH : Has P w K mg base ⟨cw,cj,co,cb,cd,cm,ce,g⟩ := ⟨ok_NoWord k.gb k.xw,k.xw.mro,ok_NoJoin k.gb k.xj,k.xj.mro,ok_BadOffers k.gb k.xo,k.xo.mro,ok_BadBeneath k.gb k.xb,k.xb.mro,ok_Doubled k.gb k.xd,k.xd.mro,ok_TooMany k.gb k.xm,k.xm.mro,ok_TooDeep k.gb k.xe,k.xe.mro,k.gb.mg,k.gc,k.gt,k.ge,k.ng,k.nd⟩
  have Fjb := ok_jb (P := P) (w := w) (base := base) T kit kit2 k.mP tis_joined_part
  have Fjob := ok_job JD XH eq Faj tjoin_of
  have FkoX := ok_koX XH (ok_aoF T Fk tare_offers) tkept_offers
  have FkbX := ok_kbX T XH Fjb (ok_nfb T tneed_few_beneath) (ok_need_few_beneathX T XH tneed_few_beneath) Fjob tkept_beneath
  have FnbX := ok_nbX T kit XH Fwk (ok_nfp T tneed_few_parts) (ok_need_few_partsX T XH tneed_few_parts) (ok_need_not_deepX T XH tneed_not_deep) Fdp tneed_bounds
  have OX : FnOk P w K mg base (CXR P w) 12 fP dP psP (spPIX K cP ⟨cw,cj,co,cb,cd,cm,ce,g⟩) := ok_pinitX kit XH Fwo Fko FkoX Fkb FkbX FnbX FP
  have M : PMk P w K mg base cP fP dP ⟨cw,cj,co,cb,cd,cm,ce,g⟩ := ⟨k.mP,MP,OP,OX,BP⟩
  have MTD := ok_td (P := P) (w := w) (base := base) T kit k.ptd 7
  have Fc := ok_cell T t_law_cell
  have Fx := ok_mixed t_law_mixed
  have Fbx := ok_box t_law_box
  have Ft := ok_take Fx t_law_take
  have Fwd := ok_words T Fbx Ft t_law_words
  have Fnm := ok_name t_law_name
  have Fofs := ok_offers t_law_offers
  have Fwi := ok_wide M BD t_law_wide
  have Fch := ok_chain M BD t_law_chain
  have Fgr := ok_great T M BD Fwi Fch t_law_great
  have Ftr := ok_trees kit M BD Fwi Fch Fgr t_law_trees
  have Fto := ok_told XH M t_law_told
  have Fri := ok_right T kit M Fx Fnm Fofs Ftr Fto MTD t_law_right
  law_body T Fc Fwd Fri f cdv A outer s H vs Q E hr h
end K32
namespace PySem.W.Fast
def tw18414350261534944342:=0
def tw2630765200023718397:=0
def tw17022602186724971187:=0
def tw6061336451508489402:=0
def tw16213297059696442037:=0
def tw15966185986534355335:=0
def tw6257559183187106975:=0
def tw12065632866862400319:=0
def tw7906879182848848025:=0
def tw9385372869069795577:=0
def tw2200472968250061808:=0
def tw9273771136535247034:=0
def tw14863269791292442456:=0
def tw16961587313977207479:=0
def tw6440954623315461489:=0
def tw2768735788344986129:=0
def tw2063856178035881436:=0
def tw8842486573240197196:=0
def tw15881934860127509718:=0
def tw2591899520826001227:=0
def tw5499845654198279959:=0
def tw8313279255885648254:=0
def tw15771479628522063950:=0
def tw14420669244361273110:=0
def tw8139516661351496094:=0
def tw13505795877254562026:=0
def tw1823943492152829398:=0
def tw1862046886752195015:=0
def tw16614301528169109419:=0
def tw14792555154554011824:=0
def tw2314609630043263116:=0
def tw14130979386734038044:=0
def tw18304070450200007492:=0
def tw1435691530322748483:=0
def tw12955558372591339687:=0
def tw9093123758206081399:=0
def tw1234112671093390784:=0
def tw15409289367869412323:=0
def tw432320777693525363:=0
def tw6507817659386704611:=0
def tw9165217301371224964:=0
def tw4625438763970050202:=0
def tw13273062446112787020:=0
def tw5645561293620083376:=0
def tw10841160386286616517:=0
def tw2850918138411613552:=0
def tw13355920245700618585:=0
def tw3205408590373719671:=0
def tw14444549117718793368:=0
def tw16776311896476511807:=0
def tw8350808967642831112:=0
def tw6437472828364756640:=0
def tw12722673516558485911:=0
def tw290989849370654127:=0
def tw9312046409217683333:=0
def tw10890682663928563264:=0
def tw7705203416099363404:=0
def tw12134390434238042962:=0
def tw15359705502721273630:=0
def tw16890937638930642915:=0
def tw1911067816590156879:=0
def tw2722802245036155015:=0
def tw4736621498873346690:=0
def tw13747718534142498809:=0
def tw1586121766819478266:=0
def tw7783082146321395364:=0
def tw2187725465281845946:=0
def tw16666720790524781065:=0
def tw4276836848057068906:=0
def tw10860801455899412687:=0
def tw10078598599049930365:=0
def tw16294675862514252938:=0
def tw4023054330787280729:=0
def tw8777365821931179085:=0
def tw7582162684316757614:=0
def tw15613645577320806863:=0
def tw13549711617280654743:=0
def tw2894769164153207216:=0
def tw18072180077678078282:=0
def tw14827863345838558543:=0
def tw11145028004857330875:=0
def tw3105769437491969542:=0
def tw14741772316499495742:=0
def tw13257412791897279731:=0
def tw755612699407259299:=0
def tw6111928002674589460:=0
def tw4962612032749402748:=0
def tw13437992110984525419:=0
def tw16793835680803153070:=0
def tw14516165407268133786:=0
def tw16652542679134870492:=0
def tw3842930112469860617:=0
def tw997413772752848429:=0
def tw1691851026602403218:=0
def tw7609568215811810173:=0
def tw1308580447403711366:=0
def tw11200127554967492888:=0
def tw1020878861257096503:=0
def tw7110099835846380793:=0
def tw13790491251694854087:=0
def tw10849734598479245850:=0
def tw14259577260788925759:=0
def tw1108926012290955271:=0
def tw7774502384617411959:=0
def tw1126056923067496228:=0
def tw5531615873741898319:=0
def tw9636804418258315683:=0
def tw11549424325240406730:=0
def tw10839160235125977224:=0
def tw6571808203536662109:=0
def tw15720298806179307337:=0
def tw8301495956877987835:=0
def tw14654378069308949486:=0
def tw10709894031616950481:=0
def tw10549571025160629540:=0
def tw14483263573326352885:=0
def tw1025832794903677318:=0
def tw8251559233778224047:=0
def tw4010033831912935012:=0
def tw10682382485167374495:=0
def tw17315997778881934369:=0
def tw12462639636111564115:=0
def tw11277997685540839048:=0
def tw15382748418398743066:=0
def tw1616046157925697594:=0
def tw697893276251590121:=0
def tw5988220486767086545:=0
def tw18062743071557454031:=0
def tw2986274621782480527:=0
def tw17157747955341780894:=0
def tw15104483656069487456:=0
def tw15865707792993469826:=0
def tw15289221798306832681:=0
def tw2126411514320110053:=0
def tw16759463803249428190:=0
def tw4122498208828078508:=0
def tw6704864539402345903:=0
def tw7429679881075624071:=0
def tw6232220055305025414:=0
def tw17505807330787429052:=0
def tw14906849073623895216:=0
def tw6753186192099051659:=0
def tw991285122940132648:=0
def tw8284685737927800966:=0
def tw10070434184756804180:=0
def tw13547464257070151818:=0
def tw15047637110832902575:=0
def tw2075373424037785345:=0
def tw12713019570389834338:=0
def tw15148996662616027382:=0
def tw16862497676076399982:=0
def tw15103016955621711955:=0
def tw6387788051540863440:=0
def tw5845675287972331054:=0
def tw1011434129513734799:=0
def tw18389354650215181659:=0
def tw4585693187826491294:=0
def tw13879237634652896657:=0
def tw10132613917616276998:=0
def tw13144172555910833649:=0
def tw8399403190519829331:=0
def tw17435410738124465889:=0
def tw7492740168297289564:=0
def tw18323461866885040618:=0
def tw2560464061391702947:=0
def tw8818807524856524031:=0
def tw10872459240058720569:=0
def tw6413140641296057677:=0
def tw8685428421848697794:=0
def tw13797373968651043212:=0
def tw13979949928742368937:=0
def tw18239297753063635716:=0
def tw9053862802474622602:=0
def tw18303802651331185248:=0
def tw830034576522321252:=0
def tw6416214640706658411:=0
def tw3129915991757449112:=0
def tw4648844628380126180:=0
def tw18090082165388734164:=0
def tw9088894297420461550:=0
def tw13520027590424121778:=0
def tw17562563593621801088:=0
def tw13838222511839659831:=0
def tw15513987909202802709:=0
def tw10619373677178145348:=0
def tw5295676245120888819:=0
def tw13082384018668581878:=0
def tw11444121232217207995:=0
def tw6082453979604095896:=0
def tw4049489400710268780:=0
def tw839851263561258947:=0
def tw12007652401428791337:=0
def tw9305761097636631623:=0
def tw18304612133984927529:=0
def tw8535273475230168049:=0
def tw7680061354708665336:=0
def tw955681481995328196:=0
def tw15736873107081659194:=0
def tw3865997623953401731:=0
def tw10158727895204737103:=0
def tw7225732347981454295:=0
def tw14626569124119619054:=0
def tw15753531736679794807:=0
def tw11011677010599427898:=0
def tw15332372388923959342:=0
def tw18349808518151941174:=0
def tw10278017657427031137:=0
def tw8984702095085830793:=0
def tw3574674192510116201:=0
def tw1122543608513544659:=0
def tw13783897092723618509:=0
def tw9829232521116391267:=0
def tw13124357067555415653:=0
def tw4783656789921473482:=0
def tw10118902012561077991:=0
def tw14674552013337596498:=0
def tw12278428871146585891:=0
def tw4056859547254207051:=0
def tw13066036216424701461:=0
def tw5894373175198277682:=0
def tw1245289292974835225:=0
def tw679627425137455694:=0
def tw9384661026938122888:=0
def tw3979678777238559231:=0
def tw9992415556470438293:=0
def tw530733556259821191:=0
def tw196744488413868591:=0
def tw8569606438311338222:=0
def tw4017409668173304799:=0
def tw1631307875064575982:=0
def tw2287250369110499217:=0
def tw1850536970800720239:=0
def tw9720235913643543980:=0
def tw9539224500220552231:=0
def tw15894419670645831478:=0
def tw17340010227229618337:=0
def tw1921235810477057807:=0
def tw13718861402341016843:=0
def tw6268904252804811224:=0
def tw2755872281181637204:=0
def tw7330185658403362646:=0
def tw14452681521762898600:=0
def tw13010515258156306770:=0
def tw8256916854938322785:=0
def tw8054904848510444554:=0
def tw711743038070449012:=0
def tw514413021464795964:=0
def tw528113622917035553:=0
def tw18212612816643939083:=0
def tw15379557718067659768:=0
def tw4647894808971434948:=0
def tw8646926234867244327:=0
def tw17658682350024421:=0
def tw8793795041196359540:=0
def tw4606369356831366719:=0
def tw17902563464194472136:=0
def tw2960328587159048781:=0
def tw5938340597259028928:=0
def tw9029693030310991536:=0
def tw7755033473746883109:=0
def tw3249324882295352178:=0
def tw8169980987862029194:=0
def tw10513558819833135384:=0
def tw16315074736779734633:=0
def tw15700712503081352872:=0
def tw8327688251852111939:=0
def tw15366771694210915584:=0
def tw12164874041451066059:=0
def tw16697513540297140404:=0
def tw4470881853797534858:=0
def tw8941925583200672299:=0
def tw3241398238309962653:=0
def tw16743843885248834964:=0
def tw6595067986217759201:=0
def tw14597727555989231488:=0
def tw14782351023903752562:=0
def tw5627593658317100957:=0
def tw13796770484965685913:=0
def tw8460759587109709303:=0
def tw6781361583998925033:=0
def tw3407977517911323992:=0
def tw14715484378673262101:=0
def tw11806349373208394782:=0
def tw7636834261480401881:=0
def tw4189912458964515674:=0
def tw11409357780049947980:=0
def tw16249562867684604512:=0
def tw15434506791513866071:=0
def tw6889345202517779235:=0
def tw7424948519880250056:=0
def tw12485223812222382889:=0
def tw17269945073030034427:=0
def tw1052226155749852845:=0
def tw2098116789298398974:=0
def tw17621979435182405526:=0
def tw8980564665588645822:=0
def tw8690442812059290666:=0
def tw16153761388095861658:=0
def tw4062236529587453230:=0
def tw11732347054803579195:=0
def tw7621591067276403964:=0
def tw2399226224593499006:=0
def tw3521835645024704290:=0
def tw14214507287599523397:=0
def tw2377829088209029972:=0
def tw13377170304242037970:=0
def tw11303630579183489296:=0
def tw4685130928893689660:=0
def tw12699235791883666432:=0
def tw12684717033733546889:=0
def tw3336081335974850749:=0
def tw2200853049550577232:=0
def tw6973803629287119263:=0
def tw2479697832996195999:=0
def tw4120970218078668936:=0
def tw5891108656464111319:=0
def tw4356657917224320679:=0
def tw15620769548125055081:=0
def tw2407196982580928123:=0
def tw10021156111439767030:=0
def tw14020126986376117462:=0
def tw18282733228539758316:=0
def tw14097089011116550949:=0
def tw12864514541932692475:=0
def tw11604144167653371906:=0
def tw12890298187880853364:=0
def tw11912035845756948393:=0
def tw10506331870235983031:=0
def tw9412913674671921145:=0
def tw6260205036024062034:=0
def tw6197893275802088787:=0
def tw9895023443095965800:=0
def tw5723672297006598924:=0
def tw10729138111144464077:=0
def tw6240519353362924701:=0
def tw12156681773380309729:=0
def tw3082690797775134217:=0
def tw12162057652836671230:=0
def tw12861177415236339367:=0
def tw4434364031056630631:=0
def tw12562672178482416325:=0
def tw2322842685090907834:=0
def tw11650120640225897840:=0
def tw8931826063609215874:=0
def tw6272285611830045551:=0
def tw7353024268895550968:=0
def tw11758366512964410474:=0
def tw7719388366018043430:=0
def tw1119368731622790931:=0
def tw11729207786827909152:=0
def tw16044831051646771727:=0
def tw16304318143764188506:=0
def tw8849841124711916628:=0
def tw6470434262636114330:=0
def tw17677733675293556476:=0
def tw12518034039029038491:=0
def tw15552843730182749225:=0
def tw12647869504439609015:=0
def tw10839171727067132113:=0
def tw3213301119161041391:=0
def tw3947408249010035833:=0
def tw12982407135957153725:=0
def tw14254369336434333994:=0
def tw658128625091738421:=0
def tw47676462770702397:=0
def tw14281016771486040803:=0
def tw7292871762151867769:=0
def tw9975286488678561977:=0
def tw3971215929358824078:=0
def tw5096829174343221292:=0
def tw11201237635844159926:=0
def tw6781919964774790822:=0
def tw13822557758508033798:=0
def tw16326197605794330473:=0
def tw1205072448269272789:=0
def tw792391109805410346:=0
def tw3879716268163844100:=0
def tw10366132896132999401:=0
def tw10163507232033876488:=0
def tw7173658257140025959:=0
def tw7956889504300513307:=0
def tw7811143926655468695:=0
def tw4499131943119422676:=0
def tw571645249872055607:=0
def tw4476566196290089449:=0
def tw5617618588991534144:=0
def tw10533999364538412814:=0
def tw17984782715106749615:=0
def tw18345573044166875332:=0
def tw7074549511914630856:=0
def tw9317894203277455866:=0
def tw8663183454278481502:=0
def tw15892754391518988526:=0
def tw12208015375693715094:=0
def tw4551070707318848855:=0
def tw4789351318688780820:=0
def tw11790980146590377603:=0
def tw4544455654763026558:=0
def tw4143687151175482342:=0
def tw16272008249492284455:=0
end PySem.W.Fast
open PySem PySem.W PyProof.Rows
set_option maxRecDepth 100000 in
set_option maxHeartbeats 0 in
theorem PySem.Challenge.cw_grantweave_k32_parts_refused_holds : PySem.Challenge.rw_grantweave_k32_parts_refused.Holds := by
 w_on; o_law; k_head; (case hw => w_witness2)
 k_fill
 refine L2.law_walk (l := PySem.Challenge.rw_grantweave_k32_parts_refused) (x := "_law_script") (k := 17) rfl rfl ⟨rfl,by decide,by decide,rfl⟩ (fun w h Y => PySem.W.kIn_of Y) ?F
 case F =>
  intro w mg fa h KX G hmg
  have t_is_whole : L2.Aq (L2.KOf KX) mg "is_whole" K32.sis_whole ["thing"] := by
   refine' L2.A0 KX G (fun _ _ _ _ _ _ us hl => match us,hl with | [_],_ => rfl) ?a ?l ?c ?k
   (case a => k_is); (case l => k_is); (case c => k_is); (case k => k_is)
  have t_is_word : L2.Aq (L2.KOf KX) mg "is_word" K32.sis_word ["thing"] := by
   refine' L2.A0 KX G (fun _ _ _ _ _ _ us hl => match us,hl with | [_],_ => rfl) ?a ?l ?c ?k
   (case a => k_is); (case l => k_is); (case c => k_is); (case k => k_is)
  have t_is_key : L2.Aq (L2.KOf KX) mg "is_key" K32.sis_key ["thing"] := by
   refine' L2.A0 KX G (fun _ _ _ _ _ _ us hl => match us,hl with | [_],_ => rfl) ?a ?l ?c ?k
   (case a => k_is); (case l => k_is); (case c => k_is); (case k => k_is)
  have t_all_joins : L2.Aq (L2.KOf KX) mg "all_joins" K32.sall_joins [] := by
   refine' L2.A0 KX G (fun _ _ _ _ _ _ us hl => match us,hl with | [],_ => rfl) ?a ?l ?c ?k
   (case a => k_is); (case l => k_is); (case c => k_is); (case k => k_is)
  have t_join_of : L2.Aq (L2.KOf KX) mg "join_of" K32.sjoin_of ["word"] := by
   refine' L2.A0 KX G (fun _ _ _ _ _ _ us hl => match us,hl with | [_],_ => rfl) ?a ?l ?c ?k
   (case a => k_is); (case l => k_is); (case c => k_is); (case k => k_is)
  have t_are_offers : L2.Aq (L2.KOf KX) mg "are_offers" K32.Bn ["thing"] := by
   refine' L2.A0 KX G (fun _ _ _ _ _ _ us hl => match us,hl with | [_],_ => rfl) ?a ?l ?c ?k
   (case a => k_is); (case l => k_is); (case c => k_is); (case k => k_is)
  have t_kept_offers : L2.Aq (L2.KOf KX) mg "kept_offers" K32.C0 ["offers"] := by
   refine' L2.A0 KX G (fun _ _ _ _ _ _ us hl => match us,hl with | [_],_ => rfl) ?a ?l ?c ?k
   (case a => k_is); (case l => k_is); (case c => k_is); (case k => k_is)
  have t_need_few_beneath : L2.Aq (L2.KOf KX) mg "need_few_beneath" K32.Bv ["many"] := by
   refine' L2.A0 KX G (fun _ _ _ _ _ _ us hl => match us,hl with | [_],_ => rfl) ?a ?l ?c ?k
   (case a => k_is); (case l => k_is); (case c => k_is); (case k => k_is)
  have t_need_few_parts : L2.Aq (L2.KOf KX) mg "need_few_parts" K32.B5 ["many"] := by
   refine' L2.A0 KX G (fun _ _ _ _ _ _ us hl => match us,hl with | [_],_ => rfl) ?a ?l ?c ?k
   (case a => k_is); (case l => k_is); (case c => k_is); (case k => k_is)
  have t_need_not_deep : L2.Aq (L2.KOf KX) mg "need_not_deep" K32.Ce ["deep"] := by
   refine' L2.A0 KX G (fun _ _ _ _ _ _ us hl => match us,hl with | [_],_ => rfl) ?a ?l ?c ?k
   (case a => k_is); (case l => k_is); (case c => k_is); (case k => k_is)
  have t_is_joined_part : L2.Aq (L2.KOf KX) mg "is_joined_part" K32.B6 ["thing"] := by
   refine' L2.A0 KX G (fun _ _ _ _ _ _ us hl => match us,hl with | [_],_ => rfl) ?a ?l ?c ?k
   (case a => k_is); (case l => k_is); (case c => k_is); (case k => k_is)
  have t_kept_beneath : L2.Aq (L2.KOf KX) mg "kept_beneath" K32.A9 ["beneath"] := by
   refine' L2.A0 KX G (fun _ _ _ _ _ _ us hl => match us,hl with | [_],_ => rfl) ?a ?l ?c ?k
   (case a => k_is); (case l => k_is); (case c => k_is); (case k => k_is)
  have t_walked : L2.Aq (L2.KOf KX) mg "walked" K32.swalked ["work"] := by
   refine' L2.A0 KX G (fun _ _ _ _ _ _ us hl => match us,hl with | [_],_ => rfl) ?a ?l ?c ?k
   (case a => k_is); (case l => k_is); (case c => k_is); (case k => k_is)
  have t_depth_of : L2.Aq (L2.KOf KX) mg "depth_of" K32.sdepth_of ["work"] := by
   refine' L2.A0 KX G (fun _ _ _ _ _ _ us hl => match us,hl with | [_],_ => rfl) ?a ?l ?c ?k
   (case a => k_is); (case l => k_is); (case c => k_is); (case k => k_is)
  have t_need_bounds : L2.Aq (L2.KOf KX) mg "need_bounds" K32.Cz ["work"] := by
   refine' L2.A0 KX G (fun _ _ _ _ _ _ us hl => match us,hl with | [_],_ => rfl) ?a ?l ?c ?k
   (case a => k_is); (case l => k_is); (case c => k_is); (case k => k_is)
  have t__law_cell : L2.Aq (L2.KOf KX) mg "_law_cell" K32.s_law_cell ["_law_script","_law_k"] := by
   refine' L2.A0 KX G (fun _ _ _ _ _ _ us hl => match us,hl with | [_,_],_ => rfl) ?a ?l ?c ?k
   (case a => k_is); (case l => k_is); (case c => k_is); (case k => k_is)
  have t__law_mixed : L2.Aq (L2.KOf KX) mg "_law_mixed" K32.s_law_mixed ["_law_cell_here","_law_k"] := by
   refine' L2.A0 KX G (fun _ _ _ _ _ _ us hl => match us,hl with | [_,_],_ => rfl) ?a ?l ?c ?k
   (case a => k_is); (case l => k_is); (case c => k_is); (case k => k_is)
  have t__law_box : L2.Aq (L2.KOf KX) mg "_law_box" K32.s_law_box ["_law_cell_here"] := by
   refine' L2.A0 KX G (fun _ _ _ _ _ _ us hl => match us,hl with | [_],_ => rfl) ?a ?l ?c ?k
   (case a => k_is); (case l => k_is); (case c => k_is); (case k => k_is)
  have t__law_take : L2.Aq (L2.KOf KX) mg "_law_take" K32.s_law_take ["_law_box_here","_law_many"] := by
   refine' L2.A0 KX G (fun _ _ _ _ _ _ us hl => match us,hl with | [_,_],_ => rfl) ?a ?l ?c ?k
   (case a => k_is); (case l => k_is); (case c => k_is); (case k => k_is)
  have t__law_words : L2.Aq (L2.KOf KX) mg "_law_words" K32.Dg ["_law_cell_here","_law_many"] := by
   refine' L2.A0 KX G (fun _ _ _ _ _ _ us hl => match us,hl with | [_,_],_ => rfl) ?a ?l ?c ?k
   (case a => k_is); (case l => k_is); (case c => k_is); (case k => k_is)
  have t__law_name : L2.Aq (L2.KOf KX) mg "_law_name" K32.s_law_name ["_law_name_here","_law_number"] := by
   refine' L2.A0 KX G (fun _ _ _ _ _ _ us hl => match us,hl with | [_,_],_ => rfl) ?a ?l ?c ?k
   (case a => k_is); (case l => k_is); (case c => k_is); (case k => k_is)
  have t__law_offers : L2.Aq (L2.KOf KX) mg "_law_offers" K32.Do ["_law_name_here","_law_number"] := by
   refine' L2.A0 KX G (fun _ _ _ _ _ _ us hl => match us,hl with | [_,_],_ => rfl) ?a ?l ?c ?k
   (case a => k_is); (case l => k_is); (case c => k_is); (case k => k_is)
  have t__law_chain : L2.Aq (L2.KOf KX) mg "_law_chain" K32.s_law_chain ["_law_names","_law_many"] := by
   refine' L2.A0 KX G (fun _ _ _ _ _ _ us hl => match us,hl with | [_,_],_ => rfl) ?a ?l ?c ?k
   (case a => k_is); (case l => k_is); (case c => k_is); (case k => k_is)
  have t__law_wide : L2.Aq (L2.KOf KX) mg "_law_wide" K32.Du ["_law_names","_law_many"] := by
   refine' L2.A0 KX G (fun _ _ _ _ _ _ us hl => match us,hl with | [_,_],_ => rfl) ?a ?l ?c ?k
   (case a => k_is); (case l => k_is); (case c => k_is); (case k => k_is)
  have t__law_trees : L2.Aq (L2.KOf KX) mg "_law_trees" K32.Dh ["_law_names","_law_number"] := by
   refine' L2.A0 KX G (fun _ _ _ _ _ _ us hl => match us,hl with | [_,_],_ => rfl) ?a ?l ?c ?k
   (case a => k_is); (case l => k_is); (case c => k_is); (case k => k_is)
  have t__law_great : L2.Aq (L2.KOf KX) mg "_law_great" K32.Ct ["_law_names"] := by
   refine' L2.A0 KX G (fun _ _ _ _ _ _ us hl => match us,hl with | [_],_ => rfl) ?a ?l ?c ?k
   (case a => k_is); (case l => k_is); (case c => k_is); (case k => k_is)
  have t__law_told : L2.Aq (L2.KOf KX) mg "_law_told" K32.s_law_told ["_law_name_here","_law_offers_here","_law_beneath"] := by
   refine' L2.A0 KX G (fun _ _ _ _ _ _ us hl => match us,hl with | [_,_,_],_ => rfl) ?a ?l ?c ?k
   (case a => k_is); (case l => k_is); (case c => k_is); (case k => k_is)
  have t__law_right : L2.Aq (L2.KOf KX) mg "_law_right" K32.Cg ["_law_names","_law_cell_here"] := by
   refine' L2.A0 KX G (fun _ _ _ _ _ _ us hl => match us,hl with | [_,_],_ => rfl) ?a ?l ?c ?k
   (case a => k_is); (case l => k_is); (case c => k_is); (case k => k_is)
  have t_law : L2.Aq (L2.KOf KX) mg "law" K32.slaw ["_law_script"] := by
   refine' L2.A0 KX G (fun _ _ _ _ _ _ us hl => match us,hl with | [_],_ => rfl) ?a ?l ?c ?k
   (case a => k_is); (case l => k_is); (case c => k_is); (case k => k_is)
  have n_len : mg "len" = none := by
   refine' PySem.W.mg_none_of KX G ?a
   (case a => k_is)
  have n_isinstance : mg "isinstance" = none := by
   refine' PySem.W.mg_none_of KX G ?a
   (case a => k_is)
  have n_range : mg "range" = none := by
   refine' PySem.W.mg_none_of KX G ?a
   (case a => k_is)
  have n_int : mg "int" = none := by
   refine' PySem.W.mg_none_of KX G ?a
   (case a => k_is)
  have n_bool : mg "bool" = none := by
   refine' PySem.W.mg_none_of KX G ?a
   (case a => k_is)
  have n_str : mg "str" = none := by
   refine' PySem.W.mg_none_of KX G ?a
   (case a => k_is)
  have n_tuple : mg "tuple" = none := by
   refine' PySem.W.mg_none_of KX G ?a
   (case a => k_is)
  have n_list : mg "list" = none := by
   refine' PySem.W.mg_none_of KX G ?a
   (case a => k_is)
  have n_all : mg "all" = none := by
   refine' PySem.W.mg_none_of KX G ?a
   (case a => k_is)
  have n_zip : mg "zip" = none := by
   refine' PySem.W.mg_none_of KX G ?a
   (case a => k_is)
  have n_min : mg "min" = none := by
   refine' PySem.W.mg_none_of KX G ?a
   (case a => k_is)
  have n_max : mg "max" = none := by
   refine' PySem.W.mg_none_of KX G ?a
   (case a => k_is)
  have n_set : mg "set" = none := by
   refine' PySem.W.mg_none_of KX G ?a
   (case a => k_is)
  have n_sorted : mg "sorted" = none := by
   refine' PySem.W.mg_none_of KX G ?a
   (case a => k_is)
  have n_enumerate : mg "enumerate" = none := by
   refine' PySem.W.mg_none_of KX G ?a
   (case a => k_is)
  have g_LETTERS : ∃ t,mg "LETTERS" = some (.str "abcdefghijklmnopqrstuvwxyz" t) := by
   refine' L2.glob_S KX G ?a ?b
   (case a => k_is)
   (case b => decide +kernel)
  have g_LONGEST_WORD : ∃ t,mg "LONGEST_WORD" = some (.int 8 t) := by
   refine' L2.glob_I KX G ?a ?b
   (case a => k_is)
   (case b => exact ⟨_,rfl⟩)
  have g_GREATEST_NUMBER : ∃ t,mg "GREATEST_NUMBER" = some (.int 99 t) := by
   refine' L2.glob_I KX G ?a ?b
   (case a => k_is)
   (case b => exact ⟨_,rfl⟩)
  have g_MOST_OFFERS : ∃ t,mg "MOST_OFFERS" = some (.int 2 t) := by
   refine' L2.glob_I KX G ?a ?b
   (case a => k_is)
   (case b => exact ⟨_,rfl⟩)
  have g_MOST_BENEATH : ∃ t,mg "MOST_BENEATH" = some (.int 6 t) := by
   refine' L2.glob_I KX G ?a ?b
   (case a => k_is)
   (case b => exact ⟨_,rfl⟩)
  have g_MOST_PARTS : ∃ t,mg "MOST_PARTS" = some (.int 30 t) := by
   refine' L2.glob_I KX G ?a ?b
   (case a => k_is)
   (case b => exact ⟨_,rfl⟩)
  have g_MOST_DEEP : ∃ t,mg "MOST_DEEP" = some (.int 6 t) := by
   refine' L2.glob_I KX G ?a ?b
   (case a => k_is)
   (case b => exact ⟨_,rfl⟩)
  have hk : ∃ cP cw cj co cb cd cm ce g c0 c1 c2 c3,K32.KTop (L2.KOf KX) mg cP cw cj co cb cd cm ce g c0 c1 c2 c3 := by
   refine' K32.ktop_mk ?gb ?xw ?xj ?xo ?xb ?xd ?xm ?xe ?gc ?gt ?ge ?ng ?nd ?eP ?mP ?m0 ?m1 ?m2 ?m3 ?oP ?iP ?o0 ?o1 ?o2 ?o3 ?ptd ?w0 ?w1 ?w2 ?w3
   case gb =>
    refine' L2.gbase_of KX G ?a ?b ?c ?d
    (case a => k_is); (case b => k_is); (case c => k_is); (case d => k_is)
   case xw =>
    refine' L2.xtop_of KX G (fun _ _ _ _ _ _ us hl => match us,hl with | [_,_],_ => rfl) ?a ?kp ?i ?l ?c ?k ?fn ?o ?m
    (case a => k_is); (case kp => k_is); (case i => k_is); (case l => k_is); (case c => k_is); (case k => k_is); (case fn => k_is); (case o => kernel_rfl); (case m => kernel_rfl)
   case xj =>
    refine' L2.xtop_of KX G (fun _ _ _ _ _ _ us hl => match us,hl with | [_,_],_ => rfl) ?a ?kp ?i ?l ?c ?k ?fn ?o ?m
    (case a => k_is); (case kp => k_is); (case i => k_is); (case l => k_is); (case c => k_is); (case k => k_is); (case fn => k_is); (case o => kernel_rfl); (case m => kernel_rfl)
   case xo =>
    refine' L2.xtop_of KX G (fun _ _ _ _ _ _ us hl => match us,hl with | [_,_],_ => rfl) ?a ?kp ?i ?l ?c ?k ?fn ?o ?m
    (case a => k_is); (case kp => k_is); (case i => k_is); (case l => k_is); (case c => k_is); (case k => k_is); (case fn => k_is); (case o => kernel_rfl); (case m => kernel_rfl)
   case xb =>
    refine' L2.xtop_of KX G (fun _ _ _ _ _ _ us hl => match us,hl with | [_,_],_ => rfl) ?a ?kp ?i ?l ?c ?k ?fn ?o ?m
    (case a => k_is); (case kp => k_is); (case i => k_is); (case l => k_is); (case c => k_is); (case k => k_is); (case fn => k_is); (case o => kernel_rfl); (case m => kernel_rfl)
   case xd =>
    refine' L2.xtop_of KX G (fun _ _ _ _ _ _ us hl => match us,hl with | [_,_],_ => rfl) ?a ?kp ?i ?l ?c ?k ?fn ?o ?m
    (case a => k_is); (case kp => k_is); (case i => k_is); (case l => k_is); (case c => k_is); (case k => k_is); (case fn => k_is); (case o => kernel_rfl); (case m => kernel_rfl)
   case xm =>
    refine' L2.xtop_of KX G (fun _ _ _ _ _ _ us hl => match us,hl with | [_,_],_ => rfl) ?a ?kp ?i ?l ?c ?k ?fn ?o ?m
    (case a => k_is); (case kp => k_is); (case i => k_is); (case l => k_is); (case c => k_is); (case k => k_is); (case fn => k_is); (case o => kernel_rfl); (case m => kernel_rfl)
   case xe =>
    refine' L2.xtop_of KX G (fun _ _ _ _ _ _ us hl => match us,hl with | [_,_],_ => rfl) ?a ?kp ?i ?l ?c ?k ?fn ?o ?m
    (case a => k_is); (case kp => k_is); (case i => k_is); (case l => k_is); (case c => k_is); (case k => k_is); (case fn => k_is); (case o => kernel_rfl); (case m => kernel_rfl)
   case mP =>
    refine' PySem.W.mg_of KX G ?a
    (case a => k_is)
   case m0 =>
    refine' PySem.W.mg_of KX G ?a
    (case a => k_is)
   case m1 =>
    refine' PySem.W.mg_of KX G ?a
    (case a => k_is)
   case m2 =>
    refine' PySem.W.mg_of KX G ?a
    (case a => k_is)
   case m3 =>
    refine' PySem.W.mg_of KX G ?a
    (case a => k_is)
   case iP =>
    refine' K32.ptop_of KX ?a ?i ?l ?c ?k ?mk ?kc ?dd
    (case a => k_is); (case i => k_is); (case l => k_is); (case c => k_is); (case k => k_is); (case mk => k_is); (case kc => k_is); (case dd => k_is)
   case ptd =>
    refine' L2.mtop_of KX (fun _ _ _ _ _ _ us hl => match us,hl with | [_],_ => rfl) ?a ?i ?l ?c ?k
    (case a => k_is); (case i => k_is); (case l => k_is); (case c => k_is); (case k => k_is)
   case w0 =>
    refine' L2.mtop_of KX (fun _ _ _ _ _ _ us hl => match us,hl with | [_],_ => rfl) ?a ?i ?l ?c ?k
    (case a => k_is); (case i => k_is); (case l => k_is); (case c => k_is); (case k => k_is)
   case w1 =>
    refine' L2.mtop_of KX (fun _ _ _ _ _ _ us hl => match us,hl with | [_],_ => rfl) ?a ?i ?l ?c ?k
    (case a => k_is); (case i => k_is); (case l => k_is); (case c => k_is); (case k => k_is)
   case w2 =>
    refine' L2.mtop_of KX (fun _ _ _ _ _ _ us hl => match us,hl with | [_],_ => rfl) ?a ?i ?l ?c ?k
    (case a => k_is); (case i => k_is); (case l => k_is); (case c => k_is); (case k => k_is)
   case w3 =>
    refine' L2.mtop_of KX (fun _ _ _ _ _ _ us hl => match us,hl with | [_],_ => rfl) ?a ?i ?l ?c ?k
    (case a => k_is); (case i => k_is); (case l => k_is); (case c => k_is); (case k => k_is)
   case ng => decide
   case nd => decide
   case gc => kernel_rfl
   case gt => kernel_rfl
   case ge => kernel_rfl
   case eP => kernel_rfl
   case oP => kernel_rfl
   case o0 => kernel_rfl
   case o1 => kernel_rfl
   case o2 => kernel_rfl
   case o3 => kernel_rfl
  exact K32.law_fn2 hmg ⟨n_len,n_isinstance,n_range,n_int,n_bool,n_str,n_tuple,n_list,n_all,n_zip,n_min,n_max,n_set,n_sorted,n_enumerate,g_LETTERS,g_LONGEST_WORD,g_GREATEST_NUMBER,g_MOST_OFFERS,g_MOST_BENEATH,g_MOST_PARTS,g_MOST_DEEP⟩ t_is_whole t_is_word t_is_key t_all_joins t_join_of t_are_offers t_kept_offers t_need_few_beneath t_need_few_parts t_need_not_deep t_is_joined_part t_kept_beneath t_walked t_depth_of t_need_bounds t__law_cell t__law_mixed t__law_box t__law_take t__law_words t__law_name t__law_offers t__law_chain t__law_wide t__law_trees t__law_great t__law_told t__law_right t_law hk
