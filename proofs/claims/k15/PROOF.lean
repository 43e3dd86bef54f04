import PyProof.Rows.All
import Wide.All
import OpenK.AllK
import Wide.FinOn
import Lean
import PyProof.EqAt
import PyProof.EqKinds
import PyProof.TupleCall
import KE.KUnpack
import KE.KDictList
import KE.KIntText
import PyProof.ListMulAny
import PySem.Challenge.RW_grantweave_k15_books_as_texts
set_option Elab.async false
set_option linter.all false
set_option maxRecDepth 100000
set_option maxHeartbeats 4000000
local macro_rules | `(tactic| trivial) => `(tactic| first | exact True.intro | exact Or.inl rfl | exact Or.inr rfl | exact ⟨rfl, by decide +kernel, by decide +kernel, by decide +kernel, by decide +kernel⟩ | exact ⟨rfl, rfl, rfl, by decide +kernel, rfl, by decide +kernel, by decide +kernel⟩)
namespace L2
open PySem PySem.Spec PyProof.Rows
abbrev Key := Sum Int Str
def keyIs : Key → Value → Bool
 | .inl k,v => Value.isInt k v
 | .inr x,v => Value.isStrOf x v
def keyH (w : World) : Key → Int
 | .inl k => hashInt k
 | .inr x => hashStr w x
theorem By : ∀ {k : Key} {v : Value},keyIs k v = true → (∃ i t,k = Sum.inl i ∧ v = Value.int i t) ∨ (∃ x t,k = Sum.inr x ∧ v = Value.str x t)
 | .inl i,v,h => by
   obtain ⟨t,e⟩ := Value.isInt_shape (k := i) (v := v) h
   exact .inl ⟨i,t,rfl,e⟩
 | .inr x,v,h => by
   obtain ⟨t,e⟩ := Value.isStrOf_shape (x := x) (v := v) h
   exact .inr ⟨x,t,rfl,e⟩
theorem keyIs_int (i : Int) (t : Tok) : keyIs (.inl i) (.int i t) = true := by simp [keyIs,Value.isInt]
theorem keyIs_str (x : Str) (t : Tok) : keyIs (.inr x) (.str x t) = true := by simp [keyIs,Value.isStrOf]
theorem key_ll (a b : Int) : decide ((Sum.inl a : Key) = Sum.inl b) = (a == b) := by
 by_cases e : a = b
 ·subst e; simp
 ·have h : ¬ (Sum.inl a : Key) = Sum.inl b := fun q => e (Sum.inl.inj q)
  rw [decide_eq_false h]
  exact (beq_eq_false_iff_ne.mpr e).symm
theorem key_rr (a b : Str) : decide ((Sum.inr a : Key) = Sum.inr b) = decide (a = b) := by
 by_cases e : a = b
 ·subst e; simp
 ·have h : ¬ (Sum.inr a : Key) = Sum.inr b := fun q => e (Sum.inr.inj q)
  rw [decide_eq_false h,decide_eq_false e]
theorem key_lr (a : Int) (b : Str) : decide ((Sum.inl a : Key) = Sum.inr b) = false := decide_eq_false (fun q => nomatch q)
theorem key_rl (a : Str) (b : Int) : decide ((Sum.inr a : Key) = Sum.inl b) = false := decide_eq_false (fun q => nomatch q)
def Cg (prog : Program) (w : World) : PySem.KeyKind prog w Key where
 is := keyIs
 hash := keyH w
 inj := fun v a b ha hb => by
  rcases By ha with ⟨i,t,rfl,rfl⟩ | ⟨x,t,rfl,rfl⟩
  ·rcases By hb with ⟨j,u,rfl,e⟩ | ⟨y,u,rfl,e⟩
   ·injection e with e1 _; rw [e1]
   ·exact nomatch e
  ·rcases By hb with ⟨j,u,rfl,e⟩ | ⟨y,u,rfl,e⟩
   ·exact nomatch e
   ·injection e with e1 _; rw [e1]
 byValue := fun k v h => by
  rcases By h with ⟨i,t,rfl,rfl⟩ | ⟨x,t,rfl,rfl⟩ <;> rfl
 pyHash := fun hv h => by
  rcases By hv with ⟨i,t,rfl,rfl⟩ | ⟨x,t,rfl,rfl⟩
  ·exact wpAny_pyHash_int h
  ·exact wpAny_pyHash_str h
 eqBool := fun hu hv h => by
  rcases By hu with ⟨i,t,rfl,rfl⟩ | ⟨x,t,rfl,rfl⟩
  ·rcases By hv with ⟨j,u,rfl,rfl⟩ | ⟨y,u,rfl,rfl⟩
   ·rw [key_ll] at h; exact wpAny_eqBool_int h
   ·rw [key_lr] at h; exact SeqAt.EqAt.int_str i t y u _ _ _ _ h
  ·rcases By hv with ⟨j,u,rfl,rfl⟩ | ⟨y,u,rfl,rfl⟩
   ·rw [key_rl] at h; exact SeqAt.EqAt.str_int x t j u _ _ _ _ h
   ·rw [key_rr] at h; exact wpAny_eqBool_str h
 «strs» := fun k x t v h => by
  rcases By h with ⟨i,u,rfl,e⟩ | ⟨y,u,rfl,e⟩
  ·exact nomatch e
  ·injection e with e1 _
   subst e1
   cases v <;> rfl
theorem mixKind_int (prog : Program) (w : World) (i : Int) (t : Tok) : (Cg prog w).is (.inl i) (.int i t) = true := keyIs_int i t
theorem mixKind_str (prog : Program) (w : World) (x : Str) (t : Tok) : (Cg prog w).is (.inr x) (.str x t) = true := keyIs_str x t
end L2
namespace L2
open PySem PySem.Spec PyProof.Rows
inductive V where
 | non | bl (b : Bool) | int (i : Int) | str (x : Str) | byt (b : Array UInt8) | flt (b : UInt64) | ref (a : Addr) | ty (n : String)
 deriving DecidableEq
def RelV : V → Value → Prop
 | .non,u => u = Value.none
 | .bl b,u => u = Value.bool b
 | .int i,u => ∃ t,u = Value.int i t
 | .str x,u => ∃ t,u = Value.str x t
 | .byt b,u => ∃ t,u = Value.bytes b t
 | .flt b,u => ∃ t,u = Value.float b t
 | .ref a,u => u = Value.ref a
 | .ty n,u => u = Value.type n
abbrev Vals : List V → List Value → Prop := Paired RelV
theorem Vals.length {xs : List V} {us : List Value} (r : Vals xs us) : xs.length = us.length := Paired.length r
theorem Vals.get : ∀ {xs : List V} {us : List Value} {i : Nat} {x : V},Vals xs us → xs[i]? = some x → ∃ u,us[i]? = some u ∧ RelV x u
 | _,_,_,_,.nil,e => by simp at e
 | _,_,0,_,.cons r _,e => by simp at e; subst e; exact ⟨_,rfl,r⟩
 | _,_,i + 1,x,.cons _ t,e => by
   obtain ⟨u,h1,h2⟩ := Vals.get (i := i) (x := x) t (by simpa using e)
   exact ⟨u,by simpa using h1,h2⟩
theorem Vals.set {x : V} {u : Value} (r : RelV x u) : ∀ {xs : List V} {us : List Value} (i : Nat),Vals xs us → Vals (xs.set i x) (us.set i u)
 | _,_,_,.nil => .nil
 | _,_,0,.cons _ t => .cons r t
 | _,_,i + 1,.cons q t => .cons q (Vals.set r i t)
theorem Vals.append : ∀ {xs ys : List V} {us ws : List Value},Vals xs us → Vals ys ws → Vals (xs ++ ys) (us ++ ws)
 | _,_,_,_,.nil,s => s
 | _,_,_,_,.cons r t,s => .cons r (Vals.append t s)
theorem Vals.take : ∀ {xs : List V} {us : List Value} (n : Nat),Vals xs us → Vals (xs.take n) (us.take n)
 | _,_,0,_ => .nil
 | _,_,_ + 1,.nil => .nil
 | _,_,n + 1,.cons r t => .cons r (Vals.take n t)
theorem Vals.drop : ∀ {xs : List V} {us : List Value} (n : Nat),Vals xs us → Vals (xs.drop n) (us.drop n)
 | _,_,0,r => r
 | _,_,_ + 1,.nil => .nil
 | _,_,n + 1,.cons _ t => Vals.drop n t
def RelO : Option V → Option Value → Prop
 | some v,some u => RelV v u
 | none,none => True
 | _,_ => False
def KV {κ : Type} : List (κ × V) → List (κ × Value) → Prop := Paired fun (p : κ × V) (q : κ × Value) => p.1 = q.1 ∧ RelV p.2 q.2
def kV : Key → V
 | .inl i => .int i
 | .inr x => .str x
inductive HO where
 | lst (xs : List V)
 | tup (xs : List V)
 | dK (kvs : List (Key × V)) | dT (kvs : List (List Key × V))
 | set (S : Int → Bool) (n : Nat)
 | ins (C dx : Addr) (fs : List (Str × V))
 | own (x : Addr)
 | xd (fs : List (Str × V))
 | met (f x : Addr)
 | rng (lo hi : Int)
 | frz (o : Obj) (u : HO)
 | tbl (ps : Array Value)
 | ext (φ : Heap → Prop)
abbrev Hp := Addr → Option HO
def upd (H : Hp) (a : Addr) (o : HO) : Hp := fun b => if b = a then some o else H b
theorem Ad {H : Hp} {a : Addr} {o : HO} : upd H a o a = some o := by unfold upd; rw [if_pos rfl]
theorem upd_ne {H : Hp} {a b : Addr} {o : HO} (h : b ≠ a) : upd H a o b = H b := by unfold upd; rw [if_neg h]
theorem ne_of {H : Hp} {a b : Addr} {o u : HO} (h : H a = some o) (h' : H b = some u) (d : o ≠ u) : a ≠ b := by
 intro e; subst e; rw [h] at h'; exact d (Option.some.inj h')
theorem Ah {H : Hp} {a b : Addr} {o : HO} (h : H a = some o) (h' : H b = none) : a ≠ b := by
 intro e; subst e; rw [h] at h'; cases h'
section
variable (P : Program) (w : World)
def Cq (H : Hp) (h : Heap) (a : Addr) : HO → Prop
 | .lst xs => xs.length ≤ sizeLine ∧ ∃ (its : List Value) (n : Nat),Vals xs its ∧ h.get? a = some { cls := .type "list",data := .seq its.toArray n }
 | .tup xs => xs.length ≤ sizeLine ∧ ∃ its : List Value,Vals xs its ∧ IsTup h a its.toArray
 | .dK kvs => kvs.length ≤ sizeLine ∧ (a == sysModules) = false ∧ ∃ vs,KV kvs vs ∧ h.DictOf (Cg P w) a vs
 | .dT kvs => kvs.length ≤ sizeLine ∧ (a == sysModules) = false ∧ ∃ xs : List (List Key × Addr × Value),
  Paired (fun (p : List Key × V) (q : List Key × Addr × Value) => p.1 = q.1 ∧ H q.2.1 = some (.tup (p.1.map kV)) ∧ RelV p.2 q.2.2) kvs xs ∧
  ∃ o es ep,h.get? a = some o ∧ o.ExactDict ∧ o.data = .dict es ep ∧ es.toList = xs.map (entryOfKey (tupleKind (Cg P w))) ∧ (xs.map (·.1)).Nodup
 | .set S n => h.SetOf (intKind P w) a S n
 | .ins C dx fs => H dx = some (.own a) ∧ fs.length ≤ 1000 ∧ dx ≠ a ∧ h.get? a = some (PySem.W.instObj C dx) ∧
  ∃ mA,h.Ns1 dx mA ∧ (∀ f,RelO (fs.lookup f) (mA f)) ∧ PySem.Within mA (fs.map (·.1))
 | .own _ => ∃ o,h.get? a = some o
 | .xd fs => ∃ mA,h.Ns1 a mA ∧ ∀ f,RelO (fs.lookup f) (mA f)
 | .rng lo hi => ∃ t u v,h.get? a = some { cls := .type "range",data := .fields #[.int lo t,.int hi u,.int 1 v] }
 | .frz o u => h.get? a = some o ∧ Cq H h a u
 | .tbl ps => h.get? a = some { cls := .none,data := .fields ps }
 | .met f x => h.get? a = some (PySem.W.methodObj (.ref f) (.ref x))
 | .ext φ => φ h ∧ (∃ o,h.get? a = some o) ∧ ∀ h1 h2 : Heap,φ h1 → (∀ o,h1.get? a = some o → h2.get? a = some o) → φ h2
def HOk (H : Hp) (h : Heap) : Prop := ∀ a o,H a = some o → Cq P w H h a o
end
section
variable {P : Program} {w : World} {H H' : Hp} {h h' : Heap} {a : Addr} {o : HO}
theorem Cq.lt (x : Cq P w H h a o) : a < h.objs.size := by
 cases o with
 | lst xs => obtain ⟨_,_,_,_,e⟩ := x; exact Heap.lt_size e
 | tup xs => obtain ⟨_,_,_,p⟩ := x; exact p.lt
 | dK kvs => obtain ⟨_,_,_,_,o,_,_,e,_⟩ := x; exact Heap.lt_size e
 | dT kvs => obtain ⟨_,_,_,_,o,_,_,e,_⟩ := x; exact Heap.lt_size e
 | set S n => obtain ⟨o,_,_,_,e,_⟩ := x; exact Heap.lt_size e
 | ins C dx fs => obtain ⟨_,_,_,e,_⟩ := x; exact Heap.lt_size e
 | own y => obtain ⟨_,e⟩ := x; exact Heap.lt_size e
 | xd fs => obtain ⟨_,⟨_,_,_,e,_⟩,_⟩ := x; exact Heap.lt_size e
 | rng lo hi => obtain ⟨_,_,_,e⟩ := x; exact Heap.lt_size e
 | frz ob u => obtain ⟨e,_⟩ := x; exact Heap.lt_size e
 | tbl ps => exact Heap.lt_size (show h.get? a = some _ from x)
 | met f y => exact Heap.lt_size (show h.get? a = some _ from x)
 | ext φ => obtain ⟨_,⟨_,e⟩,_⟩ := x; exact Heap.lt_size e
theorem Paired.mapP {α β : Type} {F G : α → β → Prop} : ∀ {l₁ : List α} {l₂ : List β},Paired F l₁ l₂ → (∀ a b,F a b → G a b) → Paired G l₁ l₂
 | _,_,.nil,_ => .nil
 | _,_,.cons r t,f => .cons (f _ _ r) (Paired.mapP t f)
theorem Cq.stay (x : Cq P w H h a o) (k : ∀ b u,(b = a ∨ H b = some (.own a)) → h.get? b = some u → h'.get? b = some u)
 (ho : ∀ b,H b = some (.own a) → H' b = some (.own a)) (ht : ∀ b xs,H b = some (.tup xs) → H' b = some (.tup xs)) : Cq P w H' h' a o := by
 induction o with
 | lst xs => obtain ⟨z,its,n,r,e⟩ := x; exact ⟨z,its,n,r,k _ _ (.inl rfl) e⟩
 | tup xs => obtain ⟨z,its,r,ob,e,c⟩ := x; exact ⟨z,its,r,ob,k _ _ (.inl rfl) e,c⟩
 | dK kvs => obtain ⟨z,y,vs,r,ob,es,ep,e,c⟩ := x; exact ⟨z,y,vs,r,ob,es,ep,k _ _ (.inl rfl) e,c⟩
 | dT kvs =>
   obtain ⟨z,y,xs,r,ob,es,ep,e,c⟩ := x
   exact ⟨z,y,xs,Paired.mapP r fun p q z => ⟨z.1,ht _ _ z.2.1,z.2.2⟩,ob,es,ep,k _ _ (.inl rfl) e,c⟩
 | set S n => obtain ⟨ob,es,ep,t,e,c⟩ := x; exact ⟨ob,es,ep,t,k _ _ (.inl rfl) e,c⟩
 | ins C dx fs =>
   obtain ⟨d,z,ne,e,mA,⟨od,es,ep,e2,c⟩,r⟩ := x
   exact ⟨ho _ d,z,ne,k _ _ (.inl rfl) e,mA,⟨od,es,ep,k _ _ (.inr d) e2,c⟩,r⟩
 | own y => obtain ⟨ob,e⟩ := x; exact ⟨ob,k _ _ (.inl rfl) e⟩
 | xd fs => obtain ⟨mA,⟨od,es,ep,e,c⟩,r⟩ := x; exact ⟨mA,⟨od,es,ep,k _ _ (.inl rfl) e,c⟩,r⟩
 | rng lo hi => obtain ⟨t,u,v,e⟩ := x; exact ⟨t,u,v,k _ _ (.inl rfl) e⟩
 | frz ob u ih => obtain ⟨e,q⟩ := x; exact ⟨k _ _ (.inl rfl) e,ih q⟩
 | tbl ps =>
   have e : h.get? a = some { cls := .none,data := .fields ps } := x
   show h'.get? a = some { cls := .none,data := .fields ps }
   exact k a _ (.inl rfl) e
 | met f y =>
   have e : h.get? a = some (PySem.W.methodObj (.ref f) (.ref y)) := x
   show h'.get? a = some (PySem.W.methodObj (.ref f) (.ref y))
   exact k a _ (.inl rfl) e
 | ext φ => obtain ⟨p,⟨o,e⟩,st⟩ := x; exact ⟨st _ _ p fun o q => k _ _ (.inl rfl) q,⟨o,k _ _ (.inl rfl) e⟩,st⟩
theorem HOk.lt (x : HOk P w H h) (e : H a = some o) : a < h.objs.size := (x a o e).lt
theorem HOk.fresh (x : HOk P w H h) (e : h.objs.size ≤ a) : H a = none := by
 cases q : H a with
 | none => rfl
 | some u => exact absurd (Nat.lt_of_lt_of_le (x.lt q) e) (Nat.lt_irrefl _)
theorem HOk.kept (x : HOk P w H h) (k : ∀ b u,h.get? b = some u → h'.get? b = some u) : HOk P w H h' := fun a o e =>
 (x a o e).stay (fun b u _ q => k b u q) (fun _ q => q) fun _ _ q => q
theorem HOk.laid (x : HOk P w H h) (k : ∀ b u,h.get? b = some u → h'.get? b = some u) (hp : h.objs.size ≤ a) (new : Cq P w (upd H a o) h' a o) : HOk P w (upd H a o) h' := fun b u e => by
 have hn := x.fresh hp
 by_cases hb : b = a
 ·subst hb; rw [Ad] at e; cases e; exact new
 ·rw [upd_ne hb] at e
  exact (x b u e).stay (fun c v _ q => k c v q) (fun c q => by rw [upd_ne (Ah q hn)]; exact q) fun c xs q => by rw [upd_ne (Ah q hn)]; exact q
end
def Rd (H : Hp) (a : Addr) (u : HO) : Prop := H a = some u ∨ ∃ o,H a = some (.frz o u)
theorem Rd.ok {P : Program} {w : World} {H : Hp} {h : Heap} {a : Addr} {u : HO} (r : Rd H a u) (x : HOk P w H h) : Cq P w H h a u := by
 rcases r with r | ⟨o,r⟩
 ·exact x a u r
 ·obtain ⟨_,q⟩ := x a _ r
  exact q
def Mut : Option HO → Prop
 | some (.lst _) => True
 | some (.dK _) => True
 | some (.dT _) => True
 | some (.set _ _) => True
 | some (.ins _ _ _) => True
 | some (.ext _) => True
 | _ => False
section
variable {P : Program} {w : World} {H : Hp} {h h' : Heap} {x e : Addr} {o' : HO}
theorem HOk.write (ok : HOk P w H h) (mu : Mut (H x)) (he : e = x ∨ H e = some (.own x)) (k : ∀ b u,b ≠ e → h.get? b = some u → h'.get? b = some u) (heo : ∃ u,h'.get? e = some u)
 (new : Cq P w (upd H x o') h' x o') : HOk P w (upd H x o') h' := fun b u q => by
 have nown : ∀ c y,H c = some (.own y) → c ≠ x := fun c y r z => by subst z; rw [r] at mu; exact mu
 have ntup : ∀ c xs,H c = some (.tup xs) → c ≠ x := fun c xs r z => by subst z; rw [r] at mu; exact mu
 by_cases hb : b = x
 ·subst hb; rw [Ad] at q; cases q; exact new
 ·rw [upd_ne hb] at q
  by_cases hbe : b = e
  ·have q' : H b = some (.own x) := by
      rcases he with z | z
      ·exact absurd (hbe.trans z) hb
      ·rw [hbe]; exact z
   rw [q] at q'; cases q'
   obtain ⟨v,hv⟩ := heo
   exact ⟨v,by rw [hbe]; exact hv⟩
  ·refine (ok b u q).stay (fun c v hc r => k c v ?_ r) (fun c r => by rw [upd_ne (nown c b r)]; exact r) fun c xs r => by rw [upd_ne (ntup c xs r)]; exact r
   rcases hc with rfl | hc
   ·exact hbe
   ·rintro rfl
    rcases he with z | z
    ·exact nown c b hc z
    ·rw [hc] at z; cases z; exact hb rfl
end
structure Un (fs ex : List Addr) (H H' : Hp) (h h' : Heap) : Prop where
 keep : ∀ b o,h.get? b = some o → H b = none → b ∉ fs → b ∉ ex → h'.get? b = some o
 slot : ∀ b o,h.get? b = some o → H b = none → b ∈ fs → b ∉ ex → ∃ sl,h'.get? b = some { o with slots := sl }
 free : ∀ b o,h.get? b = some o → H b = none → b ∉ ex → H' b = none
 there : ∀ b o,h.get? b = some o → b ∉ ex → ∃ o',h'.get? b = some o'
 tups : ∀ b xs,H b = some (.tup xs) → H' b = some (.tup xs)
 frzs : ∀ b o u,H b = some (.frz o u) → H' b = some (.frz o u)
 tbls : ∀ b ps,H b = some (.tbl ps) → ∃ more,H' b = some (.tbl (ps ++ more))
section
variable {fs fs' ex ex' : List Addr} {H H1 H2 : Hp} {h h1 h2 h' : Heap} {a x e : Addr} {o : HO}
theorem Un.any (u : Un fs ex H H1 h h1) {b : Addr} {ob : Obj} (q : h.get? b = some ob) (n : H b = none) (hx : b ∉ ex) : ∃ sl,h1.get? b = some { ob with slots := sl } := by
 by_cases hb : b ∈ fs
 ·exact u.slot b ob q n hb hx
 ·exact ⟨ob.slots,u.keep b ob q n hb hx⟩
theorem Un.kept (k : ∀ b u,h.get? b = some u → h'.get? b = some u) : Un fs ex H H h h' :=
 ⟨fun b ob q _ _ _ => k b ob q,fun b ob q _ _ _ => ⟨ob.slots,k b ob q⟩,fun _ _ _ n _ => n,fun b ob q _ => ⟨ob,k b ob q⟩,fun _ _ q => q,fun _ _ _ q => q,fun _ ps q => ⟨#[],by rw [q]; simp⟩⟩
theorem Un.refl : Un fs ex H H h h := Un.kept fun _ _ q => q
theorem Un.laid (k : ∀ b u,h.get? b = some u → h'.get? b = some u) (hp : h.objs.size ≤ a) (hn : H a = none) : Un fs ex H (upd H a o) h h' where
 keep := fun b u q _ _ _ => k b u q
 slot := fun b u q _ _ _ => ⟨u.slots,k b u q⟩
 free := fun b u q n _ => by rw [upd_ne (Nat.ne_of_lt (Nat.lt_of_lt_of_le (Heap.lt_size q) hp))]; exact n
 there := fun b u q _ => ⟨u,k b u q⟩
 tups := fun b xs q => by rw [upd_ne (Ah q hn)]; exact q
 frzs := fun b u xs q => by rw [upd_ne (Ah q hn)]; exact q
 tbls := fun b ps q => ⟨#[],by rw [upd_ne (Ah q hn),q]; simp⟩
theorem Un.write (mu : Mut (H x)) (he : e = x ∨ H e = some (.own x)) (k : ∀ b u,b ≠ e → h.get? b = some u → h'.get? b = some u) (heo : ∃ u,h'.get? e = some u) : Un fs ex H (upd H x o) h h' := by
 have hx : ∀ b,H b = none → b ≠ x := fun b n z => by subst z; rw [n] at mu; exact mu
 have hb : ∀ b,H b = none → b ≠ e := fun b n z => by
  subst z
  rcases he with r | r
  ·exact hx b n r
  ·rw [n] at r; cases r
 have hm : ∀ b u,H b = some u → ¬ Mut (some u) → b ≠ x := fun b u q nm z => by subst z; rw [q] at mu; exact nm mu
 refine ⟨fun b u q n _ _ => k b u (hb b n) q,fun b u q n _ _ => ⟨u.slots,k b u (hb b n) q⟩,fun b u q n _ => by rw [upd_ne (hx b n)]; exact n,fun b u q _ => ?_,
  fun b xs q => by rw [upd_ne (hm b _ q fun z => z)]; exact q,fun b u xs q => by rw [upd_ne (hm b _ q fun z => z)]; exact q,fun b ps q => ⟨#[],by rw [upd_ne (hm b _ q fun z => z),q]; simp⟩⟩
 by_cases hbe : b = e
 ·subst hbe; exact heo
 ·exact ⟨u,k b u hbe q⟩
end
def trk (h : Heap) (H : Hp) : List Addr := (List.range h.objs.size).filter fun a => (H a).isSome
def hidT (h : Heap) (H : Hp) : Heap := PySem.W.hideAll h (trk h H)
theorem hidT_size (h : Heap) (H : Hp) : (hidT h H).objs.size = h.objs.size := PySem.W.hideAll_size _ _
theorem hidT_get {h : Heap} {H : Hp} {b : Addr} {o : Obj} (e : h.get? b = some o) (n : H b = none) : (hidT h H).get? b = some o :=
 PySem.W.hideAll_get _ e fun hm => by
  have q : (H b).isSome = true := (List.mem_filter.mp hm).2
  rw [n] at q; simp at q
theorem of_hidT {h : Heap} {H : Hp} {b : Addr} {o : Obj} (e : (hidT h H).get? b = some o) : h.get? b = some o ∧ H b = none := by
 have e' : h.get? b = some o := PySem.W.of_hideAll (trk h H) e
 refine ⟨e',?_⟩
 cases q : H b with
 | none => rfl
 | some x =>
   have hm : b ∈ trk h H := List.mem_filter.mpr ⟨List.mem_range.mpr (Heap.lt_size e'),by simp [q]⟩
   have z : (hidT h H).get? b = none := PySem.W.hideAll_none (trk h H) hm
   rw [z] at e; cases e
def allNews (g h : Heap) (L : Addr) : List (Addr × Obj) := (List.range h.objs.size).filterMap fun a => if a = L ∨ (g.get? a).isSome = true then none else (h.get? a).map fun o => (a,o)
def rest (g h : Heap) (L d : Addr) : List (Addr × Obj) := (allNews g h L).filter fun p => decide (p.1 ≠ d)
end L2
namespace L2
open PySem PySem.Spec PyProof.Rows
structure Mod (K : PySem.W.Frag) (mg : Str → Option Value) (base : Heap) : Prop where
 kin : K.In base
 glob : base.Ns mainGlobals mg
 blt : ∃ mb,base.Ns builtinsNs mb ∧ ∀ x : Str,x ≠ "__name__" → mb x = bootBuiltins x
 nolimit : base.NoLimit
structure Cx where
 prog : Program
 w : World
 K : PySem.W.Frag
 mg : Str → Option Value
 base : Heap
 A : Around
 N : List Str
 s₀ : Shared
 H₀ : Hp
 env : Env
 outer : List Env
 stack : List Env
 ex : List Addr
 fn : Str → Bool
 calm : Bool
 pn : List (Addr × Obj)
 xe : Value → Shared → Prop
def frs (l : List Env) : List Addr := l.filterMap (·.frame)
abbrev Cx.fs (X : Cx) : List Addr := frs X.outer
def Vis (sc : Scope) (x : Str) : Prop := sc.names.lookup x = some .local ∨ sc.names.lookup x = some .cell ∨ sc.names.lookup x = some .free
def Loc (sc : Scope) (x : Str) : Prop := sc.names.lookup x = some .local ∨ sc.names.lookup x = some .cell
def Look (env : Env) (h : Heap) (m : Str → Option Value) (x : Str) (u : Value) : Prop :=
 (env.kindOf x = some .local ∧ m x = some u) ∨ ((env.kindOf x = some .cell ∨ env.kindOf x = some .free) ∧ ∃ c,env.cells.lookup x = some c ∧ h.IsCell c (some u))
structure Cx.Ok (X : Cx) : Prop where
 mod : Mod X.K X.mg X.base
 kind : X.env.scope.kind = .function
 glob : X.env.globals = mainGlobals
 blt : X.env.builtins = builtinsNs
 above : X.s₀.heap.objs.size ≤ X.env.locals
 inj : ∀ x y c,X.env.cells.lookup x = some c → X.env.cells.lookup y = some c → x = y
 has : ∀ x,(X.env.kindOf x = some .cell ∨ X.env.kindOf x = some .free) → ∃ c,X.env.cells.lookup x = some c
 cab : ∀ x c,X.fn x = true → X.env.cells.lookup x = some c → X.s₀.heap.objs.size ≤ c
 hd : X.calm = true → X.A.handled = none
 frames : X.A.frames = some X.stack
 stk : X.stack = X.outer ∨ (X.stack = X.env :: X.outer ∧ X.env.frame = some X.env.locals)
 exf : ∀ b ∈ X.ex,b ≠ X.env.locals ∧ ∀ x c,X.env.cells.lookup x = some c → c ≠ b
 bs : ∀ b o,X.base.get? b = some o → X.s₀.heap.get? b = some o ∧ X.H₀ b = none
 bsz : X.base.objs.size ≤ X.s₀.heap.objs.size
 noex : ∀ b o,X.base.get? b = some o → b ∉ X.ex
 exfs : ∀ b ∈ X.ex,b ∉ X.fs
 funs : X.s₀.heap.FunFrames X.base X.outer
 frf : ∀ b ∈ X.fs,X.H₀ b = none
structure Inv (X : Cx) (pins : List (Addr × Obj)) (σ : List (Option V)) (H : Hp) (s : Shared) : Prop where
 ok : X.Ok
 os : s.os = X.s₀.os
 bare : AllBare s.gens
 base : Un X.fs X.ex X.H₀ H X.s₀.heap s.heap
 loc : ∃ m,s.heap.Ns X.env.locals m ∧ ∀ (i : Nat) (x : Str) (v : V),X.N[i]? = some x → σ[i]? = some (some v) → Vis X.env.scope x → ∃ u,RelV v u ∧ Look X.env s.heap m x u
 cell : ∀ x c,X.env.cells.lookup x = some c → ∃ v,s.heap.IsCell c v
 free : H X.env.locals = none
 freeC : ∀ x c,X.env.cells.lookup x = some c → H c = none
 pin : ∀ p ∈ X.pn ++ pins,s.heap.get? p.1 = some p.2 ∧ H p.1 = none ∧ p.1 ≠ X.env.locals ∧ p.1 ∉ X.fs ∧ ∀ v,p.2.data ≠ .cell v
 hok : HOk X.prog X.w H s.heap
 len : σ.length = X.N.length
section
variable {X : Cx} {pins : List (Addr × Obj)} {σ : List (Option V)} {H H' : Hp} {s : Shared} {h' : Heap}
theorem Cx.Ok.nofr (ok : X.Ok) {b : Addr} {o : Obj} (e : X.base.get? b = some o) : b ∉ X.fs := fun hb => by
 have := (ok.funs.mem hb).1
 rw [e] at this; cases this
theorem Inv.bs (I : Inv X pins σ H s) : ∀ b o,X.base.get? b = some o → s.heap.get? b = some o ∧ H b = none := fun b o e =>
 ⟨I.base.keep b o (I.ok.bs b o e).1 (I.ok.bs b o e).2 (I.ok.nofr e) (I.ok.noex b o e),I.base.free b o (I.ok.bs b o e).1 (I.ok.bs b o e).2 (I.ok.noex b o e)⟩
theorem Inv.bk (I : Inv X pins σ H s) : ∀ b o,X.base.get? b = some o → s.heap.get? b = some o := fun b o e => (I.bs b o e).1
theorem Inv.mod (I : Inv X pins σ H s) : Mod X.K X.mg X.base := I.ok.mod
theorem Inv.kIn (I : Inv X pins σ H s) : X.K.In s.heap := I.ok.mod.kin.keeps I.bk
theorem Inv.lt (I : Inv X pins σ H s) : X.env.locals < s.heap.objs.size := let ⟨_,hn,_⟩ := I.loc; hn.lt
theorem Inv.sz (I : Inv X pins σ H s) : X.s₀.heap.objs.size ≤ s.heap.objs.size := Nat.le_trans I.ok.above (Nat.le_of_lt I.lt)
theorem Inv.nofs (I : Inv X pins σ H s) {a : Addr} (h : s.heap.objs.size ≤ a) : a ∉ X.fs := fun hb => by
 obtain ⟨_,o,ho,_⟩ := I.ok.funs.mem hb
 exact absurd (Nat.lt_of_lt_of_le (Heap.lt_size ho) (Nat.le_trans I.sz h)) (Nat.lt_irrefl _)
theorem Inv.cne (I : Inv X pins σ H s) : ∀ x c,X.env.cells.lookup x = some c → c ≠ X.env.locals := fun x c e z => by
 obtain ⟨v,o,ho,hd⟩ := I.cell x c e
 obtain ⟨m,⟨o',es,ep,ho',hd',_⟩,_⟩ := I.loc
 rw [z,ho'] at ho; cases ho; rw [hd'] at hd; cases hd
theorem Inv.funs (I : Inv X pins σ H s) : s.heap.FunFrames X.base X.outer := by
 have all : ∀ (l : List Env),(∀ b ∈ frs l,b ∈ X.fs) → X.s₀.heap.FunFrames X.base l → s.heap.FunFrames X.base l := by
  intro l
  induction l with
  | nil => intro _ _; trivial
  | cons env r ih =>
    intro hs hl
    obtain ⟨hk,⟨L,o,hf,hn,ho,hd⟩,hr⟩ := hl
    have hL : L ∈ X.fs := hs L (by unfold frs; rw [List.filterMap_cons,hf]; exact List.mem_cons_self)
    obtain ⟨sl,e⟩ := I.base.slot L o ho (I.ok.frf L hL) hL fun z => I.ok.exfs L z hL
    exact ⟨hk,⟨L,_,hf,hn,e,hd⟩,ih (fun b hb => hs b (by unfold frs; rw [List.filterMap_cons,hf]; exact List.mem_cons_of_mem _ hb)) hr⟩
 exact all X.outer (fun _ hb => hb) I.ok.funs
theorem Inv.stack (I : Inv X pins σ H s) : s.heap.FunFrames X.base X.stack := by
 rcases I.ok.stk with e | ⟨e,hf⟩
 ·rw [e]; exact I.funs
 ·rw [e]
  obtain ⟨m,hn,_⟩ := I.loc
  refine .cons (by rw [I.ok.kind]; decide) hf hn ?_ I.funs
  exact Heap.get?_none_of_le (Nat.le_trans I.ok.bsz I.ok.above)
theorem Inv.stkSub (I : Inv X pins σ H s) : ∀ b ∈ frs X.stack,b ∈ X.env.locals :: X.fs := fun b hb => by
 rcases I.ok.stk with e | ⟨e,hf⟩
 ·rw [e] at hb; exact List.mem_cons_of_mem _ hb
 ·rw [e] at hb
  unfold frs at hb
  rw [List.filterMap_cons,hf] at hb
  exact hb
theorem Inv.stkFree (I : Inv X pins σ H s) : ∀ b ∈ frs X.stack,H b = none := fun b hb => by
 rcases List.mem_cons.mp (I.stkSub b hb) with e | hb
 ·rw [e]; exact I.free
 ·obtain ⟨_,o,ho,_⟩ := I.ok.funs.mem hb
  exact I.base.free b o ho (I.ok.frf b hb) fun z => I.ok.exfs b z hb
theorem Inv.step {g' : Array GenState} {t' : Nat} {d' : Drawn} {ch : List Addr} (I : Inv X pins σ H s)
 (hch : ∀ b ∈ ch,(b ∈ X.ex ∨ X.s₀.heap.objs.size ≤ b) ∧ b ≠ X.env.locals ∧ (∀ x c,X.env.cells.lookup x = some c → c ≠ b) ∧ ∀ p ∈ X.pn ++ pins,p.1 ≠ b)
 (keep : ∀ b o,b ≠ X.env.locals → b ∉ X.fs → b ∉ ch → s.heap.get? b = some o → H b = none → h'.get? b = some o)
 (slot : ∀ b o,b ≠ X.env.locals → b ∈ X.fs → b ∉ ch → s.heap.get? b = some o → H b = none → ∃ sl,h'.get? b = some { o with slots := sl }) (free : ∀ b o,b ∉ ch → s.heap.get? b = some o → H b = none → H' b = none)
 (there : ∀ b o,b ∉ ch → s.heap.get? b = some o → ∃ o',h'.get? b = some o')
 (tups : ∀ b xs,H b = some (.tup xs) → H' b = some (.tup xs)) (frzs : ∀ b o u,H b = some (.frz o u) → H' b = some (.frz o u)) (tbls : ∀ b ps,H b = some (.tbl ps) → ∃ more,H' b = some (.tbl (ps ++ more)))
 (ns : ∀ m,s.heap.Ns X.env.locals m → h'.Ns X.env.locals m) (hok : HOk X.prog X.w H' h') (hg : AllBare g') :
 Inv X pins σ H' { s with heap := h',gens := g',drawn := d',toks := t' } := by
 have neL : ∀ b o,X.s₀.heap.get? b = some o → b ≠ X.env.locals := fun b o e => Nat.ne_of_lt (Nat.lt_of_lt_of_le (Heap.lt_size e) I.ok.above)
 have neC : ∀ b o,X.s₀.heap.get? b = some o → b ∉ X.ex → b ∉ ch := fun b o e hx hb => by
  rcases (hch b hb).1 with z | z
  ·exact hx z
  ·exact absurd (Nat.lt_of_lt_of_le (Heap.lt_size e) z) (Nat.lt_irrefl _)
 have cellK : ∀ x c,X.env.cells.lookup x = some c → ∀ v,s.heap.IsCell c v → h'.IsCell c v := fun x c e v ⟨o,ho,hd⟩ => by
  have nch : c ∉ ch := fun z => (hch c z).2.2.1 x c e rfl
  by_cases hc : c ∈ X.fs
  ·obtain ⟨sl,q⟩ := slot c o (I.cne x c e) hc nch ho (I.freeC x c e)
   exact ⟨_,q,hd⟩
  ·exact ⟨o,keep c o (I.cne x c e) hc nch ho (I.freeC x c e),hd⟩
 refine ⟨I.ok,I.os,hg,⟨fun b o e n hb hx => ?_,fun b o e n hb hx => ?_,fun b o e n hx => ?_,fun b o e hx => ?_,fun b xs e => tups b xs (I.base.tups b xs e),fun b o xs e => frzs b o xs (I.base.frzs b o xs e),fun b ps e => ?_⟩,?_,fun x c e => ?_,?_,fun x c e => ?_,fun p hp => ?_,hok,I.len⟩
 ·exact keep b o (neL b o e) hb (neC b o e hx) (I.base.keep b o e n hb hx) (I.base.free b o e n hx)
 ·obtain ⟨sl,e1⟩ := I.base.slot b o e n hb hx
  obtain ⟨sl',e2⟩ := slot b _ (neL b o e) hb (neC b o e hx) e1 (I.base.free b o e n hx)
  exact ⟨sl',e2⟩
 ·obtain ⟨o',e1⟩ := I.base.there b o e hx
  exact free b o' (neC b o e hx) e1 (I.base.free b o e n hx)
 ·obtain ⟨o',e1⟩ := I.base.there b o e hx
  exact there b o' (neC b o e hx) e1
 ·obtain ⟨m1,e1⟩ := I.base.tbls b ps e
  obtain ⟨m2,e2⟩ := tbls b _ e1
  exact ⟨m1 ++ m2,by rw [e2,Array.append_assoc]⟩
 ·obtain ⟨m,hn,hl⟩ := I.loc
  refine ⟨m,ns m hn,fun i x v e1 e2 e3 => ?_⟩
  obtain ⟨u,r,l⟩ := hl i x v e1 e2 e3
  refine ⟨u,r,?_⟩
  rcases l with l | ⟨k,c,e,z⟩
  ·exact .inl l
  ·exact .inr ⟨k,c,e,cellK x c e _ z⟩
 ·obtain ⟨v,z⟩ := I.cell x c e
  exact ⟨v,cellK x c e v z⟩
 ·obtain ⟨m,⟨o,_,_,ho,_⟩,_⟩ := I.loc
  exact free _ o (fun z => (hch _ z).2.1 rfl) ho I.free
 ·obtain ⟨v,o,ho,hd⟩ := I.cell x c e
  exact free c o (fun z => (hch c z).2.2.1 x c e rfl) ho (I.freeC x c e)
 ·obtain ⟨e,n,ne,nf,d⟩ := I.pin p hp
  have nch : p.1 ∉ ch := fun z => (hch p.1 z).2.2.2 p hp rfl
  exact ⟨keep p.1 p.2 ne nf nch e n,free p.1 p.2 nch e n,ne,nf,d⟩
theorem Inv.un {t' : Nat} (I : Inv X pins σ H s) (u : Un X.fs [] H H' s.heap h') (hok : HOk X.prog X.w H' h') : Inv X pins σ H' { s with heap := h',toks := t' } := by
 obtain ⟨m,⟨o,es,ep,ho,r⟩,_⟩ := id I.loc
 obtain ⟨sl,hL⟩ := u.any ho I.free (by simp)
 exact I.step (g' := s.gens) (d' := s.drawn) (ch := []) (fun _ z => nomatch z) (fun b o _ hb _ e n => u.keep b o e n hb (by simp)) (fun b o _ hb _ e n => u.slot b o e n hb (by simp)) (fun b o _ e n => u.free b o e n (by simp)) (fun b o _ e => u.there b o e (by simp)) u.tups u.frzs u.tbls (fun m' hm => by
  obtain ⟨o',es',ep',ho',r'⟩ := hm
  rw [ho] at ho'; cases ho'
  exact ⟨_,es',ep',hL,r'⟩) hok I.bare
theorem Inv.call {g' : Array GenState} {t' : Nat} {d' : Drawn} {ch : List Addr} (I : Inv X pins σ H s) (u : Un (frs X.stack) ch H H' s.heap h') (hok : HOk X.prog X.w H' h') (hg : AllBare g')
 (hch : ∀ b ∈ ch,(b ∈ X.ex ∨ X.s₀.heap.objs.size ≤ b) ∧ b ≠ X.env.locals ∧ (∀ x c,X.env.cells.lookup x = some c → c ≠ b) ∧ ∀ p ∈ X.pn ++ pins,p.1 ≠ b) :
 Inv X pins σ H' { s with heap := h',gens := g',drawn := d',toks := t' } := by
 obtain ⟨m,⟨o,es,ep,ho,r⟩,_⟩ := id I.loc
 obtain ⟨sl,hL⟩ := u.any ho I.free fun z => (hch _ z).2.1 rfl
 exact I.step (ch := ch) hch (fun b o hL hb hc e n => u.keep b o e n (fun z => (List.mem_cons.mp (I.stkSub b z)).elim hL hb) hc) (fun b o _ _ hc e n => u.any e n hc) (fun b o hc e n => u.free b o e n hc) (fun b o hc e => u.there b o e hc) u.tups u.frzs u.tbls (fun m' hm => by
  obtain ⟨o',es',ep',ho',r'⟩ := hm
  rw [ho] at ho'; cases ho'
  exact ⟨_,es',ep',hL,r'⟩) hok hg
theorem Inv.turned {t' : Nat} {it : Addr} (I : Inv X pins σ H s) (k : ∀ b o,b ≠ it → s.heap.get? b = some o → h'.get? b = some o) (hn : H it = none) (hL : it ≠ X.env.locals)
 (h1 : it ∈ X.ex ∨ X.s₀.heap.objs.size ≤ it) (h2 : ∀ x c,X.env.cells.lookup x = some c → c ≠ it) (h3 : ∀ p ∈ X.pn ++ pins,p.1 ≠ it) : Inv X pins σ H { s with heap := h',toks := t' } := by
 have nit : ∀ b u,H b = some u → b ≠ it := fun b u e z => by rw [z,hn] at e; cases e
 refine I.step (g' := s.gens) (d' := s.drawn) (ch := [it]) (fun b hb => ?_) (fun b o _ _ hc e _ => k b o (fun z => hc (by simp [z])) e) (fun b o _ _ hc e _ => ⟨o.slots,k b o (fun z => hc (by simp [z])) e⟩) (fun _ _ _ _ n => n)
  (fun b o hc e => ⟨o,k b o (fun z => hc (by simp [z])) e⟩) (fun _ _ e => e) (fun _ _ _ e => e) (fun b ps e => ⟨#[],by rw [e]; simp⟩) (fun m hm => ?_) (fun b u e => ?_) I.bare
 ·have e : b = it := by simpa using hb
  subst e
  exact ⟨h1,hL,h2,h3⟩
 ·obtain ⟨o,es,ep,ho,r⟩ := hm
  exact ⟨o,es,ep,k _ o (Ne.symm hL) ho,r⟩
 ·refine (I.hok b u e).stay (fun c v hc q => k c v ?_ q) (fun _ q => q) fun _ _ q => q
  rcases hc with z | z
  ·rw [z]; exact nit b u e
  ·exact nit c _ z
theorem Inv.tok (I : Inv X pins σ H s) (t : Nat) : Inv X pins σ H { s with toks := t } := I.un (h' := s.heap) (t' := t) Un.refl I.hok
theorem Inv.kept {t' : Nat} (I : Inv X pins σ H s) (k : ∀ b u,s.heap.get? b = some u → h'.get? b = some u) : Inv X pins σ H { s with heap := h',toks := t' } := I.un (Un.kept k) (I.hok.kept k)
theorem Inv.laid {a : Addr} {o : HO} {t' : Nat} (I : Inv X pins σ H s) (k : ∀ b u,s.heap.get? b = some u → h'.get? b = some u) (hp : s.heap.objs.size ≤ a) (new : Cq X.prog X.w (upd H a o) h' a o) :
 Inv X pins σ (upd H a o) { s with heap := h',toks := t' } := I.un (Un.laid k hp (I.hok.fresh hp)) (I.hok.laid k hp new)
theorem Inv.write {x e : Addr} {o : HO} {t' : Nat} (I : Inv X pins σ H s) (mu : Mut (H x)) (he : e = x ∨ H e = some (.own x)) (k : ∀ b u,b ≠ e → s.heap.get? b = some u → h'.get? b = some u) (heo : ∃ u,h'.get? e = some u)
 (new : Cq X.prog X.w (upd H x o) h' x o) : Inv X pins σ (upd H x o) { s with heap := h',toks := t' } := I.un (Un.write mu he k heo) (I.hok.write mu he k heo new)
theorem Inv.pins_of {pins' : List (Addr × Obj)} (I : Inv X pins σ H s) (h : ∀ p ∈ pins',s.heap.get? p.1 = some p.2 ∧ H p.1 = none ∧ p.1 ≠ X.env.locals ∧ p.1 ∉ X.fs ∧ ∀ v,p.2.data ≠ .cell v) : Inv X pins' σ H s :=
 ⟨I.ok,I.os,I.bare,I.base,I.loc,I.cell,I.free,I.freeC,fun p hp => (List.mem_append.mp hp).elim (fun z => I.pin p (List.mem_append_left _ z)) (h p),I.hok,I.len⟩
theorem nodup_ix {N : List Str} (hN : N.Nodup) {i j : Nat} {x : Str} (a : N[i]? = some x) (b : N[j]? = some x) : i = j := by
 obtain ⟨h1,e1⟩ := List.getElem?_eq_some_iff.mp a
 obtain ⟨h2,e2⟩ := List.getElem?_eq_some_iff.mp b
 exact (List.getElem_inj hN).mp (e1.trans e2.symm)
theorem store_ok2 {M : Model} {A : Around} {E : Value → Shared → Prop} {i : Nat} {x : Str} {v : V} {u : Value} {Q : Unit → Shared → Prop} (I : Inv X pins σ H s) (hN : X.N.Nodup) (hi : X.N[i]? = some x) (hx : Loc X.env.scope x) (r : RelV v u)
 (h : ∀ s',Inv X pins (σ.set i (some v)) H s' → (∃ a,Heap.SameBut a s.heap s'.heap ∧ (a = X.env.locals ∨ X.env.cells.lookup x = some a)) → Q () s') (hf : X.fn x = true ∨ X.env.scope.names.lookup x = some .local := by first | exact .inl rfl | exact .inr rfl | assumption) : wpAny M A (storeName X.env x u) Q E s := by
 obtain ⟨m,hn,hl⟩ := id I.loc
 have hcls : (X.env.scope.kind == .class || (X.env.scope.kind == .module && X.env.locals != X.env.globals)) = false := by rw [I.ok.kind]; rfl
 have hiσ : i < σ.length := by rw [I.len]; exact (List.getElem?_eq_some_iff.mp hi).1
 have cne := I.cne
 have tracked : ∀ {a : Addr} {h' : Heap},(∃ o,s.heap.get? a = some o ∧ H a = none) → Heap.SameBut a s.heap h' → HOk X.prog X.w H h' := fun {a h'} ha hs b ob e => by
  obtain ⟨_,_,hfree⟩ := ha
  refine (I.hok b ob e).stay (fun c w' hc q => (hs.2 c ?_).trans q) (fun _ q => q) fun _ _ q => q
  rintro rfl
  rcases hc with rfl | hc
  ·rw [hfree] at e; cases e
  ·rw [hfree] at hc; cases hc
 rcases hx with hk | hk
 ·refine wpAny_storeName_local hk hn (fun h' hn' hs => ?_) hcls
  obtain ⟨oL,_,_,hoL,_⟩ := id hn
  refine h _ ⟨I.ok,I.os,I.bare,⟨fun b o e n hb hx => ?_,fun b o e n hb hx => ?_,I.base.free,fun b o e hx => ?_,I.base.tups,I.base.frzs,I.base.tbls⟩,⟨_,hn',fun j y v' e1 e2 e3 => ?_⟩,fun y c e => ?_,I.free,I.freeC,fun p hp => ?_,tracked ⟨oL,hoL,I.free⟩ hs,by simpa using I.len⟩ ⟨_,hs,.inl rfl⟩
  ·exact (hs.2 b (Nat.ne_of_lt (Nat.lt_of_lt_of_le (Heap.lt_size e) I.ok.above))).trans (I.base.keep b o e n hb hx)
  ·obtain ⟨sl,e1⟩ := I.base.slot b o e n hb hx
   exact ⟨sl,(hs.2 b (Nat.ne_of_lt (Nat.lt_of_lt_of_le (Heap.lt_size e) I.ok.above))).trans e1⟩
  ·obtain ⟨o',e1⟩ := I.base.there b o e hx
   exact ⟨o',(hs.2 b (Nat.ne_of_lt (Nat.lt_of_lt_of_le (Heap.lt_size e) I.ok.above))).trans e1⟩
  ·by_cases hj : j = i
   ·subst hj
    rw [hi] at e1; cases e1
    rw [List.getElem?_set_self hiσ] at e2
    cases e2
    exact ⟨u,r,.inl ⟨hk,by simp⟩⟩
   ·rw [List.getElem?_set_ne (Ne.symm hj)] at e2
    obtain ⟨u',r',q⟩ := hl j y v' e1 e2 e3
    refine ⟨u',r',?_⟩
    rcases q with ⟨k,e⟩ | ⟨k,c,e,z⟩
    ·refine .inl ⟨k,?_⟩
     have : y ≠ x := fun e => hj (nodup_ix hN e1 (e ▸ hi))
     simp [this,e]
    ·exact .inr ⟨k,c,e,z.sameBut hs (cne y c e)⟩
  ·obtain ⟨w',z⟩ := I.cell y c e
   exact ⟨w',z.sameBut hs (cne y c e)⟩
  ·obtain ⟨e,n,ne,nf,d⟩ := I.pin p hp
   exact ⟨(hs.2 p.1 ne).trans e,n,ne,nf,d⟩
 ·have hfn : X.fn x = true := by
   rcases hf with z | z
   ·exact z
   ·rw [z] at hk; cases hk
  obtain ⟨c,hc⟩ := I.ok.has x (.inl hk)
  obtain ⟨w',z⟩ := I.cell x c hc
  refine wpAny_storeName_cell I.ok.kind hk hc z (fun h' hc' hs => ?_)
  obtain ⟨oc,hoc,hocd⟩ := id z
  refine h { s with heap := h' } ⟨I.ok,I.os,I.bare,⟨fun b o e n hb hx => ?_,fun b o e n hb hx => ?_,I.base.free,fun b o e hx => ?_,I.base.tups,I.base.frzs,I.base.tbls⟩,⟨m,hn.sameBut hs (Ne.symm (cne x c hc)),fun j y v' e1 e2 e3 => ?_⟩,fun y c' e => ?_,I.free,I.freeC,fun p hp => ?_,tracked ⟨oc,hoc,I.freeC x c hc⟩ hs,by simpa using I.len⟩ ⟨c,hs,.inr hc⟩
  ·exact (hs.2 b (Nat.ne_of_lt (Nat.lt_of_lt_of_le (Heap.lt_size e) (I.ok.cab x c hfn hc)))).trans (I.base.keep b o e n hb hx)
  ·obtain ⟨sl,e1⟩ := I.base.slot b o e n hb hx
   exact ⟨sl,(hs.2 b (Nat.ne_of_lt (Nat.lt_of_lt_of_le (Heap.lt_size e) (I.ok.cab x c hfn hc)))).trans e1⟩
  ·obtain ⟨o',e1⟩ := I.base.there b o e hx
   exact ⟨o',(hs.2 b (Nat.ne_of_lt (Nat.lt_of_lt_of_le (Heap.lt_size e) (I.ok.cab x c hfn hc)))).trans e1⟩
  ·by_cases hj : j = i
   ·subst hj
    rw [hi] at e1; cases e1
    rw [List.getElem?_set_self hiσ] at e2
    cases e2
    exact ⟨u,r,.inr ⟨.inl hk,c,hc,hc'⟩⟩
   ·rw [List.getElem?_set_ne (Ne.symm hj)] at e2
    obtain ⟨u',r',q⟩ := hl j y v' e1 e2 e3
    refine ⟨u',r',?_⟩
    rcases q with q | ⟨k,c',e,z'⟩
    ·exact .inl q
    ·refine .inr ⟨k,c',e,z'.sameBut hs ?_⟩
     rintro rfl
     exact hj (nodup_ix hN e1 (I.ok.inj _ _ _ e hc ▸ hi))
  ·by_cases hcc : c' = c
   ·subst hcc; exact ⟨_,hc'⟩
   ·obtain ⟨w2,z2⟩ := I.cell y c' e
    exact ⟨w2,z2.sameBut hs hcc⟩
  ·obtain ⟨e,n,ne,nf,d⟩ := I.pin p hp
   refine ⟨(hs.2 p.1 ?_).trans e,n,ne,nf,d⟩
   intro q
   rw [q,hoc] at e
   have q' : oc = p.2 := Option.some.inj e
   exact d w' (by rw [← q']; exact hocd)
theorem store_ok {M : Model} {A : Around} {E : Value → Shared → Prop} {i : Nat} {x : Str} {v : V} {u : Value} {Q : Unit → Shared → Prop} (I : Inv X pins σ H s) (hN : X.N.Nodup) (hi : X.N[i]? = some x) (hx : Loc X.env.scope x) (r : RelV v u)
 (h : ∀ s',Inv X pins (σ.set i (some v)) H s' → Q () s') (hf : X.fn x = true ∨ X.env.scope.names.lookup x = some .local := by first | exact .inl rfl | exact .inr rfl | assumption) : wpAny M A (storeName X.env x u) Q E s :=
 store_ok2 I hN hi hx r (fun s' I' _ => h s' I') hf
theorem Inv.call' {s' : Shared} {ch : List Addr} (I : Inv X pins σ H s) (ho : s'.os = s.os) (u : Un (frs X.stack) ch H H' s.heap s'.heap) (hok : HOk X.prog X.w H' s'.heap) (hg : AllBare s'.gens)
 (hch : ∀ b ∈ ch,(b ∈ X.ex ∨ X.s₀.heap.objs.size ≤ b) ∧ b ≠ X.env.locals ∧ (∀ x c,X.env.cells.lookup x = some c → c ≠ b) ∧ ∀ p ∈ X.pn ++ pins,p.1 ≠ b) : Inv X pins σ H' s' := by
 obtain ⟨h',g',d',t',o'⟩ := s'
 have e : o' = s.os := ho
 subst e
 exact I.call (g' := g') (t' := t') (d' := d') u hok hg hch
end
abbrev XK := Value → Option Addr → Hp → Prop
abbrev St := List (Option V)
abbrev VK := V → Hp → Prop
abbrev TE := St → Hp → VK → Prop
abbrev TT := St → Hp → (Bool → Hp → Prop) → Prop
abbrev TA := St → Hp → (List V → Hp → Prop) → Prop
structure Ends where
 nx : St → Hp → Prop
 rt : VK
 bk : St → Hp → Prop := fun _ _ => False
 ct : St → Hp → Prop := fun _ _ => False
abbrev TS := Ends → St → Hp → Prop
def EP (X : Cx) (pins : List (Addr × Obj)) (σ : St) (Q : VK) (u : Value) (s' : Shared) : Prop := ∃ v H',Inv X pins σ H' s' ∧ RelV v u ∧ Q v H'
def TP (X : Cx) (pins : List (Addr × Obj)) (σ : St) (Q : Bool → Hp → Prop) (b : Bool) (s' : Shared) : Prop := ∃ H',Inv X pins σ H' s' ∧ Q b H'
def AP (X : Cx) (pins : List (Addr × Obj)) (σ : St) (Q : List V → Hp → Prop) (us : List Value) (s' : Shared) : Prop := ∃ vs H',Inv X pins σ H' s' ∧ Vals vs us ∧ Q vs H'
def SP (X : Cx) (pins : List (Addr × Obj)) (D : Ends) (f : Flow) (s' : Shared) : Prop :=
 match f with
 | .next => ∃ σ' H',Inv X pins σ' H' s' ∧ D.nx σ' H'
 | .brk => ∃ σ' H',Inv X pins σ' H' s' ∧ D.bk σ' H'
 | .cont => ∃ σ' H',Inv X pins σ' H' s' ∧ D.ct σ' H'
 | .ret u => ∃ v σ' H',Inv X pins σ' H' s' ∧ RelV v u ∧ D.rt v H'
def PE (X : Cx) (e : Expr) (t : TE) : Prop :=
 ∀ (pins : List (Addr × Obj)) (s : Shared) (σ : St) (H : Hp) (Q : VK),Inv X pins σ H s → t σ H Q → wpAny (model X.prog X.w) X.A (eval e X.env) (EP X pins σ Q) X.xe s
def PT (X : Cx) (e : Expr) (t : TT) : Prop :=
 ∀ (pins : List (Addr × Obj)) (s : Shared) (σ : St) (H : Hp) (Q : Bool → Hp → Prop),Inv X pins σ H s → t σ H Q → wpAny (model X.prog X.w) X.A (isTrue e X.env (eval e X.env)) (TP X pins σ Q) X.xe s
def PW (X : Cx) (e : Expr) (t : TT) : Prop :=
 ∀ (whole : Sem Value) (pins : List (Addr × Obj)) (s : Shared) (σ : St) (H : Hp) (Q : Bool → Hp → Prop),Inv X pins σ H s → t σ H Q → wpAny (model X.prog X.w) X.A (isTrue e X.env whole) (TP X pins σ Q) X.xe s
theorem PW.pt {X : Cx} {e : Expr} {t : TT} (h : PW X e t) : PT X e t := h _
def PA (X : Cx) (es : List Expr) (t : TA) : Prop :=
 ∀ (pos : Pos) (pins : List (Addr × Obj)) (s : Shared) (σ : St) (H : Hp) (Q : List V → Hp → Prop),Inv X pins σ H s → t σ H Q → wpAny (model X.prog X.w) X.A (spliced (backTo pos (starEach es X.env))) (AP X pins σ Q) X.xe s
def PS (X : Cx) (st : Stmt) (t : TS) : Prop :=
 ∀ (pins : List (Addr × Obj)) (s : Shared) (σ : St) (H : Hp) (D : Ends),Inv X pins σ H s → t D σ H → wpAny (model X.prog X.w) X.A (exec st X.env) (SP X pins D) X.xe s
def PSs (X : Cx) (st : List Stmt) (t : TS) : Prop :=
 ∀ (pins : List (Addr × Obj)) (s : Shared) (σ : St) (H : Hp) (D : Ends),Inv X pins σ H s → t D σ H → wpAny (model X.prog X.w) X.A (execs st X.env) (SP X pins D) X.xe s
theorem thn {α : Type} {t : Sem α} {Q Q' : α → Shared → Prop} {M : Model} {A : Around} {E : Value → Shared → Prop} {s : Shared} (h : wpAny M A t Q E s) (hQ : ∀ a s,Q a s → Q' a s) : wpAny M A t Q' E s := wpAny_mono h hQ fun _ _ x => x
end L2
namespace L2
open PySem PySem.Spec PyProof.Rows
section
variable {X : Cx}
def tVar (i : Nat) : TE := fun σ H Q => ∃ v,σ[i]? = some (some v) ∧ Q v H
def tC (v : V) : TE := fun _ H Q => Q v H
theorem pe_var {i : Nat} {x : Str} {pos : Pos} (hN : X.N[i]? = some x) (hv : Vis X.env.scope x) (hd : (x == ("__debug__" : Str)) = false := by decide) (hcd : (x == ("__classdict__" : Str)) = false := by decide) : PE X (.Name x pos) (tVar i) := by
 intro pins s σ H Q I h
 obtain ⟨v,e,h⟩ := h
 obtain ⟨m,hn,hl⟩ := I.loc
 obtain ⟨u,r,l⟩ := hl i x v hN e hv
 have fin : EP X pins σ Q u s := ⟨v,H,I,r,h⟩
 rcases l with ⟨hk,hm⟩ | ⟨hk,c,hc,hcell⟩
 ·exact wpAny_Name (wpAny_loadName_local I.ok.kind hk hn hm fin) hd
 ·rcases hk with hk | hk
  ·exact wpAny_Name (wpAny_loadName_cell I.ok.kind hk hc hcell fin) hd
  ·exact wpAny_Name (wpAny_loadName_free I.ok.kind hk hc hcell fin hcd) hd
theorem Af {i j pos} : PE X (.Constant (.int i) j pos) (tC (.int i)) := fun _ _ _ H _ I h => wpAny_Constant_int ⟨.int i,H,I.tok _,⟨_,rfl⟩,h⟩
theorem pe_bl {b j pos} : PE X (.Constant (.bool b) j pos) (tC (.bl b)) := fun _ _ _ H _ I h => Constant_bool ⟨.bl b,H,I,rfl,h⟩
theorem pe_non {j pos} : PE X (.Constant .none j pos) (tC .non) := fun _ _ _ H _ I h => Constant_none ⟨.non,H,I,rfl,h⟩
theorem Av {x j pos} : PE X (.Constant (.str x) j pos) (tC (.str x)) := fun _ _ _ H _ I h => Calls.Constant_str ⟨.str x,H,I.tok _,⟨_,rfl⟩,h⟩
def Gl (X : Cx) (x : Str) : Prop := X.env.kindOf x = some .globalImplicit
theorem ld_glob {E : Value → Shared → Prop} {pins : List (Addr × Obj)} {s : Shared} {σ : St} {H : Hp} {x : Str} {u : Value} {pos : Pos} {Q : Value → Shared → Prop} (I : Inv X pins σ H s) (hg : Gl X x) (hm : X.mg x = some u) (h : Q u s)
 (hd : (x == ("__debug__" : Str)) = false := by decide) : wpAny (model X.prog X.w) X.A (eval (.Name x pos) X.env) Q E s :=
 Calls.Name_function_global I.ok.kind hg (Calls.loadGlobal_global (by rw [I.ok.glob]; exact I.mod.glob.keeps I.bk) hm h) hd
theorem ld_blt {E : Value → Shared → Prop} {pins : List (Addr × Obj)} {s : Shared} {σ : St} {H : Hp} {x : Str} {u : Value} {pos : Pos} {Q : Value → Shared → Prop} (I : Inv X pins σ H s) (hg : Gl X x) (hm : X.mg x = none) (hv : bootBuiltins x = some u) (h : Q u s)
 (hn : x ≠ "__name__" := by decide) (hd : (x == ("__debug__" : Str)) = false := by decide) : wpAny (model X.prog X.w) X.A (eval (.Name x pos) X.env) Q E s := by
 obtain ⟨mb,h1,h2⟩ := I.mod.blt
 exact Calls.Name_function_global I.ok.kind hg (Calls.loadGlobal_builtin (by rw [I.ok.glob]; exact I.mod.glob.keeps I.bk) hm (by rw [I.ok.blt]; exact h1.keeps I.bk) ((h2 x hn).trans hv) h) hd
theorem pe_glob {x : Str} {v : V} {u : Value} {pos : Pos} (hg : Gl X x) (hm : X.mg x = some u) (r : RelV v u) (hd : (x == ("__debug__" : Str)) = false := by decide) : PE X (.Name x pos) (tC v) :=
 fun _ _ _ H _ I h => ld_glob I hg hm ⟨v,H,I,r,h⟩ hd
theorem Bx {x : Str} {v : V} {u : Value} {pos : Pos} (hg : Gl X x) (hm : X.mg x = none) (hv : bootBuiltins x = some u) (r : RelV v u) (hn : x ≠ "__name__" := by decide) (hd : (x == ("__debug__" : Str)) = false := by decide) : PE X (.Name x pos) (tC v) :=
 fun _ _ _ H _ I h => ld_blt I hg hm hv ⟨v,H,I,r,h⟩ hn hd
variable {a b : Expr} {ta tb : TE} {pos : Pos}
def PC (X : Cx) (op : CmpOp) (a b : Expr) (t : TE) : Prop :=
 ∀ (pins : List (Addr × Obj)) (s : Shared) (σ : St) (H : Hp) (Q : VK),Inv X pins σ H s → t σ H Q →
  wpAny (model X.prog X.w) X.A (eval a X.env) (fun v s₁ => wpAny (model X.prog X.w) X.A (eval b X.env) (fun u s₂ => wpAny (model X.prog X.w) X.A (compareOp op v u) (EP X pins σ Q) X.xe s₂) X.xe s₁) X.xe s
theorem nobehind (b : Expr) {op : CmpOp} (h : op ≠ .In) (h2 : op ≠ .NotIn) : behindInMarks op b = false := by
 have e1 : (op == CmpOp.In) = false := by cases op <;> first | rfl | exact absurd rfl h
 have e2 : (op == CmpOp.NotIn) = false := by cases op <;> first | rfl | exact absurd rfl h2
 cases b <;> simp [behindInMarks,e1,e2]
def tIsN (ta : TE) : TE := fun σ H Q => ta σ H fun x H1 => Q (.bl (decide (x = .non))) H1
def tNotN (ta : TE) : TE := fun σ H Q => ta σ H fun x H1 => Q (.bl (!decide (x = .non))) H1
theorem RelV.none_iff {x : V} {v : Value} (r : RelV x v) : (v == Value.none) = decide (x = .non) := by
 cases x with
 | non => cases r; rfl
 | bl _ => cases r; rfl
 | int _ => obtain ⟨t,rfl⟩ := r; rfl
 | str _ => obtain ⟨t,rfl⟩ := r; rfl
 | byt _ => obtain ⟨t,rfl⟩ := r; rfl
 | flt _ => obtain ⟨t,rfl⟩ := r; rfl
 | ref _ => cases r; rfl
 | ty _ => cases r; rfl
theorem pc_isN {j pos'} (ha : PE X a ta) : PC X .Is a (.Constant .none j pos') (tIsN ta) := by
 intro pins s σ H Q I h
 refine thn (ha pins s σ H _ I h) fun v s1 ⟨x,H1,I1,r1,q1⟩ => ?_
 exact Constant_none (is_none_gen ⟨.bl _,H1,I1,by rw [r1.none_iff]; rfl,q1⟩)
theorem pc_notN {j pos'} (ha : PE X a ta) : PC X .IsNot a (.Constant .none j pos') (tNotN ta) := by
 intro pins s σ H Q I h
 refine thn (ha pins s σ H _ I h) fun v s1 ⟨x,H1,I1,r1,q1⟩ => ?_
 exact Constant_none (isnot_none_gen ⟨.bl _,H1,I1,by rw [r1.none_iff]; rfl,q1⟩)
def tB (t : TE) : TT := fun σ H Q => t σ H fun x H1 => ∃ c,x = .bl c ∧ Q c H1
theorem pe_cmp {op : CmpOp} {t : TE} (h : PC X op a b t) (h1 : behindInMarks op b = false := by first | exact nobehind _ (by decide) (by decide) | rfl) : PE X (.Compare a [op] [b] pos) t := fun pins s σ H Q I hw => wpAny_Compare1 (h pins s σ H Q I hw) h1
theorem pt_cmp {op : CmpOp} {t : TE} (h : PC X op a b t) (h1 : behindInMarks op b = false := by first | exact nobehind _ (by decide) (by decide) | rfl) : PT X (.Compare a [op] [b] pos) (tB t) := by
 intro pins s σ H Q I hw
 refine wpAny_isTrue_Compare1 (thn (h pins s σ H _ I hw) fun v s1 h1 => thn h1 fun u s2 h2 => thn h2 fun c s3 ⟨x,H1,I1,r1,q1⟩ => ?_) h1
 obtain ⟨d,rfl,q⟩ := q1
 cases r1
 exact wpAny_truthy_bool ⟨H1,I1,q⟩
theorem A8 {e : Expr} {t : TE} (h : PE X e t) (he : ∀ whole,isTrue e X.env whole = (do let v ← whole; standAt e.pos; holding [v] (truthy v)) := by intro _; rfl) : PT X e (tB t) := by
 intro pins s σ H Q I hw
 refine isTrue_plain (thn (h pins s σ H _ I hw) fun v s1 ⟨x,H1,I1,r1,q1⟩ => ?_) (he _)
 obtain ⟨d,rfl,q⟩ := q1
 cases r1
 exact wpAny_truthy_bool ⟨H1,I1,q⟩
variable {tA tB' : TT} {rest : List Expr}
def tAnd (t u : TT) : TT := fun σ H Q => t σ H fun c H1 => if c = true then u σ H1 Q else Q false H1
def tOr (t u : TT) : TT := fun σ H Q => t σ H fun c H1 => if c = true then Q true H1 else u σ H1 Q
def tNot (t : TT) : TT := fun σ H Q => t σ H fun c H1 => Q (!c) H1
theorem pw_and1 (ha : PT X a tA) : PW X (.BoolOp .And [a] pos) tA := by
 intro wh pins s σ H Q I h
 refine isTrue_and (thn (ha pins s σ H Q I h) fun c s1 e => ?_)
 cases c with
 | true => exact isTrue_and_nil e
 | false => exact e
theorem Ej (ha : PT X a tA) : PW X (.BoolOp .Or [a] pos) tA := by
 intro wh pins s σ H Q I h
 refine isTrue_or (thn (ha pins s σ H Q I h) fun c s1 e => ?_)
 cases c with
 | false => exact isTrue_or_nil e
 | true => exact e
theorem pw_and (ha : PT X a tA) (hb : PW X (.BoolOp .And (b :: rest) pos) tB') : PW X (.BoolOp .And (a :: b :: rest) pos) (tAnd tA tB') := by
 intro wh pins s σ H Q I h
 refine isTrue_and (thn (ha pins s σ H _ I h) fun c s1 ⟨H1,I1,q1⟩ => ?_)
 cases c with
 | true => exact hb wh pins s1 σ H1 Q I1 q1
 | false => exact ⟨H1,I1,q1⟩
theorem pw_or (ha : PT X a tA) (hb : PW X (.BoolOp .Or (b :: rest) pos) tB') : PW X (.BoolOp .Or (a :: b :: rest) pos) (tOr tA tB') := by
 intro wh pins s σ H Q I h
 refine isTrue_or (thn (ha pins s σ H _ I h) fun c s1 ⟨H1,I1,q1⟩ => ?_)
 cases c with
 | true => exact ⟨H1,I1,q1⟩
 | false => exact hb wh pins s1 σ H1 Q I1 q1
theorem A9 (ha : PT X a tA) : PT X (.UnaryOp .Not a pos) (tNot tA) := by
 intro pins s σ H Q I h
 exact isTrue_not (ha pins s σ H (fun c H1 => Q (!c) H1) I h)
def tAndV (ta tb : TE) : TE := fun σ H Q => ta σ H fun x H1 => ∃ c,x = .bl c ∧ if c = true then tb σ H1 Q else Q (.bl false) H1
def tOrV (ta tb : TE) : TE := fun σ H Q => ta σ H fun x H1 => ∃ c,x = .bl c ∧ if c = true then Q (.bl true) H1 else tb σ H1 Q
def tNotV (ta : TE) : TE := fun σ H Q => ta σ H fun x H1 => ∃ c,x = .bl c ∧ Q (.bl (!c)) H1
theorem Ex {op} {t : TE} (h : PE X a t) : PE X (.BoolOp op [a] pos) t := fun pins s σ H Q I hw => BoolOp_one (h pins s σ H Q I hw)
theorem Dl (ha : PE X a ta) (hb : PE X (.BoolOp .And (b :: rest) pos) tb) : PE X (.BoolOp .And (a :: b :: rest) pos) (tAndV ta tb) := by
 intro pins s σ H Q I h
 refine BoolOp_and (thn (ha pins s σ H _ I h) fun v s1 ⟨x,H1,I1,r1,q1⟩ => ?_)
 obtain ⟨c,rfl,q1⟩ := q1
 cases r1
 refine wpAny_truthy_bool ?_
 cases c with
 | true => exact hb pins s1 σ H1 Q I1 q1
 | false => exact ⟨.bl false,H1,I1,rfl,q1⟩
theorem pe_or (ha : PE X a ta) (hb : PE X (.BoolOp .Or (b :: rest) pos) tb) : PE X (.BoolOp .Or (a :: b :: rest) pos) (tOrV ta tb) := by
 intro pins s σ H Q I h
 refine BoolOp_or (thn (ha pins s σ H _ I h) fun v s1 ⟨x,H1,I1,r1,q1⟩ => ?_)
 obtain ⟨c,rfl,q1⟩ := q1
 cases r1
 refine wpAny_truthy_bool ?_
 cases c with
 | false => exact hb pins s1 σ H1 Q I1 q1
 | true => exact ⟨.bl true,H1,I1,rfl,q1⟩
theorem pe_not (ha : PE X a ta) : PE X (.UnaryOp .Not a pos) (tNotV ta) := by
 intro pins s σ H Q I h
 refine UnaryOp_ (thn (ha pins s σ H _ I h) fun v s1 ⟨x,H1,I1,r1,q1⟩ => ?_)
 obtain ⟨c,rfl,q1⟩ := q1
 cases r1
 exact not_of (wpAny_truthy_bool ⟨.bl (!c),H1,I1,rfl,q1⟩)
def tIf (t : TT) (ta tb : TE) : TE := fun σ H Q => t σ H fun c H1 => if c = true then ta σ H1 Q else tb σ H1 Q
theorem pe_ifExp {c : Expr} (hc : PT X c tA) (ha : PE X a ta) (hb : PE X b tb) : PE X (.IfExp c a b pos) (tIf tA ta tb) := by
 intro pins s σ H Q I h
 refine wpAny_IfExp (thn (hc pins s σ H _ I h) fun d s1 ⟨H1,I1,q1⟩ => ?_)
 cases d with
 | true => exact ha pins s1 σ H1 Q I1 q1
 | false => exact hb pins s1 σ H1 Q I1 q1
end
end L2
namespace L2
open PySem PySem.Spec PyProof.Rows
def SqL (K : PySem.W.Frag) (H : Hp) (a : Addr) (xs : List V) : Prop :=
 Rd H a (.lst xs) ∨
  ∃ (o : Obj) (its : Array Value) (n : Nat),K.lookup a = some o ∧ o.cls = .type "list" ∧ o.dict = none ∧ o.data = .seq its n ∧ its.size ≤ sizeLine ∧ Vals xs its.toList
def SqT (K : PySem.W.Frag) (H : Hp) (a : Addr) (xs : List V) : Prop :=
 Rd H a (.tup xs) ∨
  ∃ (o : Obj) (its : Array Value) (n : Nat),K.lookup a = some o ∧ o.cls = .type "tuple" ∧ o.data = .seq its n ∧ its.size ≤ sizeLine ∧ Vals xs its.toList
def absV : Value → Option V
 | .none => some .non
 | .bool b => some (.bl b)
 | .int i _ => some (.int i)
 | .str x _ => some (.str x)
 | .bytes b _ => some (.byt b)
 | .float b _ => some (.flt b)
 | .ref a => some (.ref a)
 | .type n => some (.ty n)
 | _ => none
theorem RelV.abs {x : V} {u : Value} (r : RelV x u) : absV u = some x := by
 cases x with
 | non => cases r; rfl
 | bl _ => cases r; rfl
 | int _ => obtain ⟨t,rfl⟩ := r; rfl
 | str _ => obtain ⟨t,rfl⟩ := r; rfl
 | byt _ => obtain ⟨t,rfl⟩ := r; rfl
 | flt _ => obtain ⟨t,rfl⟩ := r; rfl
 | ref _ => cases r; rfl
 | ty _ => cases r; rfl
theorem RelV.inj {x y : V} {u : Value} (r : RelV x u) (q : RelV y u) : x = y := Option.some.inj (r.abs.symm.trans q.abs)
theorem Vals.inj : ∀ {xs ys : List V} {us : List Value},Vals xs us → Vals ys us → xs = ys
 | _,_,_,.nil,.nil => rfl
 | _,_,_,.cons r t,.cons r' t' => by rw [r.inj r',Vals.inj t t']
section
variable {X : Cx} {pins : List (Addr × Obj)} {σ : St} {H : Hp} {s : Shared} {a : Addr} {xs ys : List V}
theorem SqL.of {K : PySem.W.Frag} (h : H a = some (.lst xs)) : SqL K H a xs := .inl (.inl h)
theorem SqT.of {K : PySem.W.Frag} (h : H a = some (.tup xs)) : SqT K H a xs := .inl (.inl h)
theorem Inv.list (I : Inv X pins σ H s) (h : SqL X.K H a xs) : ∃ its : List Value,Vals xs its ∧ PlainL s.heap a its.toArray ∧ xs.length ≤ sizeLine := by
 rcases h with h | ⟨o,its,n,hk,hc,hd,hs,hz,r⟩
 ·obtain ⟨z,its,n,r,e⟩ := h.ok I.hok
  exact ⟨its,r,⟨_,n,e,rfl,rfl,rfl⟩,z⟩
 ·refine ⟨its.toList,r,⟨o,n,I.kIn a o hk,hc,hd,by simpa using hs⟩,?_⟩
  have e := r.length
  simp only [Array.length_toList] at e
  omega
theorem Inv.tuple (I : Inv X pins σ H s) (h : SqT X.K H a xs) : ∃ its : List Value,Vals xs its ∧ IsTup s.heap a its.toArray ∧ xs.length ≤ sizeLine := by
 rcases h with h | ⟨o,its,n,hk,hc,hs,hz,r⟩
 ·obtain ⟨z,its,r,p⟩ := h.ok I.hok
  exact ⟨its,r,p,z⟩
 ·refine ⟨its.toList,r,⟨o,I.kIn a o hk,hc,n,by simpa using hs⟩,?_⟩
  have e := r.length
  simp only [Array.length_toList] at e
  omega
theorem Inv.list_inj (I : Inv X pins σ H s) (h : SqL X.K H a xs) (h' : SqL X.K H a ys) : xs = ys := by
 obtain ⟨its,r,⟨o,n,e,_,_,d⟩,_⟩ := I.list h
 obtain ⟨its',r',⟨o',n',e',_,_,d'⟩,_⟩ := I.list h'
 rw [e] at e'; cases e'
 rw [d] at d'
 injection d' with d1 _
 have : its = its' := by simpa using congrArg Array.toList d1
 subst this
 exact r.inj r'
theorem Inv.tuple_inj (I : Inv X pins σ H s) (h : SqT X.K H a xs) (h' : SqT X.K H a ys) : xs = ys := by
 obtain ⟨its,r,⟨o,e,_,n,d⟩,_⟩ := I.tuple h
 obtain ⟨its',r',⟨o',e',_,n',d'⟩,_⟩ := I.tuple h'
 rw [e] at e'; cases e'
 rw [d] at d'
 injection d' with d1 _
 have : its = its' := by simpa using congrArg Array.toList d1
 subst this
 exact r.inj r'
end
abbrev Cx.wish (X : Cx) (E : Value → Shared → Prop) : Cx := { X with xe := E }
abbrev Cx.nox (X : Cx) : Cx := X.wish fun _ _ => False
theorem Cx.Ok.wish {X : Cx} (ok : X.Ok) (E : Value → Shared → Prop) : (X.wish E).Ok :=
 ⟨ok.mod,ok.kind,ok.glob,ok.blt,ok.above,ok.inj,ok.has,ok.cab,ok.hd,ok.frames,ok.stk,ok.exf,ok.bs,ok.bsz,ok.noex,ok.exfs,ok.funs,ok.frf⟩
theorem Cx.Ok.unwish {X : Cx} {E : Value → Shared → Prop} (ok : (X.wish E).Ok) : X.Ok :=
 ⟨ok.mod,ok.kind,ok.glob,ok.blt,ok.above,ok.inj,ok.has,ok.cab,ok.hd,ok.frames,ok.stk,ok.exf,ok.bs,ok.bsz,ok.noex,ok.exfs,ok.funs,ok.frf⟩
section
variable {X : Cx} {pins : List (Addr × Obj)} {σ : St} {H : Hp} {s : Shared} {E : Value → Shared → Prop}
theorem Inv.wish (I : Inv X pins σ H s) (E : Value → Shared → Prop) : Inv (X.wish E) pins σ H s := ⟨I.ok.wish E,I.os,I.bare,I.base,I.loc,I.cell,I.free,I.freeC,I.pin,I.hok,I.len⟩
theorem Inv.unwish (I : Inv (X.wish E) pins σ H s) : Inv X pins σ H s := ⟨I.ok.unwish,I.os,I.bare,I.base,I.loc,I.cell,I.free,I.freeC,I.pin,I.hok,I.len⟩
theorem SP.unwish {D : Ends} {f : Flow} {s' : Shared} (h : SP (X.wish E) pins D f s') : SP X pins D f s' := by
 cases f with
 | next => obtain ⟨σ',H',I,q⟩ := h; exact ⟨σ',H',I.unwish,q⟩
 | brk => obtain ⟨σ',H',I,q⟩ := h; exact ⟨σ',H',I.unwish,q⟩
 | cont => obtain ⟨σ',H',I,q⟩ := h; exact ⟨σ',H',I.unwish,q⟩
 | ret u => obtain ⟨v,σ',H',I,r,q⟩ := h; exact ⟨v,σ',H',I.unwish,r,q⟩
theorem PSs.nox {st : List Stmt} {t : TS} (h : PSs X.nox st t) : PSs X st t := fun pins s σ H D I hw =>
 wpAny_mono (h pins s σ H D (I.wish _) hw) (fun _ _ q => q.unwish) fun _ _ z => False.elim z
end
section
variable {X : Cx} {st : Stmt} {rest : List Stmt} {t u : TS} {e : Expr} {te : TE} {pos : Pos}
def tNext : TS := fun D σ H => D.nx σ H
def tSeq (t u : TS) : TS := fun D σ H => t { D with nx := u D } σ H
theorem Ap : PSs X [] tNext := fun _ _ σ H _ I h => wpAny_execs_nil ⟨σ,H,I,h⟩
theorem Ab (h1 : PS X st t) (h2 : PSs X rest u) : PSs X (st :: rest) (tSeq t u) := by
 intro pins s σ H D I h
 refine wpAny_execs_cons (thn (h1 pins s σ H { D with nx := u D } I h) fun f s1 q => ?_)
 cases f with
 | next =>
   obtain ⟨σ',H',I',q⟩ := q
   exact h2 pins s1 σ' H' D I' q
 | ret v => exact q
 | brk => exact q
 | cont => exact q
theorem Ae (h1 : PS X st t) : PSs X [st] t := by
 intro pins s σ H D I h
 refine wpAny_execs_cons (thn (h1 pins s σ H D I h) fun f s1 q => ?_)
 cases f with
 | next => exact wpAny_execs_nil q
 | ret v => exact q
 | brk => exact q
 | cont => exact q
theorem Inv.quiet {pins : List (Addr × Obj)} {σ : St} {H : Hp} {s : Shared} (I : Inv X pins σ H s) : interactive X.env = false := by simp [interactive,I.ok.kind]
def tDrop (te : TE) : TS := fun D σ H => te σ H fun _ H1 => D.nx σ H1
theorem A3 (he : PE X e te) (hs : swapsWith e none pos.line X.env = pure false := by rfl) : PS X (.Expr e pos) (tDrop te) := by
 intro pins s σ H D I h
 exact wpAny_Expr_any (thn (he pins s σ H _ I h) fun v s1 ⟨x,H1,I1,r1,q1⟩ => ⟨σ,H1,I1,q1⟩) I.quiet hs
def tRet (te : TE) : TS := fun D σ H => te σ H D.rt
theorem Aq (he : PE X e te) : PS X (.Return (some e) pos) (tRet te) := by
 intro pins s σ H D I h
 exact wpAny_Return_some (thn (he pins s σ H _ I h) fun v s1 ⟨x,H1,I1,r1,q1⟩ => ⟨x,σ,H1,I1,r1,q1⟩)
def tIfS (c : TT) (t u : TS) : TS := fun D σ H => c σ H fun b H1 => if b = true then t D σ H1 else u D σ H1
theorem A7 {c : Expr} {a b : List Stmt} {tc : TT} (hc : PT X c tc) (ha : PSs X a t) (hb : PSs X b u) : PS X (.If c a b pos) (tIfS tc t u) := by
 intro pins s σ H D I h
 refine wpAny_If (thn (hc pins s σ H _ I h) fun d s1 ⟨H1,I1,q1⟩ => ?_)
 cases d with
 | true => exact ha pins s1 σ H1 D I1 q1
 | false => exact hb pins s1 σ H1 D I1 q1
def tNever : TS := fun _ _ _ => False
theorem Ar : PS X st tNever := fun _ _ _ _ _ _ h => h.elim
end
abbrev TG := V → St → Hp → (St → Hp → Prop) → Prop
abbrev TGs := List V → St → Hp → (St → Hp → Prop) → Prop
def PG (X : Cx) (target : Expr) (t : TG) : Prop :=
 ∀ (pins : List (Addr × Obj)) (s : Shared) (σ : St) (H : Hp) (v : V) (u : Value) (Q : St → Hp → Prop),Inv X pins σ H s → RelV v u → t v σ H Q →
  wpAny (model X.prog X.w) X.A (assign target X.env u) (fun _ s' => ∃ σ' H',Inv X pins σ' H' s' ∧ Q σ' H') X.xe s
def PGs (X : Cx) (ts : List Expr) (t : TGs) : Prop :=
 ∀ (pins : List (Addr × Obj)) (s : Shared) (σ : St) (H : Hp) (vs : List V) (us : List Value) (Q : St → Hp → Prop),Inv X pins σ H s → Vals vs us → t vs σ H Q →
  wpAny (model X.prog X.w) X.A (assignInOrder ((assignEach ts X.env).map (·.2)) us) (fun _ s' => ∃ σ' H',Inv X pins σ' H' s' ∧ Q σ' H') X.xe s
abbrev TSet := V → V → V → Hp → (Hp → Prop) → Prop
def PSet (X : Cx) (t : TSet) : Prop :=
 ∀ (pins : List (Addr × Obj)) (s : Shared) (σ : St) (H : Hp) (o i v : V) (ov iv u : Value) (Q : Hp → Prop),Inv X pins σ H s → RelV o ov → RelV i iv → RelV v u → t o i v H Q →
  wpAny (model X.prog X.w) X.A (setItem ov iv u) (fun _ s' => ∃ H',Inv X pins σ H' s' ∧ Q H') X.xe s
section
variable {X : Cx} {pos : Pos}
def gName (i : Nat) : TG := fun v σ H Q => Q (σ.set i (some v)) H
theorem As {i : Nat} {x : Str} (hN : X.N.Nodup) (hi : X.N[i]? = some x) (hx : Loc X.env.scope x) (hf : X.fn x = true ∨ X.env.scope.names.lookup x = some .local := by first | exact .inl rfl | exact .inr rfl | assumption) : PG X (.Name x pos) (gName i) := by
 intro pins s σ H v u Q I r h
 exact wpAny_assign_Name (store_ok I hN hi hx r (fun s' I' => ⟨_,H,I',h⟩) hf)
def gNil : TGs := fun vs σ H Q => vs = [] ∧ Q σ H
def gCons (t : TG) (u : TGs) : TGs := fun vs σ H Q => ∃ v r,vs = v :: r ∧ t v σ H fun σ' H' => u r σ' H' Q
theorem pgs_nil : PGs X [] gNil := by
 intro pins s σ H vs us Q I r h
 obtain ⟨e,h⟩ := h
 subst e
 cases r
 exact assignInOrder_nil ⟨σ,H,I,h⟩
theorem A6 {e : Expr} {es : List Expr} {t : TG} {u : TGs} (h1 : PG X e t) (h2 : PGs X es u)
 (hs : (assignEach (e :: es) X.env).map (·.2) = assign e X.env :: (assignEach es X.env).map (·.2) := by rfl) : PGs X (e :: es) (gCons t u) := by
 intro pins s σ H vs us Q I r h
 obtain ⟨v,vr,e1,h⟩ := h
 subst e1
 cases r with
 | cons r rr =>
   rw [hs]
   refine assignInOrder_cons (thn (h1 pins s σ H _ _ _ I r h) fun _ s1 ⟨σ1,H1,I1,q1⟩ => ?_)
   exact h2 pins s1 σ1 H1 _ _ Q I1 rr q1
def gTup (K : PySem.W.Frag) (n : Nat) (t : TGs) : TG := fun v σ H Q => ∃ a xs,v = .ref a ∧ SqT K H a xs ∧ xs.length = n ∧ t xs σ H Q
theorem pg_tup {es : List Expr} {k : Nat} {t : TGs} {n : Nat} (hc : X.calm = true) (h : PGs X es t)
 (hn : (assignEach es X.env).length = n := by rfl) (hst : (assignEach es X.env).findIdx? (·.1) = none := by rfl) : PG X (.Tuple es k pos) (gTup X.K n t) := by
 intro pins s σ H v u Q I r hw
 obtain ⟨a,xs,e1,hq,hl,hw⟩ := hw
 subst e1
 cases r
 obtain ⟨its,rv,ht,hz⟩ := I.tuple hq
 refine assign_Tuple_tuple (I.ok.hd hc) ht (by simp [hn,← hl,rv.length]) hst fun h' hx => ?_
 have I1 : Inv X pins σ H { s with heap := h' } := I.kept (t' := s.toks) fun b o e => hx b o (Nat.ne_of_lt (Heap.lt_size e)) e
 exact h pins _ σ H xs _ Q I1 (by simpa using rv) hw
def gSub (to ti : TE) (t : TSet) : TG := fun v σ H Q => to σ H fun o H1 => ti σ H1 fun i H2 => t o i v H2 fun H3 => Q σ H3
theorem pg_sub {o i : Expr} {to ti : TE} {t : TSet} (ho : PE X o to) (hi : PE X i ti) (hs : PSet X t)
 (ha : ∀ v,assign (.Subscript o i pos) X.env v = (do
   let ov ← holding [v] (eval o X.env)
   let iv ← holding [v,ov] (eval i X.env)
   standAt pos
   holding [v,ov,iv] (setItem ov iv v)
   release [v,ov,iv] []) := by intro _; rfl) : PG X (.Subscript o i pos) (gSub to ti t) := by
 intro pins s σ H v u Q I r h
 rw [ha]
 refine wpAny_bind (wpAny_holding (thn (ho pins s σ H _ I h) fun ov s1 ⟨x,H1,I1,r1,q1⟩ => ?_))
 refine wpAny_bind (wpAny_holding (thn (hi pins s1 σ H1 _ I1 q1) fun iv s2 ⟨y,H2,I2,r2,q2⟩ => ?_))
 refine wpAny_bind (wpAny_standAt (wpAny_bind (wpAny_holding (thn (hs pins s2 σ H2 x y v ov iv u _ I2 r1 r2 r q2) fun _ s3 ⟨H3,I3,q3⟩ => ?_))))
 exact wpAny_release ⟨σ,H3,I3,q3⟩
def tAsg (te : TE) (g : TG) : TS := fun D σ H => te σ H fun x H1 => g x σ H1 D.nx
theorem ps_asg {tg e : Expr} {te : TE} {g : TG} (he : PE X e te) (hg : PG X tg g) (hs : swapsWithSole [tg] e pos.line X.env = pure false := by rfl) (hw : swappedStores [tg] e X.env = pure none := by rfl)
 (h1 : (assignEach [tg] X.env).map (·.2) = [assign tg X.env] := by rfl) : PS X (.Assign [tg] e pos) (tAsg te g) := by
 intro pins s σ H D I h
 refine wpAny_Assign_stores (thn (he pins s σ H _ I h) fun v s1 ⟨x,H1,I1,r1,q1⟩ => ?_) hs hw
 rw [h1]
 exact thn (hg pins s1 σ H1 x v _ I1 r1 q1) fun _ s2 q => q
theorem Al {i : Nat} {x : Str} {e : Expr} {te : TE} {pos' : Pos} (hN : X.N.Nodup) (hi : X.N[i]? = some x) (hx : Loc X.env.scope x) (he : PE X e te) (hs : swapsWith e (some (.Name x pos')) pos.line X.env = pure false := by rfl) (hf : X.fn x = true ∨ X.env.scope.names.lookup x = some .local := by first | exact .inl rfl | exact .inr rfl | assumption) :
 PS X (.Assign [.Name x pos'] e pos) (tAsg te (gName i)) := by
 intro pins s σ H D I h
 refine wpAny_Assign_Name (thn (he pins s σ H _ I h) fun v s1 ⟨y,H1,I1,r1,q1⟩ => ?_) hs
 exact store_ok I1 hN hi hx r1 (fun s2 I2 => ⟨_,H1,I2,q1⟩) hf
end
section
variable {X : Cx} {pos : Pos}
def tWhile (c : TT) (tb : TS) : TS := fun D σ H => ∃ W : Nat → St → Hp → Prop,(∃ m,W m σ H) ∧ ∀ m σ H,W m σ H →
 c σ H fun b H1 => if b = true then ∃ N : St → Hp → Prop,(∀ σ' H',N σ' H' → ∃ m',m' < m ∧ W m' σ' H') ∧ tb { D with nx := N,ct := N,bk := D.nx } σ H1 else D.nx σ H1
theorem ps_while {c : Expr} {body : List Stmt} {tc : TT} {tb : TS} (hp : PassesOwn (model X.prog X.w) X.A X.env X.xe) (hc : PT X c tc) (hb : PSs X body tb) : PS X (.While c body [] pos) (tWhile tc tb) := by
 intro pins s σ H D I h
 obtain ⟨W,⟨m0,w0⟩,turn⟩ := h
 refine wpAny_While (codeAny_whileLoop (fun n s' => ∃ σ' H',Inv X pins σ' H' s' ∧ W n σ' H') ?_ m0 ⟨σ,H,I,w0⟩)
 rintro n s1 ⟨σ1,H1,I1,w1⟩
 refine wpAny_passesOwn hp (thn (hc pins s1 σ1 H1 _ I1 (turn n σ1 H1 w1)) fun b s2 ⟨H2,I2,q2⟩ => ?_)
 cases b with
 | true =>
   obtain ⟨N,hN,q2⟩ := q2
   rw [if_pos rfl]
   refine wpAny_passesOwn hp (thn (hb pins s2 σ1 H2 _ I2 q2) fun f s3 q3 => ?_)
   cases f with
   | next =>
     obtain ⟨σ3,H3,I3,n3⟩ := q3
     obtain ⟨m',hm,w3⟩ := hN σ3 H3 n3
     exact ⟨m',hm,σ3,H3,I3,w3⟩
   | cont =>
     obtain ⟨σ3,H3,I3,n3⟩ := q3
     obtain ⟨m',hm,w3⟩ := hN σ3 H3 n3
     exact ⟨m',hm,σ3,H3,I3,w3⟩
   | brk => exact q3
   | ret v => exact q3
 | false =>
   rw [if_neg Bool.false_ne_true]
   exact wpAny_execs_nil ⟨σ1,H2,I2,q2⟩
end
structure It where
 go : Nat → Hp → Prop
 yld : Nat → Hp → V → Hp → Prop
 stop : Nat → Hp → Prop
def FpOk (X : Cx) (pins : List (Addr × Obj)) (H : Hp) (b : Addr) : Prop :=
 H b = none ∧ b ≠ X.env.locals ∧ b ∉ X.fs ∧ (b ∈ X.ex ∨ X.s₀.heap.objs.size ≤ b) ∧ (∀ x c,X.env.cells.lookup x = some c → c ≠ b) ∧ ∀ p ∈ X.pn ++ pins,p.1 ≠ b
theorem Inv.fpOk {X : Cx} {pins : List (Addr × Obj)} {σ : St} {H H' : Hp} {s : Shared} {b : Addr} (I : Inv X pins σ H s) (hb : s.heap.objs.size ≤ b) (hn : H' b = none) : FpOk X pins H' b := by
 refine ⟨hn,Nat.ne_of_gt (Nat.lt_of_lt_of_le I.lt hb),I.nofs hb,.inr (Nat.le_trans I.sz hb),fun x c e z => ?_,fun p hp z => ?_⟩
 ·obtain ⟨v,q⟩ := I.cell x c e
  exact absurd (Nat.lt_of_lt_of_le q.lt (by rw [z]; exact hb)) (Nat.lt_irrefl _)
 ·exact absurd (Nat.lt_of_lt_of_le (Heap.lt_size (I.pin p hp).1) (by rw [z]; exact hb)) (Nat.lt_irrefl _)
structure Turn (P : Program) (w : World) (K : PySem.W.Frag) (tg : Expr) (J : It) (fp : List Addr) (it : Addr) (tn : Nat → Heap → Prop) : Prop where
 mem : it ∈ fp
 obj : ∀ i h,tn i h → ∀ b ∈ fp,∃ o,h.get? b = some o ∧ ∀ v,o.data ≠ .cell v
 keep : ∀ i h h',tn i h → (∀ b ∈ fp,∀ o,h.get? b = some o → h'.get? b = some o) → tn i h'
 item : ∀ (X : Cx),X.prog = P → X.w = w → X.K = K → X.calm = true → ∀ (i : Nat) (pins : List (Addr × Obj)) (s : Shared) (σ : St) (H : Hp) (E : Value → Shared → Prop),Inv X pins σ H s → (∀ b ∈ fp,FpOk X pins H b) → tn i s.heap → J.go i H →
  wpAny (model P w) X.A (pyNext (.ref it)) (fun r s1 => ∃ u,r = some u ∧
   wpAny (model P w) X.A (letOwnedTupleGo tg (.ref it) u) (fun _ s2 => ∃ x H',Inv X pins σ H' s2 ∧ RelV x u ∧ J.yld i H x H' ∧ tn (i + 1) s2.heap ∧ ∀ b ∈ fp,H' b = none) E s1) E s
 done : ∀ (X : Cx),X.prog = P → X.w = w → X.K = K → X.calm = true → ∀ (i : Nat) (pins : List (Addr × Obj)) (s : Shared) (σ : St) (H : Hp) (E : Value → Shared → Prop),Inv X pins σ H s → (∀ b ∈ fp,FpOk X pins H b) → tn i s.heap → J.stop i H →
  wpAny (model P w) X.A (pyNext (.ref it)) (fun r s1 => r = none ∧ Inv X pins σ H s1) E s
 self : ∀ (A : Around) (i : Nat) (s : Shared) (Q : Value → Shared → Prop) (E : Value → Shared → Prop),tn i s.heap → Q (.ref it) s → wpAny (model P w) A (pyIter (.ref it)) Q E s
abbrev TI := St → Hp → (It → Hp → Prop) → Prop
def PIE (X : Cx) (pins : List (Addr × Obj)) (σ : St) (tg : Expr) (R : It → Hp → Prop) (itv : Value) (s2 : Shared) : Prop :=
 ∃ (it : Addr) (fp : List Addr) (tn : Nat → Heap → Prop) (J : It) (H' : Hp),itv = .ref it ∧ Inv X pins σ H' s2 ∧ Turn X.prog X.w X.K tg J fp it tn ∧ tn 0 s2.heap ∧ (∀ b ∈ fp,FpOk X pins H' b) ∧ R J H'
def PI (X : Cx) (tg iter : Expr) (wi : TI) : Prop :=
 ∀ (pins : List (Addr × Obj)) (s : Shared) (σ : St) (H : Hp) (R : It → Hp → Prop),Inv X pins σ H s → wi σ H R →
  wpAny (model X.prog X.w) X.A (eval iter X.env) (fun v s1 => wpAny (model X.prog X.w) X.A (pyIter v) (PIE X pins σ tg R) X.xe s1) X.xe s
theorem go_of {M : Model} {A : Around} {E : Value → Shared → Prop} {s : Shared} {tg : Expr} {it : Addr} {u : Value} {o : Obj} {n : String} {vs : Array Value} {Q : Unit → Shared → Prop} (ho : s.heap.get? it = some o) (hc : o.cls = .type n) (hd : o.data = .fields vs)
 (hn : ["enumerate","zip","dict_itemiterator","dict_reverseitemiterator","odict_iterator","itertools.zip_longest","itertools.pairwise"].contains n = false) (hQ : Q () s) : wpAny M A (letOwnedTupleGo tg (.ref it) u) Q E s := by
 unfold letOwnedTupleGo
 cases tg <;> first
  | exact wpAny_pure hQ
  | (cases u <;> first
      | exact wpAny_pure hQ
      | (refine wpAny_bind (wpAny_load ho ?_)
         rw [hc,hd]
         show wpAny M A (if (["enumerate","zip","dict_itemiterator","dict_reverseitemiterator","odict_iterator","itertools.zip_longest","itertools.pairwise"].contains n && vs[0]? == some (rawInt _)) = true then _ else _) Q E s
         rw [if_neg (by intro h; rw [hn,Bool.false_and] at h; cases h)]
         exact wpAny_pure hQ))
def Itl (K : PySem.W.Frag) (a : Addr) : It :=
 ⟨fun i H => ∃ xs x,SqL K H a xs ∧ xs[i]? = some x,fun i H x H' => H' = H ∧ ∀ xs,SqL K H a xs → xs[i]? = some x,fun i H => ∃ xs,SqL K H a xs ∧ xs.length ≤ i⟩
def Itt (K : PySem.W.Frag) (a : Addr) : It :=
 ⟨fun i H => ∃ xs x,SqT K H a xs ∧ xs[i]? = some x,fun i H x H' => H' = H ∧ ∀ xs,SqT K H a xs → xs[i]? = some x,fun i H => ∃ xs,SqT K H a xs ∧ xs.length ≤ i⟩
def Itr (lo : Int) (n : Nat) : It := ⟨fun i _ => i < n,fun i H x H' => H' = H ∧ x = .int (lo + i),fun i _ => n ≤ i⟩
theorem turn_list {P : Program} {w : World} {K : PySem.W.Frag} {tg : Expr} (a it : Addr) : Turn P w K tg (Itl K a) [it] it (fun i h => h.IsListIter it a i) where
 mem := by simp
 obj := fun i h st b hb => by
  have e : b = it := by simpa using hb
  subst e
  obtain ⟨o,e,c,d⟩ := st
  exact ⟨o,e,fun v z => by rw [d] at z; cases z⟩
 keep := fun i h h' st k => st.at fun o e => k it (by simp) o e
 item := by
  intro X hP hw hK hc i pins s σ H E I hf st hg
  subst hP hw hK
  obtain ⟨xs,x,hq,hx⟩ := hg
  obtain ⟨its,rv,p,hz⟩ := I.list hq
  obtain ⟨u,hu,ru⟩ := rv.get hx
  obtain ⟨f0,f1,f2,f3,f4,f5⟩ := hf it (by simp)
  refine wpAny_pyNext_list_item st p.isList (x := u) (by simpa using hu) fun h' st' sb => ?_
  have I1 : Inv X pins σ H { s with heap := h' } := I.turned (t' := s.toks) (fun b o hb e => (sb.2 b hb).trans e) f0 f1 f3 f4 f5
  obtain ⟨o,e,c,d⟩ := id st'
  exact ⟨u,rfl,go_of (s := { s with heap := h' }) e c d (by decide) ⟨x,H,I1,ru,⟨rfl,fun ys hy => by rw [I.list_inj hy hq]; exact hx⟩,st',fun b hb => (hf b hb).1⟩⟩
 done := by
  intro X hP hw hK hc i pins s σ H E I hf st hg
  subst hP hw hK
  obtain ⟨xs,hq,hx⟩ := hg
  obtain ⟨its,rv,p,hz⟩ := I.list hq
  obtain ⟨f0,f1,f2,f3,f4,f5⟩ := hf it (by simp)
  have hl := rv.length
  exact wpAny_pyNext_list_end (I.ok.hd hc) st p.isList (by simp; omega) fun h' eb => ⟨rfl,I.turned (t' := s.toks) (fun b o hb e => eb b o hb e) f0 f1 f3 f4 f5⟩
 self := fun _ _ _ _ _ st h => wpAny_pyIter_listiter st h
theorem turn_tuple {P : Program} {w : World} {K : PySem.W.Frag} {tg : Expr} (a it : Addr) : Turn P w K tg (Itt K a) [it] it (fun i h => h.IsTupleIter it a i) where
 mem := by simp
 obj := fun i h st b hb => by
  have e : b = it := by simpa using hb
  subst e
  obtain ⟨o,e,c,d⟩ := st
  exact ⟨o,e,fun v z => by rw [d] at z; cases z⟩
 keep := fun i h h' st k => st.at fun o e => k it (by simp) o e
 item := by
  intro X hP hw hK hc i pins s σ H E I hf st hg
  subst hP hw hK
  obtain ⟨xs,x,hq,hx⟩ := hg
  obtain ⟨its,rv,p,hz⟩ := I.tuple hq
  obtain ⟨u,hu,ru⟩ := rv.get hx
  obtain ⟨f0,f1,f2,f3,f4,f5⟩ := hf it (by simp)
  refine wpAny_pyNext_tuple_item st (show s.heap.IsTuple a its.toArray from p) (x := u) (by simpa using hu) fun h' st' sb => ?_
  have I1 : Inv X pins σ H { s with heap := h' } := I.turned (t' := s.toks) (fun b o hb e => (sb.2 b hb).trans e) f0 f1 f3 f4 f5
  obtain ⟨o,e,c,d⟩ := id st'
  exact ⟨u,rfl,go_of (s := { s with heap := h' }) e c d (by decide) ⟨x,H,I1,ru,⟨rfl,fun ys hy => by rw [I.tuple_inj hy hq]; exact hx⟩,st',fun b hb => (hf b hb).1⟩⟩
 done := by
  intro X hP hw hK hc i pins s σ H E I hf st hg
  subst hP hw hK
  obtain ⟨xs,hq,hx⟩ := hg
  obtain ⟨its,rv,p,hz⟩ := I.tuple hq
  obtain ⟨f0,f1,f2,f3,f4,f5⟩ := hf it (by simp)
  have hl := rv.length
  exact wpAny_pyNext_tuple_end (I.ok.hd hc) st (show s.heap.IsTuple a its.toArray from p) (by simp; omega) fun h' eb => ⟨rfl,I.turned (t' := s.toks) (fun b o hb e => eb b o hb e) f0 f1 f3 f4 f5⟩
 self := fun _ _ _ _ _ st h => wpAny_pyIter_tupleiter st h
theorem turn_range {P : Program} {w : World} {K : PySem.W.Frag} {tg : Expr} (it : Addr) (lo : Int) (n : Nat) : Turn P w K tg (Itr lo n) [it] it (fun i h => IsRangeIter h it (lo + (i : Nat) * 1) ((n : Int) - (i : Nat)) 1) where
 mem := by simp
 obj := fun i h st b hb => by
  have e : b = it := by simpa using hb
  subst e
  exact ⟨_,st,fun v z => by
   have z' : Data.fields _ = Data.cell v := z
   cases z'⟩
 keep := fun i h h' st k => k it (by simp) _ st
 item := by
  intro X hP hw hK hc i pins s σ H E I hf st hg
  subst hP hw hK
  obtain ⟨f0,f1,f2,f3,f4,f5⟩ := hf it (by simp)
  have W := Walks.range (prog := X.prog) (w := X.w) (I.ok.hd hc) it lo 1 n
  refine W.item i s _ _ hg st fun v h' tk hv st' kk => ?_
  obtain ⟨t,rfl⟩ := hv
  have I1 : Inv X pins σ H { s with heap := h',toks := tk } := I.turned (fun b o hb e => kk b o (by simpa using hb) e) f0 f1 f3 f4 f5
  refine ⟨_,rfl,go_of (s := { s with heap := h',toks := tk }) (n := "range_iterator") st' rfl rfl (by decide) ⟨.int (lo + i),H,I1,⟨t,?_⟩,⟨rfl,rfl⟩,st',fun b hb => (hf b hb).1⟩⟩
  rw [Int.mul_one]
 done := by
  intro X hP hw hK hc i pins s σ H E I hf st hg
  subst hP hw hK
  obtain ⟨f0,f1,f2,f3,f4,f5⟩ := hf it (by simp)
  exact wpAny_pyNext_range_end (I.ok.hd hc) st (by have : n ≤ i := hg; omega) fun h' eb => ⟨rfl,I.turned (t' := s.toks) (fun b o hb e => eb b o hb e) f0 f1 f3 f4 f5⟩
 self := fun _ _ _ _ _ st h => wpAny_pyIter_rangeiter st h
end L2
namespace L2
open PySem PySem.Spec PyProof.Rows
section
variable {X : Cx} {tg : Expr}
def iList (K : PySem.W.Frag) (tl : TE) : TI := fun σ H R => tl σ H fun x H1 => ∃ a,x = .ref a ∧ (∃ xs,SqL K H1 a xs) ∧ R (Itl K a) H1
def iTup (K : PySem.W.Frag) (tl : TE) : TI := fun σ H R => tl σ H fun x H1 => ∃ a,x = .ref a ∧ (∃ xs,SqT K H1 a xs) ∧ R (Itt K a) H1
theorem Bn {l : Expr} {tl : TE} (hl : PE X l tl) : PI X tg l (iList X.K tl) := by
 intro pins s σ H R I h
 refine thn (hl pins s σ H _ I h) fun v s1 ⟨x,H1,I1,r1,q1⟩ => ?_
 obtain ⟨a,e,⟨xs,hq⟩,q⟩ := q1
 subst e
 cases r1
 obtain ⟨its,rv,p,hz⟩ := I1.list hq
 refine wpAny_pyIter_list p.isList ?_
 refine ⟨s1.heap.objs.size,[s1.heap.objs.size],_,_,H1,rfl,I1.kept (t' := s1.toks) fun b o e => Heap.get?_push_of_some _ e,turn_list a _,⟨_,Heap.get?_push_size _ rfl,rfl,rfl⟩,fun b hb => ?_,q⟩
 have e : b = s1.heap.objs.size := by simpa using hb
 subst e
 exact I1.fpOk (Nat.le_refl _) (I1.hok.fresh (Nat.le_refl _))
theorem pi_tup {l : Expr} {tl : TE} (hl : PE X l tl) : PI X tg l (iTup X.K tl) := by
 intro pins s σ H R I h
 refine thn (hl pins s σ H _ I h) fun v s1 ⟨x,H1,I1,r1,q1⟩ => ?_
 obtain ⟨a,e,⟨xs,hq⟩,q⟩ := q1
 subst e
 cases r1
 obtain ⟨its,rv,p,hz⟩ := I1.tuple hq
 refine wpAny_pyIter_tuple (show s1.heap.IsTuple a its.toArray from p) ?_
 refine ⟨s1.heap.objs.size,[s1.heap.objs.size],_,_,H1,rfl,I1.kept (t' := s1.toks) fun b o e => Heap.get?_push_of_some _ e,turn_tuple a _,⟨_,Heap.get?_push_size _ rfl,rfl,rfl⟩,fun b hb => ?_,q⟩
 have e : b = s1.heap.objs.size := by simpa using hb
 subst e
 exact I1.fpOk (Nat.le_refl _) (I1.hok.fresh (Nat.le_refl _))
theorem range_it {pins : List (Addr × Obj)} {σ : St} {H : Hp} {s : Shared} {R : It → Hp → Prop} {E : Value → Shared → Prop} {lo hi : Int} {t u v : Tok} {tk : Nat} (I : Inv X pins σ H s) (h1 : -(2 ^ 62) ≤ lo) (h2 : lo < 2 ^ 62) (h3 : -(2 ^ 62) ≤ hi) (h4 : hi < 2 ^ 62)
 (q : R (Itr lo (hi - lo).toNat) H) : wpAny (model X.prog X.w) X.A (pyIter (.ref s.heap.objs.size)) (PIE X pins σ tg R) E { s with heap := s.heap.push { cls := .type "range",data := .fields #[.int lo t,.int hi u,.int 1 v] },toks := tk } := by
 refine wpAny_pyIter_range (IsRange.new ..) (small_one h1 h2 h3 h4) ?_
 have I1 : Inv X pins σ H { s with heap := s.heap.push { cls := .type "range",data := .fields #[.int lo t,.int hi u,.int 1 v] },toks := tk } := I.kept fun b o e => Heap.get?_push_of_some _ e
 refine ⟨(s.heap.push { cls := .type "range",data := .fields #[.int lo t,.int hi u,.int 1 v] }).objs.size,[(s.heap.push { cls := .type "range",data := .fields #[.int lo t,.int hi u,.int 1 v] }).objs.size],_,_,H,rfl,
  I1.kept (t' := tk) fun b o e => Heap.get?_push_of_some _ e,turn_range _ lo (hi - lo).toNat,?_,fun b hb => ?_,q⟩
 ·have e1 : lo + ((0 : Nat) : Int) * 1 = lo := by simp
  have e2 : (((hi - lo).toNat : Nat) : Int) - ((0 : Nat) : Int) = Builtin.Range.rangeSize lo hi 1 := by rw [rangeSize_one]; split <;> omega
  show IsRangeIter _ _ (lo + ((0 : Nat) : Int) * 1) ((((hi - lo).toNat : Nat) : Int) - ((0 : Nat) : Int)) 1
  rw [e1,e2]
  exact Heap.get?_push_size _ rfl
 ·have e : b = (s.heap.push { cls := .type "range",data := .fields #[.int lo t,.int hi u,.int 1 v] }).objs.size := by simpa using hb
  subst e
  exact I1.fpOk (Nat.le_refl _) (I1.hok.fresh (Nat.le_refl _))
def iRng1 (ta : TA) : TI := fun σ H R => ta σ H fun vs H1 => ∃ j : Int,vs = [.int j] ∧ -(2 ^ 62) ≤ j ∧ j < 2 ^ 62 ∧ R (Itr 0 j.toNat) H1
def iRng2 (ta : TA) : TI := fun σ H R => ta σ H fun vs H1 => ∃ i j : Int,vs = [.int i,.int j] ∧ (-(2 ^ 62) ≤ i ∧ i < 2 ^ 62 ∧ -(2 ^ 62) ≤ j ∧ j < 2 ^ 62) ∧ R (Itr i (j - i).toNat) H1
theorem Ew {a : Expr} {ta : TA} {p pos : Pos} (hg : Gl X "range") (hm : X.mg "range" = none) (ha : PA X [a] ta) (hs : starEach [a] X.env = [(false,eval a X.env)] := by rfl) : PI X tg (.Call (.Name "range" p) [a] [] pos) (iRng1 ta) := by
 intro pins s σ H R I h
 refine Call_ (ld_blt I hg hm boot_range (PyProof.Rows.callWith_type1 (thn (ha pos pins s σ H _ I h) fun us s1 ⟨vs,H1,I1,r1,q1⟩ => ?_) hs rfl))
 obtain ⟨j,e,q1,q2,q⟩ := q1
 subst e
 cases r1 with
 | cons r rr =>
   cases rr
   obtain ⟨t,rfl⟩ := r
   exact call_range_1 (range_it I1 (by omega) (by omega) q1 q2 (by simpa using q))
theorem pi_range2 {a b : Expr} {ta : TA} {p pos : Pos} (hg : Gl X "range") (hm : X.mg "range" = none) (ha : PA X [a,b] ta) (hs : starEach [a,b] X.env = [(false,eval a X.env),(false,eval b X.env)] := by rfl) (hs2 : starEach [b] X.env = [(false,eval b X.env)] := by rfl) :
 PI X tg (.Call (.Name "range" p) [a,b] [] pos) (iRng2 ta) := by
 intro pins s σ H R I h
 refine Call_ (ld_blt I hg hm boot_range (PyProof.Rows.callWith_type1 (thn (ha pos pins s σ H _ I h) fun us s1 ⟨vs,H1,I1,r1,q1⟩ => ?_) (by rw [hs,hs2]) (by rw [hs2]; rfl)))
 obtain ⟨i,j,e,⟨q1,q2,q3,q4⟩,q⟩ := q1
 subst e
 cases r1 with
 | cons r rr =>
   cases rr with
   | cons r' rr =>
     cases rr
     obtain ⟨t,rfl⟩ := r
     obtain ⟨t',rfl⟩ := r'
     exact call_range_2 (range_it I1 q1 q2 q3 q4 q)
def tFor (wi : TI) (g : TG) (tb : TS) : TS := fun D σ H => wi σ H fun J H1 => ∃ W : Nat → Nat → St → Hp → Prop,(∃ m,W 0 m σ H1) ∧ ∀ i m σ H,W i m σ H →
 (J.stop i H ∧ D.nx σ H) ∨ (J.go i H ∧ ∃ N : St → Hp → Prop,(∀ σ' H',N σ' H' → ∃ m',m' < m ∧ W (i + 1) m' σ' H') ∧ ∀ x H',J.yld i H x H' → g x σ H' fun σ2 H2 => tb { D with nx := N,ct := N,bk := D.nx } σ2 H2)
def pinsAt (fp : List Addr) (h : Heap) : List (Addr × Obj) := fp.filterMap fun b => (h.get? b).map fun o => (b,o)
theorem mem_pinsAt {fp : List Addr} {h : Heap} {b : Addr} {o : Obj} (hb : b ∈ fp) (e : h.get? b = some o) : (b,o) ∈ pinsAt fp h := List.mem_filterMap.mpr ⟨b,hb,by rw [e]; rfl⟩
theorem of_pinsAt {fp : List Addr} {h : Heap} {p : Addr × Obj} (hp : p ∈ pinsAt fp h) : p.1 ∈ fp ∧ h.get? p.1 = some p.2 := by
 obtain ⟨b,hb,e⟩ := List.mem_filterMap.mp hp
 cases q : h.get? b with
 | none => rw [q] at e; cases e
 | some o =>
   rw [q] at e
   have e' : (b,o) = p := Option.some.inj e
   subst e'
   exact ⟨hb,q⟩
theorem Inv.pinned {pins : List (Addr × Obj)} {σ : St} {H : Hp} {s : Shared} {fp : List Addr} (I : Inv X pins σ H s) (hf : ∀ b ∈ fp,FpOk X pins H b) (ho : ∀ b ∈ fp,∃ o,s.heap.get? b = some o ∧ ∀ v,o.data ≠ .cell v) : Inv X (pins ++ pinsAt fp s.heap) σ H s :=
 I.pins_of fun p hp => (List.mem_append.mp hp).elim (fun z => I.pin p (List.mem_append_right _ z)) fun z => by
  obtain ⟨hb,e⟩ := of_pinsAt z
  obtain ⟨f0,f1,f2,_⟩ := hf p.1 hb
  obtain ⟨o,e',d⟩ := ho p.1 hb
  rw [e] at e'; cases e'
  exact ⟨e,f0,f1,f2,d⟩
theorem Inv.unpinned {pins pl : List (Addr × Obj)} {σ : St} {H : Hp} {s : Shared} (I : Inv X (pins ++ pl) σ H s) : Inv X pins σ H s := I.pins_of fun p hp => I.pin p (List.mem_append_right _ (List.mem_append_left _ hp))
theorem Dg {iter : Expr} {body : List Stmt} {wi : TI} {g : TG} {tb : TS} {pos : Pos} (hp : PassesOwn (model X.prog X.w) X.A X.env X.xe) (hc : X.calm = true) (hi : PI X tg iter wi) (hg : PG X tg g) (hb : PSs X body tb)
 (hs : ∀ x,foldedSetIterable iter X.env x = pure x := by intro _; rfl) : PS X (.For tg iter body [] pos) (tFor wi g tb) := by
 intro pins s σ H D I h
 refine wpAny_For (thn (hi pins s σ H _ I h) fun v s1 h1 => thn h1 fun itv s2 h2 => ?_) hs
 obtain ⟨it,fp,tn,J,H2,e,I2,T,st2,f2,W,⟨m0,w0⟩,turn⟩ := h2
 subst e
 have stat : ∀ {H' : Hp},(∀ b ∈ fp,H' b = none) → ∀ b ∈ fp,FpOk X pins H' b := fun hn b hb => ⟨hn b hb,(f2 b hb).2⟩
 refine codeAny_forLoop_any (fun n s' => ∃ i σ' H',Inv X pins σ' H' s' ∧ tn i s'.heap ∧ (∀ b ∈ fp,H' b = none) ∧ W i n σ' H') ?_ m0 ⟨0,σ,H2,I2,st2,fun b hb => (f2 b hb).1,w0⟩
 rintro n s3 ⟨i,σ3,H3,I3,st3,fr3,w3⟩
 rcases turn i n σ3 H3 w3 with ⟨stop,qn⟩ | ⟨go,N,hN,step⟩
 ·refine wpAny_passesOwn hp (thn (T.done X rfl rfl rfl hc i pins s3 σ3 H3 X.xe I3 (stat fr3) st3 stop) fun r s4 ⟨hr,I4⟩ => ?_)
  subst hr
  exact wpAny_execs_nil ⟨σ3,H3,I4,qn⟩
 ·refine wpAny_passesOwn hp (thn (T.item X rfl rfl rfl hc i pins s3 σ3 H3 X.xe I3 (stat fr3) st3 go) fun r s4 ⟨u,hr,h4⟩ => ?_)
  subst hr
  refine wpAny_passesOwn hp (thn h4 fun _ s5 ⟨x,H5,I5,r5,y5,st5,fr5⟩ => ?_)
  have I5' := I5.pinned (stat fr5) (T.obj _ _ st5)
  refine wpAny_passesOwn hp (thn (hg _ s5 σ3 H5 x u _ I5' r5 (step x H5 y5)) fun _ s6 ⟨σ6,H6,I6,q6⟩ => ?_)
  refine wpAny_passesOwn hp (thn (hb _ s6 σ6 H6 _ I6 q6) fun f s7 q7 => ?_)
  have again : ∀ {σ7 : St} {H7 : Hp},Inv X (pins ++ pinsAt fp s5.heap) σ7 H7 s7 → N σ7 H7 → ∃ m,m < n ∧ ∃ i σ' H',Inv X pins σ' H' s7 ∧ tn i s7.heap ∧ (∀ b ∈ fp,H' b = none) ∧ W i m σ' H' := fun {σ7 H7} I7 n7 => by
   obtain ⟨m',hm,w7⟩ := hN σ7 H7 n7
   refine ⟨m',hm,i + 1,σ7,H7,I7.unpinned,T.keep _ _ _ st5 fun b hb o e => (I7.pin (b,o) (List.mem_append_right _ (List.mem_append_right _ (mem_pinsAt hb e)))).1,fun b hb => ?_,w7⟩
   obtain ⟨o,e,d⟩ := T.obj _ _ st5 b hb
   exact (I7.pin (b,o) (List.mem_append_right _ (List.mem_append_right _ (mem_pinsAt hb e)))).2.1
  cases f with
  | next => obtain ⟨σ7,H7,I7,n7⟩ := q7; exact again I7 n7
  | cont => obtain ⟨σ7,H7,I7,n7⟩ := q7; exact again I7 n7
  | brk => obtain ⟨σ7,H7,I7,q7⟩ := q7; exact ⟨σ7,H7,I7.unpinned,q7⟩
  | ret v => obtain ⟨x7,σ7,H7,I7,r7,q7⟩ := q7; exact ⟨x7,σ7,H7,I7.unpinned,r7,q7⟩
end
theorem for_list {K : PySem.W.Frag} {a : Addr} {xs : List V} {g : TG} {tb : TS} {D : Ends} {σ : St} {H : Hp} (Pv : Nat → St → Hp → Prop) (h0 : Pv 0 σ H) (hl : ∀ i σ H,i ≤ xs.length → Pv i σ H → SqL K H a xs)
 (hs : ∀ i x σ H,xs[i]? = some x → Pv i σ H → g x σ H fun σ2 H2 => tb { D with nx := Pv (i + 1),ct := Pv (i + 1),bk := D.nx } σ2 H2) (hd : ∀ σ H,Pv xs.length σ H → D.nx σ H) :
 ∃ W : Nat → Nat → St → Hp → Prop,(∃ m,W 0 m σ H) ∧ ∀ i m σ H,W i m σ H →
  ((Itl K a).stop i H ∧ D.nx σ H) ∨ ((Itl K a).go i H ∧ ∃ N : St → Hp → Prop,(∀ σ' H',N σ' H' → ∃ m',m' < m ∧ W (i + 1) m' σ' H') ∧ ∀ x H',(Itl K a).yld i H x H' → g x σ H' fun σ2 H2 => tb { D with nx := N,ct := N,bk := D.nx } σ2 H2) := by
 refine ⟨fun i m σ H => m = xs.length - i ∧ i ≤ xs.length ∧ Pv i σ H,⟨xs.length,by simp,Nat.zero_le _,h0⟩,?_⟩
 rintro i m σ H ⟨rfl,hi,p⟩
 have q := hl i σ H hi p
 by_cases hlt : i < xs.length
 ·refine .inr ⟨⟨xs,xs[i],q,by simp [hlt]⟩,Pv (i + 1),fun σ' H' p' => ⟨xs.length - (i + 1),by omega,rfl,hlt,p'⟩,fun x H' y => ?_⟩
  obtain ⟨e,y⟩ := y
  subst e
  exact hs i x σ _ (y xs q) p
 ·have e : i = xs.length := by omega
  subst e
  exact .inl ⟨⟨xs,q,Nat.le_refl _⟩,hd σ H p⟩
theorem for_tup {K : PySem.W.Frag} {a : Addr} {xs : List V} {g : TG} {tb : TS} {D : Ends} {σ : St} {H : Hp} (Pv : Nat → St → Hp → Prop) (h0 : Pv 0 σ H) (hl : ∀ i σ H,i ≤ xs.length → Pv i σ H → SqT K H a xs)
 (hs : ∀ i x σ H,xs[i]? = some x → Pv i σ H → g x σ H fun σ2 H2 => tb { D with nx := Pv (i + 1),ct := Pv (i + 1),bk := D.nx } σ2 H2) (hd : ∀ σ H,Pv xs.length σ H → D.nx σ H) :
 ∃ W : Nat → Nat → St → Hp → Prop,(∃ m,W 0 m σ H) ∧ ∀ i m σ H,W i m σ H →
  ((Itt K a).stop i H ∧ D.nx σ H) ∨ ((Itt K a).go i H ∧ ∃ N : St → Hp → Prop,(∀ σ' H',N σ' H' → ∃ m',m' < m ∧ W (i + 1) m' σ' H') ∧ ∀ x H',(Itt K a).yld i H x H' → g x σ H' fun σ2 H2 => tb { D with nx := N,ct := N,bk := D.nx } σ2 H2) := by
 refine ⟨fun i m σ H => m = xs.length - i ∧ i ≤ xs.length ∧ Pv i σ H,⟨xs.length,by simp,Nat.zero_le _,h0⟩,?_⟩
 rintro i m σ H ⟨rfl,hi,p⟩
 have q := hl i σ H hi p
 by_cases hlt : i < xs.length
 ·refine .inr ⟨⟨xs,xs[i],q,by simp [hlt]⟩,Pv (i + 1),fun σ' H' p' => ⟨xs.length - (i + 1),by omega,rfl,hlt,p'⟩,fun x H' y => ?_⟩
  obtain ⟨e,y⟩ := y
  subst e
  exact hs i x σ _ (y xs q) p
 ·have e : i = xs.length := by omega
  subst e
  exact .inl ⟨⟨xs,q,Nat.le_refl _⟩,hd σ H p⟩
theorem E2 {lo : Int} {n : Nat} {g : TG} {tb : TS} {D : Ends} {σ : St} {H : Hp} (Pv : Nat → St → Hp → Prop) (h0 : Pv 0 σ H)
 (hs : ∀ i σ H,i < n → Pv i σ H → g (.int (lo + i)) σ H fun σ2 H2 => tb { D with nx := Pv (i + 1),ct := Pv (i + 1),bk := D.nx } σ2 H2) (hd : ∀ σ H,Pv n σ H → D.nx σ H) :
 ∃ W : Nat → Nat → St → Hp → Prop,(∃ m,W 0 m σ H) ∧ ∀ i m σ H,W i m σ H →
  ((Itr lo n).stop i H ∧ D.nx σ H) ∨ ((Itr lo n).go i H ∧ ∃ N : St → Hp → Prop,(∀ σ' H',N σ' H' → ∃ m',m' < m ∧ W (i + 1) m' σ' H') ∧ ∀ x H',(Itr lo n).yld i H x H' → g x σ H' fun σ2 H2 => tb { D with nx := N,ct := N,bk := D.nx } σ2 H2) := by
 refine ⟨fun i m σ H => m = n - i ∧ i ≤ n ∧ Pv i σ H,⟨n,by simp,Nat.zero_le _,h0⟩,?_⟩
 rintro i m σ H ⟨rfl,hi,p⟩
 by_cases hlt : i < n
 ·refine .inr ⟨hlt,Pv (i + 1),fun σ' H' p' => ⟨n - (i + 1),by omega,rfl,hlt,p'⟩,fun x H' y => ?_⟩
  obtain ⟨e,y⟩ := y
  subst e y
  exact hs i σ _ hlt p
 ·have e : i = n := by omega
  subst e
  exact .inl ⟨Nat.le_refl _,hd σ H p⟩
theorem while_by {c : TT} {tb : TS} {D : Ends} {σ : St} {H : Hp} (Pv : St → Hp → Prop) (μ : St → Hp → Nat) (h0 : Pv σ H)
 (hs : ∀ σ H,Pv σ H → c σ H fun b H1 => if b = true then tb { D with nx := fun σ' H' => Pv σ' H' ∧ μ σ' H' < μ σ H,ct := fun σ' H' => Pv σ' H' ∧ μ σ' H' < μ σ H,bk := D.nx } σ H1 else D.nx σ H1)
 (mono : ∀ σ H Q Q',(∀ b H1,Q b H1 → Q' b H1) → c σ H Q → c σ H Q') : tWhile c tb D σ H := by
 refine ⟨fun m σ H => m = μ σ H ∧ Pv σ H,⟨_,rfl,h0⟩,?_⟩
 rintro m σ H ⟨rfl,p⟩
 refine mono σ H _ _ (fun b H1 q => ?_) (hs σ H p)
 cases b with
 | true => exact ⟨_,fun σ' H' ⟨p',l⟩ => ⟨_,l,rfl,p'⟩,q⟩
 | false => exact q
end L2
namespace L2
open PySem PySem.Spec PyProof.Rows
abbrev R2 := V → V → Hp → VK → Prop
def OpR (X : Cx) (f : Value → Value → Sem Value) (r : R2) : Prop :=
 ∀ (pins : List (Addr × Obj)) (s : Shared) (σ : St) (H : Hp) (x y : V) (v u : Value) (Q : VK),Inv X pins σ H s → RelV x v → RelV y u → r x y H Q →
  wpAny (model X.prog X.w) X.A (f v u) (EP X pins σ Q) X.xe s
def UnR (X : Cx) (f : Value → Sem Value) (r : V → Hp → VK → Prop) : Prop :=
 ∀ (pins : List (Addr × Obj)) (s : Shared) (σ : St) (H : Hp) (x : V) (v : Value) (Q : VK),Inv X pins σ H s → RelV x v → r x H Q →
  wpAny (model X.prog X.w) X.A (f v) (EP X pins σ Q) X.xe s
def CallR (X : Cx) (f : Value) (r : List V → Hp → VK → Prop) : Prop :=
 ∀ (pins : List (Addr × Obj)) (s : Shared) (σ : St) (H : Hp) (xs : List V) (us : List Value) (Q : VK),Inv X pins σ H s → Vals xs us → r xs H Q →
  wpAny (model X.prog X.w) X.A (call f us) (EP X pins σ Q) X.xe s
def TruR (X : Cx) (r : V → Hp → (Bool → Hp → Prop) → Prop) : Prop :=
 ∀ (pins : List (Addr × Obj)) (s : Shared) (σ : St) (H : Hp) (x : V) (v : Value) (Q : Bool → Hp → Prop),Inv X pins σ H s → RelV x v → r x H Q →
  wpAny (model X.prog X.w) X.A (truthy v) (TP X pins σ Q) X.xe s
def tOp (r : R2) (ta tb : TE) : TE := fun σ H Q => ta σ H fun x H1 => tb σ H1 fun y H2 => r x y H2 Q
def tUn (r : V → Hp → VK → Prop) (ta : TE) : TE := fun σ H Q => ta σ H fun x H1 => r x H1 Q
def rI (C : Int → Int → Prop) (g : Int → Int → V) : R2 := fun x y H Q => ∃ i j,x = .int i ∧ y = .int j ∧ C i j ∧ Q (g i j) H
def rI0 (g : Int → Int → V) : R2 := fun x y H Q => ∃ i j,x = .int i ∧ y = .int j ∧ Q (g i j) H
def rU (g : Int → V) : V → Hp → VK → Prop := fun x H Q => ∃ i,x = .int i ∧ Q (g i) H
section
variable {X : Cx} {a b c : Expr} {ta tb tc : TE} {pos : Pos}
theorem binT (ha : PE X a ta) (hb : PE X b tb) {pins : List (Addr × Obj)} {s : Shared} {σ : St} {H : Hp} {R : V → V → Hp → Prop} (I : Inv X pins σ H s)
 (h : ta σ H fun x H1 => tb σ H1 fun y H2 => R x y H2) {Q : Value → Shared → Prop} {f : Value → Value → Sem Value}
 (hf : ∀ v u s2 x y H2,Inv X pins σ H2 s2 → RelV x v → RelV y u → R x y H2 → wpAny (model X.prog X.w) X.A (f v u) Q X.xe s2) :
 wpAny (model X.prog X.w) X.A (eval a X.env) (fun v s₁ => wpAny (model X.prog X.w) X.A (eval b X.env) (fun u s₂ => wpAny (model X.prog X.w) X.A (f v u) Q X.xe s₂) X.xe s₁) X.xe s := by
 refine thn (ha pins s σ H _ I h) fun v s1 ⟨x,H1,I1,r1,q1⟩ => ?_
 refine thn (hb pins s1 σ H1 _ I1 q1) fun u s2 ⟨y,H2,I2,r2,q2⟩ => ?_
 exact hf v u s2 x y H2 I2 r1 r2 q2
theorem Ax {op : Operator} {r : R2} (ho : OpR X (binaryOp op) r) (ha : PE X a ta) (hb : PE X b tb) : PE X (.BinOp a op b pos) (tOp r ta tb) := by
 intro pins s σ H Q I h
 exact wpAny_BinOp (binT ha hb I h fun v u s2 x y H2 I2 rx ry q => ho pins s2 σ H2 x y v u Q I2 rx ry q)
theorem pe_un {op : UnaryOp} {r : V → Hp → VK → Prop} (ho : UnR X (unaryOp op) r) (ha : PE X a ta) : PE X (.UnaryOp op a pos) (tUn r ta) := by
 intro pins s σ H Q I h
 exact UnaryOp_ (thn (ha pins s σ H _ I h) fun v s1 ⟨x,H1,I1,r1,q1⟩ => ho pins s1 σ H1 x v Q I1 r1 q1)
theorem opI {f : Value → Value → Sem Value} {C : Int → Int → Prop} {g : Int → Int → Int}
 (rule : ∀ (i j : Int) (t u : Tok) (s : Shared) (Q : Value → Shared → Prop) (E : Value → Shared → Prop),C i j → Q (.int (g i j) s.toks) { s with toks := s.toks + 1 } → wpAny (model X.prog X.w) X.A (f (.int i t) (.int j u)) Q E s) :
 OpR X f (rI C fun i j => .int (g i j)) := by
 intro pins s σ H x y v u Q I rx ry h
 obtain ⟨i,j,rfl,rfl,hc,q⟩ := h
 obtain ⟨t,rfl⟩ := rx
 obtain ⟨t',rfl⟩ := ry
 exact rule i j t t' s _ _ hc ⟨.int (g i j),H,I.tok _,⟨_,rfl⟩,q⟩
theorem opI0 {f : Value → Value → Sem Value} {g : Int → Int → Int}
 (rule : ∀ (i j : Int) (t u : Tok) (s : Shared) (Q : Value → Shared → Prop) (E : Value → Shared → Prop),Q (.int (g i j) s.toks) { s with toks := s.toks + 1 } → wpAny (model X.prog X.w) X.A (f (.int i t) (.int j u)) Q E s) :
 OpR X f (rI0 fun i j => .int (g i j)) := by
 intro pins s σ H x y v u Q I rx ry h
 obtain ⟨i,j,rfl,rfl,q⟩ := h
 obtain ⟨t,rfl⟩ := rx
 obtain ⟨t',rfl⟩ := ry
 exact rule i j t t' s _ _ ⟨.int (g i j),H,I.tok _,⟨_,rfl⟩,q⟩
theorem opB0 {f : Value → Value → Sem Value} {g : Int → Int → Bool}
 (rule : ∀ (i j : Int) (t u : Tok) (s : Shared) (Q : Value → Shared → Prop) (E : Value → Shared → Prop),Q (.bool (g i j)) s → wpAny (model X.prog X.w) X.A (f (.int i t) (.int j u)) Q E s) :
 OpR X f (rI0 fun i j => .bl (g i j)) := by
 intro pins s σ H x y v u Q I rx ry h
 obtain ⟨i,j,rfl,rfl,q⟩ := h
 obtain ⟨t,rfl⟩ := rx
 obtain ⟨t',rfl⟩ := ry
 exact rule i j t t' s _ _ ⟨.bl (g i j),H,I,rfl,q⟩
def CPow (i j : Int) : Prop := 0 ≤ j ∧ j ≤ 1000000 ∧ i.natAbs < 2 ^ 64
def CMul (i j : Int) : Prop := (-(2 ^ 64) < i ∧ i < 2 ^ 64) ∨ (-(2 ^ 64) < j ∧ j < 2 ^ 64)
theorem CMul.ok {i j : Int} (h : CMul i j) : IntMulOk i j := by
 rcases h with ⟨h1,h2⟩ | ⟨h1,h2⟩
 ·exact .of_left (intBits_le_64 h1 h2)
 ·exact .of_right (intBits_le_64 h1 h2)
theorem two_pow_nn (k : Nat) : (0 : Int) ≤ 2 ^ k := by
 rw [two_pow_cast]
 exact Int.natCast_nonneg _
theorem C0 : OpR X (binaryOp .Add) (rI0 fun i j => .int (i + j)) := opI0 fun _ _ _ _ _ _ _ q => add_int q
theorem op_sub : OpR X (binaryOp .Sub) (rI0 fun i j => .int (i - j)) := opI0 fun _ _ _ _ _ _ _ q => sub_int q
theorem op_mul : OpR X (binaryOp .Mult) (rI CMul fun i j => .int (i * j)) := opI fun _ _ _ _ _ _ _ hc q => mul_int q hc.ok
theorem Ek : OpR X (binaryOp .Mod) (rI (fun _ j => 0 < j) fun i j => .int (i % j)) := opI fun i j _ _ _ _ _ hc q => by
 have h1 : (0 : Int) < j := hc
 exact mod_int' (by omega) (by rw [Int.fmod_eq_emod_of_nonneg i (by omega)]; exact q)
theorem op_pow : OpR X (binaryOp .Pow) (rI CPow fun i j => .int (i ^ j.toNat)) := opI fun _ _ _ _ _ _ _ hc q => pow_int_small hc.1 hc.2.1 hc.2.2 q
theorem op_shl : OpR X (binaryOp .LShift) (rI CPow fun i j => .int (i * 2 ^ j.toNat)) := opI fun _ _ _ _ _ _ _ hc q => lshift_int_small hc.1 hc.2.1 hc.2.2 q
theorem op_shr : OpR X (binaryOp .RShift) (rI (fun _ j => 0 ≤ j) fun i j => .int (i / 2 ^ j.toNat)) := opI fun i j _ _ _ _ _ hc q =>
 rshift_int hc (by rw [Int.fdiv_eq_ediv_of_nonneg i (two_pow_nn _)]; exact q)
theorem op_and : OpR X (binaryOp .BitAnd) (rI0 fun i j => .int (Builtin.bitAnd i j)) := opI0 fun _ _ _ _ _ _ _ q => and_int q
theorem op_or : OpR X (binaryOp .BitOr) (rI0 fun i j => .int (Builtin.bitOr i j)) := opI0 fun _ _ _ _ _ _ _ q => or_int q
theorem op_xor : OpR X (binaryOp .BitXor) (rI0 fun i j => .int (Builtin.bitXor i j)) := opI0 fun _ _ _ _ _ _ _ q => xor_int q
theorem unI {f : Value → Sem Value} {g : Int → Int}
 (rule : ∀ (i : Int) (t : Tok) (s : Shared) (Q : Value → Shared → Prop) (E : Value → Shared → Prop),Q (.int (g i) s.toks) { s with toks := s.toks + 1 } → wpAny (model X.prog X.w) X.A (f (.int i t)) Q E s) :
 UnR X f (rU fun i => .int (g i)) := by
 intro pins s σ H x v Q I rx h
 obtain ⟨i,rfl,q⟩ := h
 obtain ⟨t,rfl⟩ := rx
 exact rule i t s _ _ ⟨.int (g i),H,I.tok _,⟨_,rfl⟩,q⟩
theorem un_neg : UnR X (unaryOp .USub) (rU fun i => .int (-i)) := unI fun _ _ _ _ _ q => neg_int q
theorem un_inv : UnR X (unaryOp .Invert) (rU fun i => .int (Builtin.bitNot i)) := unI fun _ _ _ _ _ q => invert_int q
end
def scal : V → V → Bool
 | .non,.non => true | .non,.int _ => true | .int _,.non => true | .non,.bl _ => true | .bl _,.non => true | .non,.str _ => true | .str _,.non => true
 | .int _,.int _ => true | .bl _,.bl _ => true | .str _,.str _ => true | .byt _,.byt _ => true
 | .int _,.str _ => true | .str _,.int _ => true | .bl _,.str _ => true | .str _,.bl _ => true
 | _,_ => false
def rEq : R2 := fun x y H Q => scal x y = true ∧ Q (.bl (decide (x = y))) H
def rNe : R2 := fun x y H Q => scal x y = true ∧ Q (.bl (!decide (x = y))) H
theorem dec_int {i j : Int} : decide (V.int i = V.int j) = (i == j) := by
 rw [Bool.eq_iff_iff]
 simp
theorem dec_bl {i j : Bool} : decide (V.bl i = V.bl j) = (i == j) := by
 rw [Bool.eq_iff_iff]
 simp
theorem dec_str {i j : Str} : decide (V.str i = V.str j) = (i == j) := by
 rw [Bool.eq_iff_iff]
 simp
theorem dec_byt {i j : Array UInt8} : decide (V.byt i = V.byt j) = (i.toList == j.toList) := by
 rw [Bool.eq_iff_iff]
 cases i
 cases j
 simp
section
variable {X : Cx} {a b c : Expr} {ta tb tc : TE} {pos : Pos}
theorem Bc {pins : List (Addr × Obj)} {σ : St} {H : Hp} {s : Shared} {Q : VK} {k k' : Bool} (I : Inv X pins σ H s) (q : Q (.bl k) H) (e : k = k') : EP X pins σ Q (.bool k') s := by
 subst e
 exact ⟨.bl k,H,I,rfl,q⟩
theorem Ey : OpR X (compareOp .Eq) rEq := by
 intro pins s σ H x y v u Q I rx ry h
 obtain ⟨hs,q⟩ := h
 cases x with
 | non =>
   cases rx
   cases y with
   | non => cases ry; exact PySem.EqNone.eq_none_none (Bc I q (by simp))
   | bl j => cases ry; exact PySem.EqNone.eq_none_bool (Bc I q (by simp))
   | int j => obtain ⟨t',rfl⟩ := ry; exact PySem.EqNone.eq_none_int (Bc I q (by simp))
   | str j => obtain ⟨t',rfl⟩ := ry; exact PySem.EqNone.eq_none_str (Bc I q (by simp))
   | _ => exact absurd (show false = true from hs) Bool.false_ne_true
 | bl i =>
   cases rx
   cases y with
   | non => cases ry; exact PySem.EqNone.eq_bool_none (Bc I q (by simp))
   | bl j => cases ry; exact eq_bool (Bc I q dec_bl)
   | str j => obtain ⟨t',rfl⟩ := ry; exact PySem.EqMixed.eq_bool_str (Bc I q (by simp))
   | _ => exact absurd (show false = true from hs) Bool.false_ne_true
 | int i =>
   obtain ⟨t,rfl⟩ := rx
   cases y with
   | non => cases ry; exact PySem.EqNone.eq_int_none (Bc I q (by simp))
   | int j => obtain ⟨t',rfl⟩ := ry; exact eq_int (Bc I q dec_int)
   | str j => obtain ⟨t',rfl⟩ := ry; exact PySem.EqMixed.eq_int_str (Bc I q (by simp))
   | _ => exact absurd (show false = true from hs) Bool.false_ne_true
 | str i =>
   obtain ⟨t,rfl⟩ := rx
   cases y with
   | non => cases ry; exact PySem.EqNone.eq_str_none (Bc I q (by simp))
   | bl j => cases ry; exact PySem.EqMixed.eq_str_bool (Bc I q (by simp))
   | int j => obtain ⟨t',rfl⟩ := ry; exact PySem.EqMixed.eq_str_int (Bc I q (by simp))
   | str j => obtain ⟨t',rfl⟩ := ry; exact eq_str (Bc I q dec_str)
   | _ => exact absurd (show false = true from hs) Bool.false_ne_true
 | byt i =>
   obtain ⟨t,rfl⟩ := rx
   cases y with
   | byt j => obtain ⟨t',rfl⟩ := ry; exact PySem.W.eq_bytes (Bc I q dec_byt)
   | _ => exact absurd (show false = true from hs) Bool.false_ne_true
 | _ => cases y <;> exact absurd (show false = true from hs) Bool.false_ne_true
theorem op_ne : OpR X (compareOp .NotEq) rNe := by
 intro pins s σ H x y v u Q I rx ry h
 obtain ⟨hs,q⟩ := h
 cases x with
 | non =>
   cases rx
   cases y with
   | non => cases ry; exact PySem.EqNone.ne_none_none (Bc I q (by simp))
   | bl j => cases ry; exact PySem.EqNone.ne_none_bool (Bc I q (by simp))
   | int j => obtain ⟨t',rfl⟩ := ry; exact PySem.EqNone.ne_none_int (Bc I q (by simp))
   | str j => obtain ⟨t',rfl⟩ := ry; exact PySem.EqNone.ne_none_str (Bc I q (by simp))
   | _ => exact absurd (show false = true from hs) Bool.false_ne_true
 | bl i =>
   cases rx
   cases y with
   | non => cases ry; exact PySem.EqNone.ne_bool_none (Bc I q (by simp))
   | bl j => cases ry; exact ne_bool (Bc I q (congrArg not dec_bl))
   | str j => obtain ⟨t',rfl⟩ := ry; exact PySem.EqMixed.ne_bool_str (Bc I q (by simp))
   | _ => exact absurd (show false = true from hs) Bool.false_ne_true
 | int i =>
   obtain ⟨t,rfl⟩ := rx
   cases y with
   | non => cases ry; exact PySem.EqNone.ne_int_none (Bc I q (by simp))
   | int j => obtain ⟨t',rfl⟩ := ry; exact ne_int (Bc I q (congrArg not dec_int))
   | str j => obtain ⟨t',rfl⟩ := ry; exact PySem.EqMixed.ne_int_str (Bc I q (by simp))
   | _ => exact absurd (show false = true from hs) Bool.false_ne_true
 | str i =>
   obtain ⟨t,rfl⟩ := rx
   cases y with
   | non => cases ry; exact PySem.EqNone.ne_str_none (Bc I q (by simp))
   | bl j => cases ry; exact PySem.EqMixed.ne_str_bool (Bc I q (by simp))
   | int j => obtain ⟨t',rfl⟩ := ry; exact PySem.EqMixed.ne_str_int (Bc I q (by simp))
   | str j => obtain ⟨t',rfl⟩ := ry; exact ne_str (Bc I q (congrArg not dec_str))
   | _ => exact absurd (show false = true from hs) Bool.false_ne_true
 | byt i =>
   obtain ⟨t,rfl⟩ := rx
   cases y with
   | byt j => obtain ⟨t',rfl⟩ := ry; exact PySem.W.ne_bytes (Bc I q (congrArg not dec_byt))
   | _ => exact absurd (show false = true from hs) Bool.false_ne_true
 | _ => cases y <;> exact absurd (show false = true from hs) Bool.false_ne_true
theorem op_lt : OpR X (compareOp .Lt) (rI0 fun i j => .bl (decide (i < j))) := opB0 fun _ _ _ _ _ _ _ q => lt_int q
theorem op_le : OpR X (compareOp .LtE) (rI0 fun i j => .bl (decide (i ≤ j))) := opB0 fun _ _ _ _ _ _ _ q => le_int q
theorem op_gt : OpR X (compareOp .Gt) (rI0 fun i j => .bl (decide (j < i))) := opB0 fun _ _ _ _ _ _ _ q => gt_int q
theorem op_ge : OpR X (compareOp .GtE) (rI0 fun i j => .bl (decide (j ≤ i))) := opB0 fun _ _ _ _ _ _ _ q => ge_int q
theorem op_in_str : OpR X (compareOp .In) (fun x y H Q => ∃ i j,x = .str i ∧ y = .str j ∧ Q (.bl (!(Builtin.Str.occurrences j i 0 j.length 1).isEmpty)) H) := by
 intro pins s σ H x y v u Q I rx ry h
 obtain ⟨i,j,rfl,rfl,q⟩ := h
 obtain ⟨t,rfl⟩ := rx
 obtain ⟨t',rfl⟩ := ry
 exact in_str (Bc I q rfl)
theorem A0 (b : Expr) {op : CmpOp} (h : op ≠ .In := by decide) (h2 : op ≠ .NotIn := by decide) : behindInMarks op b = false := by
 have e1 : (op == CmpOp.In) = false := by cases op <;> first | rfl | exact absurd rfl h
 have e2 : (op == CmpOp.NotIn) = false := by cases op <;> first | rfl | exact absurd rfl h2
 cases b <;> simp [behindInMarks,e1,e2]
theorem Bo {op : CmpOp} {r : R2} (ho : OpR X (compareOp op) r) (ha : PE X a ta) (hb : PE X b tb) (hm : behindInMarks op b = false) : PE X (.Compare a [op] [b] pos) (tOp r ta tb) := by
 intro pins s σ H Q I h
 exact wpAny_Compare1 (binT ha hb I h fun v u s2 x y H2 I2 rx ry q => ho pins s2 σ H2 x y v u Q I2 rx ry q) hm
def tTest (t : TE) : TT := fun σ H Q => t σ H fun x H' => ∃ k,x = .bl k ∧ Q k H'
theorem A1 {op : CmpOp} {r : R2} (ho : OpR X (compareOp op) r) (ha : PE X a ta) (hb : PE X b tb) (hm : behindInMarks op b = false) : PT X (.Compare a [op] [b] pos) (tTest (tOp r ta tb)) := by
 intro pins s σ H Q I h
 refine wpAny_isTrue_Compare1 (thn (ha pins s σ H _ I h) fun v s1 ⟨x,H1,I1,r1,q1⟩ => thn (hb pins s1 σ H1 _ I1 q1) fun u s2 ⟨y,H2,I2,r2,q2⟩ =>
  thn (ho pins s2 σ H2 x y v u _ I2 r1 r2 q2) fun c s3 ⟨z,H3,I3,r3,k,e,q3⟩ => ?_) hm
 subst e
 cases r3
 exact wpAny_truthy_bool ⟨H3,I3,q3⟩
def tChain (r r' : R2) (ta tb tc : TE) : TE := fun σ H Q => ta σ H fun x H1 => tb σ H1 fun y H2 => r x y H2 fun z H3 => ∃ k,z = .bl k ∧
 (if k = true then tc σ H3 fun w' H4 => r' y w' H4 Q else Q (.bl false) H3)
theorem pe_chain {op op' : CmpOp} {r r' : R2} (ho : OpR X (compareOp op) r) (ho' : OpR X (compareOp op') r') (ha : PE X a ta) (hb : PE X b tb) (hc : PE X c tc)
 (hm : lastMarks [op,op'] [b,c] = false := by with_unfolding_all rfl) : PE X (.Compare a [op,op'] [b,c] pos) (tChain r r' ta tb tc) := by
 intro pins s σ H Q I h
 refine Compare_chain (thn (ha pins s σ H _ I h) fun v s1 ⟨x,H1,I1,r1,q1⟩ => chain_link (thn (hb pins s1 σ H1 _ I1 q1) fun u s2 ⟨y,H2,I2,r2,q2⟩ =>
  thn (ho pins s2 σ H2 x y v u _ I2 r1 r2 q2) fun d s3 ⟨z,H3,I3,r3,k,e,q3⟩ => ?_)) hm
 subst e
 cases r3
 refine wpAny_truthy_bool ?_
 cases k with
 | false => exact ite_ff ⟨.bl false,H3,I3,rfl,q3⟩
 | true => exact ite_tt (chain_last (thn (hc pins s3 σ H3 _ I3 q3) fun w' s4 ⟨z',H4,I4,r4,q4⟩ => ho' pins s4 σ H4 y z' u w' Q I4 r2 r4 q4))
theorem pt_chain {op op' : CmpOp} {r r' : R2} (ho : OpR X (compareOp op) r) (ho' : OpR X (compareOp op') r') (ha : PE X a ta) (hb : PE X b tb) (hc : PE X c tc)
 (hm : lastMarks [op,op'] [b,c] = false := by with_unfolding_all rfl) : PT X (.Compare a [op,op'] [b,c] pos) (tTest (tChain r r' ta tb tc)) := by
 intro pins s σ H Q I h
 refine isTrue_chain (thn (ha pins s σ H _ I h) fun v s1 ⟨x,H1,I1,r1,q1⟩ => test_link (thn (hb pins s1 σ H1 _ I1 q1) fun u s2 ⟨y,H2,I2,r2,q2⟩ =>
  thn (ho pins s2 σ H2 x y v u _ I2 r1 r2 q2) fun d s3 ⟨z,H3,I3,r3,k,e,q3⟩ => ?_)) hm
 subst e
 cases r3
 refine wpAny_truthy_bool ?_
 cases k with
 | false =>
   obtain ⟨k',e',q'⟩ := q3
   cases e'
   exact ite_ff ⟨H3,I3,q'⟩
 | true =>
   refine ite_tt (test_last (thn (hc pins s3 σ H3 _ I3 q3) fun w' s4 ⟨z',H4,I4,r4,q4⟩ => thn (ho' pins s4 σ H4 y z' u w' _ I4 r2 r4 q4) fun d' s5 ⟨z2,H5,I5,r5,k2,e2,q5⟩ => ?_))
   subst e2
   cases r5
   exact wpAny_truthy_bool ⟨H5,I5,q5⟩
def TruV (K : PySem.W.Frag) (x : V) (H : Hp) (k : Bool) : Prop :=
 match x with
 | .non => k = false
 | .bl b => k = b
 | .int i => k = (i != 0)
 | .str y => y.length ≤ sizeLine ∧ k = ((y.length : Int) != 0)
 | .byt y => y.size ≤ sizeLine ∧ k = ((y.size : Int) != 0)
 | .ref p => (∃ xs,SqL K H p xs ∧ k = !xs.isEmpty) ∨ (∃ xs,SqT K H p xs ∧ k = !xs.isEmpty) ∨ ∃ kvs,H p = some (.dK kvs) ∧ k = !kvs.isEmpty
 | _ => False
theorem isEmpty_kv {κ : Type} {kvs : List (κ × V)} {vs : List (κ × Value)} (r : KV kvs vs) : (!vs.isEmpty) = !kvs.isEmpty := by
 cases r <;> rfl
theorem isEmpty_of {xs : List V} {its : List Value} (r : Vals xs its) : (!its.toArray.isEmpty) = !xs.isEmpty := by
 cases r <;> simp
theorem line63 : (sizeLine : Nat) < 2 ^ 63 := by rw [sizeLine_eq]; decide
theorem tru_ok : TruR X (fun x H Q => ∃ k,TruV X.K x H k ∧ Q k H) := by
 intro pins s σ H x v Q I rx h
 obtain ⟨k,e,q⟩ := h
 have hl := line63
 have hs : sizeLine = 16777216 := sizeLine_eq
 cases x with
 | non =>
   cases rx
   have e' : k = false := e
   subst e'
   exact truthy_none ⟨H,I,q⟩
 | bl b =>
   cases rx
   have e' : k = b := e
   subst e'
   exact wpAny_truthy_bool ⟨H,I,q⟩
 | int i =>
   obtain ⟨t,rfl⟩ := rx
   have e' : k = (i != 0) := e
   subst e'
   exact PySem.P.truthy_int ⟨H,I,q⟩
 | str y =>
   obtain ⟨t,rfl⟩ := rx
   obtain ⟨hy,e'⟩ : y.length ≤ sizeLine ∧ k = ((y.length : Int) != 0) := e
   subst e'
   exact PySem.P.truthy_str (by omega) ⟨H,I.tok _,q⟩
 | byt y =>
   obtain ⟨t,rfl⟩ := rx
   obtain ⟨hy,e'⟩ : y.size ≤ sizeLine ∧ k = ((y.size : Int) != 0) := e
   subst e'
   exact PySem.W.truthy_bytes (by omega) ⟨H,I.tok _,q⟩
 | ref p =>
   cases rx
   have e' : (∃ xs,SqL X.K H p xs ∧ k = !xs.isEmpty) ∨ (∃ xs,SqT X.K H p xs ∧ k = !xs.isEmpty) ∨ ∃ kvs,H p = some (.dK kvs) ∧ k = !kvs.isEmpty := e
   rcases e' with ⟨xs,hx,e'⟩ | ⟨xs,hx,e'⟩ | ⟨kvs,hx,e'⟩
   ·subst e'
    obtain ⟨its,r,pl,hz⟩ := I.list hx
    have hlen := r.length
    exact wpAny_truthy_list pl.isList (by simp only [List.size_toArray]; omega) ⟨H,I.tok _,by rw [isEmpty_of r]; exact q⟩
   ·subst e'
    obtain ⟨its,r,pl,hz⟩ := I.tuple hx
    have hlen := r.length
    exact truthy_tuple pl (by simp only [List.size_toArray]; omega) ⟨H,I.tok _,by rw [isEmpty_of r]; exact q⟩
   ·subst e'
    obtain ⟨hz,hS,vs,r,m⟩ : kvs.length ≤ sizeLine ∧ (p == sysModules) = false ∧ ∃ vs,KV kvs vs ∧ s.heap.DictOf (Cg X.prog X.w) p vs := I.hok p _ hx
    have hlen : kvs.length = vs.length := Paired.length r
    exact wpAny_truthy_dict hS m (by omega) ⟨H,I.tok _,by rw [isEmpty_kv r]; exact q⟩
 | _ => exact (show False from e).elim
theorem pt_truth (ha : PE X a ta) (he : ∀ whole,isTrue a X.env whole = (do let v ← whole; standAt a.pos; holding [v] (truthy v))) :
 PT X a (fun σ H Q => ta σ H fun x H' => ∃ k,TruV X.K x H' k ∧ Q k H') := by
 intro pins s σ H Q I h
 exact isTrue_plain (thn (ha pins s σ H _ I h) fun v s1 ⟨x,H1,I1,r1,q1⟩ => tru_ok pins s1 σ H1 x v Q I1 r1 q1) (he _)
theorem B1 : OpR X (binaryOp .Add) (fun x y H Q => ∃ i j,x = .str i ∧ y = .str j ∧ i.length + j.length ≤ sizeLine ∧ Q (.str (i ++ j)) H) := by
 intro pins s σ H x y v u Q I rx ry h
 obtain ⟨i,j,rfl,rfl,hz,q⟩ := h
 obtain ⟨t,rfl⟩ := rx
 obtain ⟨t',rfl⟩ := ry
 exact add_str (fun t' tk => ⟨.str (i ++ j),H,I.tok _,⟨_,rfl⟩,q⟩) hz
theorem vals1 {x : V} {us : List Value} (r : Vals [x] us) : ∃ u,us = [u] ∧ RelV x u := by
 cases r with
 | cons r1 r2 => cases r2; exact ⟨_,rfl,r1⟩
theorem vals2 {x y : V} {us : List Value} (r : Vals [x,y] us) : ∃ u w',us = [u,w'] ∧ RelV x u ∧ RelV y w' := by
 cases r with
 | cons r1 r2 =>
   cases r2 with
   | cons r3 r4 => cases r4; exact ⟨_,_,rfl,r1,r3⟩
theorem call_max2 (hc : X.calm = true) : CallR X (.builtin "max") (fun xs H Q => ∃ i j,xs = [.int i,.int j] ∧ Q (.int (if j > i then j else i)) H) := by
 intro pins s σ H xs us Q I r h
 obtain ⟨i,j,rfl,q⟩ := h
 obtain ⟨u,w',rfl,⟨t,rfl⟩,⟨t',rfl⟩⟩ := vals2 r
 refine max_two_ints (I.ok.hd hc) fun h' tk k => ⟨_,H,I.kept k,?_,q⟩
 by_cases hj : j > i
 ·rw [if_pos hj,if_pos hj]; exact ⟨_,rfl⟩
 ·rw [if_neg hj,if_neg hj]; exact ⟨_,rfl⟩
theorem call_min2 (hc : X.calm = true) : CallR X (.builtin "min") (fun xs H Q => ∃ i j,xs = [.int i,.int j] ∧ Q (.int (if j < i then j else i)) H) := by
 intro pins s σ H xs us Q I r h
 obtain ⟨i,j,rfl,q⟩ := h
 obtain ⟨u,w',rfl,⟨t,rfl⟩,⟨t',rfl⟩⟩ := vals2 r
 refine min_two_ints (I.ok.hd hc) fun h' tk k => ⟨_,H,I.kept k,?_,q⟩
 by_cases hj : j < i
 ·rw [if_pos hj,if_pos hj]; exact ⟨_,rfl⟩
 ·rw [if_neg hj,if_neg hj]; exact ⟨_,rfl⟩
theorem call_int1 : CallR X (.type "int") (fun xs H Q => (∃ i,xs = [.int i] ∧ Q (.int i) H) ∨ ∃ k,xs = [.bl k] ∧ Q (.int (if k then 1 else 0)) H) := by
 intro pins s σ H xs us Q I r h
 rcases h with ⟨i,rfl,q⟩ | ⟨k,rfl,q⟩
 ·obtain ⟨u,rfl,t,rfl⟩ := vals1 r
  exact call_int_int ⟨.int i,H,I,⟨_,rfl⟩,q⟩
 ·obtain ⟨u,rfl,r1⟩ := vals1 r
  cases r1
  exact call_int_bool ⟨.int (if k then 1 else 0),H,I.tok _,⟨_,rfl⟩,q⟩
theorem call_str_int : CallR X (.type "str") (fun xs H Q => ∃ i,xs = [.int i] ∧ i.natAbs.log2 < 1920 ∧ Q (.str (toString i)) H) := by
 intro pins s σ H xs us Q I r h
 obtain ⟨i,rfl,hz,q⟩ := h
 obtain ⟨u,rfl,t,rfl⟩ := vals1 r
 exact PySem.P.str_of_int hz ⟨.str _,H,I.tok _,⟨_,rfl⟩,q⟩
def LenV (K : PySem.W.Frag) (x : V) (H : Hp) (n : Nat) : Prop :=
 match x with
 | .str y => y.length ≤ sizeLine ∧ n = y.length
 | .byt y => y.size ≤ sizeLine ∧ n = y.size
 | .ref p => (∃ xs,SqL K H p xs ∧ n = xs.length) ∨ ∃ xs,SqT K H p xs ∧ n = xs.length
 | _ => False
theorem A4 : CallR X (.builtin "len") (fun xs H Q => ∃ x n,xs = [x] ∧ LenV X.K x H n ∧ Q (.int n) H) := by
 intro pins s σ H xs us Q I r h
 obtain ⟨x,n,rfl,e,q⟩ := h
 obtain ⟨u,rfl,rx⟩ := vals1 r
 have hl := line63
 have hs : sizeLine = 16777216 := sizeLine_eq
 cases x with
 | str y =>
   obtain ⟨t,rfl⟩ := rx
   obtain ⟨hy,e'⟩ : y.length ≤ sizeLine ∧ n = y.length := e
   subst e'
   exact len_str (by omega) ⟨.int _,H,I.tok _,⟨_,rfl⟩,q⟩
 | byt y =>
   obtain ⟨t,rfl⟩ := rx
   obtain ⟨hy,e'⟩ : y.size ≤ sizeLine ∧ n = y.size := e
   subst e'
   exact PySem.W.len_bytes (by omega) ⟨.int _,H,I.tok _,⟨_,rfl⟩,q⟩
 | ref p =>
   cases rx
   have e' : (∃ xs,SqL X.K H p xs ∧ n = xs.length) ∨ ∃ xs,SqT X.K H p xs ∧ n = xs.length := e
   rcases e' with ⟨xs,hx,e'⟩ | ⟨xs,hx,e'⟩
   ·subst e'
    obtain ⟨its,r',pl,hz⟩ := I.list hx
    have hlen := r'.length
    exact Calls.call_len_list pl.isList (by simp only [List.size_toArray]; omega) ⟨.int xs.length,H,I.tok _,⟨_,by simp only [List.size_toArray]; rw [hlen]⟩,q⟩
   ·subst e'
    obtain ⟨its,r',pl,hz⟩ := I.tuple hx
    have hlen := r'.length
    exact len_tuple pl (by simp only [List.size_toArray]; omega) ⟨.int xs.length,H,I.tok _,⟨_,by simp only [List.size_toArray]; rw [hlen]⟩,q⟩
 | _ => exact (show False from e).elim
end
end L2
namespace L2
open PySem PySem.Spec PyProof.Rows
structure ObjM (h : Heap) (x dx C : Addr) (mA : Str → Option Value) : Prop where
 obj : h.get? x = some (PySem.W.instObj C dx)
 ns : h.Ns1 dx mA
 ne : dx ≠ x
theorem lookIn_ns {h : Heap} {dx : Addr} {mA : Str → Option Value} (n : h.Ns1 dx mA) : ∃ od,h.get? dx = some od ∧ ∀ name,PySem.W.lookIn name od = some (mA name) := by
 obtain ⟨o,es,ep,ho,hd,hk,_,hm⟩ := n
 refine ⟨o,ho,fun name => ?_⟩
 have e := hm name
 unfold nsFind findBy at e
 rw [← Array.find?_toList] at e
 unfold PySem.W.lookIn
 rw [hd]
 dsimp only
 split
 ·rename_i y q
  rw [q] at e
  exact congrArg some e
 ·rename_i q
  rw [q] at e
  have a : es.toList.any (·.refKey) = false := by
   rw [List.any_eq_false]
   intro y hy
   obtain ⟨z,t,hkey⟩ := hk y (Array.mem_toList_iff.mp hy)
   simp [DictEntry.refKey,hkey]
  have a' : ¬ es.toList.any (·.refKey) = true := by rw [a]; exact Bool.false_ne_true
  rw [if_neg a']
  exact congrArg some e
theorem ObjM.look {h : Heap} {x dx C : Addr} {mA : Str → Option Value} (I : ObjM h x dx C mA) : ∃ od,PySem.W.InstAt h x (PySem.W.instObj C dx) C (some od) ∧ ∀ name,PySem.W.lookIn name od = some (mA name) :=
 let ⟨od,ho,hl⟩ := lookIn_ns I.ns
 ⟨od,⟨I.obj,rfl,rfl,ho⟩,hl⟩
section
variable {prog : Program} {w : World} {A : Around} {E : Value → Shared → Prop} {s : Shared} {K : PySem.W.Frag} {x dx C f : Addr} {mA : Str → Option Value} {name : Str} {v : Value}
theorem get_map {expr : Bool} {Q : Value → Shared → Prop} (X : K.In s.heap) (I : ObjM s.heap x dx C mA) (hg : PySem.W.plainGet K C name = true) (hh : PySem.W.hasDictIn K C = true)
 (ha : PySem.W.findIn K (.ref C) name = some none) (hv : mA name = some v) (hv' : PySem.W.handedIn v = true) (h : Q v { s with toks := s.toks + 1 }) :
 wpAny (model prog w) A (getAttr (.ref x) name expr) Q E s := by
 obtain ⟨od,J,hl⟩ := I.look
 exact PySem.W.get_value X J (PySem.W.plainGet_of hg).1 (PySem.W.findObj_own hh ha rfl (by rw [hl,hv])) hv' h
theorem get_meth {pl : Sem Bool} {Q : Value × List Value → Shared → Prop} (X : K.In s.heap) (I : ObjM s.heap x dx C mA) (hg : PySem.W.plainGet K C name = true)
 (hf : PySem.W.findIn K (.ref C) name = some (some (.ref f))) (ht : PySem.W.isFn K (.ref f) = true) (hv : mA name = none) (h : Q (.ref f,[.ref x]) s) :
 wpAny (model prog w) A (getMethod (.ref x) name pl) Q E s := by
 obtain ⟨od,J,hl⟩ := I.look
 exact PySem.W.method_fn X J (PySem.W.plainGet_of hg).1 (PySem.W.plainGet_of hg).2 hf (beq_iff_eq.mp ht) (by show (PySem.W.lookIn name od).map (·.isSome) = some false; rw [hl,hv]; rfl) h
theorem set_map {ns : List Str} {Q : Unit → Shared → Prop} (X : K.In s.heap) (I : ObjM s.heap x dx C mA)
 (hs : PySem.W.findIn K (.ref C) "__setattr__" = some (some (.builtin "object.__setattr__"))) (hp : PySem.W.plainOver K C = true) (ht : PySem.W.takerIn K C name = some none) (hh : PySem.W.hasDictIn K C = true)
 (hw : PySem.Within mA ns) (hsz : ns.length ≤ sizeLine)
 (h : ∀ h',ObjM h' x dx C (fun y => if y = name then some v else mA y) → Heap.SameBut dx s.heap h' → Q () { s with heap := h',toks := s.toks + 2 }) :
 wpAny (model prog w) A (setAttr (.ref x) name v) Q E s := by
 obtain ⟨od,J,hl⟩ := I.look
 refine PySem.W.set_plain X J hs (PySem.W.osa_open (s := { s with toks := s.toks + 1 }) (r := none) X J hp ht fun b => ?_)
 obtain ⟨cd,hc,hd'⟩ := PySem.W.any_some hh
 have hx : s.heap.get? x = some ⟨.ref C,some dx,.plain,#[]⟩ := I.obj
 refine wpAny_bind (wpAny_pure (wpAny_bind (wpAny_bind (wpAny_loadPart hx (wpAny_bind (PySem.W.Looks.here (s := { s with toks := s.toks + 1 }) (PySem.W.looks_clsIn X hc) ?_))))))
 rw [hd']
 refine wpAny_pure (a := some dx) (wpAny_bind (wpAny_pure (wpAny_bind ?_)))
 refine wpAny_nsSet1 (s := { s with toks := s.toks + 1 }) I.ns fun h' hn2 hs2 => ?_
 obtain ⟨oD,esD,epD,hoD,hdD,hcD⟩ := hn2.count (PySem.Within.cons name v hw)
 refine wpAny_bind (wpAny_lookBehind hoD (by rw [hdD]; exact pastItsLine_dict (Nat.le_trans hcD (by rw [List.length_cons]; omega))) ?_)
 exact wpAny_pure (h _ ⟨(hs2.2 _ (Ne.symm I.ne)).trans I.obj,hn2,I.ne⟩ hs2)
theorem make_map {R : Result → Shared → Prop} {vs : List Value} {kw : List (Str × Value)} (X : K.In s.heap) (hm : PySem.W.makesIn K C = true)
 (hi : PySem.W.findIn K (.ref C) "__init__" = some (some (.ref f))) (hf : PySem.W.typeIn K (.ref f) = some (.type "function"))
 (h : codeAny (model prog w) (A.under (.builtin "type.__call__" ⟨.ref C :: vs,kw⟩)) (.call (.ref f) ⟨.ref (s.heap.objs.size + 1) :: vs,kw⟩) (PySem.W.InitBack (s.heap.objs.size + 1) R)
   { s with heap := (s.heap.push PySem.W.emptyDict).push (PySem.W.instObj C s.heap.objs.size) }) :
 codeAny (model prog w) A (.call (.ref C) ⟨vs,kw⟩) R s := by
 obtain ⟨hh,g,d,t,os⟩ := s
 exact PySem.W.make_core (PySem.W.makes_of X hm) (PySem.W.looks_findIn X hi) (fun self => PySem.W.bind_fn X self hf) (.inl rfl) h
theorem make_map0 {R : Result → Shared → Prop} (X : K.In s.heap) (hm : PySem.W.makesIn K C = true)
 (hi : PySem.W.findIn K (.ref C) "__init__" = some (some (.builtin "object.__init__")))
 (hb : ∀ self,PySem.W.Looks (model prog w) s.heap (bindSpecial (.builtin "object.__init__") self) (.builtin "object.__init__",[self]))
 (h : codeAny (model prog w) (A.under (.builtin "type.__call__" ⟨[.ref C],[]⟩)) (.call (.builtin "object.__init__") ⟨[.ref (s.heap.objs.size + 1)],[]⟩) (PySem.W.InitBack (s.heap.objs.size + 1) R)
   { s with heap := (s.heap.push PySem.W.emptyDict).push (PySem.W.instObj C s.heap.objs.size) }) :
 codeAny (model prog w) A (.call (.ref C) ⟨[],[]⟩) R s := by
 obtain ⟨hh,g,d,t,os⟩ := s
 exact PySem.W.make_core (PySem.W.makes_of X hm) (PySem.W.looks_findIn X hi) hb (.inr ⟨rfl,rfl⟩) h
end
def putF (f : Str) (v : V) : List (Str × V) → List (Str × V)
 | [] => [(f,v)]
 | (g,x) :: r => if g = f then (g,v) :: r else (g,x) :: putF f v r
theorem Aj (f g : Str) (v : V) : ∀ fs : List (Str × V),(putF f v fs).lookup g = if g = f then some v else fs.lookup g
 | [] => by
   show List.lookup g [(f,v)] = _
   by_cases h : g = f
   ·have hb : (g == f) = true := beq_iff_eq.mpr h
    simp only [List.lookup,hb,if_pos h]
   ·have hb : (g == f) = false := beq_eq_false_iff_ne.mpr h
    simp only [List.lookup,hb,if_neg h]
 | (k,x) :: r => by
   have ih := Aj f g v r
   rw [show putF f v ((k,x) :: r) = (if k = f then (k,v) :: r else (k,x) :: putF f v r) from rfl]
   by_cases hk : k = f
   ·rw [if_pos hk]
    by_cases h : g = k
    ·have hb : (g == k) = true := beq_iff_eq.mpr h
     simp only [List.lookup,hb,if_pos (h.trans hk)]
    ·have hb : (g == k) = false := beq_eq_false_iff_ne.mpr h
     simp only [List.lookup,hb,if_neg (fun e : g = f => h (e.trans hk.symm))]
   ·rw [if_neg hk]
    by_cases h : g = k
    ·have hb : (g == k) = true := beq_iff_eq.mpr h
     simp only [List.lookup,hb,if_neg (fun e : g = f => hk (h.symm.trans e))]
    ·have hb : (g == k) = false := beq_eq_false_iff_ne.mpr h
     simp only [List.lookup,hb]
     exact ih
theorem keys_putF (f : Str) (v : V) : ∀ fs : List (Str × V),f ∈ (putF f v fs).map (·.1) ∧ ∀ g,g ∈ fs.map (·.1) → g ∈ (putF f v fs).map (·.1)
 | [] => ⟨by simp [putF],fun g h => by simp at h⟩
 | (k,x) :: r => by
   obtain ⟨i1,i2⟩ := keys_putF f v r
   rw [show putF f v ((k,x) :: r) = (if k = f then (k,v) :: r else (k,x) :: putF f v r) from rfl]
   by_cases hk : k = f
   ·rw [if_pos hk]
    subst hk
    exact ⟨by simp,fun g h => by simpa using h⟩
   ·rw [if_neg hk]
    refine ⟨?_,fun g h => ?_⟩
    ·rw [List.map_cons]
     exact List.mem_cons_of_mem _ i1
    ·rw [List.map_cons] at h ⊢
     rcases List.mem_cons.mp h with e | e
     ·exact List.mem_cons.mpr (.inl e)
     ·exact List.mem_cons_of_mem _ (i2 g e)
theorem length_putF (f : Str) (v : V) : ∀ fs : List (Str × V),(putF f v fs).length ≤ fs.length + 1
 | [] => by simp [putF]
 | (k,x) :: r => by
   have ih := length_putF f v r
   rw [show putF f v ((k,x) :: r) = (if k = f then (k,v) :: r else (k,x) :: putF f v r) from rfl]
   by_cases hk : k = f
   ·rw [if_pos hk,List.length_cons,List.length_cons]; omega
   ·rw [if_neg hk,List.length_cons,List.length_cons]; omega
theorem RelO.some_of {v : V} {o : Option Value} (r : RelO (some v) o) : ∃ u,o = some u ∧ RelV v u := by
 cases o with
 | none => exact (show False from r).elim
 | some u => exact ⟨u,rfl,r⟩
theorem RelO.none_of {o : Option Value} (r : RelO none o) : o = none := by
 cases o with
 | none => rfl
 | some u => exact (show False from r).elim
theorem handed_of {v : V} {u : Value} (r : RelV v u) : PySem.W.handedIn u = true := by
 cases v with
 | non => cases (show u = Value.none from r); rfl
 | bl b => cases (show u = Value.bool b from r); rfl
 | int i => obtain ⟨t,e⟩ := (show ∃ t,u = Value.int i t from r); cases e; rfl
 | str x => obtain ⟨t,e⟩ := (show ∃ t,u = Value.str x t from r); cases e; rfl
 | byt b => obtain ⟨t,e⟩ := (show ∃ t,u = Value.bytes b t from r); cases e; rfl
 | flt b => obtain ⟨t,e⟩ := (show ∃ t,u = Value.float b t from r); cases e; rfl
 | ref a => cases (show u = Value.ref a from r); rfl
 | ty n => cases (show u = Value.type n from r); rfl
section
variable {P : Program} {w : World} {H H' : Hp} {h h' : Heap} {a C dx : Addr} {fs fs' : List (Str × V)}
theorem ins_get (hok : HOk P w H h) (e : H a = some (.ins C dx fs)) : ∃ mA,ObjM h a dx C mA ∧ (∀ f,RelO (fs.lookup f) (mA f)) ∧ PySem.Within mA (fs.map (·.1)) ∧ fs.length ≤ 1000 ∧ H dx = some (.own a) := by
 obtain ⟨d,z,ne,ob,mA,n,r,q⟩ := (show Cq P w H h a (.ins C dx fs) from hok a _ e)
 exact ⟨mA,⟨ob,n,ne⟩,r,q,z,d⟩
end
structure Cls (K : PySem.W.Frag) (C : Addr) : Prop where
 pg : PySem.W.plainGet K C Str.empty = true
 hd : PySem.W.hasDictIn K C = true
 po : PySem.W.plainOver K C = true
 sa : PySem.W.findIn K (.ref C) "__setattr__" = some (some (.builtin "object.__setattr__"))
theorem Cls.get {K : PySem.W.Frag} {C : Addr} (c : Cls K C) (f : Str) : PySem.W.plainGet K C f = true := c.pg
def Cz (K : PySem.W.Frag) (C : Addr) (f : Str) : Prop := PySem.W.findIn K (.ref C) f = some none
theorem Cz.taker {K : PySem.W.Frag} {C : Addr} {f : Str} (n : Cz K C f) : PySem.W.takerIn K C f = some none := by
 unfold PySem.W.takerIn
 rw [show PySem.W.findIn K (.ref C) f = some none from n]
 rfl
structure Meth (K : PySem.W.Frag) (C : Addr) (m : Str) (f : Addr) : Prop where
 at_ : PySem.W.findIn K (.ref C) m = some (some (.ref f))
 fn : PySem.W.isFn K (.ref f) = true
 kp : PySem.W.keepIn K (.ref f) = true
section
variable {X : Cx} {pins : List (Addr × Obj)} {σ : St} {H : Hp} {s : Shared} {a C dx : Addr} {fs : List (Str × V)} {f : Str} {v : V} {A : Around} {E : Value → Shared → Prop}
theorem getattr_ok {b : Bool} {Q : Value → Shared → Prop} (I : Inv X pins σ H s) (e : H a = some (.ins C dx fs)) (c : Cls X.K C) (n : Cz X.K C f) (l : fs.lookup f = some v)
 (h : ∀ u s',Inv X pins σ H s' → RelV v u → Q u s') : wpAny (model X.prog X.w) A (getAttr (.ref a) f b) Q E s := by
 obtain ⟨mA,O,r,_,_,_⟩ := ins_get I.hok e
 obtain ⟨u,hu,ru⟩ := RelO.some_of (v := v) (o := mA f) (by rw [← l]; exact r f)
 exact get_map I.kIn O (c.get f) c.hd n hu (handed_of ru) (h u _ (I.tok _) ru)
theorem getmeth_ok {m : Str} {g : Addr} {pl : Sem Bool} {Q : Value × List Value → Shared → Prop} (I : Inv X pins σ H s) (e : H a = some (.ins C dx fs)) (c : Cls X.K C) (k : Meth X.K C m g) (l : fs.lookup m = none)
 (h : Q (.ref g,[.ref a]) s) : wpAny (model X.prog X.w) A (getMethod (.ref a) m pl) Q E s := by
 obtain ⟨mA,O,r,_,_,_⟩ := ins_get I.hok e
 have hn : mA m = none := RelO.none_of (by rw [← l]; exact r m)
 exact get_meth I.kIn O (c.get m) k.at_ k.fn hn h
theorem setattr_ok {y : V} {u : Value} {Q : Unit → Shared → Prop} (I : Inv X pins σ H s) (e : H a = some (.ins C dx fs)) (c : Cls X.K C) (n : Cz X.K C f) (hl : fs.length < 1000) (ry : RelV y u)
 (h : ∀ s',Inv X pins σ (upd H a (.ins C dx (putF f y fs))) s' → Q () s') : wpAny (model X.prog X.w) A (setAttr (.ref a) f u) Q E s := by
 obtain ⟨mA,O,r,wi,_,ho⟩ := ins_get I.hok e
 have hz : (fs.map (·.1)).length ≤ sizeLine := by rw [List.length_map,sizeLine_eq]; omega
 refine set_map I.kIn O c.sa c.po n.taker c.hd wi hz fun h' O' sb => h _ ?_
 have hd : ∃ o,h'.get? dx = some o := let ⟨o,_,_,e',_⟩ := O'.ns; ⟨o,e'⟩
 refine I.write (x := a) (e := dx) (by rw [e]; exact True.intro) (.inr ho) (fun b q hb z => (sb.2 b hb).trans z) hd ?_
 refine ⟨by rw [upd_ne O.ne]; exact ho,?_,O.ne,O'.obj,_,O'.ns,fun g => ?_,fun g hg => ?_⟩
 ·have := length_putF f y fs; omega
 ·show RelO ((putF f y fs).lookup g) (if g = f then some u else mA g)
  rw [Aj]
  by_cases q : g = f
  ·rw [if_pos q,if_pos q]; exact ry
  ·rw [if_neg q,if_neg q]; exact r g
 ·by_cases q : g = f
  ·rw [q]; exact (keys_putF f y fs).1
  ·refine (keys_putF f y fs).2 g (wi g fun z => hg ?_)
   show (if g = f then some u else mA g) = none
   rw [if_neg q]; exact z
theorem Inv.made (I : Inv X pins σ H s) : Inv X pins σ (upd (upd H s.heap.objs.size (.own (s.heap.objs.size + 1))) (s.heap.objs.size + 1) (.ins C s.heap.objs.size []))
 { s with heap := (s.heap.push PySem.W.emptyDict).push (PySem.W.instObj C s.heap.objs.size) } := by
 have e1 : (s.heap.push PySem.W.emptyDict).get? s.heap.objs.size = some PySem.W.emptyDict := Heap.get?_push_size s.heap rfl
 have e2 : ((s.heap.push PySem.W.emptyDict).push (PySem.W.instObj C s.heap.objs.size)).get? (s.heap.objs.size + 1) = some (PySem.W.instObj C s.heap.objs.size) := by
  have := Heap.get?_push_size (s.heap.push PySem.W.emptyDict) (o := PySem.W.instObj C s.heap.objs.size) rfl
  rwa [Heap.size_push] at this
 have e3 : (s.heap.push PySem.W.emptyDict).Ns s.heap.objs.size (fun _ => none) := ⟨PySem.W.emptyDict,#[],_,e1,rfl,(fun e he => absurd he (by simp)),fun _ => rfl⟩
 have I1 := I.laid (a := s.heap.objs.size) (o := .own (s.heap.objs.size + 1)) (h' := s.heap.push PySem.W.emptyDict) (t' := s.toks) (fun b u q => Heap.get?_push_of_some _ q) (Nat.le_refl _) ⟨_,e1⟩
 refine I1.laid (a := s.heap.objs.size + 1) (o := .ins C s.heap.objs.size []) (t' := s.toks) (fun b u q => Heap.get?_push_of_some _ q) (Nat.le_of_eq (Heap.size_push _ _)) ?_
 have ne : s.heap.objs.size ≠ s.heap.objs.size + 1 := Nat.ne_of_lt (Nat.lt_succ_self _)
 refine ⟨by rw [upd_ne ne,Ad],Nat.zero_le _,ne,e2,fun _ => none,(Heap.Ns1.of_empty e3).at fun o q => Heap.get?_push_of_some _ q,fun _ => True.intro,fun y hy => absurd rfl hy⟩
theorem attr_of {prog : Program} {w : World} {env : Env} {e : Expr} {f : Str} {pos : Pos} {s : Shared} {Q : Value → Shared → Prop} (hb : attributeBase e f env (eval e env) = eval e env)
 (h : wpAny (model prog w) A (eval e env) (fun o s₁ => wpAny (model prog w) A (getAttr o f true) Q E s₁) E s) : wpAny (model prog w) A (eval (.Attribute e f pos) env) Q E s :=
 Attribute_any_ h (by rw [arm_eval_Attribute,hb])
end
def tFld (K : PySem.W.Frag) (ta : TE) (f : Str) : TE := fun σ H Q => ta σ H fun x H1 => ∃ a C dx fs v,x = .ref a ∧ H1 a = some (.ins C dx fs) ∧ Cls K C ∧ Cz K C f ∧ fs.lookup f = some v ∧ Q v H1
def sFld (K : PySem.W.Frag) (ta tv : TE) (f : Str) : TS := fun D σ H => tv σ H fun y H1 => ta σ H1 fun x H2 => ∃ a C dx fs,x = .ref a ∧ H2 a = some (.ins C dx fs) ∧ Cls K C ∧ Cz K C f ∧ fs.length < 1000 ∧
 D.nx σ (upd H2 a (.ins C dx (putF f y fs)))
section
variable {X : Cx} {o e value : Expr} {f : Str} {pos pos' tpos : Pos} {ta tv : TE}
theorem Bf (he : PE X e ta) (hb : attributeBase e f X.env (eval e X.env) = eval e X.env) : PE X (.Attribute e f pos) (tFld X.K ta f) := by
 intro pins s σ H Q I h
 refine attr_of hb (thn (he pins s σ H _ I h) fun u s1 ⟨x,H1,I1,rx,a,C,dx,fs,v,ex,ea,c,n,l,q⟩ => ?_)
 subst ex
 obtain rfl : u = Value.ref a := rx
 exact getattr_ok I1 ea c n l fun u' s2 I2 ru => ⟨v,H1,I2,ru,q⟩
theorem Ev (ha : PE X o ta) (hv : PE X value tv) (hs : swapsWith value (some (.Attribute o f pos')) pos.line X.env = pure false) : PS X (.Assign [.Attribute o f pos'] value pos) (sFld X.K ta tv f) := by
 intro pins s σ H D I h
 refine plainObj_wpAny_Assign_Attribute (thn (hv pins s σ H _ I h) fun u s1 ⟨y,H1,I1,ry,q⟩ => thn (ha pins s1 σ H1 _ I1 q) fun ov s2 ⟨x,H2,I2,rx,a,C,dx,fs,ex,ea,c,n,l,q2⟩ => ?_) hs
 subst ex
 obtain rfl : ov = Value.ref a := rx
 exact setattr_ok I2 ea c n l ry fun s3 I3 => ⟨σ,_,I3,q2⟩
end
section
variable {X : Cx} {pins : List (Addr × Obj)} {σ : St} {H : Hp} {s : Shared} {A : Around} {E : Value → Shared → Prop} {Q : Value → Shared → Prop} {c : Value} {b : Bool}
inductive TyOf (K : PySem.W.Frag) (H : Hp) : V → Value → Prop where
 | non : TyOf K H .non (.type "NoneType")
 | bl (x : Bool) : TyOf K H (.bl x) (.type "bool")
 | int (i : Int) : TyOf K H (.int i) (.type "int")
 | str (x : Str) : TyOf K H (.str x) (.type "str")
 | flt (x : UInt64) : TyOf K H (.flt x) (.type "float")
 | lst {a : Addr} {xs : List V} (e : H a = some (.lst xs)) : TyOf K H (.ref a) (.type "list")
 | frz {a : Addr} {o : Obj} {xs : List V} (e : H a = some (.frz o (.lst xs))) : TyOf K H (.ref a) (.type "list")
 | tup {a : Addr} {xs : List V} (e : H a = some (.tup xs)) : TyOf K H (.ref a) (.type "tuple")
 | dK {a : Addr} {kvs : List (Key × V)} (e : H a = some (.dK kvs)) : TyOf K H (.ref a) (.type "dict")
 | dT {a : Addr} {kvs : List (List Key × V)} (e : H a = some (.dT kvs)) : TyOf K H (.ref a) (.type "dict")
 | ins {a C dx : Addr} {fs : List (Str × V)} (e : H a = some (.ins C dx fs)) (cl : Cls K C) (ha : PySem.W.findIn K (.ref C) "__class__" = some (some (.builtin "object.__class__")))
  (hn : PySem.W.specialIn K (.builtin "object.__class__") "__get__" = some (some (.builtin "getset_descriptor.__get__"))) (htk : PySem.W.takesIn K (.builtin "object.__class__") = some true)
  (hm : PySem.W.mroIn K C (.type "object") = some true) : TyOf K H (.ref a) (.ref C)
theorem isinst_ok {x : V} {u t : Value} (I : Inv X pins σ H s) (rx : RelV x u) (ty : TyOf X.K H x t) (e : PySem.W.kitOne X.K t c = some b) (h : ∀ tk,Q (.bool b) { s with toks := tk }) :
 wpAny (model X.prog X.w) A (call (.builtin "isinstance") [u,c]) Q E s := by
 cases ty with
 | non => cases (show u = Value.none from rx); exact PySem.W.kia_one PySem.W.kitx_none I.kIn True.intro e (fun z => nomatch z) h
 | bl y => cases (show u = Value.bool y from rx); exact PySem.W.kia_one PySem.W.kitx_bool I.kIn True.intro e (fun z => nomatch z) h
 | int i => obtain ⟨t,q⟩ := (show ∃ t,u = Value.int i t from rx); cases q; exact PySem.W.kia_one PySem.W.kitx_int I.kIn True.intro e (fun z => nomatch z) h
 | str y => obtain ⟨t,q⟩ := (show ∃ t,u = Value.str y t from rx); cases q; exact PySem.W.kia_one PySem.W.kitx_str I.kIn True.intro e (fun z => nomatch z) h
 | flt y => obtain ⟨t,q⟩ := (show ∃ t,u = Value.float y t from rx); cases q; exact PySem.W.kia_one PySem.W.kitx_float I.kIn True.intro e (fun z => nomatch z) h
 | @lst a xs ea =>
   cases (show u = Value.ref a from rx)
   obtain ⟨_,_,n,_,h1⟩ := (show Cq X.prog X.w H s.heap a (.lst xs) from I.hok a _ ea)
   exact PySem.W.kia_one PySem.W.kitx_list I.kIn ⟨_,h1,rfl⟩ e (fun z => nomatch z) h
 | @frz a ob xs ea =>
   cases (show u = Value.ref a from rx)
   obtain ⟨_,_,_,n,_,h1⟩ := (show Cq X.prog X.w H s.heap a (.frz ob (.lst xs)) from I.hok a _ ea)
   exact PySem.W.kia_one PySem.W.kitx_list I.kIn ⟨_,h1,rfl⟩ e (fun z => nomatch z) h
 | @tup a xs ea =>
   cases (show u = Value.ref a from rx)
   obtain ⟨_,_,_,p⟩ := (show Cq X.prog X.w H s.heap a (.tup xs) from I.hok a _ ea)
   obtain ⟨o,h1,h2,_⟩ := p
   exact PySem.W.kia_one PySem.W.kitx_tuple I.kIn ⟨o,h1,h2⟩ e (fun z => nomatch z) h
 | @dK a kvs ea =>
   cases (show u = Value.ref a from rx)
   obtain ⟨_,_,vs,_,p⟩ := (show Cq X.prog X.w H s.heap a (.dK kvs) from I.hok a _ ea)
   obtain ⟨o,es,ep,h1,h2,_⟩ := p
   exact PySem.W.kia_one PySem.W.kitx_dict I.kIn ⟨o,h1,h2.1⟩ e (fun z => nomatch z) h
 | @dT a kvs ea =>
   cases (show u = Value.ref a from rx)
   obtain ⟨_,_,xs,_,o,es,ep,h1,h2,_⟩ := (show Cq X.prog X.w H s.heap a (.dT kvs) from I.hok a _ ea)
   exact PySem.W.kia_one PySem.W.kitx_dict I.kIn ⟨o,h1,h2.1⟩ e (fun z => nomatch z) h
 | @ins a C dx fs ea cl ha hn htk hm =>
   cases (show u = Value.ref a from rx)
   obtain ⟨mA,O,_⟩ := ins_get I.hok ea
   obtain ⟨od,J,_⟩ := O.look
   exact PySem.W.kia_one (PySem.W.kitx_own (cl.get _) cl.hd ha hn htk hm) I.kIn J e (fun z => nomatch z) h
end
end L2
namespace L2
open PySem PySem.Spec PyProof.Rows
structure Room (k : Nat) (A : Around) : Prop where
 hd : A.handled = none
 dp : A.depth + 3 * k + 5 < recursionLimit
 un : A.units + 16 * k + 200 < cLine
 gd : A.guards = some []
theorem Room.mono {j k : Nat} {A : Around} (r : Room k A) (h : j ≤ k) : Room j A := ⟨r.hd,by have := r.dp; omega,by have := r.un; omega,r.gd⟩
theorem Room.deeper {k : Nat} {A : Around} (r : Room (k + 1) A) (env : Env) : Room k (A.deeper env) :=
 ⟨r.hd,by have := r.dp; show A.depth + 1 + 3 * k + 5 < _; omega,by have := r.un; show A.units + 3 + 16 * k + 200 < _; omega,by have := r.gd; first | exact this | simpa [Around.deeper] using this⟩
theorem make_depth {A : Around} {C : Addr} {us : List Value} {kw : List (Str × Value)} : (A.under (.builtin "type.__call__" ⟨.ref C :: us,kw⟩)).depth = A.depth + 1 := by
 first | rfl | simp [Around.under,Code.weight,Code.isCreation,Code.isGuard,Code.isCaller,Code.frames,Code.isFrame,guardIds]
theorem make_units {A : Around} {C : Addr} {us : List Value} {kw : List (Str × Value)} : (A.under (.builtin "type.__call__" ⟨.ref C :: us,kw⟩)).units = A.units + 1 := by
 first | rfl | simp [Around.under,Code.cUnits,Code.frames,Code.isFrame]
theorem Room.make {k : Nat} {A : Around} (r : Room (k + 1) A) (C : Addr) (us : List Value) (kw : List (Str × Value)) : Room k (A.under (.builtin "type.__call__" ⟨.ref C :: us,kw⟩)) :=
 ⟨r.hd,by have := r.dp; rw [make_depth]; omega,by have := r.un; rw [make_units]; omega,by have := r.gd; first | exact this | simpa [Around.under,Code.guards,Code.isGuard,guardIds,pushGuards] using this⟩
theorem Room.depth {k : Nat} {A : Around} (r : Room k A) : A.depth < recursionLimit := by have := r.dp; omega
theorem Room.units {k : Nat} {A : Around} (r : Room k A) : A.units + 64 < cLine := by have := r.un; omega
theorem Room.units0 {k : Nat} {A : Around} (r : Room k A) : A.units < cLine := by have := r.un; omega
def tNil : TA := fun _ H Q => Q [] H
def tCons (ta : TE) (tr : TA) : TA := fun σ H Q => ta σ H fun x H1 => tr σ H1 fun xs H2 => Q (x :: xs) H2
section
variable {X : Cx} {e : Expr} {es : List Expr} {te : TE} {t : TA} {pos : Pos}
theorem Ac : PA X [] tNil := fun _ _ _ _ H Q I h => Calls.spliced_nil ⟨[],H,I,.nil,h⟩
theorem Aa (ha : PE X e te) (hr : PA X es t) (hs : starEach (e :: es) X.env = (false,eval e X.env) :: starEach es X.env := by rfl) : PA X (e :: es) (tCons te t) := by
 intro pos pins s σ H Q I h
 rw [hs]
 show wpAny _ _ (spliced ((false,eval e X.env) :: backTo pos (starEach es X.env))) _ _ s
 refine Calls.spliced_cons (thn (ha pins s σ H _ I h) fun u s1 ⟨x,H1,I1,r1,q1⟩ => ?_)
 exact thn (hr pos pins s1 σ H1 _ I1 q1) fun us s2 ⟨xs,H2,I2,r2,q2⟩ => ⟨x :: xs,H2,I2,.cons r1 r2,q2⟩
def tTup (t : TA) : TE := fun σ H Q => t σ H fun xs H1 => xs.length ≤ sizeLine ∧ ∀ p,H1 p = none → Q (.ref p) (upd H1 p (.tup xs))
def tLst (t : TA) : TE := fun σ H Q => t σ H fun xs H1 => xs.length ≤ sizeLine ∧ ∀ p,H1 p = none → Q (.ref p) (upd H1 p (.lst xs))
theorem pe_tup {x1} (h : PA X es t) : PE X (.Tuple es x1 pos) (tTup t) := by
 intro pins s σ H Q I hq
 refine wpAny_Tuple_spliced (thn (h pos pins s σ H _ I hq) fun us s1 ⟨xs,H1,I1,r,z,q⟩ => ⟨by rw [← r.length]; exact z,?_⟩)
 have hf : H1 s1.heap.objs.size = none := I1.hok.fresh (Nat.le_refl _)
 refine ⟨.ref s1.heap.objs.size,upd H1 s1.heap.objs.size (.tup xs),I1.laid (t' := s1.toks) (fun b u e => Heap.get?_push_of_some _ e) (Nat.le_refl _) ?_,rfl,q _ hf⟩
 exact ⟨z,us,r,⟨_,Heap.get?_push_size _ rfl,rfl,_,rfl⟩⟩
theorem A5 (h : PA X es t) : PE X (.List es pos) (tLst t) := by
 intro pins s σ H Q I hq
 refine wpAny_List_spliced (thn (h pos pins s σ H _ I hq) fun us s1 ⟨xs,H1,I1,r,z,q⟩ => ⟨by rw [← r.length]; exact z,?_⟩)
 have hf : H1 s1.heap.objs.size = none := I1.hok.fresh (Nat.le_refl _)
 refine ⟨.ref s1.heap.objs.size,upd H1 s1.heap.objs.size (.lst xs),I1.laid (t' := s1.toks) (fun b u e => Heap.get?_push_of_some _ e) (Nat.le_refl _) ?_,rfl,q _ hf⟩
 exact ⟨z,us,0,r,Heap.get?_push_size _ rfl⟩
end
abbrev Sp := List V → Hp → VK → XK → Prop
abbrev CXT := List Env → Hp → Shared → XK → Value → Shared → Prop
structure Env0 (P : Program) (w : World) (K : PySem.W.Frag) (mg : Str → Option Value) (base : Heap) (A : Around) (outer : List Env) (s : Shared) (H : Hp) : Prop where
 frames : A.frames = some outer
 mod : Mod K mg base
 bs : ∀ b o,base.get? b = some o → s.heap.get? b = some o ∧ H b = none
 bsz : base.objs.size ≤ s.heap.objs.size
 funs : s.heap.FunFrames base outer
 frf : ∀ b ∈ frs outer,H b = none
 hok : HOk P w H s.heap
 bare : AllBare s.gens
def CE (outer : List Env) (P : Program) (w : World) (H : Hp) (s : Shared) (Q : VK) (u : Value) (s' : Shared) : Prop :=
 ∃ v H',s'.os = s.os ∧ AllBare s'.gens ∧ Un (frs outer) [] H H' s.heap s'.heap ∧ HOk P w H' s'.heap ∧ RelV v u ∧ Q v H'
def CR (CX : CXT) (outer : List Env) (P : Program) (w : World) (H : Hp) (s : Shared) (Q : VK) (E : XK) (r : Result) (s' : Shared) : Prop :=
 match r with
 | .ok (.ret u) => CE outer P w H s Q u s'
 | .ok _ => False
 | .error e => CX outer H s E e s'
structure FnOk (P : Program) (w : World) (K : PySem.W.Frag) (mg : Str → Option Value) (base : Heap) (CX : CXT) (k : Nat) (f : Addr) (fd : FuncData) (ps : List Str) (sp : Sp) : Prop where
 len : ∀ vs H Q E,sp vs H Q E → vs.length = ps.length
 run : ∀ (A : Around) (outer : List Env) (s : Shared) (H : Hp) (args : Args) (us : List Value) (vs : List V) (Q : VK) (E : XK),Room k A → Env0 P w K mg base A outer s H → BindsTo s fd args (ps.zip us) → Vals vs us → sp vs H Q E →
  codeAny (model P w) A (.call (.ref f) args) (CR CX outer P w H s Q E) s
theorem Env0.make {P : Program} {w : World} {K : PySem.W.Frag} {mg : Str → Option Value} {base : Heap} {A : Around} {outer : List Env} {s : Shared} {H : Hp} (e : Env0 P w K mg base A outer s H) (C : Addr) (us : List Value) (kw : List (Str × Value)) :
 Env0 P w K mg base (A.under (.builtin "type.__call__" ⟨.ref C :: us,kw⟩)) outer s H := ⟨by first | exact e.frames | (simpa [Around.under,Code.envs,Code.isFrame,pushEnvs] using e.frames),e.mod,e.bs,e.bsz,e.funs,e.frf,e.hok,e.bare⟩
section
variable {X : Cx} {pins : List (Addr × Obj)} {σ : St} {H : Hp} {s s' : Shared}
theorem Inv.env0 (I : Inv X pins σ H s) : Env0 X.prog X.w X.K X.mg X.base X.A X.stack s H :=
 ⟨I.ok.frames,I.ok.mod,I.bs,Nat.le_trans I.ok.bsz I.sz,I.stack,I.stkFree,I.hok,I.bare⟩
theorem Inv.after {Q : VK} {u : Value} (I : Inv X pins σ H s) (h : CE X.stack X.prog X.w H s Q u s') : EP X pins σ Q u s' := by
 obtain ⟨v,H',os,bare,un,hok,r,q⟩ := h
 obtain ⟨hh,g,d,t,os'⟩ := s'
 obtain rfl : os' = s.os := os
 exact ⟨v,H',I.call (h' := hh) (g' := g) (d' := d) (t' := t) (ch := []) un hok bare (fun b z => absurd z (by simp)),r,q⟩
end
def tCall (sp : Sp) (dvs : List V) (E : XK) (t : TA) : TE := fun σ H Q => t σ H fun vs H1 => sp (vs ++ dvs) H1 Q E
def tMake (C : Addr) (sp : Sp) (dvs : List V) (E : XK) (t : TA) : TE := fun σ H Q => t σ H fun vs H1 => ∀ x dx,H1 x = none → H1 dx = none → dx ≠ x →
 sp (.ref x :: (vs ++ dvs)) (upd (upd H1 dx (.own x)) x (.ins C dx [])) (fun v H2 => v = .non ∧ Q (.ref x) H2) E
def Binds (K : PySem.W.Frag) (fd : FuncData) (ps : List Str) (ds : List Value) : Prop :=
 ∀ (s : Shared) (us : List Value),K.In s.heap → (us ++ ds).length = ps.length → BindsTo s fd ⟨us,[]⟩ (ps.zip (us ++ ds))
theorem Binds.all {K : PySem.W.Frag} {fd : FuncData} {ps : List Str} (h : ∀ us : List Value,us.length = ps.length → bindArgs fd ⟨us,[]⟩ = pure (ps.zip us)) : Binds K fd ps [] := fun s us _ hl => by
 rw [List.append_nil] at hl ⊢
 exact .of_eq (h us hl)
def Passes (CX : CXT) (X : Cx) (E : XK) : Prop := ∀ (pins : List (Addr × Obj)) (σ : St) (H : Hp) (s : Shared) (e : Value) (s' : Shared),Inv X pins σ H s → CX X.stack H s E e s' → X.xe e s'
section
variable {X : Cx} {CX : CXT} {k : Nat} {f C : Addr} {fd : FuncData} {ps : List Str} {sp : Sp} {dvs : List V} {ds : List Value} {E : XK} {x m : Str} {p pos apos : Pos} {e o : Expr} {es : List Expr} {ta : TE} {t : TA}
theorem run_fn {pins : List (Addr × Obj)} {σ : St} {H : Hp} {s : Shared} {Q : VK} {us : List Value} {vs : List V} (F : FnOk X.prog X.w X.K X.mg X.base CX k f fd ps sp) (hr : Room k X.A) (hb : Binds X.K fd ps ds) (hd : Vals dvs ds) (hx : Passes CX X E)
 (I : Inv X pins σ H s) (r : Vals vs us) (h : sp (vs ++ dvs) H Q E) : wpAny (model X.prog X.w) X.A (call (.ref f) us) (EP X pins σ Q) X.xe s := by
 have r2 : Vals (vs ++ dvs) (us ++ ds) := r.append hd
 have hl : (us ++ ds).length = ps.length := by rw [← r2.length]; exact F.len _ _ _ _ h
 refine wpAny_call (codeAny_mono (F.run X.A X.stack s H ⟨us,[]⟩ (us ++ ds) (vs ++ dvs) Q E hr I.env0 (hb s us I.kIn hl) r2 h) fun r s' hq => ?_)
 cases r with
 | error e => exact hx pins σ H s e s' I hq
 | ok fl =>
   cases fl with
   | ret u => exact I.after hq
   | next => exact False.elim hq
   | brk => exact False.elim hq
   | cont => exact False.elim hq
theorem pe_call (F : FnOk X.prog X.w X.K X.mg X.base CX k f fd ps sp) (hr : Room k X.A) (hg : Gl X x) (hm : X.mg x = some (.ref f)) (hk : PySem.W.keepIn X.K (.ref f) = true) (hb : Binds X.K fd ps ds) (hd : Vals dvs ds) (hx : Passes CX X E)
 (ha : PA X (e :: es) t) (hdb : (x == ("__debug__" : Str)) = false := by decide) (he : starEach (e :: es) X.env = (false,eval e X.env) :: starEach es X.env := by rfl) (hpl : (backTo pos (starEach es X.env)).any (·.1) = false := by rfl) :
 PE X (.Call (.Name x p) (e :: es) [] pos) (tCall sp dvs E t) := by
 intro pins s σ H Q I h
 refine wpAny_Call_Name_kw (ld_glob I hg hm ?_ hdb)
 refine PySem.W.callWith_K (h₀ := X.base) I.ok.mod.kin hk (thn (ha pos pins s σ H _ I h) fun us s1 ⟨vs,H1,I1,r,q⟩ => ⟨I1.kIn,?_⟩) he hpl
 exact run_fn F hr hb hd hx I1 r q
theorem pe_call0 (F : FnOk X.prog X.w X.K X.mg X.base CX k f fd ps sp) (hr : Room k X.A) (hg : Gl X x) (hm : X.mg x = some (.ref f)) (hk : PySem.W.keepIn X.K (.ref f) = true) (hb : Binds X.K fd ps ds) (hd : Vals dvs ds) (hx : Passes CX X E)
 (hdb : (x == ("__debug__" : Str)) = false := by decide) : PE X (.Call (.Name x p) [] [] pos) (tCall sp dvs E tNil) := by
 intro pins s σ H Q I h
 refine wpAny_Call_Name_kw (ld_glob I hg hm ?_ hdb)
 exact PySem.W.callWith_K0 I.kIn hk (run_fn (us := []) F hr hb hd hx I .nil h)
structure Mk (K : PySem.W.Frag) (C f : Addr) : Prop where
 makes : PySem.W.makesIn K C = true
 init : PySem.W.findIn K (.ref C) "__init__" = some (some (.ref f))
 fn : PySem.W.isFn K (.ref f) = true
 kp : PySem.W.keepIn K (.ref C) = true
theorem run_make {pins : List (Addr × Obj)} {σ : St} {H : Hp} {s : Shared} {Q : VK} {us : List Value} {vs : List V} (M : Mk X.K C f) (F : FnOk X.prog X.w X.K X.mg X.base CX k f fd ps sp) (hr : Room (k + 1) X.A) (hb : Binds X.K fd ps ds) (hd : Vals dvs ds)
 (hx : Passes CX X E) (I : Inv X pins σ H s) (r : Vals vs us)
 (h : ∀ x dx,H x = none → H dx = none → dx ≠ x → sp (.ref x :: (vs ++ dvs)) (upd (upd H dx (.own x)) x (.ins C dx [])) (fun v H2 => v = .non ∧ Q (.ref x) H2) E) :
 wpAny (model X.prog X.w) X.A (call (.ref C) us) (EP X pins σ Q) X.xe s := by
 have hq := h (s.heap.objs.size + 1) s.heap.objs.size (I.hok.fresh (Nat.le_succ _)) (I.hok.fresh (Nat.le_refl _)) (Nat.ne_of_lt (Nat.lt_succ_self _))
 have I2 := Inv.made (C := C) I
 have r2 : Vals (V.ref (s.heap.objs.size + 1) :: (vs ++ dvs)) (Value.ref (s.heap.objs.size + 1) :: (us ++ ds)) := .cons rfl (r.append hd)
 have hl : (Value.ref (s.heap.objs.size + 1) :: us ++ ds).length = ps.length := by
  have e := r2.length
  rw [F.len _ _ _ _ hq] at e
  exact e.symm
 refine wpAny_call (make_map (f := f) I.kIn M.makes M.init (beq_iff_eq.mp M.fn) (codeAny_mono (F.run _ X.stack _ _ ⟨Value.ref (s.heap.objs.size + 1) :: us,[]⟩ (Value.ref (s.heap.objs.size + 1) :: (us ++ ds)) _ _ E (hr.make C us [])
  (I2.env0.make C us []) (hb _ (Value.ref (s.heap.objs.size + 1) :: us) I2.kIn hl) r2 hq) fun r s' hq' => ?_))
 cases r with
 | error e => exact hx pins σ _ _ e s' I2 hq'
 | ok fl =>
   cases fl with
   | ret u =>
     obtain ⟨v,H',I3,rv,ev,q3⟩ := I2.after hq'
     subst ev
     exact ⟨rv,⟨V.ref (s.heap.objs.size + 1),H',I3,rfl,q3⟩⟩
   | next => exact False.elim hq'
   | brk => exact False.elim hq'
   | cont => exact False.elim hq'
theorem pe_make (M : Mk X.K C f) (F : FnOk X.prog X.w X.K X.mg X.base CX k f fd ps sp) (hr : Room (k + 1) X.A) (hg : Gl X x) (hm : X.mg x = some (.ref C)) (hb : Binds X.K fd ps ds) (hd : Vals dvs ds) (hx : Passes CX X E)
 (ha : PA X (e :: es) t) (hdb : (x == ("__debug__" : Str)) = false := by decide) (he : starEach (e :: es) X.env = (false,eval e X.env) :: starEach es X.env := by rfl) (hpl : (backTo pos (starEach es X.env)).any (·.1) = false := by rfl) :
 PE X (.Call (.Name x p) (e :: es) [] pos) (tMake C sp dvs E t) := by
 intro pins s σ H Q I h
 refine wpAny_Call_Name_kw (ld_glob I hg hm ?_ hdb)
 refine PySem.W.callWith_K (h₀ := X.base) I.ok.mod.kin M.kp (thn (ha pos pins s σ H _ I h) fun us s1 ⟨vs,H1,I1,r,q⟩ => ⟨I1.kIn,?_⟩) he hpl
 exact run_make M F hr hb hd hx I1 r q
end
section
variable {X : Cx} {CX : CXT} {k : Nat} {f C : Addr} {fd : FuncData} {ps ks : List Str} {sp : Sp} {E : XK} {x m : Str} {p pos apos kpos : Pos} {e o : Expr} {es : List Expr} {kws : List Keyword} {te ta : TE} {t tk : TA} {nm : Option Str}
variable {g : List Value → List Value → List Value} {gV : List V → List V → List V}
end
structure Ak (N P : List Str) (sc : Scope) : Prop where
 kind : sc.kind = .function
 co : sc.isCoroutine = false
 gen : sc.isGenerator = false
 nd : N.Nodup
 pre : N.take P.length = P
 par : ∀ x ∈ P,sc.names.lookup x = some .local ∨ sc.names.lookup x = some .cell
 nofree : ∀ y ∈ sc.names,y.2 ≠ .free
theorem bindL_out {kindOf : Str → Option NameKind} {x : Str} : ∀ {binds : List (Str × Value)} {m : Str → Option Value},(∀ v,(x,v) ∉ binds) → bindL kindOf binds m x = m x
 | [],_,_ => rfl
 | (n,v) :: r,m,h => by
   unfold bindL
   rw [bindL_out fun w hw => h w (List.mem_cons_of_mem _ hw)]
   split
   ·have : x ≠ n := by rintro rfl; exact h v List.mem_cons_self
    simp [this]
   ·rfl
theorem bindC_out {kindOf : Str → Option NameKind} {x : Str} : ∀ {binds : List (Str × Value)} {m : Str → Option Value},(∀ v,(x,v) ∉ binds) → bindC kindOf binds m x = m x
 | [],_,_ => rfl
 | (n,v) :: r,m,h => by
   unfold bindC
   rw [bindC_out fun w hw => h w (List.mem_cons_of_mem _ hw)]
   split
   ·rfl
   ·have : x ≠ n := by rintro rfl; exact h v List.mem_cons_self
    simp [this]
theorem bindL_get {kindOf : Str → Option NameKind} {x : Str} {v : Value} : ∀ {P : List Str} {vs : List Value} {i : Nat} {m : Str → Option Value},P.Nodup → P[i]? = some x → vs[i]? = some v → kindOf x = some .local →
 bindL kindOf (P.zip vs) m x = some v
 | [],_,_,_,_,h,_,_ => by simp at h
 | _ :: _,[],_,_,_,_,h,_ => by simp at h
 | p :: P,w :: vs,0,m,nd,h1,h2,hk => by
   simp at h1 h2; subst h1; subst h2
   show bindL kindOf ((p,w) :: P.zip vs) m p = _
   unfold bindL
   rw [bindL_out fun v hv => (List.nodup_cons.mp nd).1 (List.of_mem_zip hv).1,if_pos hk]
   simp
 | p :: P,w :: vs,i + 1,m,nd,h1,h2,hk => by
   show bindL kindOf ((p,w) :: P.zip vs) m x = _
   unfold bindL
   exact bindL_get (i := i) (List.nodup_cons.mp nd).2 (by simpa using h1) (by simpa using h2) hk
theorem bindC_get {kindOf : Str → Option NameKind} {x : Str} {v : Value} : ∀ {P : List Str} {vs : List Value} {i : Nat} {m : Str → Option Value},P.Nodup → P[i]? = some x → vs[i]? = some v → kindOf x ≠ some .local →
 bindC kindOf (P.zip vs) m x = some v
 | [],_,_,_,_,h,_,_ => by simp at h
 | _ :: _,[],_,_,_,_,h,_ => by simp at h
 | p :: P,w :: vs,0,m,nd,h1,h2,hk => by
   simp at h1 h2; subst h1; subst h2
   show bindC kindOf ((p,w) :: P.zip vs) m p = _
   unfold bindC
   rw [bindC_out fun v hv => (List.nodup_cons.mp nd).1 (List.of_mem_zip hv).1,if_neg hk]
   simp
 | p :: P,w :: vs,i + 1,m,nd,h1,h2,hk => by
   show bindC kindOf ((p,w) :: P.zip vs) m x = _
   unfold bindC
   exact bindC_get (i := i) (List.nodup_cons.mp nd).2 (by simpa using h1) (by simpa using h2) hk
def start (N : List Str) (vs : List V) : St := vs.map some ++ List.replicate (N.length - vs.length) none
def cxOf (CX : CXT) (P : Program) (w : World) (K : PySem.W.Frag) (mg : Str → Option Value) (base : Heap) (N : List Str) (qual : Str) (scope : Scope) (f : Addr) (cd : Value) (A : Around) (outer : List Env) (s : Shared) (H : Hp) (E : XK) : Cx where
 prog := P
 w := w
 K := K
 mg := mg
 base := base
 A := A.deeper (envOfC qual scope s.heap.objs.size f cd)
 N := N
 s₀ := s
 H₀ := H
 env := envOfC qual scope s.heap.objs.size f cd
 outer := outer
 stack := envOfC qual scope s.heap.objs.size f cd :: outer
 ex := []
 calm := true
 fn := fun _ => true
 pn := []
 xe := fun e s' => wpAny (model P w) (A.deeper (envOfC qual scope s.heap.objs.size f cd)) (leaving (envOfC qual scope s.heap.objs.size f cd) e) (fun _ s'' => CX outer H s E e s'') (fun e' s'' => CX outer H s E e' s'') s'
theorem cell_has {sc : Scope} {n : Nat} {x : Str} (h : sc.names.lookup x = some .cell) : ∃ c,(cellsFrom n sc.names []).lookup x = some c := by
 have q := PySem.W.cellsFrom_some sc.names n [] (.inl h)
 exact Option.isSome_iff_exists.mp q
theorem inv_start {CX : CXT} {P : Program} {w : World} {K : PySem.W.Frag} {mg : Str → Option Value} {base : Heap} {N ps : List Str} {qual : Str} {scope : Scope} {f : Addr} {cd : Value} {A : Around} {outer : List Env} {s s1 : Shared} {H : Hp} {E : XK} {us : List Value} {vs : List V}
 (S : Ak N ps scope) (hd : A.handled = none) (e0 : Env0 P w K mg base A outer s H) (hl : vs.length = ps.length) (r : Vals vs us)
 (x : InCallC s s.heap.objs.size (bindL (envOfC qual scope s.heap.objs.size f cd).kindOf (ps.zip us) fun _ => none) (cellsFrom (s.heap.objs.size + 1) scope.names []) (bindC (envOfC qual scope s.heap.objs.size f cd).kindOf (ps.zip us) fun _ => none) s1) :
 Inv (cxOf CX P w K mg base N qual scope f cd A outer s H E) [] (start N vs) H s1 := by
 have hpl : ps.length ≤ N.length := by have := congrArg List.length S.pre; rw [List.length_take] at this; omega
 obtain ⟨h1,tk,rfl,hk⟩ := x.done
 have noA : ∀ b : Addr,b ∉ (cxOf CX P w K mg base N qual scope f cd A outer s H E).ex := fun b z => absurd (show b ∈ ([] : List Addr) from z) (by simp)
 refine ⟨⟨e0.mod,S.kind,rfl,rfl,Nat.le_refl _,fun y z c h1 h2 => ?_,fun y hy => ?_,fun y c _ h => ?_,fun _ => hd,Around.frames_deeper e0.frames,.inr ⟨rfl,rfl⟩,fun b z => absurd z (noA b),e0.bs,e0.bsz,fun b _ _ => noA b,fun b z => absurd z (noA b),e0.funs,e0.frf⟩,
  rfl,e0.bare,Un.kept hk,⟨_,x.toInCall.ns,fun i y v h1 h2 h3 => ?_⟩,fun y c h => ⟨_,x.cell y c h⟩,e0.hok.fresh (Nat.le_refl _),fun y c h => ?_,fun p hp => absurd (show p ∈ ([] : List (Addr × Obj)) from hp) (by simp),e0.hok.kept hk,?_⟩
 ·exact name_of_addr x.apart (PySem.mem_of_lookup h1) (PySem.mem_of_lookup h2)
 ·have hy : scope.names.lookup y = some .cell ∨ scope.names.lookup y = some .free := hy
  rcases hy with hy | hy
  ·exact cell_has hy
  ·exact absurd rfl (S.nofree _ (PySem.mem_of_lookup hy))
 ·exact Nat.le_of_lt (x.above y c (PySem.mem_of_lookup h))
 ·have hi : i < vs.length := by
   unfold start at h2
   by_cases hi : i < vs.length
   ·exact hi
   ·rw [List.getElem?_append_right (by simpa using hi)] at h2
    rw [List.getElem?_replicate] at h2
    split at h2 <;> cases h2
  have ha : vs[i]? = some v := by
   unfold start at h2
   rw [List.getElem?_append_left (by simpa using hi),List.getElem?_map] at h2
   cases e : vs[i]? with
   | none => rw [e] at h2; cases h2
   | some a => rw [e] at h2; cases h2; rfl
  obtain ⟨u,hu,rv⟩ := r.get ha
  have hp : ps[i]? = some y := by
   rw [← S.pre,List.getElem?_take_of_lt (by omega)]; exact h1
  have ndP : ps.Nodup := by rw [← S.pre]; exact S.nd.sublist (List.take_sublist _ _)
  refine ⟨u,rv,?_⟩
  rcases S.par y (List.mem_of_getElem? hp) with k | k
  ·exact .inl ⟨k,bindL_get ndP hp hu k⟩
  ·obtain ⟨c,e⟩ := cell_has (n := s.heap.objs.size + 1) k
   refine .inr ⟨.inl k,c,e,?_⟩
   have q := x.cell y c e
   rw [bindC_get ndP hp hu (by show scope.names.lookup y ≠ _; rw [k]; decide)] at q
   exact q
 ·exact e0.hok.fresh (Nat.le_of_lt (x.above y c (PySem.mem_of_lookup h)))
 ·unfold start
  show _ = N.length
  rw [List.length_append,List.length_map,List.length_replicate]
  omega
theorem fn_of {CX : CXT} {P : Program} {w : World} {K : PySem.W.Frag} {mg : Str → Option Value} {base : Heap} {k : Nat} {f : Addr} {name qual : Str} {params : Arguments} {body : List Stmt} {scope : Scope} {dV kV doc pm cdv ct oc : Value} {an od : Option Addr}
 {osl : Array (Option Value)} {N ps : List Str} {sp : Sp} (lk : K.lookup f = some ⟨oc,od,.func (PySem.W.fnOf name qual params body scope dV kV doc pm an cdv ct),osl⟩) (hcd : PySem.W.codeIn K cdv qual = true) (S : Ak N ps scope)
 (len : ∀ vs H Q E,sp vs H Q E → vs.length = ps.length)
 (hbody : ∀ (A : Around) (outer : List Env) (s : Shared) (H : Hp) (vs : List V) (Q : VK) (E : XK),Room k (A.deeper (envOfC qual scope s.heap.objs.size f cdv)) → sp vs H Q E →
   ∃ t,PSs (cxOf CX P w K mg base N qual scope f cdv A outer s H E) body t ∧ t { nx := fun _ H' => Q .non H',rt := Q } (start N vs) H) :
 FnOk P w K mg base CX (k + 1) f (PySem.W.fnOf name qual params body scope dV kV doc pm an cdv ct) ps sp := by
 refine ⟨len,fun A outer s H args us vs Q E hr e0 hb r hsp => ?_⟩
 have hl := len _ _ _ _ hsp
 have KX : K.In s.heap := e0.mod.kin.keeps fun b o e => (e0.bs b o e).1
 have lim : s.heap.NoLimit := e0.mod.nolimit.keeps fun b o e => (e0.bs b o e).1
 have hkind : ∀ y ∈ ps.zip us,scope.names.lookup y.1 = some .local ∨ (scope.names.lookup y.1 = some .cell ∧ ((cellsFrom (s.heap.objs.size + 1) scope.names []).lookup y.1).isSome = true) := fun ⟨n,v⟩ hy => by
  rcases S.par n (List.of_mem_zip hy).1 with q | q
  ·exact .inl q
  ·exact .inr ⟨q,PySem.W.cellsFrom_some _ _ _ (.inl q)⟩
 refine codeAny_call_function hr.depth (KX _ _ lk) rfl S.co S.gen rfl (PySem.W.codeRec_of KX hcd) (hb _ _ _ _ ?_)
 refine wpAny_newFunctionEnv_cells S.kind hkind fun env he s1 x => ?_
 subst he
 refine ⟨lim.keeps x.toInCall.keep,codeAny_func ?_⟩
 obtain ⟨t,ht,hq⟩ := hbody A outer s H vs Q E (hr.deeper _) hsp
 have I : Inv (cxOf CX P w K mg base N qual scope f cdv A outer s H E) [] (start N vs) H s1 := inv_start S hr.hd e0 hl r x
 refine wpAny_mono (ht [] s1 (start N vs) H _ I hq) (fun fl s' hs => ?_) fun e s' hs => hs
 have fin : ∀ {σ' : St} {H' : Hp} {v : V} {u : Value},Inv (cxOf CX P w K mg base N qual scope f cdv A outer s H E) [] σ' H' s' → RelV v u → Q v H' → CE outer P w H s Q u s' :=
  fun {σ' H' v u} J rv q => ⟨v,H',J.os,J.bare,J.base,J.hok,rv,q⟩
 cases fl with
 | ret u =>
   obtain ⟨v,σ',H',J,rv,q⟩ := hs
   exact fin J rv q
 | next =>
   obtain ⟨σ',H',J,q⟩ := hs
   exact fin (v := V.non) (u := Value.none) J rfl q
 | brk =>
   obtain ⟨_,_,_,q⟩ := hs
   exact False.elim q
 | cont =>
   obtain ⟨_,_,_,q⟩ := hs
   exact False.elim q
end L2
namespace L2
open PySem PySem.Spec PyProof.Rows
section
variable {X : Cx} {x : Str} {p pos : Pos} {e : Expr} {es : List Expr} {t : TA} {id T : String} {r : List V → Hp → VK → Prop}
def tCB (r : List V → Hp → VK → Prop) (t : TA) : TE := fun σ H Q => t σ H fun vs H1 => r vs H1 Q
theorem An (hc : CallR X (.builtin id) r) (hg : Gl X x) (hm : X.mg x = none) (hv : bootBuiltins x = some (.builtin id)) (ha : PA X (e :: es) t) (hn : x ≠ "__name__" := by decide) (hdb : (x == ("__debug__" : Str)) = false := by decide)
 (he : starEach (e :: es) X.env = (false,eval e X.env) :: starEach es X.env := by rfl) (hpl : (backTo pos (starEach es X.env)).any (·.1) = false := by rfl) : PE X (.Call (.Name x p) (e :: es) [] pos) (tCB r t) := by
 intro pins s σ H Q I h
 refine wpAny_Call_Name_kw (ld_blt I hg hm hv ?_ hn hdb)
 exact PyProof.Rows.callWith_builtin1 (thn (ha pos pins s σ H _ I h) fun us s1 ⟨vs,H1,I1,r1,q1⟩ => hc pins s1 σ H1 vs us Q I1 r1 q1) he hpl
theorem Bh (hc : CallR X (.type T) r) (hg : Gl X x) (hm : X.mg x = none) (hv : bootBuiltins x = some (.type T)) (ha : PA X (e :: es) t) (hn : x ≠ "__name__" := by decide) (hdb : (x == ("__debug__" : Str)) = false := by decide)
 (he : starEach (e :: es) X.env = (false,eval e X.env) :: starEach es X.env := by rfl) (hpl : (backTo pos (starEach es X.env)).any (·.1) = false := by rfl) : PE X (.Call (.Name x p) (e :: es) [] pos) (tCB r t) := by
 intro pins s σ H Q I h
 refine wpAny_Call_Name_kw (ld_blt I hg hm hv ?_ hn hdb)
 exact PyProof.Rows.callWith_type1 (thn (ha pos pins s σ H _ I h) fun us s1 ⟨vs,H1,I1,r1,q1⟩ => hc pins s1 σ H1 vs us Q I1 r1 q1) he hpl
end
end L2
namespace HT
open PySem PyProof.Rows
section
open PySem.SeqAt
open PySem.AutoSeq1 (wpAny_loadPart')
open PySem.MeetsSeq PySem.MeetsSeq2 PySem.MeetsSeq3
end
section
variable {prog : Program} {w : World} {A : Around} {E : Value → Shared → Prop} {s : Shared}
theorem cat_tup {t b : Addr} {vs ws : List Value} {Q : Value → Shared → Prop} (ht : IsTup s.heap t vs.toArray) (hb : IsTup s.heap b ws.toArray) (hv : vs ≠ [])
 (h1 : ws = [] → Q (.ref t) s) (h2 : ws ≠ [] → Q (.ref s.heap.objs.size) { s with heap := s.heap.push { cls := .type "tuple",data := .seq (vs ++ ws).toArray } })
 (hsz : vs.length + ws.length ≤ sizeLine) : wpAny (model prog w) A (binaryOp .Add (.ref t) (.ref b)) Q E s := by
 obtain ⟨⟨cls,dd,data,sl⟩,ho,hc,n,hd⟩ := id ht
 obtain ⟨⟨cls2,dd2,data2,sl2⟩,ho2,hc2,n2,hd2⟩ := id hb
 simp only at hc hd hc2 hd2
 subst hc hd hc2 hd2
 have e : vs.toArray ++ ws.toArray = (vs ++ ws).toArray := by simp
 by_cases hw : ws = []
 ·exact concat_meets ⟨_,ho,rfl⟩ ⟨_,ho2,rfl⟩ noFill_tuple_add seq_tuple_add PySem.F.slot_tuple_add PySem.F.entry_tuple_add (PySem.F.args_tuple_add_2 _ _)
   (tuple_addW1 t b vs.toArray ws.toArray n n2 dd dd2 sl sl2 (by simpa using hv) (by simp [hw])) ⟨ho,ho2,h1 hw⟩
 ·refine concat_meets ⟨_,ho,rfl⟩ ⟨_,ho2,rfl⟩ noFill_tuple_add seq_tuple_add PySem.F.slot_tuple_add PySem.F.entry_tuple_add (PySem.F.args_tuple_add_2 _ _)
   (tuple_addW2 t b vs.toArray ws.toArray n n2 dd dd2 sl sl2 (by simpa using hv) (by simpa using hw) (by rw [List.size_toArray,List.size_toArray]; exact hsz)) ⟨ho,ho2,?_⟩
  rw [e]
  exact h2 hw
def sIx (n d : Nat) : Option Int → Nat
 | none => d
 | some v => if v < 0 then (v + (n : Int)).toNat else min v.toNat n
theorem sIx_none (n d : Nat) : sIx n d none = d := rfl
theorem sIx_nat (n d k : Nat) : sIx n d (some (k : Int)) = min k n := by
 show (if (k : Int) < 0 then ((k : Int) + (n : Int)).toNat else min (k : Int).toNat n) = min k n
 rw [if_neg (by omega),Int.toNat_natCast]
theorem sIx_le (n d : Nat) (hd : d ≤ n) (o : Option Int) : sIx n d o ≤ n := by
 cases o with
 | none => exact hd
 | some v =>
   show (if v < 0 then (v + (n : Int)).toNat else min v.toNat n) ≤ n
   by_cases hv : v < 0
   ·rw [if_pos hv]; omega
   ·rw [if_neg hv]; exact Nat.min_le_right _ _
theorem clip_eq (v : Int) (n d : Nat) : (if v < 0 then max (v + (n : Int)) 0 else min v (n : Int)) = ((sIx n d (some v) : Nat) : Int) := by
 show (if v < 0 then max (v + (n : Int)) 0 else min v (n : Int)) = (((if v < 0 then (v + (n : Int)).toNat else min v.toNat n) : Nat) : Int)
 by_cases hv : v < 0
 ·simp only [if_pos hv]; omega
 ·simp only [if_neg hv]; omega
theorem adjust_gen (lo hi : Option Int) (n : Nat) : Builtin.Slice.sliceAdjust lo hi 1 (n : Int) = (((sIx n 0 lo : Nat) : Int),((sIx n n hi : Nat) : Int)) := by
 have h1 : ¬ ((1 : Int) < 0) := by omega
 unfold Builtin.Slice.sliceAdjust
 simp only [h1,if_false]
 refine Prod.ext ?_ ?_
 ·cases lo with
  | none => rfl
  | some v => exact clip_eq v n 0
 ·cases hi with
  | none => rfl
  | some v => exact clip_eq v n n
theorem places_gen (i j : Nat) : Builtin.Slice.slicePlaces (i : Int) (j : Int) 1 = j - i := by
 unfold Builtin.Slice.slicePlaces
 have h1 : (1 : Int) > 0 := by omega
 simp only [h1,if_true,Int.ediv_one]
 split <;> omega
theorem slicePart_ {v : Value} {o : Option Int} {Q : Option Int → Shared → Prop} (p : IsPart v o) (h : Q o s) : wpAny (model prog w) A (Builtin.Slice.slicePartIndex v) Q E s := by
 cases p with
 | none => exact slicePart_none h
 | int i t => exact slicePart_int h
theorem sliceApplied_gen {sl : Addr} {vl vu : Value} {lo hi : Option Int} {n : Nat} {Q : Int × Int × Nat → Shared → Prop} (hs : s.heap.IsSliceOf sl vl vu .none) (pl : IsPart vl lo) (pu : IsPart vu hi)
 (h : Q (((sIx n 0 lo : Nat) : Int),1,sIx n n hi - sIx n 0 lo) s) : wpAny (model prog w) A (Builtin.Slice.sliceApplied (.ref sl) (pure (n : Int))) Q E s := by
 obtain ⟨os,hos,hcs,hds⟩ := id hs
 unfold Builtin.Slice.sliceApplied Builtin.Slice.sliceFields
 refine wpAny_bind (wpAny_bind (wpAny_field hos hds (x := vl) rfl (wpAny_bind (wpAny_field hos hds (x := vu) rfl (wpAny_bind (wpAny_field hos hds (x := .none) rfl (wpAny_pure ?_)))))))
 refine wpAny_bind (slicePart_none ?_)
 show wpAny _ _ (if ((1 : Int) == 0) = true then _ else _) _ _ s
 rw [if_neg (by decide)]
 refine wpAny_bind (slicePart_ pl (wpAny_bind (slicePart_ pu (wpAny_bind (wpAny_pure ?_)))))
 show wpAny _ _ (match Builtin.Slice.sliceAdjust lo hi 1 (n : Int) with | (lo,hi) => pure (lo,(1 : Int),Builtin.Slice.slicePlaces lo hi 1)) _ _ s
 rw [adjust_gen lo hi n]
 show wpAny _ _ (pure (((sIx n 0 lo : Nat) : Int),(1 : Int),Builtin.Slice.slicePlaces ((sIx n 0 lo : Nat) : Int) ((sIx n n hi : Nat) : Int) 1)) _ _ s
 rw [places_gen]
 exact wpAny_pure h
theorem pick_gen (xs : Array Value) (i k : Nat) : ((List.range k).filterMap fun (m : Nat) => xs[((i : Int) + (m : Int) * 1).toNat]?).toArray = ((xs.toList.drop i).take k).toArray := by
 have e : (fun (m : Nat) => xs[((i : Int) + (m : Int) * 1).toNat]?) = fun m => xs[i + m]? := by
  funext m
  have : ((i : Int) + (m : Int) * 1).toNat = i + m := by omega
  rw [this]
 rw [e]
 have := pick_run xs i k
 rw [List.filterMap_map] at this
 have e2 : ((fun x => xs[x]?) ∘ fun x => i + x) = fun m => xs[i + m]? := rfl
 rw [e2] at this
 rw [this]
theorem getItem_tuple_cut {t sl : Addr} {items : Array Value} {vl vu : Value} {lo hi : Option Int} {Q : Value → Shared → Prop} (ht : IsTup s.heap t items) (hs : s.heap.IsSliceOf sl vl vu .none) (pl : IsPart vl lo) (pu : IsPart vu hi)
 (hw : ¬ (sIx items.size 0 lo = 0 ∧ sIx items.size items.size hi = items.size))
 (h : Q (.ref s.heap.objs.size) { s with heap := s.heap.push { cls := .type "tuple",data := .seq ((items.toList.drop (sIx items.size 0 lo)).take (sIx items.size items.size hi - sIx items.size 0 lo)).toArray } })
 (hsz : items.size ≤ sizeLine) : wpAny (model prog w) A (getItem (.ref t) (.ref sl)) Q E s := by
 have htake : sizeOk (.seq ((items.toList.drop (sIx items.size 0 lo)).take (sIx items.size items.size hi - sIx items.size 0 lo)).toArray) := by
  show ((items.toList.drop (sIx items.size 0 lo)).take (sIx items.size items.size hi - sIx items.size 0 lo)).toArray.size ≤ sizeLine
  rw [List.size_toArray,List.length_take,List.length_drop,Array.length_toList]
  omega
 have hj : sIx items.size items.size hi ≤ items.size := sIx_le _ _ (Nat.le_refl _) hi
 obtain ⟨os,hos,hcs,hds⟩ := id hs
 have hTs : s.TypeIs (.ref sl) "slice" := ⟨os,hos,hcs⟩
 unfold getItem
 try with_reducible refine wpAny_holding ?_
 first | refine wpAny_bind (wpAny_pure ?_) | skip
 refine wpAny_bind (wpAny_sequenceKey ht.typeIs (by decide) ?_)
 refine wpAny_bind (wpAny_callSpecial?_slot (name := Str.ofString "__getitem__") ht.typeIs PyProof.Rows.slot_tuple_getitem
  (wpAny_call_entry PyProof.Rows.slot_tuple_getitem ht.typeIs entry_tuple_getitem ?_ (args_tuple_getitem _ _)))
 show wpAny _ _ (Builtin.Tuple.tupleItemsOf (.ref t) >>= _) _ _ s
 refine wpAny_bind (tupleItemsOf_ ht ?_)
 refine wpAny_bind (wpAny_typeOf hTs ?_)
 rw [if_pos (by decide)]
 refine wpAny_bind (sliceApplied_gen hs pl pu ?_)
 have hno : ¬ ((((sIx items.size 0 lo : Nat) : Int) == 0 && (1 : Int) == 1 && (sIx items.size items.size hi - sIx items.size 0 lo) == items.size) = true) := by
  intro q
  rw [Bool.and_eq_true,Bool.and_eq_true] at q
  have q1 : ((sIx items.size 0 lo : Nat) : Int) = 0 := eq_of_beq q.1.1
  have q2 : sIx items.size items.size hi - sIx items.size 0 lo = items.size := eq_of_beq q.2
  exact hw ⟨by omega,by omega⟩
 show wpAny _ _ (if (((sIx items.size 0 lo : Nat) : Int) == 0 && (1 : Int) == 1 && (sIx items.size items.size hi - sIx items.size 0 lo) == items.size) = true then _ else _) _ _ s
 rw [if_neg hno,pick_gen]
 first
  | exact wpAny_bind (m := Builtin.Tuple.tupleExact _) (wpAny_newObj_type (wpAny_pure ⟨_,rfl,wpAny_pure h⟩) htake)
  | exact wpAny_bind (m := Builtin.Tuple.tupleExact _) (wpAny_newObj_type (wpAny_bind (wpAny_pure (wpAny_pure ⟨_,rfl,wpAny_pure h⟩))) htake)
  | exact wpAny_bind (wpAny_bind (m := Builtin.Tuple.tupleExact _) (wpAny_newObj_type (wpAny_pure (wpAny_pure ⟨_,rfl,wpAny_pure h⟩)) htake))
  | exact wpAny_bind (wpAny_bind (m := Builtin.Tuple.tupleExact _) (wpAny_newObj_type (wpAny_pure ⟨_,rfl,wpAny_pure h⟩) htake))
end
end HT
namespace L2
open PySem PySem.Spec PyProof.Rows
abbrev TO := St → Hp → (Option Int → Hp → Prop) → Prop
def PO (X : Cx) (e : Option Expr) (t : TO) : Prop :=
 ∀ (pins : List (Addr × Obj)) (s : Shared) (σ : St) (H : Hp) (Q : Option Int → Hp → Prop),Inv X pins σ H s → t σ H Q →
  wpAny (model X.prog X.w) X.A (evalPart e X.env) (fun u s' => ∃ o H',Inv X pins σ H' s' ∧ IsPart u o ∧ Q o H') X.xe s
def tNoPart : TO := fun _ H Q => Q none H
def tPart (t : TE) : TO := fun σ H Q => t σ H fun x H1 => ∃ i,x = .int i ∧ Q (some i) H1
section
variable {X : Cx} {e : Expr} {te : TE} {lo hi : Option Expr} {tl th : TO} {pos p2 : Pos}
theorem Bm : PO X none tNoPart := by
 intro pins s σ H Q I h
 rw [evalPart_none]
 exact wpAny_pure ⟨none,H,I,.none,h⟩
theorem Bd (h : PE X e te) : PO X (some e) (tPart te) := by
 intro pins s σ H Q I hw
 rw [evalPart_some]
 refine thn (h pins s σ H _ I hw) fun u s1 ⟨x,H1,I1,r1,q1⟩ => ?_
 obtain ⟨i,rfl,q⟩ := q1
 obtain ⟨t,rfl⟩ := r1
 exact ⟨some i,H1,I1,.int i t,q⟩
def SlR (X : Cx) (r : V → Option Int → Option Int → Hp → VK → Prop) : Prop :=
 ∀ (pins : List (Addr × Obj)) (s : Shared) (σ : St) (H : Hp) (x : V) (v vl vu : Value) (lo hi : Option Int) (sl : Addr) (Q : VK),Inv X pins σ H s → RelV x v → s.heap.IsSliceOf sl vl vu .none → IsPart vl lo → IsPart vu hi → r x lo hi H Q →
  ∃ T id,typeLookup (.type T) "__getitem__" = pure (some (.builtin id)) ∧ s.TypeIs v T ∧ wpAny (model X.prog X.w) X.A (getItem v (.ref sl)) (EP X pins σ Q) X.xe s
def tSl (r : V → Option Int → Option Int → Hp → VK → Prop) (te : TE) (tl th : TO) : TE := fun σ H Q => te σ H fun x H1 => tl σ H1 fun l H2 => th σ H2 fun u H3 => r x l u H3 Q
theorem Ba {r : V → Option Int → Option Int → Hp → VK → Prop} (hr : SlR X r) (he : PE X e te) (hl : PO X lo tl) (hu : PO X hi th) : PE X (.Subscript e (.Slice lo hi none p2) pos) (tSl r te tl th) := by
 intro pins s σ H Q I h
 refine Subscript_ (thn (he pins s σ H _ I h) fun v s1 ⟨x,H1,I1,r1,q1⟩ => ?_)
 refine wpAny_Slice (thn (hl pins s1 σ H1 _ I1 q1) fun vl s2 ⟨l,H2,I2,pl,q2⟩ => thn (hu pins s2 σ H2 _ I2 q2) fun vu s3 ⟨u,H3,I3,pu,q3⟩ => ?_)
 rw [evalPart_none]
 refine wpAny_pure ?_
 have I4 : Inv X pins σ H3 { s3 with heap := s3.heap.push { cls := .type "slice",data := .fields #[vl,vu,.none] } } := I3.kept (t' := s3.toks) fun b ob q => Heap.get?_push_of_some _ q
 obtain ⟨T,id,hT,ht,hg⟩ := hr pins { s3 with heap := s3.heap.push { cls := .type "slice",data := .fields #[vl,vu,.none] } } σ H3 x v vl vu l u s3.heap.objs.size Q I4 r1 (Heap.IsSliceOf.new ..) pl pu q3
 show wpAny (model X.prog X.w) X.A (subscriptTail e (.Slice lo hi none p2) v (.ref s3.heap.objs.size)) (EP X pins σ Q) X.xe { s3 with heap := s3.heap.push { cls := .type "slice",data := .fields #[vl,vu,.none] } }
 exact tail_any (ops := [.ref s3.heap.objs.size,v]) ht hT hg (by with_unfolding_all rfl)
def cutV (xs : List V) (lo hi : Option Int) : List V := (xs.drop (HT.sIx xs.length 0 lo)).take (HT.sIx xs.length xs.length hi - HT.sIx xs.length 0 lo)
theorem cutV_length (xs : List V) (lo hi : Option Int) : (cutV xs lo hi).length ≤ xs.length := by
 unfold cutV
 rw [List.length_take,List.length_drop]
 omega
def rSlT (K : PySem.W.Frag) : V → Option Int → Option Int → Hp → VK → Prop := fun x lo hi H Q => ∃ a xs,x = .ref a ∧ SqT K H a xs ∧
 ¬ (HT.sIx xs.length 0 lo = 0 ∧ HT.sIx xs.length xs.length hi = xs.length) ∧ ∀ p,H p = none → Q (.ref p) (upd H p (.tup (cutV xs lo hi)))
theorem sl_tup : SlR X (rSlT X.K) := by
 intro pins s σ H x v vl vu lo hi sl Q I rx hs pl pu h
 obtain ⟨a,xs,rfl,hx,hw,q⟩ := h
 cases rx
 obtain ⟨its,r,ht,hz⟩ := I.tuple hx
 have hlen : its.toArray.size = xs.length := by rw [List.size_toArray]; exact r.length.symm
 refine ⟨"tuple",_,PyProof.Rows.slot_tuple_getitem.lookup,ht.typeIs,?_⟩
 refine HT.getItem_tuple_cut ht hs pl pu (by rw [hlen]; exact hw) ?_ (by rw [hlen]; exact hz)
 rw [hlen]
 refine ⟨.ref s.heap.objs.size,_,I.laid (t' := s.toks) (o := .tup (cutV xs lo hi)) (fun b ob q => Heap.get?_push_of_some _ q) (Nat.le_refl _) ?_,rfl,q _ (I.hok.fresh (Nat.le_refl _))⟩
 exact ⟨Nat.le_trans (cutV_length xs lo hi) hz,_,(r.drop (HT.sIx xs.length 0 lo)).take (HT.sIx xs.length xs.length hi - HT.sIx xs.length 0 lo),IsTup.new _ _⟩
def rCatT (K : PySem.W.Frag) : R2 := fun x y H Q => ∃ a b xs ys,x = .ref a ∧ y = .ref b ∧ SqT K H a xs ∧ SqT K H b ys ∧ xs ≠ [] ∧ xs.length + ys.length ≤ sizeLine ∧
 (ys = [] → Q (.ref a) H) ∧ (ys ≠ [] → ∀ p,H p = none → Q (.ref p) (upd H p (.tup (xs ++ ys))))
theorem Vals.nil_iff {xs : List V} {us : List Value} (r : Vals xs us) : us = [] ↔ xs = [] := by
 cases r with
 | nil => simp
 | cons _ _ => simp
theorem op_catT : OpR X (binaryOp .Add) (rCatT X.K) := by
 intro pins s σ H x y v u Q I rx ry h
 obtain ⟨a,b,xs,ys,rfl,rfl,ha,hb,hx,hz,q1,q2⟩ := h
 cases rx
 cases ry
 obtain ⟨its,r1,p1,_⟩ := I.tuple ha
 obtain ⟨its2,r2,p2,_⟩ := I.tuple hb
 refine HT.cat_tup p1 p2 (fun z => hx (r1.nil_iff.mp z)) (fun z => ⟨.ref a,H,I,rfl,q1 (r2.nil_iff.mp z)⟩) (fun z => ?_) (by rw [← r1.length,← r2.length]; exact hz)
 refine ⟨.ref s.heap.objs.size,_,I.laid (t' := s.toks) (o := .tup (xs ++ ys)) (fun b ob q => Heap.get?_push_of_some _ q) (Nat.le_refl _) ?_,rfl,q2 (fun w => z (r2.nil_iff.mpr w)) _ (I.hok.fresh (Nat.le_refl _))⟩
 exact ⟨by rw [List.length_append]; exact hz,_,r1.append r2,IsTup.new _ _⟩
end
end L2
namespace L2
open PySem PySem.Spec PyProof.Rows
def ixN (n : Nat) (i : Int) : Option Nat := if 0 ≤ i then (if i < n then some i.toNat else none) else if -(n : Int) ≤ i then some (i + n).toNat else none
def atI {α : Type} (xs : List α) (i : Int) : Option α := (ixN xs.length i).bind fun j => xs[j]?
theorem ixN_seq {n : Nat} {i : Int} {j : Nat} (h : ixN n i = some j) : seqIndex? i n = some j ∧ j < n ∧ -(n : Int) ≤ i ∧ i < n := by
 unfold ixN at h
 by_cases h0 : 0 ≤ i
 ·rw [if_pos h0] at h
  by_cases h1 : i < n
  ·rw [if_pos h1] at h
   have e : i.toNat = j := Option.some.inj h
   exact ⟨by rw [seqIndex_of h0 h1,e],by omega,by omega,h1⟩
  ·rw [if_neg h1] at h; cases h
 ·rw [if_neg h0] at h
  by_cases h1 : -(n : Int) ≤ i
  ·rw [if_pos h1] at h
   have e : (i + n).toNat = j := Option.some.inj h
   exact ⟨by rw [seqIndex_neg (by omega) h1,e],by omega,h1,by omega⟩
  ·rw [if_neg h1] at h; cases h
theorem atI_get {α : Type} {xs : List α} {i : Int} {v : α} (h : atI xs i = some v) : ∃ j,seqIndex? i xs.length = some j ∧ xs[j]? = some v ∧ j < xs.length ∧ -(xs.length : Int) ≤ i ∧ i < xs.length := by
 unfold atI at h
 cases e : ixN xs.length i with
 | none => rw [e] at h; cases h
 | some j =>
   rw [e] at h
   obtain ⟨h1,h2,h3,h4⟩ := ixN_seq e
   exact ⟨j,h1,h,h2,h3,h4⟩
theorem atI_nat {α : Type} {xs : List α} {j : Nat} {v : α} (h : xs[j]? = some v) : atI xs (j : Int) = some v := by
 have hj : j < xs.length := (List.getElem?_eq_some_iff.mp h).1
 have e : ixN xs.length (j : Int) = some j := by
  unfold ixN
  rw [if_pos (by omega),if_pos (by omega)]; simp
 unfold atI; rw [e]; exact h
theorem atI_last {α : Type} (xs : List α) (v : α) : atI (xs ++ [v]) (-1) = some v := by
 have hl : (xs ++ [v]).length = xs.length + 1 := by simp
 have e : ixN (xs ++ [v]).length (-1) = some xs.length := by
  unfold ixN
  rw [hl,if_neg (by decide),if_pos (by omega)]
  congr 1
  omega
 unfold atI
 rw [e]
 show (xs ++ [v])[xs.length]? = some v
 simp
def PlainIx (b : Expr) : Prop := ∀ o i,subscripted b false o i = operate [o,i] (getItem o i)
def IxR (X : Cx) (r : R2) : Prop :=
 ∀ (value slice : Expr) (pins : List (Addr × Obj)) (s : Shared) (σ : St) (H : Hp) (x y : V) (v u : Value) (Q : VK),Inv X pins σ H s → RelV x v → RelV y u → r x y H Q →
  subscripted slice false v u = operate [v,u] (getItem v u) → wpAny (model X.prog X.w) X.A (subscriptTail value slice v u) (EP X pins σ Q) X.xe s
def MtR (X : Cx) (id : String) (r : V → List V → Hp → VK → Prop) : Prop :=
 ∀ (pins : List (Addr × Obj)) (s : Shared) (σ : St) (H : Hp) (x : V) (xs : List V) (v : Value) (us : List Value) (Q : VK),Inv X pins σ H s → RelV x v → Vals xs us → r x xs H Q →
  wpAny (model X.prog X.w) X.A (call (.builtin id) (v :: us)) (EP X pins σ Q) X.xe s
section
variable {X : Cx} {a b : Expr} {ta tb : TE} {pos : Pos}
theorem IxR.or {r r' : R2} (h : IxR X r) (h' : IxR X r') : IxR X (fun x y H Q => r x y H Q ∨ r' x y H Q) := by
 intro value slice pins s σ H x y v u Q I rx ry q hs
 rcases q with q | q
 ·exact h value slice pins s σ H x y v u Q I rx ry q hs
 ·exact h' value slice pins s σ H x y v u Q I rx ry q hs
theorem Az {r : R2} (hr : IxR X r) (ha : PE X a ta) (hb : PE X b tb) (hs : PlainIx b) : PE X (.Subscript a b pos) (tOp r ta tb) := by
 intro pins s σ H Q I h
 exact Subscript_ (binT ha hb I h fun v u s2 x y H2 I2 rx ry q => hr a b pins s2 σ H2 x y v u Q I2 rx ry q (hs _ _))
def rIxL (K : PySem.W.Frag) : R2 := fun x y H Q => ∃ p xs i v,x = .ref p ∧ y = .int i ∧ SqL K H p xs ∧ atI xs i = some v ∧ Q v H
def rIxT (K : PySem.W.Frag) : R2 := fun x y H Q => ∃ p xs i v,x = .ref p ∧ y = .int i ∧ SqT K H p xs ∧ atI xs i = some v ∧ Q v H
def rIxS : R2 := fun x y H Q => ∃ z i c,x = .str z ∧ y = .int i ∧ z.length ≤ sizeLine ∧ atI z.cps.toList i = some c ∧ Q (.str ⟨#[c]⟩) H
theorem At : IxR X (rIxL X.K) := by
 intro value slice pins s σ H x y v u Q I rx ry h hs
 obtain ⟨p,xs,i,z,rfl,rfl,hq,he,q⟩ := h
 cases rx
 obtain ⟨t,rfl⟩ := ry
 obtain ⟨its,r,pl,hz⟩ := I.list hq
 obtain ⟨j,h1,h2,h3,h4,h5⟩ := atI_get he
 obtain ⟨w,ew,rw'⟩ := r.get h2
 have hl := r.length
 have hn := line63
 have fin : EP X pins σ Q w s := ⟨z,H,I,rw',q⟩
 by_cases h0 : 0 ≤ i
 ·have hj : i.toNat = j := by
   rw [seqIndex_of h0 h5] at h1
   exact Option.some.inj h1
  exact item_listR pl.isList h0 (by omega) (by rw [hj]; simpa using ew) fin hs
 ·have hj : (i + (its.toArray.size : Int)).toNat = j := by
   rw [seqIndex_neg (by omega) h4] at h1
   rw [List.size_toArray,← hl]
   exact Option.some.inj h1
  exact subscriptTail_builtinR (x := w) pl.isList.typeIs slot_list_getitem.lookup
   (wpAny_getItem_list_neg (Q := fun r s' => r = w ∧ EP X pins σ Q r s') pl.isList (by omega) (by rw [List.size_toArray] <;> omega) (by omega) (by rw [hj]; simpa using ew) ⟨rfl,fin⟩) hs
theorem Bt : IxR X (rIxT X.K) := by
 intro value slice pins s σ H x y v u Q I rx ry h hs
 obtain ⟨p,xs,i,z,rfl,rfl,hq,he,q⟩ := h
 cases rx
 obtain ⟨t,rfl⟩ := ry
 obtain ⟨its,r,pl,hz⟩ := I.tuple hq
 obtain ⟨j,h1,h2,h3,h4,h5⟩ := atI_get he
 obtain ⟨w,ew,rw'⟩ := r.get h2
 have hl := r.length
 have hn := line63
 have fin : EP X pins σ Q w s := ⟨z,H,I,rw',q⟩
 exact subscriptTail_builtinR (x := w) pl.typeIs slot_tuple_getitem.lookup
  (getItem_tuple (j := j) (Q := fun r s' => r = w ∧ EP X pins σ Q r s') pl (by omega) (by omega) (by rw [List.size_toArray,← hl]; exact h1) (by simpa using ew) ⟨rfl,fin⟩) hs
theorem ix_str : IxR X rIxS := by
 intro value slice pins s σ H x y v u Q I rx ry h hs
 obtain ⟨z,i,c,rfl,rfl,hz,he,q⟩ := h
 obtain ⟨t,rfl⟩ := rx
 obtain ⟨t',rfl⟩ := ry
 obtain ⟨j,h1,h2,h3,h4,h5⟩ := atI_get he
 have hl : z.cps.toList.length = z.length := by simp [Str.length]
 rw [hl] at h1 h4 h5
 have hn := line63
 exact tail_any (typeIs_str s z t) slot_str_getitem.lookup (getItem_str (c := c) (by
  have e1 : decide (i < -(2 ^ 63 : Int)) = false := decide_eq_false (by omega)
  have e2 : decide (i ≥ 2 ^ 63) = false := decide_eq_false (by omega)
  rw [e1,e2,Bool.or_false]) (by rw [h1]; simpa using h2) ⟨.str ⟨#[c]⟩,H,I.tok _,⟨_,rfl⟩,q⟩) hs
def rIx (K : PySem.W.Frag) : R2 := fun x y H Q => rIxL K x y H Q ∨ rIxT K x y H Q ∨ rIxS x y H Q
theorem ix_seq : IxR X (rIx X.K) := At.or (Bt.or ix_str)
theorem mapSeq_set (its : List Value) (n j : Nat) (u : Value) : Obj.mapSeq (·.setIfInBounds j u) { cls := .type "list",data := .seq its.toArray n } = { cls := .type "list",data := .seq (its.set j u).toArray n } := by
 simp [Obj.mapSeq]
theorem Inv.lst {pins : List (Addr × Obj)} {σ : St} {H : Hp} {s : Shared} {p : Addr} {xs : List V} (I : Inv X pins σ H s) (h : H p = some (.lst xs)) :
 ∃ (its : List Value) (n : Nat),Vals xs its ∧ s.heap.get? p = some { cls := .type "list",data := .seq its.toArray n } ∧ xs.length ≤ sizeLine := by
 obtain ⟨z,its,n,r,e⟩ := I.hok p _ h
 exact ⟨its,n,r,e,z⟩
theorem Inv.lstUpd {pins : List (Addr × Obj)} {σ : St} {H : Hp} {s : Shared} {p : Addr} {xs ys : List V} {its its' : List Value} {n n' : Nat} {f : Obj → Obj} (I : Inv X pins σ H s) (h : H p = some (.lst xs))
 (ho : s.heap.get? p = some { cls := .type "list",data := .seq its.toArray n }) (hf : f { cls := .type "list",data := .seq its.toArray n } = { cls := .type "list",data := .seq its'.toArray n' }) (r : Vals ys its') (hz : ys.length ≤ sizeLine) (t : Nat) :
 Inv X pins σ (upd H p (.lst ys)) { s with heap := s.heap.update p f,toks := t } := by
 have e : (s.heap.update p f).get? p = some { cls := .type "list",data := .seq its'.toArray n' } := by
  rw [Heap.get?_update_self f ho (by rw [hf] <;> rfl),hf]
 refine I.write (x := p) (e := p) (by rw [h]; trivial) (.inl rfl) (fun b u hb q => (Heap.get?_update_other _ _ (Ne.symm hb)).trans q) ⟨_,e⟩ ?_
 exact ⟨hz,its',n',r,e⟩
def rSetL : V → V → V → Hp → (Hp → Prop) → Prop := fun o i v H Q => ∃ p xs k j,o = .ref p ∧ i = .int k ∧ H p = some (.lst xs) ∧ ixN xs.length k = some j ∧ Q (upd H p (.lst (xs.set j v)))
theorem set_list : PSet X rSetL := by
 intro pins s σ H o i v ov iv u Q I ro ri rv h
 obtain ⟨p,xs,k,j,rfl,rfl,hp,hj,q⟩ := h
 cases ro
 obtain ⟨t,rfl⟩ := ri
 obtain ⟨its,n,r,ho,hz⟩ := I.lst hp
 obtain ⟨h1,h2,h3,h4⟩ := ixN_seq hj
 have hl := r.length
 have hn := line63
 have I' : Inv X pins σ (upd H p (.lst (xs.set j v))) { s with heap := s.heap.update p (Obj.mapSeq (·.setIfInBounds j u)) } :=
  I.lstUpd hp ho (mapSeq_set its n j u) (r.set rv j) (by rw [List.length_set]; exact hz) s.toks
 by_cases h0 : 0 ≤ k
 ·have hk : k.toNat = j := by
   rw [seqIndex_of h0 h4] at h1
   exact Option.some.inj h1
  exact PySem.W.ki_setAt ho h0 (by omega) (by rw [List.size_toArray,← hl]; exact h4) (by rw [hk]; exact ⟨_,I',q⟩)
 ·have hk : (k + (its.toArray.size : Int)).toNat = j := by
   rw [seqIndex_neg (by omega) h3] at h1
   rw [List.size_toArray,← hl]
   exact Option.some.inj h1
  exact PySem.W.ki_setBack ho (by omega) (by rw [List.size_toArray,← hl]; exact h3) (by omega) (by rw [hk]; exact ⟨_,I',q⟩)
theorem slice_bounds (lo hi : Option Int) (n : Nat) : (sliceBounds lo hi none n).1 = ((HT.sIx n 0 lo : Nat) : Int) ∧ (sliceBounds lo hi none n).2.1 = ((HT.sIx n n hi : Nat) : Int) ∧ (sliceBounds lo hi none n).2.2 = 1 := by
 refine ⟨?_,?_,rfl⟩
 ·cases lo with
  | none => simp [sliceBounds,HT.sIx]
  | some i =>
    simp only [sliceBounds,HT.sIx,Option.getD_none,show (1 : Int) > 0 by decide,if_true]
    by_cases h : i < 0
    ·simp only [h,if_true] <;> omega
    ·simp only [h,if_false] <;> omega
 ·cases hi with
  | none => simp [sliceBounds,HT.sIx]
  | some i =>
    simp only [sliceBounds,HT.sIx,Option.getD_none,show (1 : Int) > 0 by decide,if_true]
    by_cases h : i < 0
    ·simp only [h,if_true] <;> omega
    ·simp only [h,if_false] <;> omega
theorem slicePick_cut (its : List Value) (lo hi : Option Int) : slicePick its.toArray lo hi none = ((its.drop (HT.sIx its.length 0 lo)).take (HT.sIx its.length its.length hi - HT.sIx its.length 0 lo)).toArray := by
 obtain ⟨h1,h2,h3⟩ := slice_bounds lo hi its.toArray.size
 unfold slicePick
 rw [h1,h2,h3]
 simp only [sliceRange_one,pick_run,List.size_toArray] <;> rfl
def rSlL (K : PySem.W.Frag) : V → Option Int → Option Int → Hp → VK → Prop := fun x lo hi H Q => ∃ a xs,x = .ref a ∧ SqL K H a xs ∧ ∀ p,H p = none → Q (.ref p) (upd H p (.lst (cutV xs lo hi)))
theorem Cn : SlR X (rSlL X.K) := by
 intro pins s σ H x v vl vu lo hi sl Q I rx hs pl pu h
 obtain ⟨a,xs,rfl,hx,q⟩ := h
 cases rx
 obtain ⟨its,r,ht,hz⟩ := I.list hx
 have hlen := r.length
 refine ⟨"list",_,slot_list_getitem.lookup,ht.isList.typeIs,?_⟩
 refine wpAny_getItem_list_slice ht.isList hs pl pu .none (by simp) ?_ (by rw [List.size_toArray] <;> omega)
 rw [slicePick_cut,← hlen]
 refine ⟨.ref s.heap.objs.size,_,I.laid (t' := s.toks) (o := .lst (cutV xs lo hi)) (fun b ob q => Heap.get?_push_of_some _ q) (Nat.le_refl _) ?_,rfl,q _ (I.hok.fresh (Nat.le_refl _))⟩
 exact ⟨Nat.le_trans (cutV_length xs lo hi) hz,_,0,(r.drop (HT.sIx xs.length 0 lo)).take (HT.sIx xs.length xs.length hi - HT.sIx xs.length 0 lo),Heap.get?_push_size _ rfl⟩
def flatV : V → Bool
 | .non => true
 | .bl _ => true
 | .int _ => true
 | .str _ => true
 | _ => false
def eqV : V → V → Bool
 | .non,.non => true
 | .bl a,.bl b => a == b
 | .bl a,.int b => (if a then 1 else 0) == b
 | .int a,.bl b => a == (if b then 1 else 0)
 | .int a,.int b => a == b
 | .str a,.str b => a == b
 | _,_ => false
theorem eqAt_V {A : Around} {s : Shared} {y x : V} {u v : Value} (ry : RelV y u) (rx : RelV x v) (fy : flatV y = true) (fx : flatV x = true) : SeqAt.EqAt A s u v (eqV y x) := by
 cases y with
 | non =>
   cases ry
   cases x with
   | non => cases rx; exact SeqAt.EqAt.same _
   | bl b => cases rx; exact SeqAt.EqAt.none_bool b
   | int b => obtain ⟨t,rfl⟩ := rx; exact SeqAt.EqAt.none_int b t
   | str b => obtain ⟨t,rfl⟩ := rx; exact SeqAt.EqAt.none_str b t
   | _ => exact absurd (show false = true from fx) Bool.false_ne_true
 | bl a =>
   cases ry
   cases x with
   | non => cases rx; exact SeqAt.EqAt.bool_none a
   | bl b => cases rx; exact SeqAt.EqAt.bool_bool a b
   | int b => obtain ⟨t,rfl⟩ := rx; exact SeqAt.EqAt.bool_int a b t
   | str b => obtain ⟨t,rfl⟩ := rx; exact SeqAt.EqAt.bool_str a b t
   | _ => exact absurd (show false = true from fx) Bool.false_ne_true
 | int a =>
   obtain ⟨t',rfl⟩ := ry
   cases x with
   | non => cases rx; exact SeqAt.EqAt.int_none a t'
   | bl b => cases rx; exact SeqAt.EqAt.int_bool a t' b
   | int b => obtain ⟨t,rfl⟩ := rx; exact SeqAt.EqAt.int_int a t' b t
   | str b => obtain ⟨t,rfl⟩ := rx; exact SeqAt.EqAt.int_str a t' b t
   | _ => exact absurd (show false = true from fx) Bool.false_ne_true
 | str a =>
   obtain ⟨t',rfl⟩ := ry
   cases x with
   | non => cases rx; exact SeqAt.EqAt.str_none a t'
   | bl b => cases rx; exact SeqAt.EqAt.str_bool a t' b
   | int b => obtain ⟨t,rfl⟩ := rx; exact SeqAt.EqAt.str_int a t' b t
   | str b => obtain ⟨t,rfl⟩ := rx; exact SeqAt.EqAt.str_str a t' b t
   | _ => exact absurd (show false = true from fx) Bool.false_ne_true
 | _ => exact absurd (show false = true from fy) Bool.false_ne_true
def eqU (x : V) (u : Value) : Bool := match u with
 | .none => eqV .non x
 | .bool b => eqV (.bl b) x
 | .int i _ => eqV (.int i) x
 | .str z _ => eqV (.str z) x
 | _ => false
theorem eqU_of {x y : V} {u : Value} (r : RelV y u) (f : flatV y = true) : eqU x u = eqV y x := by
 cases y with
 | non => cases r; rfl
 | bl b => cases r; rfl
 | int i => obtain ⟨t,rfl⟩ := r; rfl
 | str z => obtain ⟨t,rfl⟩ := r; rfl
 | _ => exact absurd (show false = true from f) Bool.false_ne_true
theorem any_eqU {x : V} : ∀ {xs : List V} {us : List Value},Vals xs us → xs.all flatV = true → us.any (eqU x) = xs.any fun y => eqV y x
 | _,_,.nil,_ => rfl
 | y :: xs,u :: us,.cons r t,f => by
   rw [List.all_cons,Bool.and_eq_true] at f
   rw [List.any_cons,List.any_cons,eqU_of r f.1,any_eqU t f.2]
theorem mem_eqAt {A : Around} {s : Shared} {x : V} {v : Value} (rx : RelV x v) (fx : flatV x = true) : ∀ {xs : List V} {us : List Value},Vals xs us → xs.all flatV = true → ∀ u ∈ us,SeqAt.EqAt A s u v (eqU x u)
 | _,_,.nil,_ => fun u hu => by cases hu
 | y :: xs,u :: us,.cons r t,f => fun u' hu => by
   rw [List.all_cons,Bool.and_eq_true] at f
   rcases List.mem_cons.mp hu with rfl | hu
   ·rw [eqU_of r f.1]; exact eqAt_V r rx f.1 fx
   ·exact mem_eqAt rx fx t f.2 u' hu
def inV (x : V) (xs : List V) : Bool := xs.any fun y => eqV y x
def rIn (K : PySem.W.Frag) (neg : Bool) : R2 := fun x y H Q => ∃ p xs,y = .ref p ∧ (SqL K H p xs ∨ SqT K H p xs) ∧ flatV x = true ∧ xs.all flatV = true ∧ Q (.bl (if neg then !inV x xs else inV x xs)) H
theorem op_in_seq : OpR X (compareOp .In) (rIn X.K false) := by
 intro pins s σ H x y v u Q I rx ry h
 obtain ⟨p,xs,rfl,hq,fx,fs,q⟩ := h
 cases ry
 rcases hq with hq | hq
 ·obtain ⟨its,r,pl,hz⟩ := I.list hq
  refine SeqAt.in_listAt (eqU x) pl.isList (fun w hw => mem_eqAt rx fx r fs w (by simpa using hw)) ⟨.bl _,H,I,rfl,?_⟩
  rw [show its.toArray.any (eqU x) = its.any (eqU x) by simp,any_eqU r fs]
  exact q
 ·obtain ⟨its,r,pl,hz⟩ := I.tuple hq
  refine SeqAt.in_tupleAt (eqU x) pl (fun w hw => mem_eqAt rx fx r fs w (by simpa using hw)) ⟨.bl _,H,I,rfl,?_⟩
  rw [show its.toArray.any (eqU x) = its.any (eqU x) by simp,any_eqU r fs]
  exact q
theorem call_list_of : CallR X (.type "list") (fun xs H Q => ∃ p ys,xs = [.ref p] ∧ (SqL X.K H p ys ∨ SqT X.K H p ys) ∧ ∀ l,H l = none → Q (.ref l) (upd H l (.lst ys))) := by
 intro pins s σ H xs us Q I r h
 obtain ⟨p,ys,rfl,hq,q⟩ := h
 obtain ⟨u,rfl,rx⟩ := vals1 r
 cases rx
 have fin : ∀ (its : List Value),Vals ys its → ys.length ≤ sizeLine → ∀ (h' : Heap) (c' : Nat),(∀ b o',s.heap.get? b = some o' → h'.get? b = some o') →
  h'.get? s.heap.objs.size = some { cls := .type "list",dict := none,data := .seq its.toArray c',slots := #[] } → EP X pins σ Q (.ref s.heap.objs.size) { s with heap := h' } := fun its r' hz h' c' kp e =>
  ⟨.ref s.heap.objs.size,_,I.laid (t' := s.toks) kp (Nat.le_refl _) (show Cq X.prog X.w _ h' _ (.lst ys) from ⟨hz,its,c',r',e⟩),rfl,q _ (I.hok.fresh (Nat.le_refl _))⟩
 rcases hq with hq | hq
 ·obtain ⟨its,r',pl,hz⟩ := I.list hq
  have hlen := r'.length
  obtain ⟨o,ho,hc,n,hd⟩ := pl.isList
  exact call_list_seq p (.inl rfl) ho hc hd (fun h' c' kp e => fin its r' hz h' c' kp e) (by simp only [List.size_toArray] <;> omega)
 ·obtain ⟨its,r',pl,hz⟩ := I.tuple hq
  have hlen := r'.length
  obtain ⟨o,ho,hc,n,hd⟩ := pl
  exact call_list_seq p (.inr rfl) ho hc hd (fun h' c' kp e => fin its r' hz h' c' kp e) (by simp only [List.size_toArray] <;> omega)
theorem Du : CallR X (.type "tuple") (fun xs H Q => ∃ p ys,xs = [.ref p] ∧ ((SqL X.K H p ys ∧ ∀ l,H l = none → Q (.ref l) (upd H l (.tup ys))) ∨ (SqT X.K H p ys ∧ Q (.ref p) H))) := by
 intro pins s σ H xs us Q I r h
 obtain ⟨p,ys,rfl,h⟩ := h
 obtain ⟨u,rfl,rx⟩ := vals1 r
 cases rx
 rcases h with ⟨hq,q⟩ | ⟨hq,q⟩
 ·obtain ⟨its,r',pl,hz⟩ := I.list hq
  have hlen := r'.length
  refine call_tuple_list pl.isList (fun h' kp => ?_) (by simp only [List.size_toArray] <;> omega)
  have I1 : Inv X pins σ H { s with heap := h' } := I.kept (t' := s.toks) kp
  have I2 : Inv X pins σ (upd H h'.objs.size (.tup ys)) { s with heap := h'.push { cls := .type "tuple",data := .seq its.toArray } } :=
   I1.laid (t' := s.toks) (fun b o e => Heap.get?_push_of_some _ e) (Nat.le_refl _) (show Cq X.prog X.w _ _ _ (.tup ys) from ⟨hz,its,r',IsTup.new _ _⟩)
  exact ⟨.ref h'.objs.size,_,I2,rfl,q _ (I1.hok.fresh (Nat.le_refl _))⟩
 ·obtain ⟨its,r',pl,hz⟩ := I.tuple hq
  exact call_tuple_same pl ⟨.ref p,H,I,rfl,q⟩
def tyV (K : PySem.W.Frag) (T : String) (x : V) (H : Hp) : Prop := match x with
 | .str _ => T = "str"
 | .int _ => T = "int"
 | .ref p => (T = "list" ∧ ∃ xs,SqL K H p xs) ∨ (T = "tuple" ∧ ∃ o,K.lookup p = some o ∧ o.cls = .type "tuple" ∧ o.dict = none) ∨
  (T = "dict" ∧ ((∃ kvs,H p = some (.dK kvs)) ∨ ∃ kvs,H p = some (.dT kvs))) ∨ (T = "set" ∧ ∃ S n,H p = some (.set S n))
 | _ => False
theorem tyV_is {pins : List (Addr × Obj)} {σ : St} {H : Hp} {s : Shared} {T : String} {x : V} {v : Value} (I : Inv X pins σ H s) (r : RelV x v) (ty : tyV X.K T x H) :
 s.TypeIs v T ∧ ∀ a,v = .ref a → ∃ ob,s.heap.get? a = some ob ∧ ob.dict = none := by
 cases x with
 | str z =>
   obtain ⟨t,rfl⟩ := r
   cases (show T = "str" from ty)
   exact ⟨typeIs_str s z t,fun _ e => nomatch e⟩
 | int i =>
   obtain ⟨t,rfl⟩ := r
   cases (show T = "int" from ty)
   exact ⟨typeIs_int s i t,fun _ e => nomatch e⟩
 | ref p =>
   cases r
   rcases ty with ⟨rfl,xs,hq⟩ | ⟨rfl,o,hk,hc,hd⟩ | ⟨rfl,hk⟩ | ⟨rfl,S,n,hk⟩
   ·obtain ⟨its,_,pl,_⟩ := I.list hq
    refine ⟨pl.isList.typeIs,fun a e => ?_⟩
    cases e
    obtain ⟨o,n,e,c,hd,_⟩ := pl
    exact ⟨o,e,hd⟩
   ·refine ⟨⟨o,I.kIn p o hk,hc⟩,fun a e => ?_⟩
    cases e
    exact ⟨o,I.kIn _ o hk,hd⟩
   ·have z : ∃ o,s.heap.get? p = some o ∧ o.ExactDict := by
     rcases hk with ⟨kvs,hk⟩ | ⟨kvs,hk⟩
     ·obtain ⟨_,_,_,_,o,_,_,e,ex,_⟩ := I.hok p _ hk
      exact ⟨o,e,ex⟩
     ·obtain ⟨_,_,_,_,o,_,_,e,ex,_⟩ := I.hok p _ hk
      exact ⟨o,e,ex⟩
    obtain ⟨o,e,ex⟩ := z
    refine ⟨⟨o,e,ex.1⟩,fun a e2 => ?_⟩
    cases e2
    exact ⟨o,e,ex.2.1⟩
   ·obtain ⟨o,_,_,_,e,ex,_⟩ := I.hok p _ hk
    refine ⟨⟨o,e,ex.1⟩,fun a e2 => ?_⟩
    cases e2
    exact ⟨o,e,ex.2.1⟩
 | _ => exact False.elim ty
def tBM0 (K : PySem.W.Frag) (T : String) (r : V → List V → Hp → VK → Prop) (to : TE) : TE := fun σ H Q => to σ H fun x H1 => tyV K T x H1 ∧ r x [] H1 Q
def tBM (K : PySem.W.Frag) (T : String) (r : V → List V → Hp → VK → Prop) (to : TE) (t : TA) : TE := fun σ H Q => to σ H fun x H1 => tyV K T x H1 ∧ t σ H1 fun xs H2 => r x xs H2 Q
variable {o e : Expr} {es : List Expr} {to : TE} {t : TA} {name : Str} {apos cpos : Pos} {T id : String} {r : V → List V → Hp → VK → Prop}
theorem pe_bm0 (pa : PlainAttrs T) (slot : Slot T name id) (hty : typeOf (.builtin id) = pure (.type "method_descriptor")) (hm : MtR X id r) (ho : PE X o to)
 (hbase : attributeBase o name X.env (eval o X.env) = eval o X.env := by rfl) (hline : (apos.endLine == cpos.line) = true := by rfl) : PE X (.Call (.Attribute o name apos) [] [] cpos) (tBM0 X.K T r to) := by
 intro pins s σ H Q I h
 refine wpAny_Call_method0_late hbase hline (thn (ho pins s σ H _ I h) fun v s1 ⟨x,H1,I1,r1,ty,q1⟩ => ?_)
 obtain ⟨h1,h2⟩ := tyV_is I1 r1 ty
 exact ⟨T,id,pa,slot,hty,h1,h2,Calls.callWith_builtin rfl (PySem.evalArgs_none (hm pins s1 σ H1 x [] v [] Q I1 r1 .nil q1))⟩
theorem Bl (pa : PlainAttrs T) (slot : Slot T name id) (hty : typeOf (.builtin id) = pure (.type "method_descriptor")) (hm : MtR X id r) (ho : PE X o to) (ha : PA X (e :: es) t)
 (hbase : attributeBase o name X.env (eval o X.env) = eval o X.env := by rfl)
 (hfew : ((backTo cpos (starEach (e :: es) X.env)).all (fun x => !x.1) && (backToKw cpos (keywordEach [] X.env)).all (fun x => x.1.isSome)
   && decide ((e :: es).length + ([] : List Keyword).length + (if ([] : List Keyword).isEmpty then 0 else 1) < 30)) = true := by rfl)
 (hline : (apos.endLine == cpos.line) = true := by rfl) (hs : starEach (e :: es) X.env = (false,eval e X.env) :: starEach es X.env := by rfl) (hplain : (backTo cpos (starEach es X.env)).any (·.1) = false := by rfl) :
 PE X (.Call (.Attribute o name apos) (e :: es) [] cpos) (tBM X.K T r to t) := by
 intro pins s σ H Q I h
 refine wpAny_Call_method_late hbase hfew hline rfl (thn (ho pins s σ H _ I h) fun v s1 ⟨x,H1,I1,r1,ty,q1⟩ => ?_)
 obtain ⟨h1,h2⟩ := tyV_is I1 r1 ty
 refine ⟨T,id,pa,slot,hty,h1,h2,?_⟩
 have hA := ha cpos pins s1 σ H1 _ I1 q1
 rw [hs] at hA ⊢
 refine Calls.callWith_builtin (by show (false || (backTo cpos (starEach es X.env)).any (·.1)) = false; rw [hplain] <;> rfl) (Calls.evalArgs_plain ?_)
 exact thn hA fun us s2 ⟨vs,H2,I2,r2,q2⟩ => hm pins s2 σ H2 x vs v us Q I2 r1 r2 q2
/- xs.append(e),list.index on a module's tuple .. are MtR facts of 06m -/
end
end L2
namespace L2
open PySem PySem.Spec PyProof.Rows
def MtM (X : Cx) (id : String) (r : V → List V → Hp → VK → Prop) : Prop :=
 ∀ (pins : List (Addr × Obj)) (s : Shared) (σ : St) (H : Hp) (x : V) (xs : List V) (v : Value) (us : List Value) (Q : VK),Inv X pins σ H s → RelV x v → Vals xs us → r x xs H Q →
  wpAny (model X.prog X.w) X.A (call (.builtin id) (v :: us)) (EP X pins σ Q) X.xe s
theorem Vals.one : ∀ {x : V} {us : List Value},Vals [x] us → ∃ u,us = [u] ∧ RelV x u
 | _,_,.cons r .nil => ⟨_,rfl,r⟩
theorem Vals.eraseIdx : ∀ {xs : List V} {us : List Value} (i : Nat),Vals xs us → Vals (xs.eraseIdx i) (us.eraseIdx i)
 | _,_,_,.nil => .nil
 | _,_,0,.cons _ t => t
 | _,_,i + 1,.cons r t => .cons r (Vals.eraseIdx i t)
theorem len_erase {α : Type} : ∀ (l : List α) (i : Nat),(l.eraseIdx i).length ≤ l.length
 | [],_ => Nat.le_refl _
 | _ :: _,0 => Nat.le_succ _
 | _ :: r,i + 1 => Nat.succ_le_succ (len_erase r i)
section
variable {X : Cx} {pins : List (Addr × Obj)} {σ : St} {H : Hp} {s : Shared} {l b : Addr} {xs ys zs : List V}
theorem Inv.lset {its its' : List Value} {n : Nat} {f : Array Value → Array Value} {t' : Nat} (I : Inv X pins σ H s) (hH : H l = some (.lst xs))
 (e : s.heap.get? l = some { cls := .type "list",data := .seq its.toArray n }) (hf : f its.toArray = its'.toArray) (hv : Vals ys its') (hz : ys.length ≤ sizeLine) :
 Inv X pins σ (upd H l (.lst ys)) { s with heap := s.heap.update l (Obj.mapSeq f),toks := t' } := by
 have q := PySem.IsL.update e f
 rw [hf] at q
 refine I.write (x := l) (e := l) (by rw [hH]; exact trivial) (.inl rfl) (fun b' u hb hu => (Heap.get?_update_other s.heap (Obj.mapSeq f) (Ne.symm hb)).trans hu) ⟨_,q⟩ ?_
 exact ⟨hz,its',_,hv,q⟩
theorem Inv.lnew {its : List Value} {t' : Nat} (I : Inv X pins σ H s) (hv : Vals ys its) (hz : ys.length ≤ sizeLine) :
 Inv X pins σ (upd H s.heap.objs.size (.lst ys)) { s with heap := s.heap.push { cls := .type "list",data := .seq its.toArray },toks := t' } :=
 I.laid (fun _ _ q => Heap.get?_push_of_some _ q) (Nat.le_refl _) ⟨hz,its,0,hv,Heap.get?_push_size _ rfl⟩
theorem Inv.fresh (I : Inv X pins σ H s) : H s.heap.objs.size = none := I.hok.fresh (Nat.le_refl _)
theorem Inv.lstM (I : Inv X pins σ H s) (hH : H l = some (.lst xs)) : xs.length ≤ sizeLine ∧ ∃ (its : List Value) (n : Nat),Vals xs its ∧ xs.length = its.length ∧ s.heap.get? l = some { cls := .type "list",data := .seq its.toArray n } := by
 obtain ⟨z,its,n,r,e⟩ := I.hok l _ hH
 exact ⟨z,its,n,r,r.length,e⟩
theorem notLongL {n : Nat} (h : n ≤ sizeLine) : Builtin.List.listTooLong n = false := by
 unfold Builtin.List.listTooLong
 exact decide_eq_false (by omega)
end
section
variable {X : Cx}
def rAppend : V → List V → Hp → VK → Prop := fun x vs H Q => ∃ l xs y,x = .ref l ∧ vs = [y] ∧ H l = some (.lst xs) ∧ xs.length < sizeLine ∧ Q .non (upd H l (.lst (xs ++ [y])))
theorem A2 : MtM X "list.append" rAppend := by
 intro pins s σ H x vs v us Q I rx rv h
 obtain ⟨l,xs,y,rfl,rfl,hH,hz,q⟩ := h
 cases rx
 obtain ⟨u,rfl,ru⟩ := rv.one
 obtain ⟨z,its,n,r,hl,e⟩ := I.lstM hH
 refine call_meets F.slot_list_append ⟨_,e,rfl⟩ F.entry_list_append (F.args_list_append_2 _ _) (PySem.list_append l its.toArray n u (by rw [List.size_toArray]; omega)) ⟨e,?_⟩
 refine ⟨.non,_,I.lset (its' := its ++ [u]) hH e (by simp) (r.append (.cons ru .nil)) ?_,rfl,q⟩
 rw [List.length_append,List.length_singleton]
 omega
def rExtend : V → List V → Hp → VK → Prop := fun x vs H Q => ∃ l b xs zs,x = .ref l ∧ vs = [.ref b] ∧ H l = some (.lst xs) ∧ H b = some (.lst zs) ∧ xs.length + zs.length ≤ sizeLine ∧ Q .non (upd H l (.lst (xs ++ zs)))
theorem mt_extend : MtM X "list.extend" rExtend := by
 intro pins s σ H x vs v us Q I rx rv h
 obtain ⟨l,b,xs,zs,rfl,rfl,hH,hB,hz,q⟩ := h
 cases rx
 obtain ⟨u,rfl,ru⟩ := rv.one
 cases ru
 obtain ⟨z,its,n,r,hl,e⟩ := I.lstM hH
 obtain ⟨z2,its2,n2,r2,hl2,e2⟩ := I.lstM hB
 have hsz : its.toArray.size + its2.toArray.size ≤ sizeLine := by rw [List.size_toArray,List.size_toArray]; omega
 have hlong : ¬ (!its.toArray.isEmpty && Builtin.List.listTooLong (its.toArray.size + its2.toArray.size)) = true := by
  rw [notLongL hsz,Bool.and_false]
  exact Bool.false_ne_true
 refine call_meets F.slot_list_extend ⟨_,e,rfl⟩ F.entry_list_extend (F.args_list_extend_2 _ _)
  (AutoSeq1.list_extend_list_list_0 l its.toArray n b its2.toArray n2 hlong (by rw [List.size_toArray]; omega) (by omega)) ⟨e,e2,?_⟩
 refine ⟨.non,_,I.lset (its' := its ++ its2) hH e (by simp) (r.append r2) ?_,rfl,q⟩
 rw [List.length_append]
 omega
def rPopAt : V → List V → Hp → VK → Prop := fun x vs H Q => ∃ l xs i k y,x = .ref l ∧ vs = [.int i] ∧ H l = some (.lst xs) ∧ -(2 ^ 63) ≤ i ∧ i < 2 ^ 63 ∧ seqIndex? i xs.length = some k ∧ xs[k]? = some y ∧ Q y (upd H l (.lst (xs.eraseIdx k)))
theorem mt_popAt : MtM X "list.pop" rPopAt := by
 intro pins s σ H x vs v us Q I rx rv h
 obtain ⟨l,xs,i,k,y,rfl,rfl,hH,h1,h2,hk,hy,q⟩ := h
 cases rx
 obtain ⟨u,rfl,ru⟩ := rv.one
 obtain ⟨t,rfl⟩ := ru
 obtain ⟨z,its,n,r,hl,e⟩ := I.lstM hH
 obtain ⟨w,hw,rw'⟩ := r.get hy
 refine call_meets F.slot_list_pop ⟨_,e,rfl⟩ F.entry_list_pop (F.args_list_pop_2 _ _)
  (MeetsSeq.list_pop_at l its.toArray n i t k w (fitsIndex_both h1 h2) (by rw [List.size_toArray,← hl]; exact hk) (by rw [← Array.getElem?_toList]; exact hw) (by rw [List.size_toArray]; omega)) ⟨e,?_⟩
 refine ⟨y,_,I.lset (its' := its.eraseIdx k) hH e ?_ (r.eraseIdx k) ?_,rw',q⟩
 ·show its.toArray.eraseIdxIfInBounds k = (its.eraseIdx k).toArray
  rw [List.eraseIdxIfInBounds_toArray]
 ·have := len_erase xs k
  omega
def rCat : R2 := fun x y H Q => ∃ l b xs zs,x = .ref l ∧ y = .ref b ∧ H l = some (.lst xs) ∧ H b = some (.lst zs) ∧ xs.length + zs.length ≤ sizeLine ∧ ∀ p,H p = none → Q (.ref p) (upd H p (.lst (xs ++ zs)))
theorem op_cat : OpR X (binaryOp .Add) rCat := by
 intro pins s σ H x y v u Q I rx ry h
 obtain ⟨l,b,xs,zs,rfl,rfl,hH,hB,hz,q⟩ := h
 cases rx
 cases ry
 obtain ⟨z,its,n,r,hl,e⟩ := I.lstM hH
 obtain ⟨z2,its2,n2,r2,hl2,e2⟩ := I.lstM hB
 refine PySem.P.add_list e e2 ?_ (by rw [List.size_toArray,List.size_toArray]; omega)
 have ea : its.toArray ++ its2.toArray = (its ++ its2).toArray := by simp
 rw [ea]
 exact ⟨.ref _,_,I.lnew (t' := s.toks) (r.append r2) (by rw [List.length_append]; omega),rfl,q _ I.fresh⟩
end
section
variable {prog : Program} {w : World} {A : Around} {E : Value → Shared → Prop} {s : Shared}
set_option maxRecDepth 100000 in
end
section
variable {X : Cx}
end
end L2
namespace Att
open PySem PySem.W PySem.Calls PyProof.Rows
theorem ints_of_wellAll {P : Params} {h : Heap} : ∀ (ns : List Int) (vs : List Value),WellAll P h vs (ns.map WData.int) → IntsAre vs ns := by
 intro ns
 induction ns with
 | nil =>
   intro vs w
   rw [List.map_nil] at w
   cases w
   exact .nil
 | cons n ns ih =>
   intro vs w
   rw [List.map_cons] at w
   cases w with
   | cons a b =>
     cases a
     exact .cons _ _ (ih _ b)
theorem script_of {l : OpenLaw} {n : Nat} (hn : l.most = some n) {P : Params} {h : Heap} {args : List WData} {vals : List Value}
 (hpre : l.row.toRowW.claim.pre args = true) (hwl : WellAll P h vals args) :
 ∃ a vs ns,vals = [Value.ref a] ∧ args = [WData.list (ns.map WData.int)] ∧ h.get? a = some { cls := .type "list",data := .seq vs.toArray } ∧ IntsAre vs ns ∧ ns.length ≤ n := by
 have hsh : WShape.hasAll [] args [.list .int] = true := (pre_splitW hpre).1
 have hc : l.pre.holds [] { args := args } = true := (pre_splitW hpre).2
 obtain ⟨d,r,rfl,h1,h2⟩ := hasAllW_cons hsh
 obtain rfl := hasAllW_nil h2
 obtain ⟨xs,rfl,h3⟩ := hasW_list h1
 obtain ⟨ns,rfl⟩ := items_int h3
 have hlen : ns.length ≤ n := by
  unfold OpenLaw.pre at hc
  have h4 : (WTm.not (.lt (.lit (.int (n : Int))) (.len (.arg 0)))).holds [] { args := [.list (ns.map .int)] } = true := by
   have h4 := (holds_andW hc).1
   rw [hn] at h4
   exact h4
  have h5 := condW_of h4 (w_not (w_lt w_lit (w_len_list (w_arg rfl))))
  rw [List.length_map] at h5
  refine Nat.le_of_not_lt fun q => ?_
  have q' : (n : Int) < ((ns.length : Nat) : Int) := by omega
  first
   | (rw [decide_eq_true q'] at h5; exact absurd h5 (by decide))
   | (simp at h5; omega)
 cases hwl with
 | cons w1 w2 =>
   cases w2
   cases w1 with
   | list ho hall => exact ⟨_,_,ns,rfl,rfl,ho,ints_of_wellAll ns _ hall,hlen⟩
theorem post_true (l : OpenLaw) (args : List WData) : l.row.toRowW.claim.post args (.bool true) args = true :=
 postW_of (r := l.row.toRowW) (X := (true == true))
  (show WShape.has [] (.bool true) .bool = true by first | rfl | decide | simp [WShape.has,WShape.arms,WShape.armsAll])
  (show (WTm.eq .res (.lit (.bool true))).value [] { args := args,res := some (.bool true),after := args } = some (.bool (true == true)) from w_eq_bool (w_res rfl) w_lit) rfl
theorem attach_call {l : OpenLaw} {n : Nat} {q : Program} {loose : List Str} {XP : (Str → Option Value) → Heap → Prop} {YP : World → Heap → Prop} {d : DefRec}
 (hn : l.most = some n) (hdf : d.params.defaults = [])
 (call : ∀ (w : World) (s₀ s₁ : Shared) (mg mb : Str → Option Value) (fa : Addr) (o : Obj) (pm cd doc : Value) (a : Addr) (vs : List Value) (ns : List Int),
   Ground q loose [] XP w s₀ mg mb s₁.heap → YP w s₁.heap →
   s₁.heap.get? fa = some o → o.data = .func (docDef d.name d.params d.body d.scope pm cd doc) → s₁.heap.CodeRec cd d.name → mg d.name = some (.ref fa) →
   s₁.heap.get? a = some { cls := .type "list",data := .seq vs.toArray } → IntsAre vs ns → ns.length ≤ n → s₁.gens = #[] →
   codeAny (model l.prog w) callerA (.call (.ref fa) ⟨[.ref a],[]⟩) (fun r s' => r = .ok (.ret (.bool true)) ∧ OldK s₁.heap s'.heap ∧ s'.os = s₁.os ∧ AllBare s'.gens) s₁) :
 WalkO q loose XP YP l.row.toRowW d [] (fun f vs => PySem.call f vs) := by
 intro w s₀ s₁ mg mb G Y fa o pm cd doc dV kV ho hd hcd hD hmg hg args vals as hpre hlay hrd hwl hlo
 obtain rfl : dV = .none := Dflts.none hD hdf
 obtain rfl : kV = .none := Dflts.noKw hD
 obtain ⟨a,vs,ns,rfl,rfl,hobj,hints,hlen⟩ := script_of hn hpre hwl
 refine enter_call (codeAny_mono (call w s₀ s₁ mg mb fa o pm cd doc a vs ns G Y ho (fd_plain hd) hcd hmg hobj hints hlen hg) fun r s' hq => ?_)
 obtain ⟨rfl,h2,h3,h4⟩ := hq
 exact ⟨.inl ⟨.bool true,.bool true,[],rfl,fun _ => rfl,.bool true,post_true l _,fun _ => ⟨List.Pairwise.nil,fun _ hm => (nomatch hm)⟩⟩,h2,h3,h4⟩
section
variable {prog : Program} {w : World} {A : Around} {E : Value → Shared → Prop} {s : Shared} {K : Frag}
end
end Att
namespace L2
open PySem PySem.Spec PyProof.Rows
theorem vals_ints : ∀ {vs : List Value} {ns : List Int},IntsAre vs ns → Vals (ns.map V.int) vs
 | _,_,.nil => .nil
 | _,_,.cons n t h => .cons ⟨t,rfl⟩ (vals_ints h)
def Only (H : Hp) : Prop := ∀ b,H b = none ∨ ∃ o xs,H b = some (.frz o (.lst xs))
theorem law_call {P : Program} {w : World} {K : PySem.W.Frag} {mg mb : Str → Option Value} {CX : CXT} {k : Nat} {fa a : Addr} {fd : FuncData} {x : Str} {sp : Sp} {s₁ : Shared} {vs : List Value} {ns : List Int}
 (KX : K.In s₁.heap) (hns : s₁.heap.Ns mainGlobals mg) (hb : s₁.heap.Ns builtinsNs mb) (hbb : ∀ x : Str,x ≠ "__name__" → mb x = bootBuiltins x) (hlim : s₁.heap.NoLimit) (hg : s₁.gens = #[])
 (ha : s₁.heap.get? a = some { cls := .type "list",data := .seq vs.toArray }) (hi : IntsAre vs ns) (hl : ns.length ≤ sizeLine) (hr : Room k callerA)
 (F : ∀ base : Heap,K.In base → base.Ns mainGlobals mg → FnOk P w K mg base CX k fa fd [x] sp) (hbind : ∀ (s : Shared) (u : Value),BindsTo s fd ⟨[u],[]⟩ [(x,u)])
 (hsp : ∀ H : Hp,Only H → SqL K H a (ns.map V.int) → sp [.ref a] H (fun v _ => v = .bl true) fun _ _ _ => False)
 (hCX : ∀ H e s',CX [] H s₁ (fun _ _ _ => False) e s' → False) :
 codeAny (model P w) callerA (.call (.ref fa) ⟨[.ref a],[]⟩) (fun r s' => r = .ok (.ret (.bool true)) ∧ OldK s₁.heap s'.heap ∧ s'.os = s₁.os ∧ AllBare s'.gens) s₁ := by
 have rv := vals_ints hi
 have lenV := hi.length
 have core : ∀ H : Hp,Only H → SqL K H a (ns.map V.int) → HOk P w H s₁.heap → (∀ b,H b ≠ none → b = a) → (H a ≠ none → K.lookup a = none) →
  codeAny (model P w) callerA (.call (.ref fa) ⟨[.ref a],[]⟩) (fun r s' => r = .ok (.ret (.bool true)) ∧ OldK s₁.heap s'.heap ∧ s'.os = s₁.os ∧ AllBare s'.gens) s₁ := by
  intro H hO hS hok hA hK
  have base_of : ∀ {b : Addr} {o : Obj},s₁.heap.get? b = some o → H b = none → (hidT s₁.heap H).get? b = some o := fun e n => hidT_get e n
  have noA : ∀ {b : Addr} {o : Obj} {es : Array DictEntry} {ep : Nat},s₁.heap.get? b = some o → o.data = .dict es ep → H b = none := fun {b o es ep} e d => by
   cases q : H b with
   | none => rfl
   | some u =>
     have e' : b = a := hA b (by rw [q]; simp)
     subst e'
     rw [ha] at e; cases e
     have d' : Data.seq vs.toArray _ = Data.dict es ep := d
     cases d'
  have nsK : ∀ {b : Addr} {m : Str → Option Value},s₁.heap.Ns b m → (hidT s₁.heap H).Ns b m := fun {b m} ⟨o,es,ep,e,d,r⟩ => ⟨o,es,ep,base_of e (noA e d),d,r⟩
  have hKb : K.In (hidT s₁.heap H) := fun b o e => base_of (KX b o e) (by
   cases q : H b with
   | none => rfl
   | some u =>
     have e' : b = a := hA b (by rw [q]; simp)
     subst e'
     rw [hK (by rw [q]; simp)] at e; cases e)
  have hM : Mod K mg (hidT s₁.heap H) := ⟨hKb,nsK hns,⟨mb,nsK hb,hbb⟩,let ⟨mc,h1,h2⟩ := hlim; ⟨mc,nsK h1,h2⟩⟩
  have e0 : Env0 P w K mg (hidT s₁.heap H) callerA [] s₁ H := ⟨rfl,hM,fun b o e => of_hidT e,Nat.le_of_eq (hidT_size _ _),trivial,fun b hb => absurd (show b ∈ ([] : List Addr) from hb) (by simp),hok,.of_eq hg⟩
  refine codeAny_mono ((F _ hKb (nsK hns)).run callerA [] s₁ H ⟨[.ref a],[]⟩ [.ref a] [.ref a] _ _ hr e0 (hbind s₁ (.ref a)) (.cons rfl .nil) (hsp H hO hS)) fun r s' h => ?_
  cases r with
  | error e => exact (hCX H e s' h).elim
  | ok fl =>
    cases fl with
    | next => exact False.elim h
    | brk => exact False.elim h
    | cont => exact False.elim h
    | ret u =>
      obtain ⟨v,H',os,bare,un,hok',r',q⟩ := h
      have q' : v = .bl true := q
      subst q'
      obtain rfl : u = Value.bool true := r'
      refine ⟨rfl,OldK.of_keep fun b o e => ?_,os,bare⟩
      cases q : H b with
      | none => exact un.keep b o e q (by intro z; exact absurd (show b ∈ ([] : List Addr) from z) (by simp)) (by simp)
      | some u =>
        rcases hO b with z | ⟨ob,xs,z⟩
        ·rw [q] at z; cases z
        ·have z2 := un.frzs b ob _ z
         obtain ⟨e1,_⟩ := hok b _ z
         obtain ⟨e2,_⟩ := hok' b _ z2
         rw [e] at e1; cases e1
         exact e2
 cases hk : K.lookup a with
 | some o =>
   have e := KX a o hk
   rw [ha] at e
   cases e
   refine core (fun _ => none) (fun _ => .inl rfl) (.inr ⟨_,vs.toArray,_,hk,rfl,rfl,rfl,by rw [List.size_toArray,lenV]; exact hl,by simpa using rv⟩) (fun b u z => by have z' : (none : Option HO) = some u := z; cases z') (fun b z => absurd rfl z) fun z => absurd rfl z
 | none =>
   refine core (fun b => if b = a then some (.frz { cls := .type "list",data := .seq vs.toArray } (.lst (ns.map V.int))) else none) (fun b => ?_) (.inl (.inr ⟨{ cls := .type "list",data := .seq vs.toArray },if_pos rfl⟩)) (fun b u z => ?_) (fun b z => ?_) fun _ => hk
   ·by_cases hb : b = a
    ·exact .inr ⟨_,_,if_pos hb⟩
    ·exact .inl (if_neg hb)
   ·by_cases hb : b = a
    ·have z' := (if_pos hb).symm.trans z
     cases z'
     subst hb
     exact ⟨ha,by rw [List.length_map]; exact hl,vs,_,rv,ha⟩
    ·have z' := (if_neg hb).symm.trans z
     cases z'
   ·by_cases hb : b = a
    ·exact hb
    ·exact absurd (if_neg hb) z
end L2
namespace L2
open PySem PySem.Spec PyProof.Rows
abbrev KOf {K : PySem.W.Frag} {h : Heap} (_ : K.In h) : PySem.W.Frag := K
theorem walk_of {l : PySem.W.OpenLaw} {n k : Nat} {q : Program} {loose : List Str} {XP : (Str → Option Value) → Heap → Prop} {YP : World → Heap → Prop} {d : DefRec} {K : Params → PySem.W.Frag} {CX : World → CXT} {sp : World → Sp} {x : Str}
 (hn : l.most = some n) (hn2 : n ≤ sizeLine) (hdf : d.params.defaults = []) (hr : Room k callerA)
 (hY : ∀ (w : World) (h : Heap),YP w h → (K w.params).In h)
 (F : ∀ (w : World) (mg : Str → Option Value) (fa : Addr) (h : Heap),(K w.params).In h → h.Ns mainGlobals mg → mg d.name = some (.ref fa) →
   ∃ fd : FuncData,(∀ (s : Shared) (u : Value),BindsTo s fd ⟨[u],[]⟩ [(x,u)]) ∧
    ∀ base : Heap,(K w.params).In base → base.Ns mainGlobals mg → FnOk l.prog w (K w.params) mg base (CX w) k fa fd [x] (sp w))
 (hsp : ∀ (w : World) (H : Hp) (a : Addr) (ns : List Int),ns.length ≤ n → Only H → SqL (K w.params) H a (ns.map V.int) → sp w [.ref a] H (fun v _ => v = .bl true) fun _ _ _ => False)
 (hCX : ∀ (w : World) (H : Hp) (s : Shared) (e : Value) (s' : Shared),CX w [] H s (fun _ _ _ => False) e s' → False) :
 PySem.W.WalkO q loose XP YP l.row.toRowW d [] (fun f vs => PySem.call f vs) := by
 refine Att.attach_call hn hdf fun w s₀ s₁ mg mb fa o pm cd doc a vs ns G Y ho hd hcd hmg hobj hints hlen hg => ?_
 have KX := hY w _ Y
 obtain ⟨fd,hb,hF⟩ := F w mg fa _ KX G.T.g hmg
 exact law_call KX G.T.g G.T.b G.T.builtins G.T.nolimit hg hobj hints (Nat.le_trans hlen hn2) hr hF hb (fun H hO hS => hsp w H a ns hlen hO hS) fun H e s' => hCX w H s₁ e s'
end L2
namespace L2
open PySem PySem.Spec PyProof.Rows
def Ch (s : Stmt) (j : Nat) : Stmt := match s with
 | .ClassDef _ _ _ body _ _ _ _ _ _ _ => body.getD j (.Pass ⟨0,0,0,0⟩)
 | _ => .Pass ⟨0,0,0,0⟩
def C8 (s : Stmt) : Arguments := match s with
 | .FunctionDef _ a _ _ _ _ _ _ _ _ => a
 | _ => { posonlyargs := [],args := [],vararg := none,kwonlyargs := [],kw_defaults := [],kwarg := none,defaults := [] }
def B3 (s : Stmt) : List Stmt := match s with
 | .FunctionDef _ _ b _ _ _ _ _ _ _ => b
 | _ => []
def Ag (s : Stmt) : Scope := match s with
 | .FunctionDef _ _ _ _ _ _ sc _ _ _ => sc
 | _ => { kind := .function,names := [],isGenerator := false,isCoroutine := false }
abbrev CX0 : CXT := fun _ _ _ _ _ _ => False
abbrev E0 : XK := fun _ _ _ => False
theorem En {X : Cx} : Passes CX0 X E0 := fun _ _ _ _ _ _ _ h => h.elim
structure Fun (K : PySem.W.Frag) (x qual : Str) (st : Stmt) (f : Addr) (fd : FuncData) : Prop where
 ex : ∃ (oc : Value) (od : Option Addr) (kV doc pm : Value) (an : Option Addr) (cdv ct : Value) (osl : Array (Option Value)),
  fd = PySem.W.fnOf x qual (C8 st) (B3 st) (Ag st) .none kV doc pm an cdv ct ∧ K.lookup f = some ⟨oc,od,.func fd,osl⟩ ∧ PySem.W.codeIn K cdv qual = true
 kp : PySem.W.keepIn K (.ref f) = true
section
variable {P : Program} {w : World} {K : PySem.W.Frag} {mg : Str → Option Value} {base : Heap}
theorem Fun.ok {x qual : Str} {st : Stmt} {f : Addr} {fd : FuncData} {N ps : List Str} {k : Nat} {sp : Sp} (F : Fun K x qual st f fd) (S : Ak N ps (Ag st)) (len : ∀ vs H Q E,sp vs H Q E → vs.length = ps.length)
 (hbody : ∀ (cdv : Value) (A : Around) (outer : List Env) (s : Shared) (H : Hp) (vs : List V) (Q : VK) (E : XK),Room k (A.deeper (envOfC qual (Ag st) s.heap.objs.size f cdv)) → sp vs H Q E →
   ∃ t,PSs (cxOf CX0 P w K mg base N qual (Ag st) f cdv A outer s H E).nox (B3 st) t ∧ t { nx := fun _ H' => Q .non H',rt := Q } (start N vs) H) : FnOk P w K mg base CX0 (k + 1) f fd ps sp := by
 obtain ⟨oc,od,kV,doc,pm,an,cdv,ct,osl,rfl,lk,hcd⟩ := F.ex
 refine fn_of lk hcd S len fun A outer s H vs Q E hr hsp => ?_
 obtain ⟨t,h,q⟩ := hbody cdv A outer s H vs Q E hr hsp
 exact ⟨t,h.nox,q⟩
theorem fun_mk {x qual : Str} {st : Stmt} {f : Addr} {oc : Value} {od an : Option Addr} {osl : Array (Option Value)} {kV doc pm cdv ct : Value} (l : K.lookup f = some ⟨oc,od,.func (PySem.W.fnOf x qual (C8 st) (B3 st) (Ag st) .none kV doc pm an cdv ct),osl⟩)
 (c : PySem.W.codeIn K cdv qual = true) (k : PySem.W.keepIn K (.ref f) = true) : Fun K x qual st f (PySem.W.fnOf x qual (C8 st) (B3 st) (Ag st) .none kV doc pm an cdv ct) := ⟨⟨oc,od,kV,doc,pm,an,cdv,ct,osl,rfl,l,c⟩,k⟩
end
section
variable {X : Cx}
theorem pv (i : Nat) {x : Str} {pos : Pos} (hN : X.N[i]? = some x := by rfl) (hv : Vis X.env.scope x := by first | exact Or.inl rfl | exact Or.inr (Or.inl rfl) | exact Or.inr (Or.inr rfl)) (hd : (x == ("__debug__" : Str)) = false := by decide)
 (hcd : (x == ("__classdict__" : Str)) = false := by decide) : PE X (.Name x pos) (tVar i) := pe_var hN hv hd hcd
end
theorem iteF {A B : Prop} (h : B) : if false = true then A else B := by
 rw [if_neg Bool.false_ne_true]
 exact h
theorem iteT {A B : Prop} (h : A) : if true = true then A else B := by
 rw [if_pos rfl]
 exact h
theorem ite2 {c A B : Prop} [Decidable c] (h1 : c → A) (h2 : ¬ c → B) : if c then A else B := by
 by_cases h : c
 ·rw [if_pos h]
  exact h1 h
 ·rw [if_neg h]
  exact h2 h
theorem iteNS {c A B : Prop} [Decidable c] (hc : c) (h : B) : if (!decide c) = true then A else B := by
 rw [decide_eq_true hc]
 exact iteF h
def Same (H H' : Hp) : Prop := ∀ b o,H b = some o → H' b = some o
theorem Same.refl (H : Hp) : Same H H := fun _ _ h => h
theorem Same.trans {H H1 H2 : Hp} (a : Same H H1) (b : Same H1 H2) : Same H H2 := fun c o h => b c o (a c o h)
theorem Same.free {H H' : Hp} (e : Same H H') {l : Addr} (h : H' l = Option.none) : H l = Option.none := by
 cases q : H l with
 | none => rfl
 | some o =>
   rw [e l o q] at h
   cases h
theorem Same.seq {K : PySem.W.Frag} {H H' : Hp} {a : Addr} {xs : List V} (e : Same H H') (h : SqL K H a xs) : SqL K H' a xs := by
 rcases h with (h | ⟨o,h⟩) | h
 ·exact .inl (.inl (e _ _ h))
 ·exact .inl (.inr ⟨o,e _ _ h⟩)
 ·exact .inr h
section
variable {prog : Program} {w : World} {A : Around} {R : Result → Shared → Prop} {s : Shared}
theorem comp_loop {elt target iter : Expr} {ifs : List Expr} {scope : Scope} {pos : Pos} {it acc : Value} {env : Env} (I : Nat → Shared → Prop)
 (turn : ∀ n s,I n s → wpAny (model prog w) A (pyNext it) (fun r s1 => match r with
   | none => R (.ok .next) s1
   | some v => wpAny (model prog w) A (letOwnedTupleGo target it v) (fun _ s2 => wpAny (model prog w) A (assign target env v) (fun _ s3 =>
    wpAny (model prog w) A (forIn ifs true fun c r => if r = true then do let ok ← isTrue c env (eval c env); pure (ForInStep.yield ok) else pure (ForInStep.yield r)) (fun ok s4 =>
     if ok = true then wpAny (model prog w) A (eval elt env) (fun x s5 =>
      wpAny (model prog w) A (call (.builtin "list.append") [acc,x]) (fun _ s6 => ∃ m,m < n ∧ I m s6) (notedBy (model prog w) A env fun e s' => R (.error e) s') s5) (notedBy (model prog w) A env fun e s' => R (.error e) s') s4
     else ∃ m,m < n ∧ I m s4) (notedBy (model prog w) A env fun e s' => R (.error e) s') s3) (notedBy (model prog w) A env fun e s' => R (.error e) s') s2) (notedBy (model prog w) A env fun e s' => R (.error e) s') s1)
     (notedBy (model prog w) A env fun e s' => R (.error e) s') s)
 (n : Nat) (h : I n s) :
 codeAny (model prog w) A (.compLoop (.ListComp elt [⟨target,iter,ifs,0⟩] scope pos) 0 it acc env) R s := by
 refine codeAny_loop rfl I (fun n s hI => ?_) n h
 show wpAny _ A ((compTurn (.ListComp elt [⟨target,iter,ifs,0⟩] scope pos) 0 it acc env).onRaise (fun x => do noteFrame x env; theTreesLotGoes x)) _ _ s
 refine wpAny_noted ?_
 rw [compTurn_list]
 refine wpAny_bind (wpAny_standAt (wpAny_bind (wpAny_mono (turn n s hI) (fun r s1 h1 => ?_) fun _ _ h' => h')))
 cases r with
 | none => exact wpAny_pure h1
 | some v =>
   refine wpAny_bind (wpAny_mono h1 (fun _ s2 h2 => ?_) fun _ _ h' => h')
   refine wpAny_bind (wpAny_mono h2 (fun _ s3 h3 => wpAny_bind (wpAny_mono h3 (fun ok s4 h4 => ?_) fun _ _ h' => h')) fun _ _ h' => h')
   cases ok with
   | false => exact wpAny_pure ⟨rfl,h4⟩
   | true =>
     exact wpAny_bind (wpAny_bind (wpAny_mono h4 (fun x s5 h5 => wpAny_bind (wpAny_mono h5 (fun _ s6 h6 => wpAny_pure (wpAny_pure ⟨rfl,h6⟩)) fun _ _ h' => h')) fun _ _ h' => h'))
end
def clOf (cells : List (Str × Addr)) : List (Str × NameKind) → List (Str × Addr) → List (Str × Addr)
 | [],acc => acc
 | (n,k) :: r,acc => if k == .free then (match cells.lookup n with
  | some a => clOf cells r ((n,a) :: acc)
  | none => clOf cells r acc) else clOf cells r acc
theorem clos_go {env : Env} : ∀ (names : List (Str × NameKind)) (acc : List (Str × Addr)),(∀ y ∈ names,y.2 = .free → ∃ a,env.cells.lookup y.1 = some a) →
 (forIn names acc fun (x : Str × NameKind) r => (if x.2 == .free then do let a ← cellOf env x.1; pure (ForInStep.yield ((x.1,a) :: r)) else pure (ForInStep.yield r) : Sem (ForInStep (List (Str × Addr))))) = pure (clOf env.cells names acc)
 | [],acc,_ => rfl
 | (n,k) :: r,acc,h => by
   rw [List.forIn_cons]
   have ih := fun acc => clos_go r acc fun y hy => h y (List.mem_cons_of_mem _ hy)
   by_cases hk : k = .free
   ·subst hk
    obtain ⟨a,e⟩ := h (n,.free) List.mem_cons_self rfl
    have e : env.cells.lookup n = some a := e
    simp only [beq_self_eq_true,if_true,cellOf,e,clOf,pure_bind]
    exact ih _
   ·have hb : (k == NameKind.free) = false := by simpa using hk
    simp only [hb,Bool.false_eq_true,if_false,clOf,pure_bind]
    exact ih _
theorem clos_ok {env : Env} {scope : Scope} (h : ∀ y ∈ scope.names,y.2 = .free → ∃ a,env.cells.lookup y.1 = some a) : closureFor scope env = pure (clOf env.cells scope.names []) := by
 unfold closureFor
 have e := clos_go (env := env) scope.names [] h
 simp only [bind_pure]
 exact e
theorem clOf_sub {cells : List (Str × Addr)} {x : Str} {c : Addr} : ∀ (names : List (Str × NameKind)) (acc : List (Str × Addr)),(∀ y b,(y,b) ∈ acc → cells.lookup y = some b) → (x,c) ∈ clOf cells names acc → cells.lookup x = some c
 | [],acc,ha,hm => ha x c hm
 | (n,k) :: r,acc,ha,hm => by
   unfold clOf at hm
   split at hm
   ·split at hm
    ·rename_i a e
     refine clOf_sub r _ (fun y b hb => ?_) hm
     rcases List.mem_cons.mp hb with q | q
     ·cases q; exact e
     ·exact ha y b q
    ·exact clOf_sub r _ ha hm
   ·exact clOf_sub r _ ha hm
theorem lookup_mem {x : Str} {c : Addr} {l : List (Str × Addr)} (h : l.lookup x = some c) : (x,c) ∈ l := PySem.mem_of_lookup h
theorem clOf_in {cells : List (Str × Addr)} {x : Str} {c : Addr} (hx : cells.lookup x = some c) : ∀ (names : List (Str × NameKind)) (acc : List (Str × Addr)),((x,NameKind.free) ∈ names ∨ (x,c) ∈ acc) → (x,c) ∈ clOf cells names acc
 | [],acc,hm => by
   rcases hm with q | q
   ·exact absurd q (by simp)
   ·exact q
 | (n,k) :: r,acc,hm => by
   unfold clOf
   by_cases hk : k = .free
   ·subst hk
    simp only [beq_self_eq_true,if_true]
    split
    ·rename_i a e
     refine clOf_in hx r _ ?_
     rcases hm with q | q
     ·rcases List.mem_cons.mp q with q | q
      ·cases q
       rw [hx] at e; cases e
       exact .inr List.mem_cons_self
      ·exact .inl q
     ·exact .inr (List.mem_cons_of_mem _ q)
    ·rename_i e
     refine clOf_in hx r _ ?_
     rcases hm with q | q
     ·rcases List.mem_cons.mp q with q | q
      ·cases q
       rw [hx] at e; cases e
      ·exact .inl q
     ·exact .inr q
   ·have hb : (k == NameKind.free) = false := by simpa using hk
    simp only [hb,Bool.false_eq_true,if_false]
    refine clOf_in hx r _ ?_
    rcases hm with q | q
    ·rcases List.mem_cons.mp q with q | q
     ·cases q; exact absurd rfl hk
     ·exact .inl q
    ·exact .inr q
theorem lookup_of_mem {x : Str} {c : Addr} : ∀ {l : List (Str × Addr)},(x,c) ∈ l → ∃ d,l.lookup x = some d ∧ (x,d) ∈ l
 | [],h => absurd h (by simp)
 | (y,b) :: r,h => by
   by_cases e : x = y
   ·subst e
    exact ⟨b,by simp,List.mem_cons_self⟩
   ·rcases List.mem_cons.mp h with q | q
    ·cases q; exact absurd rfl e
    ·obtain ⟨d,e1,e2⟩ := lookup_of_mem q
     refine ⟨d,?_,List.mem_cons_of_mem _ e2⟩
     rw [List.lookup_cons]
     have : (x == y) = false := by simpa using e
     rw [this]
     exact e1
theorem clOf_lookup {cells : List (Str × Addr)} {names : List (Str × NameKind)} {x : Str} {c : Addr} (hf : (x,NameKind.free) ∈ names) (hx : cells.lookup x = some c) : (clOf cells names []).lookup x = some c := by
 obtain ⟨d,e1,e2⟩ := lookup_of_mem (clOf_in hx names [] (.inl hf))
 have e3 := clOf_sub names [] (fun _ _ h => absurd h (by simp)) e2
 rw [hx] at e3; cases e3
 exact e1
theorem D4 {cells : List (Str × Addr)} {names : List (Str × NameKind)} {x : Str} {c : Addr} (h : (clOf cells names []).lookup x = some c) : cells.lookup x = some c :=
 clOf_sub names [] (fun _ _ h => absurd h (by simp)) (lookup_mem h)
theorem relab_free {env : Env} : ∀ {names : List (Str × NameKind)} {x : Str},names.lookup x = some .free →
 (names.map fun (n,k) => if (k == NameKind.free && env.scope.kind == .function && env.kindOf n == some .cell) then (n,NameKind.cell) else (n,k)).lookup x = some .cell ∨
 (names.map fun (n,k) => if (k == NameKind.free && env.scope.kind == .function && env.kindOf n == some .cell) then (n,NameKind.cell) else (n,k)).lookup x = some .free
 | [],_,h => by simp at h
 | (n,k) :: r,x,h => by
   have ih := @relab_free env r x
   rw [List.map_cons]
   cases hx : x == n with
   | true =>
     simp only [List.lookup_cons,hx] at h
     cases h
     dsimp only
     by_cases hc : (NameKind.free == NameKind.free && env.scope.kind == .function && env.kindOf n == some .cell) = true
     ·rw [if_pos hc]; simp [List.lookup_cons,hx]
     ·rw [if_neg hc]; simp [List.lookup_cons,hx]
   | false =>
     simp only [List.lookup_cons,hx] at h
     dsimp only
     by_cases hc : (k == NameKind.free && env.scope.kind == .function && env.kindOf n == some .cell) = true
     ·rw [if_pos hc]; simp only [List.lookup_cons,hx]; exact ih h
     ·rw [if_neg hc]; simp only [List.lookup_cons,hx]; exact ih h
theorem relab_back {env : Env} : ∀ {names : List (Str × NameKind)} {x : Str},(∀ y ∈ names,y.2 ≠ .cell) →
 ((names.map fun (n,k) => if (k == NameKind.free && env.scope.kind == .function && env.kindOf n == some .cell) then (n,NameKind.cell) else (n,k)).lookup x = some .cell ∨
 (names.map fun (n,k) => if (k == NameKind.free && env.scope.kind == .function && env.kindOf n == some .cell) then (n,NameKind.cell) else (n,k)).lookup x = some .free) → names.lookup x = some .free
 | [],_,_,h => by simp at h
 | (n,k) :: r,x,hn,h => by
   have ih := @relab_back env r x fun y hy => hn y (List.mem_cons_of_mem _ hy)
   rw [List.map_cons] at h
   dsimp only at h
   have hk : k ≠ .cell := hn (n,k) List.mem_cons_self
   cases hx : x == n with
   | true =>
     by_cases hc : (k == NameKind.free && env.scope.kind == .function && env.kindOf n == some .cell) = true
     ·simp only [Bool.and_eq_true,beq_iff_eq] at hc
      obtain ⟨⟨hc,_⟩,_⟩ := hc
      subst hc
      simp only [List.lookup_cons,hx]
     ·rw [if_neg hc] at h
      simp only [List.lookup_cons,hx] at h ⊢
      rcases h with h | h
      ·cases h; exact absurd rfl hk
      ·exact h
   | false =>
     by_cases hc : (k == NameKind.free && env.scope.kind == .function && env.kindOf n == some .cell) = true
     ·rw [if_pos hc] at h
      simp only [List.lookup_cons,hx] at h ⊢
      exact ih h
     ·rw [if_neg hc] at h
      simp only [List.lookup_cons,hx] at h ⊢
      exact ih h
structure CompSc (scope sc : Scope) (N0 xs ys : List Str) (js : List Nat) : Prop where
 kind : scope.kind = .function
 nocell : ∀ y ∈ scope.names,y.2 ≠ .cell
 loc : ∀ y ∈ scope.names,y.2 = .local → scope.names.lookup y.1 = some .local
 fr : ∀ y ∈ scope.names,y.2 = .free → sc.names.lookup y.1 = some .cell ∨ sc.names.lookup y.1 = some .free
 cap : ys.length = js.length ∧ ∀ p ∈ ys.zip js,N0[p.2]? = some p.1 ∧ scope.names.lookup p.1 = some .free ∧ (p.1,NameKind.free) ∈ scope.names ∧ (sc.names.lookup p.1 = some .cell ∨ sc.names.lookup p.1 = some .free)
def sigC (k : Nat) (js : List Nat) (σ : St) : St := List.replicate k none ++ js.map fun j => (σ[j]?).join
def cxC (X : Cx) (N : List Str) (scope : Scope) (C : Addr) (s2 : Shared) (H2 : Hp) (fp : List Addr) : Cx where
 prog := X.prog
 w := X.w
 K := X.K
 mg := X.mg
 base := X.base
 A := X.A
 N := N
 s₀ := s2
 H₀ := H2
 env := compEnvC scope (clOf X.env.cells scope.names []) C X.env
 outer := X.stack
 stack := X.stack
 ex := fp
 fn := fun _ => false
 calm := X.calm
 pn := []
 xe := fun _ _ => False
section
variable {X : Cx} {pins : List (Addr × Obj)} {σ : St} {H : Hp} {s2 : Shared} {scope sc : Scope} {N0 xs ys : List Str} {js : List Nat} {C D : Addr} {fp : List Addr} {h1 : Heap} {tk : Nat}
theorem fp_stk {b : Addr} (I : Inv X pins σ H s2) (f : FpOk X pins H b) : b ∉ frs X.stack := fun hb => by
 rcases List.mem_cons.mp (I.stkSub b hb) with e | e
 ·exact f.2.1 e
 ·exact f.2.2.1 e
theorem cxC_ok (I : Inv X pins σ H s2) (CS : CompSc scope sc N0 xs ys js) (hsc : X.env.scope = sc) (hC : s2.heap.objs.size ≤ C) (f : ∀ b ∈ fp,FpOk X pins H b) (fl : ∀ b ∈ fp,b < s2.heap.objs.size) :
 (cxC X (xs ++ ys) scope C s2 H fp).Ok where
 mod := I.ok.mod
 kind := CS.kind
 glob := I.ok.glob
 blt := I.ok.blt
 above := hC
 inj := fun x y c e1 e2 => I.ok.inj x y c (D4 e1) (D4 e2)
 has := fun x hx => by
  have hx : (relabel scope X.env).names.lookup x = some .cell ∨ (relabel scope X.env).names.lookup x = some .free := hx
  have q := relab_back (env := X.env) CS.nocell hx
  have m := PySem.mem_of_lookup q
  have hk := CS.fr _ m rfl
  rw [← hsc] at hk
  obtain ⟨c,e⟩ := I.ok.has x hk
  exact ⟨c,clOf_lookup m e⟩
 cab := fun x c e _ => by cases e
 hd := I.ok.hd
 frames := I.ok.frames
 stk := .inl rfl
 exf := fun b hb => ⟨Nat.ne_of_lt (Nat.lt_of_lt_of_le (fl b hb) hC),fun x c e => (f b hb).2.2.2.2.1 x c (D4 e)⟩
 bs := I.bs
 bsz := Nat.le_trans I.ok.bsz I.sz
 noex := fun b o e hb => by
  rcases (f b hb).2.2.2.1 with q | q
  ·exact I.ok.noex b o e q
  ·exact absurd (Nat.lt_of_lt_of_le (Heap.lt_size e) (Nat.le_trans I.ok.bsz q)) (Nat.lt_irrefl _)
 exfs := fun b hb => fp_stk I (f b hb)
 funs := I.stack
 frf := I.stkFree
theorem inv_comp {oD : Obj} (I : Inv X pins σ H s2) (CS : CompSc scope sc N0 xs ys js) (hsc : X.env.scope = sc) (hN : X.N = N0) (f : ∀ b ∈ fp,FpOk X pins H b) (fl : ∀ b ∈ fp,b < s2.heap.objs.size)
 (hC : s2.heap.objs.size ≤ C) (hD : s2.heap.objs.size ≤ D) (hDC : D ≠ C) {m : Str → Option Value} (hns : h1.Ns C m) (old : ∀ b o,s2.heap.get? b = some o → h1.get? b = some o) (hacc : h1.get? D = some oD) (hod : ∀ v,oD.data ≠ .cell v) :
 Inv (cxC X (xs ++ ys) scope C s2 H fp) [(D,oD)] (sigC xs.length js σ) H { s2 with heap := h1,toks := tk } where
 ok := cxC_ok I CS hsc hC f fl
 os := rfl
 bare := I.bare
 base := Un.kept old
 loc := by
  refine ⟨m,hns,fun i x v e1 e2 e3 => ?_⟩
  have e1 : (xs ++ ys)[i]? = some x := e1
  have hi : xs.length ≤ i := by
   refine Nat.le_of_not_lt fun q => ?_
   unfold sigC at e2
   rw [List.getElem?_append_left (by simpa using q),List.getElem?_replicate,if_pos q] at e2
   cases e2
  rw [List.getElem?_append_right hi] at e1
  unfold sigC at e2
  rw [List.getElem?_append_right (by simpa using hi),List.length_replicate,List.getElem?_map] at e2
  obtain ⟨j,ej⟩ : ∃ j,js[i - xs.length]? = some j := by
   cases e : js[i - xs.length]? with
   | none => rw [e] at e2; cases e2
   | some j => exact ⟨j,rfl⟩
  rw [ej] at e2
  have e2 : (σ[j]?).join = some v := Option.some.inj e2
  have e2' : σ[j]? = some (some v) := by
   cases e : σ[j]? with
   | none => rw [e] at e2; cases e2
   | some o => rw [e] at e2; exact congrArg some e2
  have hz : (x,j) ∈ ys.zip js := by
   have : (ys.zip js)[i - xs.length]? = some (x,j) := by rw [List.getElem?_zip_eq_some]; exact ⟨e1,ej⟩
   exact List.mem_of_getElem? this
  obtain ⟨c1,c2,c3,c4⟩ := CS.cap.2 _ hz
  have c1 : N0[j]? = some x := c1
  have c4' : X.env.kindOf x = some .cell ∨ X.env.kindOf x = some .free := by
   show X.env.scope.names.lookup x = some .cell ∨ X.env.scope.names.lookup x = some .free
   rw [hsc]; exact c4
  obtain ⟨m0,hn0,hl0⟩ := I.loc
  obtain ⟨u,ru,lu⟩ := hl0 j x v (by rw [hN]; exact c1) e2' (.inr c4')
  refine ⟨u,ru,.inr ⟨?_,?_⟩⟩
  ·exact relab_free c2
  ·rcases lu with ⟨k,_⟩ | ⟨_,c,ec,hc⟩
   ·rcases c4' with z | z <;> (rw [k] at z; cases z)
   ·refine ⟨c,clOf_lookup c3 ec,?_⟩
    obtain ⟨o,ho,hd⟩ := hc
    exact ⟨o,old _ _ ho,hd⟩
 cell := fun x c e => by
  obtain ⟨v,o,ho,hd⟩ := I.cell x c (D4 e)
  exact ⟨v,o,old _ _ ho,hd⟩
 free := I.hok.fresh hC
 freeC := fun x c e => I.freeC x c (D4 e)
 pin := fun p hp => by
  have hp : p ∈ ([] : List (Addr × Obj)) ++ [(D,oD)] := hp
  have e : p = (D,oD) := by simpa using hp
  subst e
  refine ⟨hacc,I.hok.fresh hD,hDC,fun hb => ?_,hod⟩
  obtain ⟨_,o,ho,_⟩ := I.stack.mem (show D ∈ frs X.stack from hb)
  exact absurd (Nat.lt_of_lt_of_le (Heap.lt_size ho) hD) (Nat.lt_irrefl _)
 hok := I.hok.kept old
 len := by
  unfold sigC
  show _ = (xs ++ ys).length
  rw [List.length_append,List.length_append,List.length_replicate,List.length_map,CS.cap.1]
end
theorem inv_reset {X : Cx} {pins pp : List (Addr × Obj)} {σ σ' : St} {H H' : Hp} {s2 s' : Shared} {scope sc : Scope} {N0 xs ys : List Str} {js : List Nat} {C : Addr} {fp : List Addr} (I : Inv X pins σ H s2) (CS : CompSc scope sc N0 xs ys js) (hsc : X.env.scope = sc) (hN : X.N = N0)
 (f : ∀ b ∈ fp,FpOk X pins H b) (J : Inv (cxC X (xs ++ ys) scope C s2 H fp) pp σ' H' s') : Inv (cxC X (xs ++ ys) scope C s2 H fp) pp (sigC xs.length js σ) H' s' where
 ok := J.ok
 os := J.os
 bare := J.bare
 base := J.base
 loc := by
  obtain ⟨m,hns,_⟩ := J.loc
  refine ⟨m,hns,fun i x v e1 e2 e3 => ?_⟩
  have e1 : (xs ++ ys)[i]? = some x := e1
  have hi : xs.length ≤ i := by
   refine Nat.le_of_not_lt fun q => ?_
   unfold sigC at e2
   rw [List.getElem?_append_left (by simpa using q),List.getElem?_replicate,if_pos q] at e2
   cases e2
  rw [List.getElem?_append_right hi] at e1
  unfold sigC at e2
  rw [List.getElem?_append_right (by simpa using hi),List.length_replicate,List.getElem?_map] at e2
  obtain ⟨j,ej⟩ : ∃ j,js[i - xs.length]? = some j := by
   cases e : js[i - xs.length]? with
   | none => rw [e] at e2; cases e2
   | some j => exact ⟨j,rfl⟩
  rw [ej] at e2
  have e2 : (σ[j]?).join = some v := Option.some.inj e2
  have e2' : σ[j]? = some (some v) := by
   cases e : σ[j]? with
   | none => rw [e] at e2; cases e2
   | some o => rw [e] at e2; exact congrArg some e2
  have hz : (x,j) ∈ ys.zip js := by
   have : (ys.zip js)[i - xs.length]? = some (x,j) := by rw [List.getElem?_zip_eq_some]; exact ⟨e1,ej⟩
   exact List.mem_of_getElem? this
  obtain ⟨c1,c2,c3,c4⟩ := CS.cap.2 _ hz
  have c1 : N0[j]? = some x := c1
  have c4' : X.env.kindOf x = some .cell ∨ X.env.kindOf x = some .free := by
   show X.env.scope.names.lookup x = some .cell ∨ X.env.scope.names.lookup x = some .free
   rw [hsc]; exact c4
  obtain ⟨m0,hn0,hl0⟩ := I.loc
  obtain ⟨u,ru,lu⟩ := hl0 j x v (by rw [hN]; exact c1) e2' (.inr c4')
  refine ⟨u,ru,.inr ⟨relab_free c2,?_⟩⟩
  rcases lu with ⟨k,_⟩ | ⟨_,c,ec,hc⟩
  ·rcases c4' with z | z <;> (rw [k] at z; cases z)
  ·refine ⟨c,clOf_lookup c3 ec,?_⟩
   obtain ⟨o,ho,hd⟩ := hc
   obtain ⟨sl,e⟩ := J.base.any ho (I.freeC x c ec) fun hb => (f c hb).2.2.2.2.1 x c ec rfl
   exact ⟨_,e,hd⟩
 cell := J.cell
 free := J.free
 freeC := J.freeC
 pin := J.pin
 hok := J.hok
 len := by
  unfold sigC
  show _ = (xs ++ ys).length
  rw [List.length_append,List.length_append,List.length_replicate,List.length_map,CS.cap.1]
def PQ (X : Cx) (ifs : List Expr) (t : TT) : Prop :=
 ∀ (pins : List (Addr × Obj)) (s : Shared) (σ : St) (H : Hp) (Q : Bool → Hp → Prop),Inv X pins σ H s → t σ H Q →
  wpAny (model X.prog X.w) X.A (forIn ifs true fun c r => if r = true then do let ok ← isTrue c X.env (eval c X.env); pure (ForInStep.yield ok) else pure (ForInStep.yield r)) (TP X pins σ Q) X.xe s
def tAlways : TT := fun _ H Q => Q true H
theorem Cj {X : Cx} : PQ X [] tAlways := fun _ _ _ H _ I h => wpAny_tests_nil ⟨H,I,h⟩
theorem pq_one {X : Cx} {c : Expr} {t : TT} (h : PT X c t) : PQ X [c] t := fun pins s σ H Q I hw => wpAny_tests_one (h pins s σ H Q I hw)
def compW (k : Nat) (js : List Nat) (g : TG) (tc : TT) (te : TE) (σ : St) (J : It) (H1 : Hp) (fin : List V → Hp → Prop) : Prop :=
 ∃ W : Nat → Nat → List V → Hp → Prop,(∃ m,W 0 m [] H1) ∧ ∀ i m ys H,W i m ys H →
  (J.stop i H ∧ ys.length ≤ sizeLine ∧ fin ys H) ∨
  (J.go i H ∧ ys.length < sizeLine ∧ ∃ N : List V → Hp → Prop,(∀ ys' H',N ys' H' → ∃ m',m' < m ∧ W (i + 1) m' ys' H') ∧ ∀ x H2,J.yld i H x H2 → g x (sigC k js σ) H2 fun σ2 H3 => tc σ2 H3 fun b H4 =>
    if b = true then te σ2 H4 fun y H5 => N (ys ++ [y]) H5 else N ys H4)
def tComp (k : Nat) (js : List Nat) (wi : TI) (g : TG) (tc : TT) (te : TE) : TE := fun σ H Q => wi σ H fun J H1 => compW k js g tc te σ J H1 fun ys H' => ∀ p,H' p = none → Q (.ref p) (upd H' p (.lst ys))
section
variable {X : Cx} {scope sc : Scope} {N0 xs ys : List Str} {js : List Nat} {elt tg iter : Expr} {ifs : List Expr} {pos : Pos} {wi : TI} {g : TG} {tc : TT} {te : TE}
theorem lst_push (its : List Value) (y : Value) : its.toArray.push y = (its ++ [y]).toArray := by simp
theorem comp_block {pins : List (Addr × Obj)} {σ : St} {H : Hp} {s2 : Shared} {it : Addr} {fp : List Addr} {tn : Nat → Heap → Prop} {J : It} {RR : Value → Addr → Result → Shared → Prop} {fin : List V → Hp → Prop} {E : Value → Shared → Prop}
 (CS : CompSc scope sc N0 xs ys js) (hsc : X.env.scope = sc) (hN : X.N = N0) (hc : X.calm = true)
 (I : Inv X pins σ H s2) (T : Turn X.prog X.w X.K tg J fp it tn) (t0 : tn 0 s2.heap) (f : ∀ b ∈ fp,FpOk X pins H b)
 (hg : ∀ C s2 H fp,PG (cxC X (xs ++ ys) scope C s2 H fp) tg g) (hq : ∀ C s2 H fp,PQ (cxC X (xs ++ ys) scope C s2 H fp) ifs tc) (he : ∀ C s2 H fp,PE (cxC X (xs ++ ys) scope C s2 H fp) elt te)
 (hw : compW xs.length js g tc te σ J H fin)
 (hR : ∀ (D C : Addr) (H' : Hp) (vs : List V) (s' : Shared),(∃ m,s'.heap.Ns C m) → Inv X pins σ (upd H' D (.lst vs)) s' → H' D = none → C ≠ D → H' C = none → C ≠ X.env.locals → X.s₀.heap.objs.size ≤ C → (∀ x c,X.env.cells.lookup x = some c → c ≠ C) → (∀ p ∈ X.pn ++ pins,p.1 ≠ C) → fin vs H' →
   RR (.ref D) C (.ok .next) s') :
 wpAny (model X.prog X.w) X.A (newList []) (fun acc s3 => wpAny (model X.prog X.w) X.A (newFunctionEnv scope X.env.globals (clOf X.env.cells scope.names []) [] X.env.qual none .none (some X.env)) (fun cenv s4 =>
  codeAny (model X.prog X.w) X.A (.compStart (.ListComp elt [⟨tg,iter,ifs,0⟩] scope pos) 0 (.ref it) acc { cenv with scope := relabel scope X.env }) (RR acc cenv.locals) s4) E s3) E s2 := by
 obtain ⟨W,⟨m0,w0⟩,turn⟩ := hw
 have fl : ∀ b ∈ fp,b < s2.heap.objs.size := fun b hb => by
  obtain ⟨o,e,_⟩ := T.obj 0 _ t0 b hb
  exact Heap.lt_size e
 refine wpAny_newObj_type (wpAny_newFunctionEnv CS.nocell (by intro y hy; simp at hy) (fun h1 hns1 hsb1 => ?_) CS.kind)
 dsimp only at hns1 hsb1 ⊢
 generalize hH2 : s2.heap.push { cls := .type "list",dict := none,data := .seq ([] : List Value).toArray } = H2 at hns1 hsb1 ⊢
 have hC : H2.objs.size = s2.heap.objs.size + 1 := by rw [← hH2,Heap.size_push]
 have hDC : s2.heap.objs.size ≠ H2.objs.size := by rw [hC]; exact Nat.ne_of_lt (Nat.lt_succ_self _)
 have hCle : s2.heap.objs.size ≤ H2.objs.size := by rw [hC]; exact Nat.le_succ _
 have below : ∀ b,b < s2.heap.objs.size → b ≠ H2.objs.size ∧ b ≠ s2.heap.objs.size := fun b hb => ⟨by rw [hC]; exact Nat.ne_of_lt (Nat.lt_succ_of_lt hb),Nat.ne_of_lt hb⟩
 have old : ∀ b o,s2.heap.get? b = some o → h1.get? b = some o := fun b o e => hsb1.extBut b o (below b (Heap.lt_size e)).1 (Heap.get?_push_of_some _ (hH2 ▸ Heap.get?_push_of_some _ e))
 have hacc : h1.get? s2.heap.objs.size = some { cls := .type "list",data := .seq ([] : List Value).toArray 0 } := hsb1.extBut _ _ hDC (Heap.get?_push_of_some _ (hH2 ▸ Heap.get?_push_size _ rfl))
 have t1 : tn 0 h1 := T.keep _ _ _ t0 fun b _ o e => old b o e
 have fC : ∀ {H' : Hp} {oD : Obj},(∀ b ∈ fp,H' b = none) → ∀ b ∈ fp,FpOk (cxC X (xs ++ ys) scope H2.objs.size s2 H fp) [(s2.heap.objs.size,oD)] H' b := fun {H' oD} hn b hb =>
  ⟨hn b hb,(below b (fl b hb)).1,fp_stk I (f b hb),.inl hb,fun x c e => (f b hb).2.2.2.2.1 x c (D4 e),fun p hp => by
    have hp : p ∈ ([] : List (Addr × Obj)) ++ [(s2.heap.objs.size,oD)] := hp
    have e : p = (s2.heap.objs.size,oD) := by simpa using hp
    subst e
    exact Ne.symm (below b (fl b hb)).2⟩
 have loop : ∀ s3 : Shared,s3 = { s2 with heap := h1,toks := s2.toks + ([] : List (Str × Value)).length } →
  codeAny (model X.prog X.w) X.A (.compLoop (.ListComp elt [⟨tg,iter,ifs,0⟩] scope pos) 0 (.ref it) (.ref s2.heap.objs.size) (compEnvC scope (clOf X.env.cells scope.names []) H2.objs.size X.env))
   (RR (.ref s2.heap.objs.size) H2.objs.size) s3 := by
  rintro s3 rfl
  refine comp_loop (fun k s' => ∃ (i : Nat) (vs : List V) (its : List Value) (n : Nat) (H' : Hp),Inv (cxC X (xs ++ ys) scope H2.objs.size s2 H fp) [(s2.heap.objs.size,{ cls := .type "list",data := .seq its.toArray n })] (sigC xs.length js σ) H' s' ∧
   Vals vs its ∧ tn i s'.heap ∧ (∀ b ∈ fp,H' b = none) ∧ W i k vs H') ?_ m0 ⟨0,[],[],0,H,?_,.nil,t1,fun b hb => (f b hb).1,w0⟩
  ·rintro k s3 ⟨i,vs,its,n,H3,I3,rv,t3,fr3,w3⟩
   have hno : ∀ (e : Value) (s' : Shared),False → notedBy (model X.prog X.w) X.A (compEnvC scope (clOf X.env.cells scope.names []) H2.objs.size X.env) (fun e s' => RR (.ref s2.heap.objs.size) H2.objs.size (.error e) s') e s' := fun _ _ z => z.elim
   rcases turn i k vs H3 w3 with ⟨stop,hz,fn⟩ | ⟨go,hz,N,hN',step⟩
   ·refine wpAny_mono (T.done (cxC X (xs ++ ys) scope H2.objs.size s2 H fp) rfl rfl rfl hc i _ s3 _ H3 (fun _ _ => False) I3 (fC fr3) t3 stop) (fun r s4 ⟨hr,I4⟩ => ?_) hno
    subst hr
    have pD := I4.pin (s2.heap.objs.size,_) (List.mem_append_right _ List.mem_cons_self)
    obtain ⟨mC,hnC,_⟩ := I4.loc
    have u4 : Un (frs X.stack) fp H (upd H3 s2.heap.objs.size (.lst vs)) s2.heap s4.heap :=
     ⟨I4.base.keep,I4.base.slot,fun b o e n hb => by rw [upd_ne (below b (Heap.lt_size e)).2]; exact I4.base.free b o e n hb,I4.base.there,
       fun b x e => by rw [upd_ne (below b (I.hok.lt e)).2]; exact I4.base.tups b x e,fun b o x e => by rw [upd_ne (below b (I.hok.lt e)).2]; exact I4.base.frzs b o x e,
       fun b p e => by rw [upd_ne (below b (I.hok.lt e)).2]; exact I4.base.tbls b p e⟩
    have hk4 : HOk X.prog X.w (upd H3 s2.heap.objs.size (.lst vs)) s4.heap := fun b o e => by
     by_cases hb : b = s2.heap.objs.size
     ·subst hb
      rw [Ad] at e
      cases e
      exact ⟨hz,its,n,rv,pD.1⟩
     ·rw [upd_ne hb] at e
      exact (I4.hok b o e).stay (fun _ _ _ q => q) (fun c q => by rw [upd_ne (Ah q pD.2.1)]; exact q) fun c x q => by rw [upd_ne (Ah q pD.2.1)]; exact q
    refine hR _ _ H3 vs s4 ⟨mC,hnC⟩ (I.call' I4.os u4 hk4 I4.bare fun b hb => ⟨(f b hb).2.2.2.1,(f b hb).2.1,(f b hb).2.2.2.2.1,(f b hb).2.2.2.2.2⟩) pD.2.1 (Ne.symm hDC) I4.free ?_ ?_ ?_ ?_ fn
    ·exact Ne.symm (below _ I.lt).1
    ·exact Nat.le_trans I.sz hCle
    ·intro x c e
     obtain ⟨v,o,ho,_⟩ := I.cell x c e
     exact (below c (Heap.lt_size ho)).1
    ·intro p hp
     exact (below p.1 (Heap.lt_size (I.pin p hp).1)).1
   ·refine wpAny_mono (T.item (cxC X (xs ++ ys) scope H2.objs.size s2 H fp) rfl rfl rfl hc i _ s3 _ H3 (fun _ _ => False) I3 (fC fr3) t3 go) (fun r s4 ⟨u,hr,h4⟩ => ?_) hno
    subst hr
    refine wpAny_mono h4 (fun _ s5 ⟨x,H5,I5,r5,y5,t5,fr5⟩ => ?_) hno
    have I5' := I5.pinned (fC fr5) (T.obj _ _ t5)
    refine wpAny_mono (hg H2.objs.size s2 H fp _ s5 _ H5 x u _ I5' r5 (step x H5 y5)) (fun _ s6 ⟨σ6,H6,I6,q6⟩ => ?_) hno
    refine wpAny_mono (hq H2.objs.size s2 H fp _ s6 σ6 H6 _ I6 q6) (fun b s7 ⟨H7,I7,q7⟩ => ?_) hno
    have keepI : ∀ {σ' : St} {H' : Hp} {s' : Shared},Inv (cxC X (xs ++ ys) scope H2.objs.size s2 H fp) ([(s2.heap.objs.size,{ cls := .type "list",data := .seq its.toArray n })] ++ pinsAt fp s5.heap) σ' H' s' → tn (i + 1) s'.heap ∧ ∀ b ∈ fp,H' b = none := fun {σ' H' s'} J' =>
     ⟨T.keep _ _ _ t5 fun b hb o e => (J'.pin (b,o) (List.mem_append_right _ (List.mem_append_right _ (mem_pinsAt hb e)))).1,fun b hb => by
       obtain ⟨o,e,d⟩ := T.obj _ _ t5 b hb
       exact (J'.pin (b,o) (List.mem_append_right _ (List.mem_append_right _ (mem_pinsAt hb e)))).2.1⟩
    cases b with
    | false =>
      obtain ⟨m',hm,w7⟩ := hN' _ _ q7
      exact ⟨m',hm,i + 1,vs,its,n,H7,inv_reset I CS hsc hN f I7.unpinned,rv,(keepI I7).1,(keepI I7).2,w7⟩
    | true =>
      refine wpAny_mono (he H2.objs.size s2 H fp _ s7 σ6 H7 _ I7 q7) (fun y s8 ⟨yv,H8,I8,r8,n8⟩ => ?_) hno
      obtain ⟨m',hm,w8⟩ := hN' _ _ n8
      have pD := I8.pin (s2.heap.objs.size,_) (List.mem_append_right _ (List.mem_append_left _ List.mem_cons_self))
      refine append_at (hsz := by show its.toArray.size ≤ sizeLine; rw [List.size_toArray,← rv.length]; exact Nat.le_of_lt hz) pD.1 fun h9 hs9 hD9 => ?_
      have hD9' : h9.get? s2.heap.objs.size = some { cls := .type "list",data := .seq (its ++ [y]).toArray (n + 1) } := by rw [hD9,lst_push]
      have J8 := inv_reset I CS hsc hN f I8.unpinned
      have hDf : s2.heap.objs.size ∉ fp := fun hb => Nat.lt_irrefl _ (fl _ hb)
      refine ⟨m',hm,i + 1,vs ++ [yv],its ++ [y],n + 1,H8,?_,rv.append (.cons r8 .nil),T.keep _ _ _ (keepI I8).1 fun b hb o e => hs9.extBut b o (fun q => hDf (q ▸ hb)) e,(keepI I8).2,w8⟩
      have J9 : Inv (cxC X (xs ++ ys) scope H2.objs.size s2 H fp) [] (sigC xs.length js σ) H8 s8 := J8.pins_of fun p hp => absurd hp (by simp)
      have J9' : Inv (cxC X (xs ++ ys) scope H2.objs.size s2 H fp) [] (sigC xs.length js σ) H8 { s8 with heap := h9,toks := s8.toks } := J9.turned (it := s2.heap.objs.size) (fun b o hb e => hs9.extBut b o hb e) pD.2.1 hDC (.inr (Nat.le_refl _))
       (fun x c e z => by
         obtain ⟨v,o,ho,_⟩ := I.cell x c (D4 e)
         exact (below c (Heap.lt_size ho)).2 z) (fun p hp => absurd (show p ∈ ([] : List (Addr × Obj)) ++ [] from hp) (by simp))
      refine J9'.pins_of fun p hp => ?_
      have e : p = (s2.heap.objs.size,{ cls := .type "list",data := .seq (its ++ [y]).toArray (n + 1) }) := by simpa using hp
      subst e
      exact ⟨hD9',pD.2.1,hDC,pD.2.2.2.1,fun v z => by cases z⟩
  ·exact inv_comp (fp := fp) I CS hsc hN f fl hCle (Nat.le_refl _) hDC hns1 old hacc (fun v z => by cases z)
 exact codeAny_compStart_list (loop _ rfl) (T.self X.A 0 _ _ _ t1 (loop _ rfl))
theorem comp_clos (ok : X.Ok) (CS : CompSc scope sc N0 xs ys js) (hsc : X.env.scope = sc) : closureFor scope X.env = pure (clOf X.env.cells scope.names []) := clos_ok fun y hy e => by
 have h := CS.fr y hy e
 rw [← hsc] at h
 exact ok.has y.1 h
theorem inv_gone {pins : List (Addr × Obj)} {σ : St} {H : Hp} {s : Shared} {C : Addr} {h' : Heap} (I : Inv X pins σ H s) (hn : H C = none) (hL : C ≠ X.env.locals) (h0 : X.s₀.heap.objs.size ≤ C) (hcl : ∀ x c,X.env.cells.lookup x = some c → c ≠ C) (hp : ∀ p ∈ X.pn ++ pins,p.1 ≠ C)
 (hs : Heap.SameBut C s.heap h') : Inv X pins σ H { s with heap := h' } := I.turned (t' := s.toks) (it := C) (fun b o hb e => hs.extBut b o hb e) hn hL (.inr h0) hcl hp
theorem Bs (CS : CompSc scope sc N0 xs ys js) (hc : X.calm = true) (hi : PI X tg iter wi) (hg : ∀ C s2 H fp,PG (cxC X (xs ++ ys) scope C s2 H fp) tg g) (hq : ∀ C s2 H fp,PQ (cxC X (xs ++ ys) scope C s2 H fp) ifs tc)
 (he : ∀ C s2 H fp,PE (cxC X (xs ++ ys) scope C s2 H fp) elt te) (hsc : X.env.scope = sc := by rfl) (hN : X.N = N0 := by rfl) (hs : ∀ x,foldedSetIterable iter X.env x = pure x := by intro _; rfl) :
 PE X (.ListComp elt [⟨tg,iter,ifs,0⟩] scope pos) (tComp xs.length js wi g tc te) := by
 intro pins s σ H Q I h
 rw [eval_ListComp]
 refine wpAny_comprehension_free (use := none) rfl hs (comp_clos I.ok CS hsc) CS.kind CS.loc (thn (hi pins s σ H _ I h) fun v s1 h1 => thn h1 fun itv s2 h2 => ?_)
 obtain ⟨it,fp,tn,J,H2,e,I2,T,t2,f2,hw⟩ := h2
 subst e
 refine comp_block (RR := fun acc C => compPost (model X.prog X.w) X.A X.xe none (EP X pins σ Q) acc C) CS hsc hN hc I2 T t2 f2 hg hq he hw ?_
 intro D C H' vs s' hm I' hD hCD hC hL h0 hcl hp fn
 obtain ⟨m,hm⟩ := hm
 refine ⟨m,hm,fun h' hs' => ⟨.ref D,_,inv_gone I' (by rw [upd_ne hCD]; exact hC) hL h0 hcl hp hs',rfl,fn D hD⟩⟩
theorem ps_setComp {i : Nat} {y : Str} {py spos : Pos} (CS : CompSc scope sc N0 xs ys js) (hc : X.calm = true) (hNd : X.N.Nodup) (hiy : X.N[i]? = some y) (hy : X.env.scope.names.lookup y = some .local)
 (hi : PI X tg iter wi) (hg : ∀ C s2 H fp,PG (cxC X (xs ++ ys) scope C s2 H fp) tg g) (hq : ∀ C s2 H fp,PQ (cxC X (xs ++ ys) scope C s2 H fp) ifs tc)
 (he : ∀ C s2 H fp,PE (cxC X (xs ++ ys) scope C s2 H fp) elt te) (hsc : X.env.scope = sc := by rfl) (hN : X.N = N0 := by rfl) (hs : ∀ x,foldedSetIterable iter X.env x = pure x := by intro _; rfl)
 (hsw : swapsWith (.ListComp elt [⟨tg,iter,ifs,0⟩] scope pos) (some (.Name y py)) spos.line X.env = pure true := by rfl) :
 PS X (.Assign [.Name y py] (.ListComp elt [⟨tg,iter,ifs,0⟩] scope pos) spos) (tAsg (tComp xs.length js wi g tc te) (gName i)) := by
 intro pins s σ H Dn I h
 rw [exec_Assign_Name_used _ _ _ _ hsw]
 refine wpAny_bind (wpAny_standAt (wpAny_bind ?_))
 show wpAny _ X.A (do let _ ← comprehension (.ListComp elt [⟨tg,iter,ifs,0⟩] scope pos) scope X.env _ (newList []) false (eval iter X.env) (some (assign (.Name y py) X.env))) _ _ s
 refine wpAny_bind (wpAny_mono (wpAny_comprehension_free (use := some (assign (.Name y py) X.env)) (Q := fun _ s' => SP X pins Dn .next s') rfl hs (comp_clos I.ok CS hsc) CS.kind CS.loc
  (thn (hi pins s σ H _ I h) fun v s1 h1 => thn h1 fun itv s2 h2 => ?_)) (fun _ s' hq => wpAny_pure (wpAny_pure hq)) fun _ _ e => e)
 obtain ⟨it,fp,tn,J,H2,e,I2,T,t2,f2,hw⟩ := h2
 subst e
 refine comp_block (RR := fun acc C => compPost (model X.prog X.w) X.A X.xe (some (assign (.Name y py) X.env)) (fun _ s' => SP X pins Dn .next s') acc C) CS hsc hN hc I2 T t2 f2 hg hq he hw ?_
 intro D C H' vs s' hm I' hD hCD hC hL h0 hcl hp fn
 obtain ⟨m,hm⟩ := hm
 show wpAny _ X.A (assign (.Name y py) X.env (.ref D)) _ _ _
 refine wpAny_assign_Name (store_ok2 (v := .ref D) I' hNd hiy (.inl hy) rfl (fun s2 I2 hch => ?_) (.inr hy))
 obtain ⟨a,sb,ha⟩ := hch
 have hCa : C ≠ a := by
  rcases ha with ha | ha
  ·rw [ha]; exact hL
  ·exact fun z => hcl y a ha z.symm
 refine ⟨m,hm.sameBut sb hCa,fun h' hs' => ?_⟩
 exact ⟨_,_,inv_gone I2 (by rw [upd_ne hCD]; exact hC) hL h0 hcl hp hs',fn D hD⟩
end
section
variable {k : Nat} {js : List Nat} {g : TG} {tc : TT} {te : TE} {σ : St} {fin : List V → Hp → Prop} {H : Hp}
theorem comp_range {lo : Int} {n : Nat} (Pv : Nat → List V → Hp → Prop) (h0 : Pv 0 [] H) (hn : n ≤ sizeLine) (hl : ∀ i ys H,Pv i ys H → ys.length ≤ i)
 (hs : ∀ i ys H,i < n → Pv i ys H → g (.int (lo + i)) (sigC k js σ) H fun σ2 H3 => tc σ2 H3 fun b H4 => if b = true then te σ2 H4 fun y H5 => Pv (i + 1) (ys ++ [y]) H5 else Pv (i + 1) ys H4)
 (hd : ∀ ys H,Pv n ys H → fin ys H) : compW k js g tc te σ (Itr lo n) H fin := by
 refine ⟨fun i m ys H => m = n - i ∧ i ≤ n ∧ Pv i ys H,⟨n,by simp,Nat.zero_le _,h0⟩,?_⟩
 rintro i m ys H ⟨rfl,hi,p⟩
 have hy := hl i ys H p
 by_cases hlt : i < n
 ·refine .inr ⟨hlt,by omega,Pv (i + 1),fun ys' H' p' => ⟨n - (i + 1),by omega,rfl,hlt,p'⟩,fun x H' y => ?_⟩
  obtain ⟨e,y⟩ := y
  subst e y
  exact hs i ys _ hlt p
 ·have e : i = n := by omega
  subst e
  exact .inl ⟨Nat.le_refl _,by omega,hd ys H p⟩
theorem Bj {K : PySem.W.Frag} {a : Addr} {xs : List V} (Pv : Nat → List V → Hp → Prop) (h0 : Pv 0 [] H) (hn : xs.length ≤ sizeLine) (hl : ∀ i ys H,Pv i ys H → ys.length ≤ i) (hq : ∀ i ys H,i ≤ xs.length → Pv i ys H → SqL K H a xs)
 (hs : ∀ i x ys H,xs[i]? = some x → Pv i ys H → g x (sigC k js σ) H fun σ2 H3 => tc σ2 H3 fun b H4 => if b = true then te σ2 H4 fun y H5 => Pv (i + 1) (ys ++ [y]) H5 else Pv (i + 1) ys H4)
 (hd : ∀ ys H,Pv xs.length ys H → fin ys H) : compW k js g tc te σ (Itl K a) H fin := by
 refine ⟨fun i m ys H => m = xs.length - i ∧ i ≤ xs.length ∧ Pv i ys H,⟨xs.length,by simp,Nat.zero_le _,h0⟩,?_⟩
 rintro i m ys H ⟨rfl,hi,p⟩
 have hy := hl i ys H p
 have q := hq i ys H hi p
 by_cases hlt : i < xs.length
 ·refine .inr ⟨⟨xs,xs[i],q,by simp [hlt]⟩,by omega,Pv (i + 1),fun ys' H' p' => ⟨xs.length - (i + 1),by omega,rfl,hlt,p'⟩,fun x H' y => ?_⟩
  obtain ⟨e,y⟩ := y
  subst e
  exact hs i x ys _ (y xs q) p
 ·have e : i = xs.length := by omega
  subst e
  exact .inl ⟨⟨xs,q,Nat.le_refl _⟩,by omega,hd ys H p⟩
theorem comp_tup {K : PySem.W.Frag} {a : Addr} {xs : List V} (Pv : Nat → List V → Hp → Prop) (h0 : Pv 0 [] H) (hn : xs.length ≤ sizeLine) (hl : ∀ i ys H,Pv i ys H → ys.length ≤ i) (hq : ∀ i ys H,i ≤ xs.length → Pv i ys H → SqT K H a xs)
 (hs : ∀ i x ys H,xs[i]? = some x → Pv i ys H → g x (sigC k js σ) H fun σ2 H3 => tc σ2 H3 fun b H4 => if b = true then te σ2 H4 fun y H5 => Pv (i + 1) (ys ++ [y]) H5 else Pv (i + 1) ys H4)
 (hd : ∀ ys H,Pv xs.length ys H → fin ys H) : compW k js g tc te σ (Itt K a) H fin := by
 refine ⟨fun i m ys H => m = xs.length - i ∧ i ≤ xs.length ∧ Pv i ys H,⟨xs.length,by simp,Nat.zero_le _,h0⟩,?_⟩
 rintro i m ys H ⟨rfl,hi,p⟩
 have hy := hl i ys H p
 have q := hq i ys H hi p
 by_cases hlt : i < xs.length
 ·refine .inr ⟨⟨xs,xs[i],q,by simp [hlt]⟩,by omega,Pv (i + 1),fun ys' H' p' => ⟨xs.length - (i + 1),by omega,rfl,hlt,p'⟩,fun x H' y => ?_⟩
  obtain ⟨e,y⟩ := y
  subst e
  exact hs i x ys _ (y xs q) p
 ·have e : i = xs.length := by omega
  subst e
  exact .inl ⟨⟨xs,q,Nat.le_refl _⟩,by omega,hd ys H p⟩
end
def CDivB (i j : Int) : Prop := 0 < j ∧ j < 10000000000000000000000000000000000000000
theorem cdivB_no {i j : Int} (h : CDivB i j) : Builtin.divisionGoesByPylong i j = false := by
 obtain ⟨h1,h2⟩ := h
 refine PyProof.noPylong_of_log2 ?_
 have h0 : j.natAbs ≠ 0 := by omega
 have h3 : j.natAbs < 2 ^ 200 := by
  have e : (2 : Nat) ^ 200 = 1606938044258990275541962092341162602522202993782792835301376 := by decide
  rw [e]
  omega
 have := (Nat.log2_lt h0).mpr h3
 omega
section
variable {X : Cx}
theorem op_fdivB : OpR X (binaryOp .FloorDiv) (rI CDivB fun i j => .int (i / j)) := opI fun i j _ _ _ _ _ hc q => by
 have h1 : (0 : Int) < j := hc.1
 exact floordiv_int (by omega) (by rw [Int.fdiv_eq_ediv_of_nonneg i (by omega)]; exact q) (.inl (cdivB_no hc))
def clsV : V → Option Value
 | .ty n => some (.type n)
 | .ref C => some (.ref C)
 | _ => none
theorem clsV_rel {c : V} {cv u : Value} (h : clsV c = some cv) (r : RelV c u) : u = cv := by
 cases c with
 | ty n => cases h; exact r
 | ref C => cases h; exact r
 | _ => cases h
theorem call_isinst : CallR X (.builtin "isinstance") (fun xs H Q => ∃ x c t cv b,xs = [x,c] ∧ clsV c = some cv ∧ TyOf X.K H x t ∧ PySem.W.kitOne X.K t cv = some b ∧ Q (.bl b) H) := by
 intro pins s σ H xs us Q I r h
 obtain ⟨x,c,t,cv,b,rfl,hc,ht,hk,q⟩ := h
 obtain ⟨u,w',rfl,rx,rc⟩ := vals2 r
 have e := clsV_rel hc rc
 subst e
 exact isinst_ok I rx ht hk fun tk => ⟨.bl b,H,I.tok _,rfl,q⟩
theorem kit_same {K : PySem.W.Frag} {n : String} : PySem.W.kitOne K (.type n) (.type n) = some true := by
 unfold PySem.W.kitOne
 rw [if_pos (beq_self_eq_true _)]
theorem Bz {K : PySem.W.Frag} {a c : String} {b : Bool} (h1 : (Value.type a == Value.type c) = false) (h2 : PySem.W.kitMeta c = true) (h3 : (fastBuiltinMro a).map (·.contains (Value.type c)) = some b) :
 PySem.W.kitOne K (.type a) (.type c) = some b := by
 unfold PySem.W.kitOne
 rw [if_neg (by rw [h1]; exact Bool.false_ne_true)]
 show (if PySem.W.kitMeta c = true then PySem.W.subIn K (.type a) (.type c) else none) = some b
 rw [if_pos h2]
 exact h3
section
variable {K : PySem.W.Frag}
theorem kit_bool_int : PySem.W.kitOne K (.type "bool") (.type "int") = some true := Bz (by decide +kernel) (by decide +kernel) (by decide +kernel)
theorem kit_none_int : PySem.W.kitOne K (.type "NoneType") (.type "int") = some false := Bz (by decide +kernel) (by decide +kernel) (by decide +kernel)
theorem kit_str_int : PySem.W.kitOne K (.type "str") (.type "int") = some false := Bz (by decide +kernel) (by decide +kernel) (by decide +kernel)
theorem kit_list_int : PySem.W.kitOne K (.type "list") (.type "int") = some false := Bz (by decide +kernel) (by decide +kernel) (by decide +kernel)
theorem kit_tuple_int : PySem.W.kitOne K (.type "tuple") (.type "int") = some false := Bz (by decide +kernel) (by decide +kernel) (by decide +kernel)
theorem kit_dict_int : PySem.W.kitOne K (.type "dict") (.type "int") = some false := Bz (by decide +kernel) (by decide +kernel) (by decide +kernel)
theorem kit_int_bool : PySem.W.kitOne K (.type "int") (.type "bool") = some false := Bz (by decide +kernel) (by decide +kernel) (by decide +kernel)
theorem kit_none_bool : PySem.W.kitOne K (.type "NoneType") (.type "bool") = some false := Bz (by decide +kernel) (by decide +kernel) (by decide +kernel)
theorem kit_str_bool : PySem.W.kitOne K (.type "str") (.type "bool") = some false := Bz (by decide +kernel) (by decide +kernel) (by decide +kernel)
theorem kit_list_bool : PySem.W.kitOne K (.type "list") (.type "bool") = some false := Bz (by decide +kernel) (by decide +kernel) (by decide +kernel)
theorem kit_tuple_bool : PySem.W.kitOne K (.type "tuple") (.type "bool") = some false := Bz (by decide +kernel) (by decide +kernel) (by decide +kernel)
theorem kit_dict_bool : PySem.W.kitOne K (.type "dict") (.type "bool") = some false := Bz (by decide +kernel) (by decide +kernel) (by decide +kernel)
theorem kit_int_str : PySem.W.kitOne K (.type "int") (.type "str") = some false := Bz (by decide +kernel) (by decide +kernel) (by decide +kernel)
theorem kit_bool_str : PySem.W.kitOne K (.type "bool") (.type "str") = some false := Bz (by decide +kernel) (by decide +kernel) (by decide +kernel)
theorem kit_none_str : PySem.W.kitOne K (.type "NoneType") (.type "str") = some false := Bz (by decide +kernel) (by decide +kernel) (by decide +kernel)
theorem kit_list_str : PySem.W.kitOne K (.type "list") (.type "str") = some false := Bz (by decide +kernel) (by decide +kernel) (by decide +kernel)
theorem kit_tuple_str : PySem.W.kitOne K (.type "tuple") (.type "str") = some false := Bz (by decide +kernel) (by decide +kernel) (by decide +kernel)
theorem kit_dict_str : PySem.W.kitOne K (.type "dict") (.type "str") = some false := Bz (by decide +kernel) (by decide +kernel) (by decide +kernel)
theorem kit_int_tuple : PySem.W.kitOne K (.type "int") (.type "tuple") = some false := Bz (by decide +kernel) (by decide +kernel) (by decide +kernel)
theorem kit_bool_tuple : PySem.W.kitOne K (.type "bool") (.type "tuple") = some false := Bz (by decide +kernel) (by decide +kernel) (by decide +kernel)
theorem kit_none_tuple : PySem.W.kitOne K (.type "NoneType") (.type "tuple") = some false := Bz (by decide +kernel) (by decide +kernel) (by decide +kernel)
theorem kit_list_tuple : PySem.W.kitOne K (.type "list") (.type "tuple") = some false := Bz (by decide +kernel) (by decide +kernel) (by decide +kernel)
theorem kit_str_tuple : PySem.W.kitOne K (.type "str") (.type "tuple") = some false := Bz (by decide +kernel) (by decide +kernel) (by decide +kernel)
theorem kit_dict_tuple : PySem.W.kitOne K (.type "dict") (.type "tuple") = some false := Bz (by decide +kernel) (by decide +kernel) (by decide +kernel)
end
inductive Kd where
 | non | bl | int | str | lst | tup | dct
 deriving DecidableEq
def Kd.nm : Kd → String
 | .non => "NoneType" | .bl => "bool" | .int => "int" | .str => "str" | .lst => "list" | .tup => "tuple" | .dct => "dict"
def KdOf (K : PySem.W.Frag) (H : Hp) (x : V) (k : Kd) : Prop := TyOf K H x (.type k.nm)
def Kd.isA : Kd → Kd → Bool
 | .bl,.int => true
 | a,b => decide (a = b)
theorem kit_kd {K : PySem.W.Frag} {a c : Kd} (hc : c = .int ∨ c = .bl ∨ c = .str ∨ c = .tup) : PySem.W.kitOne K (.type a.nm) (.type c.nm) = some (a.isA c) := by
 rcases hc with rfl | rfl | rfl | rfl
 ·cases a <;> first | exact kit_same | exact kit_bool_int | exact kit_none_int | exact kit_str_int | exact kit_list_int | exact kit_tuple_int | exact kit_dict_int
 ·cases a <;> first | exact kit_same | exact kit_int_bool | exact kit_none_bool | exact kit_str_bool | exact kit_list_bool | exact kit_tuple_bool | exact kit_dict_bool
 ·cases a <;> first | exact kit_same | exact kit_int_str | exact kit_none_str | exact kit_bool_str | exact kit_list_str | exact kit_tuple_str | exact kit_dict_str
 ·cases a <;> first | exact kit_same | exact kit_int_tuple | exact kit_none_tuple | exact kit_bool_tuple | exact kit_list_tuple | exact kit_str_tuple | exact kit_dict_tuple
theorem D5 (c : Kd) (hc : c = .int ∨ c = .bl ∨ c = .str ∨ c = .tup) : CallR X (.builtin "isinstance") (fun xs H Q => ∃ x k,xs = [x,.ty c.nm] ∧ KdOf X.K H x k ∧ Q (.bl (k.isA c)) H) := by
 intro pins s σ H xs us Q I r h
 obtain ⟨x,k,rfl,hk,q⟩ := h
 exact call_isinst pins s σ H _ us Q I r ⟨x,_,_,_,_,rfl,rfl,hk,kit_kd hc,q⟩
end
def Its (x : Str) : It := ⟨fun i _ => i < x.cps.size,fun i H v H' => H' = H ∧ ∃ c,x.cps[i]? = some c ∧ v = .str ⟨#[c]⟩,fun i _ => i = x.cps.size⟩
theorem turn_str {P : Program} {w : World} {K : PySem.W.Frag} {tg : Expr} (it : Addr) (ty : String) (x : Str) (t : Tok) (hty : ["enumerate","zip","dict_itemiterator","dict_reverseitemiterator","odict_iterator","itertools.zip_longest","itertools.pairwise"].contains ty = false)
 (W : ∀ A' : Around,A'.handled = none → Walks P w A' it [it] [it] x.cps.size (SignAt x) (fun i h => h.IsStrIter it ty x t i))
 (slf : ∀ (A : Around) (i : Nat) (s : Shared) (Q : Value → Shared → Prop) (E : Value → Shared → Prop),s.heap.IsStrIter it ty x t i → Q (.ref it) s → wpAny (model P w) A (pyIter (.ref it)) Q E s) :
 Turn P w K tg (Its x) [it] it (fun i h => h.IsStrIter it ty x t i) where
 mem := by simp
 obj := fun i h st b hb => by
  have e : b = it := by simpa using hb
  subst e
  obtain ⟨o,e,c,d⟩ := st
  exact ⟨o,e,fun v z => by rw [d] at z; cases z⟩
 keep := fun i h h' st k => by
  obtain ⟨o,e,r⟩ := st
  exact ⟨o,k it (by simp) o e,r⟩
 item := by
  intro X hP hw hK hc i pins s σ H E I hf st hg
  subst hP hw hK
  obtain ⟨f0,f1,f2,f3,f4,f5⟩ := hf it (by simp)
  refine (W X.A (I.ok.hd hc)).item i s _ _ hg st fun v h' tk hv st' kk => ?_
  obtain ⟨c,u,ec,rfl⟩ := hv
  have I1 : Inv X pins σ H { s with heap := h',toks := tk } := I.turned (fun b o hb e => kk b o (by simpa using hb) e) f0 f1 f3 f4 f5
  obtain ⟨o,e,cc,d⟩ := id st'
  exact ⟨_,rfl,go_of (s := { s with heap := h',toks := tk }) e cc d hty ⟨.str ⟨#[c]⟩,H,I1,⟨u,rfl⟩,⟨rfl,c,ec,rfl⟩,st',fun b hb => (hf b hb).1⟩⟩
 done := by
  intro X hP hw hK hc i pins s σ H E I hf st hg
  subst hP hw hK
  obtain ⟨f0,f1,f2,f3,f4,f5⟩ := hf it (by simp)
  have e : i = x.cps.size := hg
  subst e
  exact (W X.A (I.ok.hd hc)).done s _ _ st fun h' tk kk => ⟨rfl,I.turned (fun b o hb e => kk b o (by simpa using hb) e) f0 f1 f3 f4 f5⟩
 self := slf
def iStr (tl : TE) : TI := fun σ H R => tl σ H fun x H1 => ∃ z,x = .str z ∧ R (Its z) H1
section
variable {X : Cx} {tg : Expr}
theorem pi_str {l : Expr} {tl : TE} (hl : PE X l tl) : PI X tg l (iStr tl) := by
 intro pins s σ H R I h
 refine thn (hl pins s σ H _ I h) fun v s1 ⟨x,H1,I1,r1,q1⟩ => ?_
 obtain ⟨z,e,q⟩ := q1
 subst e
 obtain ⟨t,rfl⟩ := r1
 have fp : ∀ b ∈ [s1.heap.objs.size],FpOk X pins H1 b := fun b hb => by
  have e : b = s1.heap.objs.size := by simpa using hb
  subst e
  exact I1.fpOk (Nat.le_refl _) (I1.hok.fresh (Nat.le_refl _))
 cases ha : z.cps.all (· < 128)
 ·refine wpAny_pyIter_wide ha ?_
  exact ⟨s1.heap.objs.size,[s1.heap.objs.size],_,_,H1,rfl,I1.kept (t' := s1.toks) fun b o e => Heap.get?_push_of_some _ e,turn_str _ _ z t (by decide) (fun A' hA => Walks.strWide hA _ z t) (fun _ _ _ _ _ st h => wpAny_pyIter_striter_wide st h),
   ⟨_,Heap.get?_push_size _ rfl,rfl,rfl⟩,fp,q⟩
 ·refine wpAny_pyIter_ascii ha ?_
  exact ⟨s1.heap.objs.size,[s1.heap.objs.size],_,_,H1,rfl,I1.kept (t' := s1.toks) fun b o e => Heap.get?_push_of_some _ e,turn_str _ _ z t (by decide) (fun A' hA => Walks.strAscii hA _ z t) (fun _ _ _ _ _ st h => wpAny_pyIter_striter_ascii st h),
   ⟨_,Heap.get?_push_size _ rfl,rfl,rfl⟩,fp,q⟩
def sgn (x : Str) (i : Nat) : Str := ⟨#[x.cps.getD i 0]⟩
theorem comp_str {k : Nat} {js : List Nat} {g : TG} {tc : TT} {te : TE} {σ : St} {fin : List V → Hp → Prop} {H : Hp} {z : Str} (Pv : Nat → List V → Hp → Prop) (h0 : Pv 0 [] H) (hn : z.cps.size ≤ sizeLine) (hl : ∀ i ys H,Pv i ys H → ys.length ≤ i)
 (hs : ∀ i ys H,i < z.cps.size → Pv i ys H → g (.str (sgn z i)) (sigC k js σ) H fun σ2 H3 => tc σ2 H3 fun b H4 => if b = true then te σ2 H4 fun y H5 => Pv (i + 1) (ys ++ [y]) H5 else Pv (i + 1) ys H4)
 (hd : ∀ ys H,Pv z.cps.size ys H → fin ys H) : compW k js g tc te σ (Its z) H fin := by
 refine ⟨fun i m ys H => m = z.cps.size - i ∧ i ≤ z.cps.size ∧ Pv i ys H,⟨z.cps.size,by simp,Nat.zero_le _,h0⟩,?_⟩
 rintro i m ys H ⟨rfl,hi,p⟩
 have hy := hl i ys H p
 by_cases hlt : i < z.cps.size
 ·refine .inr ⟨hlt,by omega,Pv (i + 1),fun ys' H' p' => ⟨z.cps.size - (i + 1),by omega,rfl,hlt,p'⟩,fun x H' y => ?_⟩
  obtain ⟨e,c,ec,ex⟩ := y
  subst e ex
  have hh := hs i ys _ hlt p
  have e2 : sgn z i = ⟨#[c]⟩ := by unfold sgn; rw [Array.getD_eq_getD_getElem?,ec]; rfl
  rw [e2] at hh
  exact hh
 ·have e : i = z.cps.size := by omega
  subst e
  exact .inl ⟨rfl,by omega,hd ys H p⟩
theorem vals_bl : ∀ {bs : List Bool} {its : List Value},Vals (bs.map V.bl) its → its = bs.map Value.bool
 | [],_,.nil => rfl
 | b :: bs,_,.cons r t => by
   cases r
   rw [vals_bl t]
   rfl
theorem Di (hc : X.calm = true) : CallR X (.builtin "all") (fun xs H Q => ∃ (p : Addr) (bs : List Bool),xs = [.ref p] ∧ SqL X.K H p (bs.map V.bl) ∧ Q (.bl (bs.all id)) H) := by
 intro pins s σ H xs us Q I r h
 obtain ⟨p,bs,rfl,hq,q⟩ := h
 obtain ⟨u,rfl,ru⟩ := vals1 r
 cases ru
 obtain ⟨its,rv,pl,hz⟩ := I.list hq
 have e := vals_bl rv
 subst e
 have hlt : p < s.heap.objs.size := by obtain ⟨o,n,e,_⟩ := pl; exact Heap.lt_size e
 refine call_all_walk (wpAny_pyIter_list pl.isList ?_)
 refine ⟨s.heap.objs.size,_,[s.heap.objs.size],_,_,_,fun i => bs.getD i true,rfl,Walks.list (A := X.A.in1) (show X.A.in1.handled = none from I.ok.hd hc) s.heap.objs.size p (Nat.ne_of_lt hlt) (bs.map Value.bool).toArray,⟨⟨_,Heap.get?_push_size _ rfl,rfl,rfl⟩,pl.isList.push _⟩,?_,fun h' tk hk => ?_⟩
 ·intro i v s' Q' E' hP hQ'
  have hP : ((bs.map Value.bool).toArray)[i]? = some v := hP
  rw [List.getElem?_toArray,List.getElem?_map] at hP
  cases e : bs[i]? with
  | none => rw [e] at hP; cases hP
  | some b =>
    rw [e] at hP
    cases hP
    refine wpAny_truthy_bool ?_
    have e' : bs.getD i true = b := by rw [List.getD_eq_getElem?_getD,e]; rfl
    have hQ' : Q' (bs.getD i true) s' := hQ'
    rw [e'] at hQ'
    exact hQ'
 ·have e : (List.range (bs.map Value.bool).toArray.size).all (fun i => bs.getD i true) = bs.all id := by
   rw [Bool.eq_iff_iff]
   simp only [List.size_toArray,List.length_map,List.all_eq_true,List.mem_range,id]
   constructor
   ·intro h b hb
    obtain ⟨i,hi,e⟩ := List.mem_iff_getElem.mp hb
    have := h i hi
    rw [List.getD_eq_getElem?_getD,List.getElem?_eq_getElem hi,e] at this
    exact this
   ·intro h i hi
    rw [List.getD_eq_getElem?_getD,List.getElem?_eq_getElem hi]
    exact h _ (List.getElem_mem hi)
  rw [e]
  exact ⟨.bl (bs.all id),H,I.kept fun b o e => hk b o (by simp; exact Nat.ne_of_lt (Heap.lt_size e)) (Heap.get?_push_of_some _ e),rfl,q⟩
theorem mt_bitlen : MtR X "int.bit_length" (fun x xs H Q => ∃ i,x = .int i ∧ xs = [] ∧ Q (.int (Builtin.Int.intBits i)) H) := by
 intro pins s σ H x xs v us Q I rx rs h
 obtain ⟨i,rfl,rfl,q⟩ := h
 obtain ⟨t,rfl⟩ := rx
 cases rs
 exact call_int_bit_length ⟨.int _,H,I.tok _,⟨_,rfl⟩,q⟩
end
section
variable {κ : Type} [DecidableEq κ]
def valV (kvs : List (κ × V)) (k : κ) : Option V := (kvs.find? fun kv => decide (kv.1 = k)).map (·.2)
def putK (kvs : List (κ × V)) (k : κ) (v : V) : List (κ × V) :=
 if (kvs.any fun kv => decide (kv.1 = k)) = true then kvs.map (fun kv => if kv.1 = k then (kv.1,v) else kv) else kvs ++ [(k,v)]
theorem valV_pos {p : κ × V} {r : List (κ × V)} {k : κ} (e : p.1 = k) : valV (p :: r) k = some p.2 := by simp [valV,List.find?_cons,e]
theorem valV_neg {p : κ × V} {r : List (κ × V)} {k : κ} (e : ¬ p.1 = k) : valV (p :: r) k = valV r k := by simp [valV,List.find?_cons,e]
theorem valV_any (k : κ) : ∀ kvs : List (κ × V),(kvs.any fun kv => decide (kv.1 = k)) = (valV kvs k).isSome
 | [] => rfl
 | p :: r => by
   rw [List.any_cons]
   by_cases e : p.1 = k
   ·simp only [valV_pos e,decide_eq_true e,Bool.true_or,Option.isSome_some]
   ·rw [valV_neg e,decide_eq_false e,Bool.false_or]; exact valV_any k r
theorem length_putK (kvs : List (κ × V)) (k : κ) (v : V) : (putK kvs k v).length ≤ kvs.length + 1 := by
 unfold putK
 split
 ·rw [List.length_map]; omega
 ·rw [List.length_append,List.length_cons,List.length_nil]; omega
theorem putK_new {kvs : List (κ × V)} {k : κ} (v : V) (h : valV kvs k = none) : putK kvs k v = kvs ++ [(k,v)] := by
 unfold putK
 rw [valV_any,h]
 exact if_neg (by decide)
theorem RelO.isSome_eq {o : Option V} {u : Option Value} (r : RelO o u) : o.isSome = u.isSome := by
 cases o with
 | none => cases u with
   | none => rfl
   | some _ => exact (show False from r).elim
 | some _ => cases u with
   | none => exact (show False from r).elim
   | some _ => rfl
theorem KV.val {kvs : List (κ × V)} {vs : List (κ × Value)} (r : KV kvs vs) (k : κ) : RelO (valV kvs k) (valueAt vs k) := by
 unfold KV at r
 induction r with
 | nil => exact True.intro
 | @cons p q ps qs h t ih =>
   obtain ⟨h1,h2⟩ := h
   by_cases e : p.1 = k
   ·have e' : q.1 = k := h1.symm.trans e
    have b : valueAt (q :: qs) k = some q.2 := by simp [valueAt,List.find?_cons,e']
    rw [valV_pos e,b]; exact h2
   ·have e' : ¬ q.1 = k := fun z => e (h1.trans z)
    have b : valueAt (q :: qs) k = valueAt qs k := by simp [valueAt,List.find?_cons,e']
    rw [valV_neg e,b]; exact ih
theorem KV.any {kvs : List (κ × V)} {vs : List (κ × Value)} (r : KV kvs vs) (k : κ) : (kvs.any fun kv => decide (kv.1 = k)) = vs.any fun kv => decide (kv.1 = k) := by
 unfold KV at r
 induction r with
 | nil => rfl
 | cons h t ih => rw [List.any_cons,List.any_cons,ih,h.1]
theorem KV.repl {kvs : List (κ × V)} {vs : List (κ × Value)} (r : KV kvs vs) (k : κ) {y : V} {u : Value} (ry : RelV y u) :
 KV (kvs.map fun kv => if kv.1 = k then (kv.1,y) else kv) (vs.map fun kv => if kv.1 = k then (kv.1,u) else kv) := by
 unfold KV at r ⊢
 induction r with
 | nil => exact .nil
 | @cons p q ps qs h t ih =>
   rw [List.map_cons,List.map_cons]
   refine .cons ?_ ih
   obtain ⟨h1,h2⟩ := h
   by_cases e : p.1 = k
   ·rw [if_pos e,if_pos (h1.symm.trans e)]; exact ⟨h1,ry⟩
   ·rw [if_neg e,if_neg (fun z => e (h1.trans z))]; exact ⟨h1,h2⟩
theorem KV.put {kvs : List (κ × V)} {vs : List (κ × Value)} (r : KV kvs vs) (k : κ) {y : V} {u : Value} (ry : RelV y u) : KV (putK kvs k y) (stored vs k u) := by
 unfold putK stored
 rw [r.any k]
 by_cases e : (vs.any fun kv => decide (kv.1 = k)) = true
 ·rw [if_pos e,if_pos e]; exact r.repl k ry
 ·rw [if_neg e,if_neg e]; exact Paired.snoc r ⟨rfl,ry⟩
theorem KV.length {kvs : List (κ × V)} {vs : List (κ × Value)} (r : KV kvs vs) : kvs.length = vs.length := Paired.length r
end
theorem kV_is {P : Program} {w : World} {k : Key} {u : Value} (r : RelV (kV k) u) : (Cg P w).is k u = true := by
 cases k with
 | inl i => obtain ⟨t,e⟩ := (show ∃ t,u = Value.int i t from r); subst e; exact mixKind_int P w i t
 | inr x => obtain ⟨t,e⟩ := (show ∃ t,u = Value.str x t from r); subst e; exact mixKind_str P w x t
theorem items_are {P : Program} {w : World} : ∀ {ks : List Key} {us : List Value},Vals (ks.map kV) us → ItemsAre (Cg P w) ks us
 | [],_,r => by rw [List.map_nil] at r; cases r; exact .nil
 | k :: ks,_,r => by
   rw [List.map_cons] at r
   cases r with
   | cons h t => exact .cons (kV_is h) (items_are t)
abbrev KT (H : Hp) : List (List Key × V) → List (List Key × Addr × Value) → Prop := Paired fun p q => p.1 = q.1 ∧ H q.2.1 = some (.tup (p.1.map kV)) ∧ RelV p.2 q.2.2
theorem KT.val {H : Hp} {kvs : List (List Key × V)} {xs : List (List Key × Addr × Value)} (r : KT H kvs xs) (k : List Key) : RelO (valV kvs k) ((atKey xs k).map (·.2)) := by
 induction r with
 | nil => exact True.intro
 | @cons p q ps qs h t ih =>
   obtain ⟨h1,_,h2⟩ := h
   by_cases e : p.1 = k
   ·have e' : q.1 = k := h1.symm.trans e
    have b : atKey (q :: qs) k = some q.2 := by simp [atKey,List.find?_cons,e']
    rw [valV_pos e,b]; exact h2
   ·have e' : ¬ q.1 = k := fun z => e (h1.trans z)
    have b : atKey (q :: qs) k = atKey qs k := by simp [atKey,List.find?_cons,e']
    rw [valV_neg e,b]; exact ih
theorem KT.repl {H : Hp} {kvs : List (List Key × V)} {xs : List (List Key × Addr × Value)} (r : KT H kvs xs) (k : List Key) {y : V} {u : Value} (ry : RelV y u) :
 KT H (kvs.map fun kv => if kv.1 = k then (kv.1,y) else kv) (xs.map (putAt k u)) := by
 induction r with
 | nil => exact .nil
 | @cons p q ps qs h t ih =>
   rw [List.map_cons,List.map_cons]
   refine .cons ?_ ih
   obtain ⟨h1,h2,h3⟩ := h
   unfold putAt
   by_cases e : p.1 = k
   ·rw [if_pos e,if_pos (h1.symm.trans e)]; exact ⟨h1,h2,ry⟩
   ·rw [if_neg e,if_neg (fun z => e (h1.trans z))]; exact ⟨h1,h2,h3⟩
theorem KT.put {H : Hp} {kvs : List (List Key × V)} {xs : List (List Key × Addr × Value)} (r : KT H kvs xs) (k : List Key) {b : Addr} {y : V} {u : Value} (hb : H b = some (.tup (k.map kV))) (ry : RelV y u) :
 KT H (putK kvs k y) (storedH xs k b u) := by
 have e : (kvs.any fun kv => decide (kv.1 = k)) = (atKey xs k).isSome := by
  rw [valV_any,(r.val k).isSome_eq,Option.isSome_map]
 unfold putK storedH
 rw [e]
 by_cases q : (atKey xs k).isSome = true
 ·rw [if_pos q,if_pos q]; exact r.repl k ry
 ·rw [if_neg q,if_neg q]; exact Paired.snoc r ⟨rfl,hb,ry⟩
theorem KT.keeps {H H' : Hp} {kvs : List (List Key × V)} {xs : List (List Key × Addr × Value)} (r : KT H kvs xs) (ht : ∀ b ys,H b = some (.tup ys) → H' b = some (.tup ys)) : KT H' kvs xs :=
 Paired.mapP r fun _ _ z => ⟨z.1,ht _ _ z.2.1,z.2.2⟩
section
variable {P : Program} {w : World} {H : Hp} {h : Heap} {a : Addr}
theorem rd_of {u : HO} (ok : HOk P w H h) (e : Rd H a u) : Cq P w H h a u := e.ok ok
theorem dk_rd {kvs : List (Key × V)} (ok : HOk P w H h) (e : Rd H a (.dK kvs)) : kvs.length ≤ sizeLine ∧ (a == sysModules) = false ∧ ∃ vs,KV kvs vs ∧ h.DictOf (Cg P w) a vs :=
 show Cq P w H h a (.dK kvs) from rd_of ok e
theorem dk_of {kvs : List (Key × V)} (ok : HOk P w H h) (e : H a = some (.dK kvs)) : kvs.length ≤ sizeLine ∧ (a == sysModules) = false ∧ ∃ vs,KV kvs vs ∧ h.DictOf (Cg P w) a vs := dk_rd ok (.inl e)
theorem key_of {ks : List Key} (ok : HOk P w H h) (e : H a = some (.tup (ks.map kV))) : (tupleKind (Cg P w)).is h ks a := by
 obtain ⟨_,its,r,o,h1,h2,n,h3⟩ := (show Cq P w H h a (.tup (ks.map kV)) from ok a _ e)
 exact ⟨o,its.toArray,n,h1,h2,h3,by simpa using items_are r⟩
theorem dt_rd {kvs : List (List Key × V)} (ok : HOk P w H h) (e : Rd H a (.dT kvs)) : kvs.length ≤ sizeLine ∧ (a == sysModules) = false ∧
 ∃ xs,KT H kvs xs ∧ h.DictOfH (tupleKind (Cg P w)) a xs := by
 obtain ⟨z,y,xs,r,o,es,ep,h1,h2,h3,h4,h5⟩ := (show Cq P w H h a (.dT kvs) from rd_of ok e)
 refine ⟨z,y,xs,r,o,es,ep,h1,h2,h3,h4,fun x hx => ?_,h5⟩
 have all : ∀ {l : List (List Key × V)} {m : List (List Key × Addr × Value)},KT H l m → ∀ x ∈ m,(tupleKind (Cg P w)).is h x.1 x.2.1 := by
  intro l m q
  induction q with
  | nil => intro x hx; exact nomatch hx
  | @cons p q ps qs hq t ih =>
    intro x hx
    rcases List.mem_cons.mp hx with e | hx
    ·subst e
     exact key_of ok (by rw [← hq.1]; exact hq.2.1)
    ·exact ih x hx
 exact all r x hx
theorem dt_of {kvs : List (List Key × V)} (ok : HOk P w H h) (e : H a = some (.dT kvs)) : kvs.length ≤ sizeLine ∧ (a == sysModules) = false ∧
 ∃ xs,KT H kvs xs ∧ h.DictOfH (tupleKind (Cg P w)) a xs := dt_rd ok (.inl e)
end
def DGet (H : Hp) (a : Addr) (y : V) (r : Option V) : Prop :=
 (∃ kvs k,Rd H a (.dK kvs) ∧ y = kV k ∧ r = valV kvs k) ∨ ∃ kvs k b,Rd H a (.dT kvs) ∧ y = .ref b ∧ H b = some (.tup (k.map kV)) ∧ r = valV kvs k
def DPut (H : Hp) (a : Addr) (y v : V) (H' : Hp) : Prop :=
 (∃ kvs k,H a = some (.dK kvs) ∧ y = kV k ∧ kvs.length < sizeLine ∧ H' = upd H a (.dK (putK kvs k v))) ∨
 ∃ kvs k b,H a = some (.dT kvs) ∧ y = .ref b ∧ H b = some (.tup (k.map kV)) ∧ kvs.length < sizeLine ∧ H' = upd H a (.dT (putK kvs k v))
theorem DGet.t {H : Hp} {a b : Addr} {kvs : List (List Key × V)} {k : List Key} (e : H a = some (.dT kvs)) (eb : H b = some (.tup (k.map kV))) : DGet H a (.ref b) (valV kvs k) := .inr ⟨kvs,k,b,.inl e,rfl,eb,rfl⟩
theorem DPut.t {H : Hp} {a b : Addr} {kvs : List (List Key × V)} {k : List Key} {v : V} (e : H a = some (.dT kvs)) (eb : H b = some (.tup (k.map kV))) (hl : kvs.length < sizeLine) :
 DPut H a (.ref b) v (upd H a (.dT (putK kvs k v))) := .inr ⟨kvs,k,b,e,rfl,eb,hl,rfl⟩
section
variable {X : Cx} {pins : List (Addr × Obj)} {σ : St} {H : Hp} {s : Shared} {a : Addr} {y v : V} {u r : Value} {o : Option V} {A : Around} {E : Value → Shared → Prop}
theorem Inv.big (I : Inv X pins σ H s) : sysModules < s.heap.objs.size := by
 have h : mainGlobals < s.heap.objs.size := (I.mod.glob.keeps I.bk).lt
 exact Nat.lt_trans (by decide) h
theorem d_getItem {Q : Value → Shared → Prop} (hu : A.units + 1 < cLine) (I : Inv X pins σ H s) (g : DGet H a y (some v)) (ry : RelV y u) (h : ∀ w' s',Inv X pins σ H s' → RelV v w' → Q w' s') :
 wpAny (model X.prog X.w) A (getItem (.ref a) u) Q E s := by
 rcases g with ⟨kvs,k,e,ey,l⟩ | ⟨kvs,k,b,e,ey,eb,l⟩
 ·subst ey
  obtain ⟨z,hd,vs,rel,dd⟩ := dk_rd I.hok e
  obtain ⟨w',hw,rw'⟩ := RelO.some_of (v := v) (o := valueAt vs k) (by rw [l]; exact rel.val k)
  exact wpAny_getItem_of (kV_is ry) dd.mapOf hw (h w' _ (I.tok _) rw')
 ·subst ey
  cases (show u = Value.ref b from ry)
  obtain ⟨z,hd,xs,rel,dd⟩ := dt_rd I.hok e
  obtain ⟨w',hw,rw'⟩ := RelO.some_of (v := v) (o := (atKey xs k).map (·.2)) (by rw [l]; exact rel.val k)
  obtain ⟨p,hp,hp2⟩ := Option.map_eq_some_iff.mp hw
  refine wpAny_getItem_heap (tupleKind_room_in1 hu) (key_of I.hok eb) dd hp ?_
  rw [hp2]
  exact h w' _ (I.tok _) rw'
theorem d_in {Q : Value → Shared → Prop} (hu : A.units + 1 < cLine) (I : Inv X pins σ H s) (g : DGet H a y o) (ry : RelV y u) (h : ∀ s',Inv X pins σ H s' → Q (.bool o.isSome) s') :
 wpAny (model X.prog X.w) A (compareOp .In u (.ref a)) Q E s := by
 rcases g with ⟨kvs,k,e,ey,l⟩ | ⟨kvs,k,b,e,ey,eb,l⟩
 ·subst ey
  obtain ⟨z,hd,vs,rel,dd⟩ := dk_rd I.hok e
  refine wpAny_in_of (kV_is ry) hd dd.mapOf ?_
  rw [← (rel.val k).isSome_eq,← l]
  exact h _ (I.tok _)
 ·subst ey
  cases (show u = Value.ref b from ry)
  obtain ⟨z,hd,xs,rel,dd⟩ := dt_rd I.hok e
  refine wpAny_in_heap (tupleKind_room_in1 hu) (key_of I.hok eb) hd dd ?_
  have q := (rel.val k).isSome_eq
  rw [Option.isSome_map] at q
  rw [← q,← l]
  exact h _ (I.tok _)
theorem d_notIn {Q : Value → Shared → Prop} (hu : A.units + 1 < cLine) (I : Inv X pins σ H s) (g : DGet H a y o) (ry : RelV y u) (h : ∀ s',Inv X pins σ H s' → Q (.bool (!o.isSome)) s') :
 wpAny (model X.prog X.w) A (compareOp .NotIn u (.ref a)) Q E s := by
 rcases g with ⟨kvs,k,e,ey,l⟩ | ⟨kvs,k,b,e,ey,eb,l⟩
 ·subst ey
  obtain ⟨z,hd,vs,rel,dd⟩ := dk_rd I.hok e
  refine wpAny_notIn_of (kV_is ry) hd dd.mapOf ?_
  rw [← (rel.val k).isSome_eq,← l]
  exact h _ (I.tok _)
 ·subst ey
  cases (show u = Value.ref b from ry)
  obtain ⟨z,hd,xs,rel,dd⟩ := dt_rd I.hok e
  refine wpAny_notIn_heap (tupleKind_room_in1 hu) (key_of I.hok eb) hd dd ?_
  have q := (rel.val k).isSome_eq
  rw [Option.isSome_map] at q
  rw [← q,← l]
  exact h _ (I.tok _)
theorem d_write {h' : Heap} {t' : Nat} {ob : HO} (I : Inv X pins σ H s) (mu : Mut (H a)) (hs : Heap.SameBut a s.heap h') (he : ∃ q,h'.get? a = some q) (new : Cq X.prog X.w (upd H a ob) h' a ob) :
 Inv X pins σ (upd H a ob) { s with heap := h',toks := t' } :=
 I.write (x := a) (e := a) mu (.inl rfl) (fun b q hb z => (hs.2 b hb).trans z) he new
theorem dk_new {P : Program} {w : World} {H' : Hp} {h' : Heap} {kvs : List (Key × V)} {vs : List (Key × Value)} (z : kvs.length ≤ sizeLine) (hd : (a == sysModules) = false) (rel : KV kvs vs) (dd : h'.DictOf (Cg P w) a vs) :
 Cq P w H' h' a (.dK kvs) := ⟨z,hd,vs,rel,dd⟩
theorem d_setItem {H' : Hp} {Q : Unit → Shared → Prop} (hu : A.units + 1 < cLine) (I : Inv X pins σ H s) (g : DPut H a y v H') (ry : RelV y u) (rv : RelV v r) (h : ∀ s',Inv X pins σ H' s' → Q () s') :
 wpAny (model X.prog X.w) A (setItem (.ref a) u r) Q E s := by
 rcases g with ⟨kvs,k,e,ey,l,eH⟩ | ⟨kvs,k,b,e,ey,eb,l,eH⟩
 ·subst ey eH
  obtain ⟨z,hd,vs,rel,dd⟩ := dk_of I.hok e
  have hz : vs.length ≤ sizeLine := by rw [← rel.length]; exact z
  have hl : (putK kvs k v).length ≤ sizeLine := by have := length_putK kvs k v; omega
  refine wpAny_setItem_pairs (hsz := hz) (kV_is ry) dd fun h' dd' hs => h _ ?_
  have he : ∃ q,h'.get? a = some q := let ⟨q,_,_,hq,_⟩ := dd'; ⟨q,hq⟩
  exact d_write I (by rw [e]; exact True.intro) hs he (dk_new hl hd (rel.put k rv) dd')
 ·subst ey eH
  cases (show u = Value.ref b from ry)
  obtain ⟨z,hd,xs,rel,dd⟩ := dt_of I.hok e
  have hz : xs.length ≤ sizeLine := by rw [← Paired.length rel]; exact z
  have hl : (putK kvs k v).length ≤ sizeLine := by have := length_putK kvs k v; omega
  refine wpAny_setItem_heap (hsz := hz) (tupleKind_room_in1 hu) (key_of I.hok eb) dd fun h' dd' hs => h _ ?_
  obtain ⟨q,es,ep,hq,h2,h3,h4,_,h5⟩ := dd'
  refine d_write I (by rw [e]; exact True.intro) hs ⟨q,hq⟩ ⟨hl,hd,_,(rel.put k eb rv).keeps fun c ys ec => ?_,q,es,ep,hq,h2,h3,h4,h5⟩
  rw [upd_ne (ne_of ec e (fun z => nomatch z))]
  exact ec
end
section
variable {X : Cx} {pins : List (Addr × Obj)} {σ : St} {H : Hp} {s : Shared} {a : Addr} {kvs : List (Key × V)} {k : Key} {u : Value} {A : Around} {E : Value → Shared → Prop}
end
def NoSl (i : Expr) : Prop := ∀ ov iv,subscripted i false ov iv = operate [ov,iv] (getItem ov iv)
theorem subD_of {prog : Program} {w : World} {A : Around} {E : Value → Shared → Prop} {s : Shared} {env : Env} {value slice : Expr} {pos : Pos} {T id : String} {Q : Value → Shared → Prop}
 (hl : typeLookup (.type T) "__getitem__" = pure (some (.builtin id))) (hs : NoSl slice)
 (h : wpAny (model prog w) A (eval value env) (fun o s₁ => wpAny (model prog w) A (eval slice env) (fun i s₂ => s₂.TypeIs o T ∧ wpAny (model prog w) A (getItem o i) Q E s₂) E s₁) E s) :
 wpAny (model prog w) A (eval (.Subscript value slice pos) env) Q E s := by
 refine Subscript_ (wpAny_mono h (fun o s₁ h₁ => wpAny_mono h₁ (fun i s₂ h₂ => ?_) fun _ _ x => x) fun _ _ x => x)
 obtain ⟨hT,h₂⟩ := h₂
 unfold subscriptTail
 refine wpAny_bind ?_
 rw [getitemInPython_of_ne hT.not_modules]
 refine wpAny_bind (wpAny_specialOf hT hl ?_)
 have fin : wpAny (model prog w) A (subscripted slice false o i) (fun r s₃ => wpAny (model prog w) A (letTemporaryGo value o r >>= fun _ => pure r) Q E s₃) E s₂ := by
  rw [hs o i]
  exact wpAny_operating (wpAny_mono h₂ (fun r s₃ h₃ => wpAny_bind (wpAny_letTemporaryGo (wpAny_pure h₃))) fun _ _ x => x)
 first
  | exact wpAny_pure (wpAny_bind fin)
  | exact wpAny_bind (wpAny_pure (wpAny_bind fin))
  | exact wpAny_bind fin
theorem dict_typeIs {X : Cx} {pins : List (Addr × Obj)} {σ : St} {H : Hp} {s : Shared} {a : Addr} {y : V} {o : Option V} (I : Inv X pins σ H s) (g : DGet H a y o) : s.TypeIs (.ref a) "dict" := by
 rcases g with ⟨kvs,k,e,_,_⟩ | ⟨kvs,k,b,e,_,_,_⟩
 ·obtain ⟨_,_,vs,_,dd⟩ := dk_rd I.hok e
  exact dd.typeIs
 ·obtain ⟨_,_,xs,_,dd⟩ := dt_rd I.hok e
  exact dd.typeIs
def tDGet (td ty : TE) : TE := fun σ H Q => td σ H fun x H1 => ty σ H1 fun y H2 => ∃ a v,x = .ref a ∧ DGet H2 a y (some v) ∧ Q v H2
def tDIn (ty td : TE) : TE := fun σ H Q => ty σ H fun y H1 => td σ H1 fun x H2 => ∃ a o,x = .ref a ∧ DGet H2 a y o ∧ Q (.bl o.isSome) H2
def tDNotIn (ty td : TE) : TE := fun σ H Q => ty σ H fun y H1 => td σ H1 fun x H2 => ∃ a o,x = .ref a ∧ DGet H2 a y o ∧ Q (.bl (!o.isSome)) H2
def sDPut (td ty tv : TE) : TS := fun D σ H => tv σ H fun v H1 => td σ H1 fun x H2 => ty σ H2 fun y H3 => ∃ a H4,x = .ref a ∧ DPut H3 a y v H4 ∧ D.nx σ H4
section
variable {X : Cx} {o i e value : Expr} {pos pos' tpos : Pos} {td ty tv : TE}
theorem pe_dget (hu : X.A.units + 1 < cLine) (ho : PE X o td) (hi : PE X i ty) (hs : NoSl i) : PE X (.Subscript o i pos) (tDGet td ty) := by
 intro pins s σ H Q I h
 refine subD_of PySem.F.slot_dict_getitem.lookup hs (thn (ho pins s σ H _ I h) fun u s1 ⟨x,H1,I1,rx,q1⟩ => thn (hi pins s1 σ H1 _ I1 q1) fun iv s2 ⟨y,H2,I2,ry,a,v,ex,g,q2⟩ => ?_)
 subst ex
 obtain rfl : u = Value.ref a := rx
 exact ⟨dict_typeIs I2 g,d_getItem hu I2 g ry fun w' s3 I3 rw' => ⟨v,H2,I3,rw',q2⟩⟩
theorem pc_din (hu : X.A.units + 1 < cLine) (hi : PE X i ty) (ho : PE X o td) : PC X .In i o (tDIn ty td) := by
 intro pins s σ H Q I h
 refine thn (hi pins s σ H _ I h) fun iv s1 ⟨y,H1,I1,ry,q1⟩ => thn (ho pins s1 σ H1 _ I1 q1) fun u s2 ⟨x,H2,I2,rx,a,ov,ex,g,q2⟩ => ?_
 subst ex
 obtain rfl : u = Value.ref a := rx
 exact d_in hu I2 g ry fun s3 I3 => ⟨.bl ov.isSome,H2,I3,rfl,q2⟩
theorem pc_dnotin (hu : X.A.units + 1 < cLine) (hi : PE X i ty) (ho : PE X o td) : PC X .NotIn i o (tDNotIn ty td) := by
 intro pins s σ H Q I h
 refine thn (hi pins s σ H _ I h) fun iv s1 ⟨y,H1,I1,ry,q1⟩ => thn (ho pins s1 σ H1 _ I1 q1) fun u s2 ⟨x,H2,I2,rx,a,ov,ex,g,q2⟩ => ?_
 subst ex
 obtain rfl : u = Value.ref a := rx
 exact d_notIn hu I2 g ry fun s3 I3 => ⟨.bl (!ov.isSome),H2,I3,rfl,q2⟩
theorem ps_dput (hu : X.A.units + 1 < cLine) (ho : PE X o td) (hi : PE X i ty) (hv : PE X value tv) (hs : swapsWith value (some (.Subscript o i pos')) pos.line X.env = pure false) :
 PS X (.Assign [.Subscript o i pos'] value pos) (sDPut td ty tv) := by
 intro pins s σ H D I h
 refine wpAny_Assign_Subscript (thn (hv pins s σ H _ I h) fun r s1 ⟨v,H1,I1,rv,q1⟩ => thn (ho pins s1 σ H1 _ I1 q1) fun u s2 ⟨x,H2,I2,rx,q2⟩ => thn (hi pins s2 σ H2 _ I2 q2) fun iv s3 ⟨y,H3,I3,ry,a,H4,ex,g,q3⟩ => ?_) hs
 subst ex
 obtain rfl : u = Value.ref a := rx
 exact d_setItem hu I3 g ry rv fun s4 I4 => ⟨σ,H4,I4,q3⟩
end
theorem dt_empty {P : Program} {w : World} {H : Hp} (h : Heap) (hb : sysModules < h.objs.size) : Cq P w H (h.push { cls := .type "dict",data := .dict #[] }) h.objs.size (.dT []) :=
 ⟨Nat.zero_le _,beq_eq_false_iff_ne.mpr (Ne.symm (Nat.ne_of_lt hb)),[],.nil,_,#[],0,Heap.get?_push_size _ rfl,⟨rfl,rfl,rfl⟩,rfl,rfl,List.nodup_nil⟩
def tDNewT : TE := fun _ H Q => ∀ p,H p = none → Q (.ref p) (upd H p (.dT []))
section
variable {X : Cx} {pos : Pos}
theorem pe_dnewT : PE X (.Dict [] [] pos) tDNewT := fun pins s σ H Q I h =>
 wpAny_Dict_empty ⟨.ref s.heap.objs.size,_,I.laid (a := s.heap.objs.size) (o := .dT []) (t' := s.toks) (fun _ _ q => Heap.get?_push_of_some _ q) (Nat.le_refl _) (dt_empty s.heap I.big),rfl,h _ (I.hok.fresh (Nat.le_refl _))⟩
end
section
variable {X : Cx} {pins : List (Addr × Obj)} {σ : St} {H : Hp} {s : Shared} {a : Addr} {y d : V} {u r : Value} {o : Option V} {A : Around} {E : Value → Shared → Prop}
end
section
variable {X : Cx} {o e f : Expr} {apos cpos : Pos} {td ty tx : TE}
end
section
variable {X : Cx} {pins : List (Addr × Obj)} {σ : St} {H : Hp} {s : Shared} {a : Addr} {kvs : List (Key × V)} {A : Around} {E : Value → Shared → Prop}
end
section
variable {X : Cx} {pins : List (Addr × Obj)} {σ : St} {H : Hp} {s : Shared} {a : Addr} {y : V} {u : Value} {A : Around} {E : Value → Shared → Prop}
end
section
variable {X : Cx}
end
section
variable {κ : Type} [DecidableEq κ]
end
open PySem PySem.Spec PyProof.Rows PySem.SeqAt
mutual
inductive RdD (K : PySem.W.Frag) (H : Hp) : V → PyData → Prop
 | non : RdD K H .non .none
 | bl (b : Bool) : RdD K H (.bl b) (.bool b)
 | int (i : Int) : RdD K H (.int i) (.int i)
 | str (x : Str) : RdD K H (.str x) (.str x)
 | lst {a : Addr} {xs : List V} {ds : List PyData} : SqL K H a xs → RdDs K H xs ds → RdD K H (.ref a) (.list ds)
 | tup {a : Addr} {xs : List V} {ds : List PyData} : SqT K H a xs → RdDs K H xs ds → RdD K H (.ref a) (.tuple ds)
inductive RdDs (K : PySem.W.Frag) (H : Hp) : List V → List PyData → Prop
 | nil : RdDs K H [] []
 | cons {x : V} {d : PyData} {xs : List V} {ds : List PyData} : RdD K H x d → RdDs K H xs ds → RdDs K H (x :: xs) (d :: ds)
end
section
variable {X : Cx} {pins : List (Addr × Obj)} {σ : St} {H : Hp} {s : Shared}
mutual
theorem RdD.reads (I : Inv X pins σ H s) : ∀ {x : V} {d : PyData} {u : Value},RdD X.K H x d → RelV x u → ∃ as,Reads s.heap u d as
 | _,_,_,.non,r => by cases r; exact ⟨_,.none⟩
 | _,_,_,.bl b,r => by cases r; exact ⟨_,.bool b⟩
 | _,_,_,.int i,r => by obtain ⟨t,rfl⟩ := r; exact ⟨_,.int i t⟩
 | _,_,_,.str x,r => by obtain ⟨t,rfl⟩ := r; exact ⟨_,.str x t⟩
 | _,_,_,.lst hq hs,r => by
   cases r
   obtain ⟨its,rv,pl,hz⟩ := I.list hq
   obtain ⟨as,ra⟩ := RdDs.reads I hs rv
   obtain ⟨o,n,e,hc,hd,dd⟩ := pl
   exact ⟨_,.list e hc dd (by simpa using ra)⟩
 | _,_,_,.tup hq hs,r => by
   cases r
   obtain ⟨its,rv,pl,hz⟩ := I.tuple hq
   obtain ⟨as,ra⟩ := RdDs.reads I hs rv
   obtain ⟨o,e,hc,n,dd⟩ := pl
   exact ⟨_,.tuple e hc dd (by simpa using ra)⟩
theorem RdDs.reads (I : Inv X pins σ H s) : ∀ {xs : List V} {ds : List PyData} {us : List Value},RdDs X.K H xs ds → Vals xs us → ∃ as,ReadsAll s.heap us ds as
 | _,_,_,.nil,.nil => ⟨_,.nil⟩
 | _,_,_,.cons h hs,.cons r rs => by
   obtain ⟨as,ra⟩ := RdD.reads I h r
   obtain ⟨bs,rb⟩ := RdDs.reads I hs rs
   exact ⟨_,.cons ra rb⟩
end
end
section
variable {X : Cx}
def rEqD (K : PySem.W.Frag) (neg : Bool) : R2 := fun x y H Q => ∃ dx dy,RdD K H x dx ∧ RdD K H y dy ∧ shaped dx = true ∧ shaped dy = true ∧ Q (.bl (if neg then !PyData.eqv dx dy else PyData.eqv dx dy)) H
theorem op_eqD (hu : X.A.units + 64 < cLine) : OpR X (compareOp .Eq) (rEqD X.K false) := by
 intro pins s σ H x y v u Q I rx ry h
 obtain ⟨dx,dy,hx,hy,sx,sy,q⟩ := h
 obtain ⟨as,ra⟩ := hx.reads I rx
 obtain ⟨bs,rb⟩ := hy.reads I ry
 exact eq_dataH ra rb sx sy hu (Bc I q rfl)
theorem op_neD (hu : X.A.units + 64 < cLine) : OpR X (compareOp .NotEq) (rEqD X.K true) := by
 intro pins s σ H x y v u Q I rx ry h
 obtain ⟨dx,dy,hx,hy,sx,sy,q⟩ := h
 obtain ⟨as,ra⟩ := hx.reads I rx
 obtain ⟨bs,rb⟩ := hy.reads I ry
 exact ne_dataH ra rb sx sy hu (Bc I q rfl)
end
section
variable {X : Cx}
end
structure FnAt (P : Program) (w : World) (K : PySem.W.Frag) (mg : Str → Option Value) (base : Heap) (x : Str) (k : Nat) (ps : List Str) (sp : Sp) : Prop where
 ex : ∃ (f : Addr) (fd : FuncData),FnOk P w K mg base CX0 k f fd ps sp ∧ mg x = some (.ref f) ∧ PySem.W.keepIn K (.ref f) = true ∧ Binds K fd ps []
theorem Ao {X : Cx} {x : Str} {ps : List Str} {sp : Sp} {k j : Nat} {p pos : Pos} {e : Expr} {es : List Expr} {t : TA} (F : FnAt X.prog X.w X.K X.mg X.base x k ps sp) (hr : Room j X.A) (hj : k ≤ j) (hg : Gl X x) (ha : PA X (e :: es) t)
 (hdb : (x == ("__debug__" : Str)) = false := by decide) (he : starEach (e :: es) X.env = (false,eval e X.env) :: starEach es X.env := by rfl) (hpl : (backTo pos (starEach es X.env)).any (·.1) = false := by rfl) :
 PE X (.Call (.Name x p) (e :: es) [] pos) (tCall sp [] E0 t) := by
 obtain ⟨f,fd,G,hm,hk,hb⟩ := F.ex
 exact pe_call G (hr.mono hj) hg hm hk hb .nil En ha hdb he hpl
structure Ai (K : PySem.W.Frag) (mg : Str → Option Value) (x : Str) (st : Stmt) (ps : List Str) : Prop where
 ex : ∃ (f : Addr) (fd : FuncData),Fun K x x st f fd ∧ mg x = some (.ref f) ∧ ∀ us : List Value,us.length = ps.length → bindArgs fd ⟨us,[]⟩ = pure (ps.zip us)
theorem topFn_mk {K : PySem.W.Frag} {mg : Str → Option Value} {h : Heap} {x : Str} {st : Stmt} {ps : List Str} {f : Addr} {oc : Value} {od an : Option Addr} {osl : Array (Option Value)} {kV doc pm cdv ct : Value} (X : K.In h) (G : h.Ns mainGlobals mg)
 (hb : ∀ (kV doc pm : Value) (an : Option Addr) (cdv ct : Value) (us : List Value),us.length = ps.length → bindArgs (PySem.W.fnOf x x (C8 st) (B3 st) (Ag st) .none kV doc pm an cdv ct) ⟨us,[]⟩ = pure (ps.zip us))
 (a : PySem.W.nsIn K mainGlobals x = some (some (.ref f))) (l : K.lookup f = some ⟨oc,od,.func (PySem.W.fnOf x x (C8 st) (B3 st) (Ag st) .none kV doc pm an cdv ct),osl⟩)
 (c : PySem.W.codeIn K cdv x = true) (k : PySem.W.keepIn K (.ref f) = true) : Ai K mg x st ps :=
 ⟨f,_,fun_mk l c k,PySem.W.mg_of X G a,fun us => hb kV doc pm an cdv ct us⟩
theorem Am {K : PySem.W.Frag} {mg : Str → Option Value} {h : Heap} {x : Str} {st : Stmt} {ps : List Str} {f : Addr} {oc : Value} {od an : Option Addr} {osl : Array (Option Value)} {kV doc pm cdv ct : Value} (X : K.In h) (G : h.Ns mainGlobals mg)
 (hb : ∀ (kV doc pm : Value) (an : Option Addr) (cdv ct : Value) (us : List Value),us.length = ps.length → bindArgs (PySem.W.fnOf x x (C8 st) (B3 st) (Ag st) .none kV doc pm an cdv ct) ⟨us,[]⟩ = pure (ps.zip us))
 (a : PySem.W.nsIn K mainGlobals x = some (some (.ref f))) (l : K.lookup f = some ⟨oc,od,.func (PySem.W.fnOf x x (C8 st) (B3 st) (Ag st) .none kV doc pm an cdv ct),osl⟩)
 (c : PySem.W.codeIn K cdv x = true) (k : PySem.W.keepIn K (.ref f) = true) : Ai (KOf X) mg x st ps := topFn_mk X G hb a l c k
section
variable {P : Program} {w : World} {K : PySem.W.Frag} {mg : Str → Option Value} {base : Heap}
theorem Ai.at {x : Str} {st : Stmt} {N ps : List Str} {k : Nat} {sp : Sp} (T : Ai K mg x st ps) (S : Ak N ps (Ag st)) (len : ∀ vs H Q E,sp vs H Q E → vs.length = ps.length)
 (hbody : ∀ (f : Addr) (cdv : Value) (A : Around) (outer : List Env) (s : Shared) (H : Hp) (vs : List V) (Q : VK) (E : XK),Room k (A.deeper (envOfC x (Ag st) s.heap.objs.size f cdv)) → sp vs H Q E →
   ∃ t,PSs (cxOf CX0 P w K mg base N x (Ag st) f cdv A outer s H E).nox (B3 st) t ∧ t { nx := fun _ H' => Q .non H',rt := Q } (start N vs) H) : FnAt P w K mg base x (k + 1) ps sp := by
 obtain ⟨f,fd,F,hm,hb⟩ := T.ex
 exact ⟨f,fd,F.ok S len fun cdv A outer s H vs Q E hr h => hbody f cdv A outer s H vs Q E hr h,hm,F.kp,.all hb⟩
end
def Box (H : Hp) (b : Addr) : Prop := ∃ x y z : Int,H b = some (.lst [.int x,.int y,.int z])
structure Oth (b : Addr) (H H' : Hp) : Prop where
 box : Box H' b
 oth : ∀ c o,H c = some o → c ≠ b → H' c = some o
theorem Oth.refl {b : Addr} {H : Hp} (h : Box H b) : Oth b H H := ⟨h,fun _ _ h _ => h⟩
theorem Oth.trans {b : Addr} {H H1 H2 : Hp} (a : Oth b H H1) (c : Oth b H1 H2) : Oth b H H2 := ⟨c.box,fun d o h n => c.oth d o (a.oth d o h n) n⟩
theorem Oth.free {b c : Addr} {H H' : Hp} (a : Oth b H H') (h : H' c = none) : H c = none := by
 cases e : H c with
 | none => rfl
 | some o =>
   by_cases hb : c = b
   ·subst hb
    obtain ⟨x,y,z,q⟩ := a.box
    rw [q] at h; cases h
   ·rw [a.oth c o e hb] at h; cases h
theorem Box.ne {H : Hp} {b c : Addr} (h : Box H b) (n : H c = none) : c ≠ b := fun e => by
 subst e
 obtain ⟨x,y,z,q⟩ := h
 rw [q] at n; cases n
theorem Oth.new {b p : Addr} {H H1 : Hp} {o : HO} (a : Oth b H H1) (h : H1 p = none) : Oth b H (upd H1 p o) := by
 have hb := a.box.ne h
 refine ⟨?_,fun c u e n => ?_⟩
 ·obtain ⟨x,y,z,q⟩ := a.box
  exact ⟨x,y,z,by rw [upd_ne (Ne.symm hb)]; exact q⟩
 ·rw [upd_ne (Ah (a.oth c u e n) h)]
  exact a.oth c u e n
theorem Oth.same {b : Addr} {H H1 H2 : Hp} (a : Oth b H H1) (s : Same H1 H2) : Oth b H H2 := by
 refine ⟨?_,fun c o e n => s c o (a.oth c o e n)⟩
 obtain ⟨x,y,z,q⟩ := a.box
 exact ⟨x,y,z,s _ _ q⟩
theorem Same.new {H : Hp} {p : Addr} {o : HO} (h : H p = none) : Same H (upd H p o) := fun b u e => by
 rw [upd_ne (Ah e h)]
 exact e
def bigLine : Int := 10000000000000000000000000000000000000000
def spCell (K : PySem.W.Frag) : Sp := fun vs H Q _ => ∃ (a : Addr) (ns : List Int) (k : Nat),vs = [.ref a,.int k] ∧ SqL K H a (ns.map V.int) ∧ ∀ c : Int,Q (.int c) H
def spMixed : Sp := fun vs H Q _ => ∃ a k : Int,vs = [.int a,.int k] ∧ ∀ r : Int,Q (.int r) H
def spBox : Sp := fun vs H Q _ => ∃ c : Int,vs = [.int c] ∧ ∀ (b : Addr) (x y z : Int),H b = none → Q (.ref b) (upd H b (.lst [.int x,.int y,.int z]))
def spTake : Sp := fun vs H Q _ => ∃ (b : Addr) (n : Int),vs = [.ref b,.int n] ∧ Box H b ∧ 0 < n ∧ n < bigLine ∧ ∀ (r : Int) (H' : Hp),0 ≤ r → r < n → Oth b H H' → Q (.int r) H'
section
variable {X : Cx} {x : Str} {pos : Pos}
theorem pe_globS {z : Str} (hg : Gl X x) (h : ∃ t,X.mg x = some (.str z t)) (hd : (x == ("__debug__" : Str)) = false := by decide) : PE X (.Name x pos) (tC (.str z)) := by
 obtain ⟨t,e⟩ := h
 exact pe_glob hg e ⟨t,rfl⟩ hd
theorem Bi {i : Int} (hg : Gl X x) (h : ∃ t,X.mg x = some (.int i t)) (hd : (x == ("__debug__" : Str)) = false := by decide) : PE X (.Name x pos) (tC (.int i)) := by
 obtain ⟨t,e⟩ := h
 exact pe_glob hg e ⟨t,rfl⟩ hd
end
def spLaw (K : PySem.W.Frag) : Sp := fun vs H Q _ => ∃ (a : Addr) (ns : List Int),vs = [.ref a] ∧ SqL K H a (ns.map V.int) ∧ ns.length ≤ 63 ∧ ∀ H',Q (.bl true) H'
theorem law_len {K : PySem.W.Frag} {x : Str} : ∀ vs H Q E,spLaw K vs H Q E → vs.length = [x].length := fun vs H Q E h => by
 obtain ⟨a,ns,rfl,_⟩ := h
 rfl
theorem law_mk {P : Program} {w : World} {K : PySem.W.Frag} {mg : Str → Option Value} {fa : Addr} {st : Stmt} {x : Str} {N : List Str} {k : Nat} (T : Ai K mg "law" st [x]) (hfa : mg "law" = some (.ref fa)) (S : Ak N [x] (Ag st))
 (body : ∀ (base : Heap),K.In base → base.Ns mainGlobals mg → ∀ (f : Addr) (cdv : Value) (A : Around) (outer : List Env) (s : Shared) (H : Hp) (vs : List V) (Q : VK) (E : XK),Room k (A.deeper (envOfC "law" (Ag st) s.heap.objs.size f cdv)) → spLaw K vs H Q E →
   ∃ t,PSs (cxOf CX0 P w K mg base N "law" (Ag st) f cdv A outer s H E).nox (B3 st) t ∧ t { nx := fun _ H' => Q .non H',rt := Q } (start N vs) H) :
 ∃ fd : FuncData,(∀ (s : Shared) (v : Value),BindsTo s fd ⟨[v],[]⟩ [(x,v)]) ∧ ∀ base : Heap,K.In base → base.Ns mainGlobals mg → FnOk P w K mg base CX0 (k + 1) fa fd [x] (spLaw K) := by
 obtain ⟨f,fd,F,hm,hb⟩ := T.ex
 rw [hfa] at hm
 cases hm
 exact ⟨fd,fun s v => .of_eq (hb [v] rfl),fun base h1 h2 => F.ok S law_len fun cdv A outer s H vs Q E hr h => body base h1 h2 fa cdv A outer s H vs Q E hr h⟩
theorem law_walk {l : PySem.W.OpenLaw} {q : Program} {loose : List Str} {XP : (Str → Option Value) → Heap → Prop} {YP : World → Heap → Prop} {d : DefRec} {K : Params → PySem.W.Frag} {x : Str} {k : Nat} (hn : l.most = some 63) (hdf : d.params.defaults = []) (hk : Room k callerA)
 (hY : ∀ (w : World) (h : Heap),YP w h → (K w.params).In h)
 (F : ∀ (w : World) (mg : Str → Option Value) (fa : Addr) (h : Heap),(K w.params).In h → h.Ns mainGlobals mg → mg d.name = some (.ref fa) →
   ∃ fd : FuncData,(∀ (s : Shared) (u : Value),BindsTo s fd ⟨[u],[]⟩ [(x,u)]) ∧ ∀ base : Heap,(K w.params).In base → base.Ns mainGlobals mg → FnOk l.prog w (K w.params) mg base CX0 k fa fd [x] (spLaw (K w.params))) :
 PySem.W.WalkO q loose XP YP l.row.toRowW d [] (fun f vs => PySem.call f vs) :=
 L2.walk_of (n := 63) (k := k) (x := x) (CX := fun _ => CX0) (sp := fun w => spLaw (K w.params)) hn (by decide) hdf hk hY F (fun _ _ a ns hl _ hS => ⟨a,ns,rfl,hS,hl,fun _ => rfl⟩) fun _ _ _ _ _ z => z
theorem glob_I {K : PySem.W.Frag} {h : Heap} {mg : Str → Option Value} {n : Str} {v : Value} {i : Int} (X : K.In h) (G : h.Ns mainGlobals mg) (e : PySem.W.nsIn K mainGlobals n = some (some v)) (hv : ∃ t,v = .int i t) : ∃ t,mg n = some (.int i t) := by
 obtain ⟨t,rfl⟩ := hv
 exact ⟨t,PySem.W.mg_of X G e⟩
theorem glob_S {K : PySem.W.Frag} {h : Heap} {mg : Str → Option Value} {n : Str} {x z : Str} {t : Tok} (X : K.In h) (G : h.Ns mainGlobals mg) (e : PySem.W.nsIn K mainGlobals n = some (some (.str x t))) (hv : x = z) : ∃ t,mg n = some (.str z t) := by
 subst hv
 exact ⟨t,PySem.W.mg_of X G e⟩
theorem atI_ex {α : Type} {xs : List α} {r : Int} (h0 : 0 ≤ r) (h1 : r < xs.length) : ∃ v,atI xs r = some v ∧ v ∈ xs := by
 obtain ⟨k,rfl⟩ : ∃ k : Nat,r = (k : Int) := ⟨r.toNat,by omega⟩
 have hk : k < xs.length := by omega
 exact ⟨xs[k],atI_nat (List.getElem?_eq_getElem hk),List.getElem_mem hk⟩
def D3 (c : Nat) : Bool := decide (97 ≤ c ∧ c ≤ 122)
theorem low_in (c : Nat) : (!(Builtin.Str.occurrences (Str.ofString "abcdefghijklmnopqrstuvwxyz") ⟨#[c]⟩ 0 (Str.ofString "abcdefghijklmnopqrstuvwxyz").length 1).isEmpty) = D3 c := by
 rw [PySem.StrLaws.found_one]
 have e : (Str.ofString "abcdefghijklmnopqrstuvwxyz").cps.toList = [97,98,99,100,101,102,103,104,105,106,107,108,109,110,111,112,113,114,115,116,117,118,119,120,121,122] := by decide +kernel
 rw [e,Bool.eq_iff_iff]
 have h1 : ∀ c ∈ ([97,98,99,100,101,102,103,104,105,106,107,108,109,110,111,112,113,114,115,116,117,118,119,120,121,122] : List Nat),D3 c = true := by decide +kernel
 have h2 : ∀ i : Fin 26,97 + i.val ∈ ([97,98,99,100,101,102,103,104,105,106,107,108,109,110,111,112,113,114,115,116,117,118,119,120,121,122] : List Nat) := by decide +kernel
 refine ⟨fun h => h1 c (of_decide_eq_true h),fun h => decide_eq_true ?_⟩
 unfold D3 at h
 have h := of_decide_eq_true h
 obtain ⟨d,rfl⟩ := Nat.exists_eq_add_of_le h.1
 exact h2 ⟨d,by omega⟩
def Ay (z : Str) : Bool := decide (1 ≤ z.length ∧ z.length ≤ 8) && z.cps.toList.all D3
def wholeV : V → Bool
 | .int _ => true
 | _ => false
def wordV : V → Bool
 | .str z => Ay z
 | _ => false
def dayV : V → Bool
 | .int i => decide (0 ≤ i ∧ i ≤ 9999)
 | _ => false
def maskV (m : Nat) : V → Bool
 | .int i => decide (0 ≤ i ∧ i < 2 ^ m)
 | _ => false
def numV : V → Bool
 | .int i => decide (0 ≤ i ∧ i ≤ 99)
 | _ => false
def keyV (H : Hp) : V → Bool
 | .ref a => match H a with
   | some (.tup [x,y]) => wordV x && numV y
   | _ => false
 | _ => false
theorem bits_le {i : Int} {m : Nat} (h : 0 ≤ i) : decide (((Builtin.Int.intBits i : Nat) : Int) ≤ (m : Int)) = decide (i < 2 ^ m) := by
 rw [Bool.eq_iff_iff]
 simp only [decide_eq_true_eq]
 obtain ⟨n,rfl⟩ : ∃ n : Nat,i = (n : Int) := ⟨i.toNat,by omega⟩
 have e : ((2 : Int) ^ m) = ((2 ^ m : Nat) : Int) := by simp
 rw [e]
 unfold Builtin.Int.intBits
 by_cases h0 : n = 0
 ·subst h0
  have hp : 0 < 2 ^ m := Nat.pow_pos (by decide)
  have hq : ((0 : Nat) : Int) < ((2 ^ m : Nat) : Int) := Int.ofNat_lt.mpr hp
  constructor
  ·intro _; exact hq
  ·intro _; simp
 ·have hb : (((n : Nat) : Int) == 0) = false := by simpa using h0
  rw [hb]
  simp only [Bool.false_eq_true,if_false,Int.natAbs_natCast]
  have hl := Nat.log2_lt (k := m) h0
  constructor
  ·intro hx
   have : n < 2 ^ m := hl.mp (by omega)
   exact Int.ofNat_lt.mpr this
  ·intro hx
   have : n.log2 < m := hl.mpr (Int.ofNat_lt.mp hx)
   omega
open PySem PySem.Spec PyProof.Rows PySem.W
open Builtin Builtin.ObjectAttr
section
variable {prog : Program} {w : World} {A : Around} {E : Value → Shared → Prop} {K : Frag} {C f : Addr} {R : Result → Shared → Prop} {h : Heap} {g : Array GenState} {d : Drawn} {t : Nat} {os : OsState}
end
section
variable {prog : Program} {w : World} {A : Around} {E : Value → Shared → Prop} {K : Frag} {C e : Addr} {R : Result → Shared → Prop} {h : Heap} {g : Array GenState} {d : Drawn} {t : Nat} {os : OsState}
end
section
variable {prog : Program} {w : World} {A : Around} {E : Value → Shared → Prop} {K : Frag} {C x : Addr} {R : Result → Shared → Prop} {s : Shared}
end
section
variable {prog : Program} {w : World} {A : Around} {E : Value → Shared → Prop} {K : Frag} {C x : Addr} {R : Result → Shared → Prop} {s : Shared} {name : Str}
end
section
variable {X : Cx} {pins : List (Addr × Obj)} {σ : St} {H : Hp} {s : Shared} {A : Around} {E : Value → Shared → Prop}
end
section
variable {X : Cx} {o e value : Expr} {f : Str} {pos pos' tpos : Pos} {ta tv : TE}
end
section
variable {X : Cx} {k : Nat} {f C : Addr} {fd : FuncData} {ps : List Str} {x n : Str} {p pos : Pos} {a : Expr} {t : TA}
end
section
variable {X : Cx}
theorem strsAre_of : ∀ {ys : List Str} {us : List Value},Vals (ys.map V.str) us → StrsAre us ys
 | [],_,.nil => .nil
 | y :: r,_,.cons h t => by
   obtain ⟨k,rfl⟩ := h
   exact .cons y k (strsAre_of t)
theorem D2 : MtR X "str.join" (fun x xs H Q => ∃ z a ys,x = .str z ∧ xs = [.ref a] ∧ SqL X.K H a (ys.map V.str) ∧ (ys.map (·.length)).sum + ys.length * z.length ≤ 16777216 ∧ Q (.str (Txt.join z ys)) H) := by
 intro pins s σ H x xs v us Q I rx rs h
 obtain ⟨z,a,ys,rfl,rfl,hq,hz,q⟩ := h
 obtain ⟨t,rfl⟩ := rx
 obtain ⟨u,rfl,ru⟩ := vals1 rs
 cases ru
 obtain ⟨its,rv,pl,_⟩ := I.list hq
 exact join_list pl.isList (by simpa using strsAre_of rv) hz fun t' k => ⟨.str _,H,I.tok _,⟨_,rfl⟩,q⟩
def Ite (K : PySem.W.Frag) (a : Addr) : It :=
 ⟨fun i H => ∃ xs x,SqL K H a xs ∧ xs[i]? = some x,fun i H v H' => ∃ p x,v = .ref p ∧ H p = none ∧ (∀ xs,SqL K H a xs → xs[i]? = some x) ∧ H' = upd H p (.tup [.int i,x]),fun i H => ∃ xs,SqL K H a xs ∧ xs.length ≤ i⟩
theorem turn_enum {P : Program} {w : World} {K : PySem.W.Frag} {es : List Expr} {x1} {tp : Pos} (a e it : Addr) (hne : e ≠ it) : Turn P w K (.Tuple es x1 tp) (Ite K a) [e,it] e (fun i h => (∃ old,IsEnum h e it i old) ∧ h.IsListIter it a i) where
 mem := by simp
 obj := fun i h st b hb => by
  obtain ⟨⟨old,st1⟩,st2⟩ := st
  rcases List.mem_cons.mp hb with z | z
  ·subst z
   exact ⟨_,st1,fun v z => by
    have z' : Data.fields _ = Data.cell v := z
    cases z'⟩
  ·have z : b = it := by simpa using z
   subst z
   obtain ⟨o,e,c,d⟩ := st2
   exact ⟨o,e,fun v z => by rw [d] at z; cases z⟩
 keep := fun i h h' st k => by
  obtain ⟨⟨old,st1⟩,st2⟩ := st
  exact ⟨⟨old,k e (by simp) _ st1⟩,st2.at fun o q => k it (by simp) o q⟩
 item := by
  intro X hP hw hK hc i pins s σ H E I hf st hg
  subst hP hw hK
  obtain ⟨xs,x,hq,hx⟩ := hg
  obtain ⟨⟨old,st1⟩,st2⟩ := st
  obtain ⟨its,rv,p,hz⟩ := I.list hq
  obtain ⟨u,hu,ru⟩ := rv.get hx
  obtain ⟨f0,f1,f2,f3,f4,f5⟩ := hf e (by simp)
  obtain ⟨g0,g1,g2,g3,g4,g5⟩ := hf it (by simp)
  have hfp : H s.heap.objs.size = none := I.hok.fresh (Nat.le_refl _)
  refine wpAny_pyNext_enum_item st1 st2 p.isList (x := u) (by simpa using hu) hne fun h' eo it' tp' sz kk => ⟨_,rfl,?_⟩
  refine wpAny_letOwnedTupleGo_enum (s := { s with heap := h',toks := s.toks + 1 }) eo fun h2 e2 sb => ?_
  have eP : e ≠ s.heap.objs.size := Nat.ne_of_lt (Heap.lt_size st1)
  have iP : it ≠ s.heap.objs.size := by obtain ⟨o,q,_⟩ := st2; exact Nat.ne_of_lt (Heap.lt_size q)
  have k2 : ∀ b o,b ≠ e → b ≠ it → s.heap.get? b = some o → h2.get? b = some o := fun b o h1 h3 q => (sb.2 b h1).trans (kk b o h1 h3 q)
  have tp2 : h2.get? s.heap.objs.size = some { cls := .type "tuple",data := .seq #[.int i s.toks,u] } := (sb.2 _ (Ne.symm eP)).trans tp'
  have it2 : h2.IsListIter it a (i + 1) := it'.at fun o q => (sb.2 _ (Ne.symm hne)).trans q
  have nin : ∀ b o,b ∉ [e,it] → s.heap.get? b = some o → h2.get? b = some o := fun b o hb q => k2 b o (fun z => hb (by simp [z])) (fun z => hb (by simp [z])) q
  refine ⟨.ref s.heap.objs.size,upd H s.heap.objs.size (.tup [.int i,x]),?_,rfl,⟨_,x,rfl,hfp,fun ys hy => by rw [I.list_inj hy hq]; exact hx,rfl⟩,⟨⟨_,e2⟩,it2⟩,fun b hb => ?_⟩
  ·show Inv X pins σ (upd H s.heap.objs.size (.tup [.int i,x])) { s with heap := h2,gens := s.gens,drawn := s.drawn,toks := s.toks + 1 }
   refine I.step (h' := h2) (t' := s.toks + 1) (g' := s.gens) (d' := s.drawn) (ch := [e,it]) (fun b hb => ?_) (fun b o _ _ hb q _ => nin b o hb q) (fun b o _ _ hb q _ => ⟨o.slots,nin b o hb q⟩) (fun b o hb q n => ?_) (fun b o hb q => ⟨o,nin b o hb q⟩)
    (fun b xs q => ?_) (fun b o' u' q => ?_) (fun b ps q => ?_) (fun m hm => ?_) (fun b o q => ?_) I.bare
   ·rcases List.mem_cons.mp hb with z | z
    ·subst z; exact ⟨f3,f1,f4,f5⟩
    ·have z : b = it := by simpa using z
     subst z; exact ⟨g3,g1,g4,g5⟩
   ·rw [upd_ne (Nat.ne_of_lt (Heap.lt_size q))]; exact n
   ·rw [upd_ne (Ah q hfp)]; exact q
   ·rw [upd_ne (Ah q hfp)]; exact q
   ·exact ⟨#[],by rw [upd_ne (Ah q hfp),q]; simp⟩
   ·obtain ⟨o,es',ep',ho,r⟩ := hm
    exact ⟨o,es',ep',nin _ o (by simp [Ne.symm f1,Ne.symm g1]) ho,r⟩
   ·by_cases hb : b = s.heap.objs.size
    ·subst hb
     rw [Ad] at q
     cases q
     refine ⟨by rw [sizeLine_eq]; simp,[.int i s.toks,u],.cons ⟨_,rfl⟩ (.cons ru .nil),?_⟩
     exact ⟨_,tp2,rfl,_,rfl⟩
    ·rw [upd_ne hb] at q
     refine (I.hok b o q).stay (fun c v hc r => nin c v (fun z => ?_) r) (fun c z => by rw [upd_ne (Ah z hfp)]; exact z) fun c xs z => by rw [upd_ne (Ah z hfp)]; exact z
     have hcn : H c ≠ none := by
      rcases hc with z2 | z2
      ·rw [z2,q]; simp
      ·rw [z2]; simp
     rcases List.mem_cons.mp z with z | z
     ·rw [z,f0] at hcn; exact hcn rfl
     ·have z : c = it := by simpa using z
      rw [z,g0] at hcn; exact hcn rfl
  ·rcases List.mem_cons.mp hb with z | z
   ·subst z; rw [upd_ne eP]; exact f0
   ·have z : b = it := by simpa using z
    subst z; rw [upd_ne iP]; exact g0
 done := by
  intro X hP hw hK hc i pins s σ H E I hf st hg
  subst hP hw hK
  obtain ⟨xs,hq,hx⟩ := hg
  obtain ⟨⟨old,st1⟩,st2⟩ := st
  obtain ⟨its,rv,p,hz⟩ := I.list hq
  obtain ⟨g0,g1,g2,g3,g4,g5⟩ := hf it (by simp)
  have hl := rv.length
  exact wpAny_pyNext_enum_end (I.ok.hd hc) st1 st2 p.isList (by simp; omega) fun h' eb => ⟨rfl,I.turned (t' := s.toks) (fun b o hb e => eb b o hb e) g0 g1 g3 g4 g5⟩
 self := fun A i s Q E st h => by
  obtain ⟨⟨old,st1⟩,st2⟩ := st
  exact wpAny_pyIter_enum st1 h
def iEnum (K : PySem.W.Frag) (t : TA) : TI := fun σ H R => t σ H fun vs H1 => ∃ a,vs = [.ref a] ∧ (∃ xs,SqL K H1 a xs) ∧ R (Ite K a) H1
theorem pi_enum {a : Expr} {ta : TA} {p pos : Pos} {es : List Expr} {x1} {tp : Pos} (hg : Gl X "enumerate") (hm : X.mg "enumerate" = none) (ha : PA X [a] ta) (hs : starEach [a] X.env = [(false,eval a X.env)] := by rfl) : PI X (.Tuple es x1 tp) (.Call (.Name "enumerate" p) [a] [] pos) (iEnum X.K ta) := by
 intro pins s σ H R I h
 refine Call_ (ld_blt I hg hm boot_enumerate (PyProof.Rows.callWith_type1 (thn (ha pos pins s σ H _ I h) fun us s1 ⟨vs,H1,I1,r1,q1⟩ => ?_) hs rfl))
 obtain ⟨l,e,⟨xs,hq⟩,q⟩ := q1
 subst e
 obtain ⟨u,rfl,ru⟩ := vals1 r1
 cases ru
 obtain ⟨its,rv,pl,hz⟩ := I1.list hq
 refine call_enumerate_list pl.isList fun h' he hi hsz hk => ?_
 refine wpAny_pyIter_enum (s := { s1 with heap := h' }) he ?_
 refine ⟨s1.heap.objs.size + 1,[s1.heap.objs.size + 1,s1.heap.objs.size],_,_,H1,rfl,I1.kept (t' := s1.toks) hk,turn_enum l _ _ (Nat.succ_ne_self _),⟨⟨_,he⟩,hi⟩,fun b hb => ?_,q⟩
 rcases List.mem_cons.mp hb with z | z
 ·subst z; exact I1.fpOk (Nat.le_succ _) (I1.hok.fresh (Nat.le_succ _))
 ·have z : b = s1.heap.objs.size := by simpa using z
  subst z; exact I1.fpOk (Nat.le_refl _) (I1.hok.fresh (Nat.le_refl _))
end
section
variable {X : Cx}
end
end L2
namespace L2
open PySem PySem.Spec PyProof.Rows
section
variable {M : Model} {A : Around} {E : Value → Shared → Prop} {s : Shared} {base : Heap} {env : Env} {outer : List Env} {L e : Addr} {oe : Obj} {vs : Array Value} {Q : Unit → Shared → Prop}
end
section
variable {X : Cx} {pins : List (Addr × Obj)} {σ : St} {H : Hp} {s : Shared}
end
section
variable {P : Program} {w : World} {K : PySem.W.Frag} {mg : Str → Option Value} {base : Heap} {N : List Str} {qual : Str} {scope : Scope} {f : Addr} {cdv : Value} {A : Around} {outer : List Env} {s₀ : Shared} {H₀ : Hp} {E : XK} {pins : List (Addr × Obj)} {σ : St} {H : Hp} {s : Shared}
end
section
variable {M : Model} {A : Around} {E : Value → Shared → Prop} {s : Shared} {env : Env}
end
section
variable {X : Cx} {E : XK} {e : Expr} {te : TE} {pos : Pos}
end
section
variable {P : Program} {w : World} {K : PySem.W.Frag} {mg : Str → Option Value} {base : Heap}
variable {N : List Str} {qual : Str} {scope : Scope} {f : Addr} {cdv : Value} {A : Around} {outer : List Env} {s₀ : Shared} {H₀ : Hp} {E E1 : XK}
end
section
variable {X : Cx} {pins : List (Addr × Obj)} {σ : St} {H : Hp} {s s' : Shared} {M : Model} {A : Around} {E : Value → Shared → Prop}
end
abbrev Cx.hdl (X : Cx) (a : Addr) : Cx := { X with A := X.A.mark (some (.ref a)),calm := false,xe := fun _ _ => False }
abbrev Cx.tr (X : Cx) (pn : List (Addr × Obj)) (E' : Value → Shared → Prop) : Cx := { X with pn := pn,xe := E' }
section
variable {X : Cx} {pins : List (Addr × Obj)} {σ : St} {H : Hp} {s : Shared} {a : Addr} {E' : Value → Shared → Prop}
end
section
variable {X : Cx}
end
section
variable {X : Cx}
end
section
variable {X : Cx}
theorem vals_strs : ∀ (l : List (Str × Tok)),Vals ((l.map (·.1)).map V.str) (strValues l)
 | [] => .nil
 | p :: r => .cons ⟨p.2,rfl⟩ (vals_strs r)
theorem mt_split : MtR X "str.split" (fun x xs H Q => ∃ z y,x = .str z ∧ xs = [.str y] ∧ (y.length == 0) = false ∧ z.length + 2 ≤ sizeLine ∧ ∀ p,H p = none → Q (.ref p) (upd H p (.lst ((Txt.split z y).map V.str)))) := by
 intro pins s σ H x xs v us Q I rx rs h
 obtain ⟨z,y,rfl,rfl,hy,hz,q⟩ := h
 obtain ⟨t,rfl⟩ := rx
 obtain ⟨u,rfl,ru⟩ := vals1 rs
 obtain ⟨t',rfl⟩ := ru
 have hn : H s.heap.objs.size = none := I.hok.fresh (Nat.le_refl _)
 have len : (Txt.split z y).length ≤ sizeLine := by
  unfold Txt.split
  have e1 := StrLaws.occ_length_le z y 0 z.length (z.length + 1)
  split
  ·show 1 ≤ sizeLine; omega
  ·split
   ·show 1 ≤ sizeLine; omega
   ·rw [length_partsBetween]; omega
 have lay : ∀ (l : List (Str × Tok)) (h' : Heap) (k : Nat),l.map (·.1) = Txt.split z y → (∀ b o,s.heap.get? b = some o → h'.get? b = some o) → h'.get? s.heap.objs.size = some { cls := .type "list",data := .seq (strValues l).toArray } →
  EP X pins σ Q (.ref s.heap.objs.size) { s with heap := h',toks := k } := fun l h' k e kk g => by
  refine ⟨.ref s.heap.objs.size,_,I.laid (t' := k) kk (Nat.le_refl _) ?_,rfl,q _ hn⟩
  refine ⟨by rw [List.length_map]; exact len,strValues l,0,?_,g⟩
  rw [← e]
  exact vals_strs l
 have new : ∀ (l : List (Str × Tok)) (k : Nat),l.map (·.1) = Txt.split z y → EP X pins σ Q (.ref s.heap.objs.size) { s with heap := s.heap.push { cls := .type "list",data := .seq (strValues l).toArray },toks := k } := fun l k e =>
  lay l _ k e (fun b o eb => Heap.get?_push_of_some _ eb) (Heap.get?_push_size s.heap rfl)
 have sp : Txt.split z y = if (decide (z.length < y.length) || decide (Builtin.Str.strKind z < Builtin.Str.strKind y)) = true then [z] else if (Builtin.Str.occurrences z y 0 z.length (z.length + 1)).isEmpty = true then [z] else Builtin.Str.partsBetween z (Builtin.Str.occurrences z y 0 z.length (z.length + 1)) y.length := rfl
 by_cases c1 : (decide (z.length < y.length) || decide (Builtin.Str.strKind z < Builtin.Str.strKind y)) = true
 ·refine call_meets PySem.F.slot_str_split (typeIs_str _ _ _) PySem.F.entry_str_split (PySem.F.args_str_split_2 _ _) (meets_str_split_cannot_occur z y t t' c1) ?_
  exact new [(z,t)] s.toks (by rw [sp,if_pos c1]; rfl)
 ·have c1' := Bool.eq_false_iff.mpr c1
  by_cases c2 : (Builtin.Str.occurrences z y 0 z.length (z.length + 1)).isEmpty = true
  ·refine call_meets PySem.F.slot_str_split (typeIs_str _ _ _) PySem.F.entry_str_split (PySem.F.args_str_split_2 _ _) (meets_str_split_not_found z y t t' c1' hy c2) ?_
   exact new [(z,t)] s.toks (by rw [sp,if_neg c1,if_pos c2]; rfl)
  ·have c2' := Bool.eq_false_iff.mpr c2
   have e3 : Txt.split z y = Builtin.Str.partsBetween z (Builtin.Str.occurrences z y 0 z.length (z.length + 1)) y.length := by rw [sp,if_neg c1,if_neg c2]
   rw [e3] at len
   refine call_meets PySem.F.slot_str_split (typeIs_str _ _ _) PySem.F.entry_str_split (PySem.F.args_str_split_2 _ _) (meets_str_split_sep z y t t' c1' hy c2' (by omega) len) ?_
   have z4 := new (numbered s.toks (Builtin.Str.partsBetween z (Builtin.Str.occurrences z y 0 z.length (z.length + 1)) y.length)) (s.toks + (Builtin.Str.partsBetween z (Builtin.Str.occurrences z y 0 z.length (z.length + 1)) y.length).length) ((numbered_texts _ _).trans e3.symm)
   rw [← strsFrom_eq] at z4
   exact z4
theorem op_neNil (hu : X.A.units < cLine) : OpR X (compareOp .NotEq) (fun x y H Q => ∃ a b xs,x = .ref a ∧ y = .ref b ∧ SqL X.K H a xs ∧ SqL X.K H b [] ∧ Q (.bl (!xs.isEmpty)) H) := by
 intro pins s σ H x y v u Q I rx ry h
 obtain ⟨a,b,xs,rfl,rfl,ha,hb,q⟩ := h
 cases rx
 cases ry
 obtain ⟨its,rv,pl,_⟩ := I.list ha
 obtain ⟨its',rv',pl',_⟩ := I.list hb
 have l1 := rv.length
 cases rv'
 cases xs with
 | nil =>
   cases rv
   exact SeqAt.RcNeAt.lists (e := fun _ => true) pl.isList pl'.isList rfl hu (fun j h1 h2 => absurd h2 (by simp)) _ _ _ _ (Bc I q (by simp))
 | cons x r =>
   exact SeqAt.RcNeAt.lists_lengths pl.isList pl'.isList (by simp at l1; simp [← l1]) hu _ _ _ _ (Bc I q (by simp))
end
section
variable {X : Cx}
def rSlS : V → Option Int → Option Int → Hp → VK → Prop := fun x lo hi H Q => ∃ z,x = .str z ∧ z.length ≤ sizeLine ∧ Q (.str (Txt.slice z lo hi)) H
theorem sl_str : SlR X rSlS := by
 intro pins s σ H x v vl vu lo hi sl Q I rx hs pl pu h
 obtain ⟨z,rfl,hz,q⟩ := h
 obtain ⟨t,rfl⟩ := rx
 refine ⟨"str",_,PySem.F.slot_str_getitem.lookup,typeIs_str _ _ _,?_⟩
 have fin : ∀ t' k,EP X pins σ Q (.str (Txt.slice z lo hi) t') { s with toks := k } := fun t' k => ⟨.str _,H,I.tok _,⟨_,rfl⟩,q⟩
 cases pl with
 | none => cases pu with
   | none => exact wpAny_getItem_str_slice (l := none) (u := none) (st := none) hs rfl (post_val_or_str ⟨Nat.le_trans (Txt.slice_le z _ _) hz,fin⟩)
   | int j uj => exact wpAny_getItem_str_slice (l := none) (u := some (j,uj)) (st := none) hs rfl (post_val_or_str ⟨Nat.le_trans (Txt.slice_le z _ _) hz,fin⟩)
 | int i ui => cases pu with
   | none => exact wpAny_getItem_str_slice (l := some (i,ui)) (u := none) (st := none) hs rfl (post_val_or_str ⟨Nat.le_trans (Txt.slice_le z _ _) hz,fin⟩)
   | int j uj => exact wpAny_getItem_str_slice (l := some (i,ui)) (u := some (j,uj)) (st := none) hs rfl (post_val_or_str ⟨Nat.le_trans (Txt.slice_le z _ _) hz,fin⟩)
def tF3 (ta tb : TE) (y : Str) : TE := fun σ H Q => ta σ H fun x H1 => ∃ z,x = .str z ∧ z.length + y.length ≤ sizeLine ∧ tb σ H1 fun v H2 => ∃ n,v = .int n ∧ n.natAbs.log2 < 1920 ∧ (z ++ y ++ Str.ofString (toString n)).length ≤ sizeLine ∧ Q (.str (z ++ y ++ Str.ofString (toString n))) H2
theorem pe_f3 {a b : Expr} {ta tb : TE} {y : Str} {k : Nat} {p1 p2 p3 pos : Pos} (ha : PE X a ta) (hb : PE X b tb) : PE X (.JoinedStr [.FormattedValue a (-1) none p1,.Constant (.str y) k p2,.FormattedValue b (-1) none p3] pos) (tF3 ta tb y) := by
 intro pins s σ H Q I h
 refine wpAny_JoinedStr ?_
 show wpAny _ _ (eval (.FormattedValue a (-1) none p1) X.env) _ _ _
 refine wpAny_FormattedValue_plain (thn (ha pins s σ H _ I h) fun u s1 ⟨x,H1,I1,rx,z,ex,hz,q⟩ => ?_)
 subst ex
 obtain ⟨t,rfl⟩ := rx
 have e0 : Str.empty ++ z = z := by
  show (⟨#[] ++ z.cps⟩ : Str) = z
  rw [Array.empty_append]
 have lz : ∀ a b : Str,(a ++ b).length = a.length + b.length := fun a b => by
  show (a.cps ++ b.cps).size = _
  rw [Array.size_append]
  rfl
 refine formatField_str (fun t' tk => ⟨z,t',rfl,by rw [e0]; omega,?_⟩) (by omega)
 rw [e0]
 show wpAny _ _ (eval (.Constant (.str y) k p2) X.env) _ _ _
 refine Calls.Constant_str ⟨y,_,rfl,by rw [lz]; omega,?_⟩
 show wpAny _ _ (eval (.FormattedValue b (-1) none p3) X.env) _ _ _
 refine wpAny_FormattedValue_plain (thn (hb pins _ σ H1 _ ((I1.tok tk).tok _) q) fun u s2 ⟨x,H2,I2,rx,n,ex,hn,hl,q2⟩ => ?_)
 subst ex
 obtain ⟨t2,rfl⟩ := rx
 refine wpAny_formatField_int hn ⟨_,_,rfl,hl,hl,?_⟩
 exact ⟨.str _,H2,(I2.tok _).tok _,⟨_,rfl⟩,q2⟩
end
section
variable {X : Cx} {pins : List (Addr × Obj)} {σ : St} {H : Hp} {s : Shared}
end
structure New0 (K : PySem.W.Frag) (mg : Str → Option Value) (x : Str) (C : Addr) : Prop where
 mg : mg x = some (.ref C)
 makes : PySem.W.makesIn K C = true
 init : PySem.W.findIn K (.ref C) "__init__" = some (some (.builtin "object.__init__"))
 kp : PySem.W.keepIn K (.ref C) = true
def tNew0 (C : Addr) : TE := fun _ H Q => ∀ x dx,H x = none → H dx = none → dx ≠ x → Q (.ref x) (upd (upd H dx (.own x)) x (.ins C dx []))
section
variable {X : Cx} {C : Addr} {x m : Str} {p pos apos : Pos} {o : Expr} {ta : TE}
theorem pe_new0 (D : New0 X.K X.mg x C) (hg : Gl X x) (hdb : (x == ("__debug__" : Str)) = false := by decide) : PE X (.Call (.Name x p) [] [] pos) (tNew0 C) := by
 intro pins s σ H Q I h
 refine wpAny_Call_Name_kw (ld_glob I hg D.mg ?_ hdb)
 refine PySem.W.callWith_K0 I.kIn D.kp ?_
 have hq := h (s.heap.objs.size + 1) s.heap.objs.size (I.hok.fresh (Nat.le_succ _)) (I.hok.fresh (Nat.le_refl _)) (Nat.ne_of_lt (Nat.lt_succ_self _))
 have I2 := Inv.made (C := C) I
 refine wpAny_call (make_map0 I.kIn D.makes D.init (fun self => PySem.W.Looks.of_pure (PySem.W.oi_bind self)) ?_)
 have Y := PySem.W.makes_of (M := model X.prog X.w) I.kIn D.makes
 have hx : ((s.heap.push PySem.W.emptyDict).push (PySem.W.instObj C s.heap.objs.size)).get? (s.heap.objs.size + 1) = some (PySem.W.instObj C s.heap.objs.size) := by
  have := Heap.get?_push_size (s.heap.push PySem.W.emptyDict) (o := PySem.W.instObj C s.heap.objs.size) rfl
  rwa [Heap.size_push] at this
 have t1 : PySem.W.Looks (model X.prog X.w) ((s.heap.push PySem.W.emptyDict).push (PySem.W.instObj C s.heap.objs.size)) (typeOf (.ref (s.heap.objs.size + 1))) (.ref C) := (PySem.W.Looks.ld hx).andThen .now
 have t2 : PySem.W.Looks (model X.prog X.w) ((s.heap.push PySem.W.emptyDict).push (PySem.W.instObj C s.heap.objs.size)) (isInstance (.ref (s.heap.objs.size + 1)) (.type "object")) true :=
  t1.andThen (Y.top.keeps fun b o e => Heap.get?_push_of_some _ (Heap.get?_push_of_some _ e))
 refine codeAny_call_builtin PySem.W.oi_plain PySem.W.entry_oi (@PySem.W.check_slot (model X.prog X.w) _ _ _ "object.__init__" "object" "__init__" (.ref (s.heap.objs.size + 1)) [] [] _ PySem.W.oi_kind PySem.W.oi_split t2 (PySem.W.oi_args (.ref (s.heap.objs.size + 1))) ?_)
 rw [PySem.W.oi_run]
 exact wpAny_pure (And.intro rfl ⟨V.ref (s.heap.objs.size + 1),_,I2,rfl,hq⟩)
structure D7 (P : Program) (w : World) (K : PySem.W.Frag) (mg : Str → Option Value) (base : Heap) (CX : CXT) (k : Nat) (C : Addr) (m : Str) (ps : List Str) (sp : Sp) : Prop where
 out : ∃ (f : Addr) (fd : FuncData),Cls K C ∧ Meth K C m f ∧ FnOk P w K mg base CX k f fd ps sp ∧ Binds K fd ps []
def tMethD (D : Addr → Sp → Prop) (m : Str) (E : XK) (ta : TE) : TE := fun σ H Q => ta σ H fun x H1 => ∃ a C dx fs sp,x = .ref a ∧ H1 a = some (.ins C dx fs) ∧ fs.lookup m = none ∧ D C sp ∧ sp [x] H1 Q E
theorem Cm {CX : CXT} {k : Nat} {D : Addr → Sp → Prop} {E : XK} {pl : Sem Bool} (he : PE X o ta) (hD : ∀ C sp,D C sp → D7 X.prog X.w X.K X.mg X.base CX k C m ["self"] sp) (hr : Room k X.A) (hx : Passes CX X E)
 (ht : eval (.Call (.Attribute o m apos) [] [] pos) X.env = (do
   let ov ← eval o X.env
   standAt apos.atName
   let (f,first) ← holding [ov] (getMethod ov m pl)
   callWith pos f first (backTo pos (starEach [] X.env)) (backToKw pos (keywordEach [] X.env))) := by rfl) :
 PE X (.Call (.Attribute o m apos) [] [] pos) (tMethD D m E ta) := by
 intro pins s σ H Q I h
 refine PySem.W.methodCall_KW (pl := pl) (thn (he pins s σ H _ I h) fun u s1 ⟨x,H1,I1,rx,a,C,dx,fs,sp,ex,ea,l,d,q⟩ => ?_) ht
 subst ex
 obtain rfl : u = Value.ref a := rx
 obtain ⟨f,fd,c,hm,F,hb⟩ := (hD C sp d).out
 refine getmeth_ok I1 ea c hm l ?_
 exact PySem.W.callWith_K0 (first := [.ref a]) I1.kIn hm.kp (run_fn (us := [.ref a]) (vs := [.ref a]) F hr hb .nil hx I1 (.cons rfl .nil) q)
end
end L2
namespace PySem
namespace SeqAt
open AutoSeq1 (wpAny_loadPart')
open PySem.Spec PyProof.Rows
end SeqAt
end PySem
namespace L2
open PySem PySem.Spec PyProof.Rows
theorem Same.tup {K : PySem.W.Frag} {H H' : Hp} {a : Addr} {xs : List V} (e : Same H H') (h : SqT K H a xs) : SqT K H' a xs := by
 rcases h with h | h
 ·rcases h with h | ⟨o,h⟩
  ·exact .inl (.inl (e _ _ h))
  ·exact .inl (.inr ⟨o,e _ _ h⟩)
 ·exact .inr h
section
variable {X : Cx}
end
structure FunD (K : PySem.W.Frag) (x qual : Str) (st : Stmt) (f : Addr) (fd : FuncData) : Prop where
 ex : ∃ (oc : Value) (od : Option Addr) (dV kV doc pm : Value) (an : Option Addr) (cdv ct : Value) (osl : Array (Option Value)),
  fd = PySem.W.fnOf x qual (C8 st) (B3 st) (Ag st) dV kV doc pm an cdv ct ∧ K.lookup f = some ⟨oc,od,.func fd,osl⟩ ∧ PySem.W.codeIn K cdv qual = true
 kp : PySem.W.keepIn K (.ref f) = true
section
variable {P : Program} {w : World} {K : PySem.W.Frag} {mg : Str → Option Value} {base : Heap}
theorem FunD.ok {x qual : Str} {st : Stmt} {f : Addr} {fd : FuncData} {N ps : List Str} {k : Nat} {sp : Sp} (F : FunD K x qual st f fd) (S : Ak N ps (Ag st)) (len : ∀ vs H Q E,sp vs H Q E → vs.length = ps.length)
 (hbody : ∀ (cdv : Value) (A : Around) (outer : List Env) (s : Shared) (H : Hp) (vs : List V) (Q : VK) (E : XK),Room k (A.deeper (envOfC qual (Ag st) s.heap.objs.size f cdv)) → sp vs H Q E →
   ∃ t,PSs (cxOf CX0 P w K mg base N qual (Ag st) f cdv A outer s H E).nox (B3 st) t ∧ t { nx := fun _ H' => Q .non H',rt := Q } (start N vs) H) : FnOk P w K mg base CX0 (k + 1) f fd ps sp := by
 obtain ⟨oc,od,dV,kV,doc,pm,an,cdv,ct,osl,rfl,lk,hcd⟩ := F.ex
 refine fn_of lk hcd S len fun A outer s H vs Q E hr hsp => ?_
 obtain ⟨t,h,q⟩ := hbody cdv A outer s H vs Q E hr hsp
 exact ⟨t,h.nox,q⟩
structure CFn (P : Program) (w : World) (K : PySem.W.Frag) (mg : Str → Option Value) (base : Heap) (x m : Str) (k : Nat) (ps : List Str) (sp : Sp) : Prop where
 ex : ∃ (G f : Addr) (fd : FuncData),FnOk P w K mg base CX0 k f fd ps sp ∧ mg x = some (.ref G) ∧ PySem.W.readsIn K G (.type "type") = true ∧ PySem.W.findCls K (.ref G) (.type "type") m = some (.val (.ref f)) ∧
  PySem.W.specialIn K (.ref G) "__getattribute__" = some (some (.builtin "type.__getattribute__")) ∧ PySem.W.keepIn K (.ref f) = true ∧ Binds K fd ps []
end
section
variable {X : Cx}
theorem pe_cfn {x m : Str} {k j : Nat} {ps : List Str} {sp : Sp} {p apos pos : Pos} {a : Expr} {es : List Expr} {t : TA} {pl : Sem Bool} (F : CFn X.prog X.w X.K X.mg X.base x m k ps sp) (hr : Room j X.A) (hj : k ≤ j) (hg : Gl X x) (ha : PA X (a :: es) t) (hdb : (x == ("__debug__" : Str)) = false := by decide)
 (hst : starEach (a :: es) X.env = (false,eval a X.env) :: starEach es X.env := by rfl) (hpl : (backTo pos (starEach es X.env)).any (·.1) = false := by rfl)
 (ht : eval (.Call (.Attribute (.Name x p) m apos) (a :: es) [] pos) X.env = (do
   let ov ← eval (.Name x p) X.env
   standAt apos.atName
   let (f,first) ← holding [ov] (getMethod ov m pl)
   callWith pos f first (backTo pos (starEach (a :: es) X.env)) (backToKw pos (keywordEach [] X.env))) := by rfl) :
 PE X (.Call (.Attribute (.Name x p) m apos) (a :: es) [] pos) (tCall sp [] E0 t) := by
 obtain ⟨G,f,fd,Ff,hm,hrd,hfc,hga,hk,hb⟩ := F.ex
 intro pins s σ H Q I h
 refine PySem.W.methodCall_KW (pl := pl) (thn (pe_glob hg hm (show RelV (.ref G) (.ref G) from rfl) hdb pins s σ H (fun v H1 => v = .ref G ∧ H1 = H) I ⟨rfl,rfl⟩) fun u s1 ⟨v,H1,I1,rv,ev,eH⟩ => ?_) ht
 subst ev eH
 obtain rfl : u = Value.ref G := rv
 refine PySem.W.method_cls I1.kIn hga (PySem.W.cls_value I1.kIn hrd hfc rfl ?_)
 refine PySem.W.callWith_K (first := []) (h₀ := X.base) I.ok.mod.kin hk (thn (ha pos pins _ σ H1 _ (I1.tok (s1.toks + 1)) h) fun us s2 ⟨vs,H2,I2,r,q2⟩ => ⟨I2.kIn,?_⟩) hst hpl
 exact run_fn Ff (hr.mono hj) hb .nil En I2 r q2
def tMethA (D : Addr → Sp → Prop) (m : Str) (E : XK) (ta : TE) (t : TA) : TE := fun σ H Q => ta σ H fun x H1 => ∃ a C dx fs sp,x = .ref a ∧ H1 a = some (.ins C dx fs) ∧ fs.lookup m = none ∧ D C sp ∧ t σ H1 fun vs H2 => sp (x :: vs) H2 Q E
theorem pe_methA {m : Str} {pos apos : Pos} {o e : Expr} {es : List Expr} {ta : TE} {t : TA} {CX : CXT} {k : Nat} {ps : List Str} {D : Addr → Sp → Prop} {E : XK} {pl : Sem Bool} (he : PE X o ta) (hD : ∀ C sp,D C sp → D7 X.prog X.w X.K X.mg X.base CX k C m ps sp) (hr : Room k X.A) (hx : Passes CX X E) (ha : PA X (e :: es) t)
 (hst : starEach (e :: es) X.env = (false,eval e X.env) :: starEach es X.env := by rfl) (hpl : (backTo pos (starEach es X.env)).any (·.1) = false := by rfl)
 (ht : eval (.Call (.Attribute o m apos) (e :: es) [] pos) X.env = (do
   let ov ← eval o X.env
   standAt apos.atName
   let (f,first) ← holding [ov] (getMethod ov m pl)
   callWith pos f first (backTo pos (starEach (e :: es) X.env)) (backToKw pos (keywordEach [] X.env))) := by rfl) :
 PE X (.Call (.Attribute o m apos) (e :: es) [] pos) (tMethA D m E ta t) := by
 intro pins s σ H Q I h
 refine PySem.W.methodCall_KW (pl := pl) (thn (he pins s σ H _ I h) fun u s1 ⟨x,H1,I1,rx,a,C,dx,fs,sp,ex,ea,l,d,q⟩ => ?_) ht
 subst ex
 obtain rfl : u = Value.ref a := rx
 obtain ⟨f,fd,c,hm,F,hb⟩ := (hD C sp d).out
 refine getmeth_ok I1 ea c hm l ?_
 refine PySem.W.callWith_K (first := [.ref a]) (h₀ := X.base) I.ok.mod.kin hm.kp (thn (ha pos pins s1 σ H1 _ I1 q) fun us s2 ⟨vs,H2,I2,r,q2⟩ => ⟨I2.kIn,?_⟩) hst hpl
 exact run_fn (us := .ref a :: us) (vs := .ref a :: vs) F hr hb .nil hx I2 (.cons rfl r) (by simpa using q2)
end
end L2
namespace L2
open PySem PySem.Spec PyProof.Rows
section
variable {X : Cx}
end
open Builtin.SmallTypes (nextOf)
structure Nx (P : Program) (w : World) (it l : Addr) (us : Array Value) (S : Nat → Heap → Prop) : Prop where
 keep : ∀ k g g',S k g → (∀ o,g.get? it = some o → g'.get? it = some o) → (∀ o,g.get? l = some o → g'.get? l = some o) → S k g'
 item : ∀ (A : Around) (E : Value → Shared → Prop) (Q : Value → Shared → Prop) (s : Shared) (k : Nat) (u : Value),S k s.heap → us[k]? = some u → (∀ g,S (k + 1) g → Heap.SameBut it s.heap g → Q u { s with heap := g }) → wpAny (model P w) A (nextOf (.ref it)) Q E s
 fin : ∀ (A : Around) (E : Value → Shared → Prop) (Q : Value → Shared → Prop) (s : Shared) (k : Nat),A.handled = none → S k s.heap → us[k]? = none →
  (∀ g e,Heap.ExtBut it s.heap g → (∃ o,g.get? e = some o ∧ o.cls = .type "StopIteration") → E (.ref e) { s with heap := g }) → wpAny (model P w) A (nextOf (.ref it)) Q E s
 there : ∀ k g,S k g → ∃ o,g.get? it = some o ∧ ∀ v,o.data ≠ .cell v
section
variable {P : Program} {w : World}
theorem nx_list {it l : Addr} {us : Array Value} (hne : l ≠ it) : Nx P w it l us (fun k g => g.IsListIter it l k ∧ g.IsList l us) where
 keep := fun k g g' h h1 h2 => ⟨h.1.at h1,h.2.at h2⟩
 item := fun A E Q s k u h e q => wpAny_nextOf_list_item h.1 h.2 e fun g h1 sb => q g ⟨h1,h.2.extBut sb.extBut hne⟩ sb
 fin := fun A E Q s k hh h e q => wpAny_nextOf_list_end hh h.1 h.2 e q
 there := fun k g h => by
  obtain ⟨o,e,_,d⟩ := h.1
  exact ⟨o,e,fun v z => by rw [d] at z; cases z⟩
theorem tup_item {A : Around} {E : Value → Shared → Prop} {s : Shared} {it t : Addr} {k : Nat} {us : Array Value} {u : Value} {Q : Value → Shared → Prop} (h1 : s.heap.IsTupleIter it t k) (h2 : s.heap.IsTuple t us) (hu : us[k]? = some u)
 (q : ∀ g,g.IsTupleIter it t (k + 1) → Heap.SameBut it s.heap g → Q u { s with heap := g }) : wpAny (model P w) A (nextOf (.ref it)) Q E s := by
 obtain ⟨oi,ei,ci,di⟩ := id h1
 obtain ⟨ot,et,_,nt,dt⟩ := h2
 unfold nextOf
 refine wpAny_bind (wpAny_callSpecial?_slot (name := Str.ofString "__next__") h1.typeIs F.slot_tuple_iterator_next (wpAny_call_entry F.slot_tuple_iterator_next h1.typeIs F.entry_tuple_iterator_next ?_ (F.args_tuple_iterator_next_1 _)))
 show wpAny _ _ (field (.ref it) 0 >>= _) _ _ _
 refine wpAny_bind (wpAny_field ei di (x := .ref t) rfl ?_)
 show wpAny _ _ (if (Value.ref t == Value.none) = true then _ else _) _ _ _
 rw [if_neg (fun z => by cases z)]
 show wpAny _ _ (field (.ref it) 1 >>= _) _ _ _
 refine wpAny_bind (wpAny_field ei di (x := .int k 0) rfl ?_)
 show wpAny _ _ (seqItems? (.ref t) >>= _) _ _ _
 refine wpAny_bind (wpAny_seqItems et dt ?_)
 simp only [Int.toNat_natCast,hu]
 refine wpAny_bind (wpAny_setField ei di (by simp) (wpAny_pure ⟨u,rfl,wpAny_pure (q _ ?_ (Heap.SameBut.update ..))⟩))
 refine ⟨_,Heap.get?_update_self _ ei (Obj.isFreed_of_fields (Obj.data_mapFields di _)),(Obj.cls_mapFields ..).trans ci,?_⟩
 rw [Obj.data_mapFields di] <;> simp [rawInt]
theorem tup_fin {A : Around} {E : Value → Shared → Prop} {s : Shared} {it t : Addr} {k : Nat} {us : Array Value} {Q : Value → Shared → Prop} (hh : A.handled = none) (h1 : s.heap.IsTupleIter it t k) (h2 : s.heap.IsTuple t us) (hu : us[k]? = none)
 (q : ∀ g e,Heap.ExtBut it s.heap g → (∃ o,g.get? e = some o ∧ o.cls = .type "StopIteration") → E (.ref e) { s with heap := g }) : wpAny (model P w) A (nextOf (.ref it)) Q E s := by
 obtain ⟨oi,ei,ci,di⟩ := id h1
 obtain ⟨ot,et,_,nt,dt⟩ := h2
 unfold nextOf
 refine wpAny_bind (wpAny_callSpecial?_slot (name := Str.ofString "__next__") h1.typeIs F.slot_tuple_iterator_next (wpAny_call_entry F.slot_tuple_iterator_next h1.typeIs F.entry_tuple_iterator_next ?_ (F.args_tuple_iterator_next_1 _)))
 show wpAny _ _ (field (.ref it) 0 >>= _) _ _ _
 refine wpAny_bind (wpAny_field ei di (x := .ref t) rfl ?_)
 show wpAny _ _ (if (Value.ref t == Value.none) = true then _ else _) _ _ _
 rw [if_neg (fun z => by cases z)]
 show wpAny _ _ (field (.ref it) 1 >>= _) _ _ _
 refine wpAny_bind (wpAny_field ei di (x := .int k 0) rfl ?_)
 show wpAny _ _ (seqItems? (.ref t) >>= _) _ _ _
 refine wpAny_bind (wpAny_seqItems et dt ?_)
 simp only [Int.toNat_natCast,hu]
 refine wpAny_bind (wpAny_rule (wpAny_bind (wpAny_setField ei di (by simp) ?_)))
 show wpAny _ _ (newExc (.type "StopIteration") [] >>= _) _ _ _
 refine wpAny_bind ?_
 simp only [newExc,newTuple]
 refine wpAny_bind (wpAny_newObj_type ?_ (by size_fits)); refine wpAny_bind (m := firstArgMember _ _) (wpAny_of_eq (a := Value.none) (by first | rfl | (simp only [firstArgMember]; rfl)) ?_)
 refine wpAny_newObj_type ?_ (by size_fits); simp only [raiseNew]
 refine wpAny_bind (wpAny_handled ?_)
 first | rw [show A.in1.handled = none from hh] | rw [hh]
 refine wpAny_bind (wpAny_pure (wpAny_throw ?_))
 exact q _ _ (((Heap.SameBut.update ..).extBut.push _).push _) ⟨_,Heap.get?_push_size _ rfl,rfl⟩
theorem nx_tup {it l : Addr} {us : Array Value} (hne : l ≠ it) : Nx P w it l us (fun k g => g.IsTupleIter it l k ∧ g.IsTuple l us) where
 keep := fun k g g' h h1 h2 => ⟨h.1.at h1,let ⟨o,e,r⟩ := h.2; ⟨o,h2 o e,r⟩⟩
 item := fun A E Q s k u h e q => tup_item h.1 h.2 e fun g h1 sb => q g ⟨h1,h.2.extBut sb.extBut hne⟩ sb
 fin := fun A E Q s k hh h e q => tup_fin hh h.1 h.2 e q
 there := fun k g h => by
  obtain ⟨o,e,_,d⟩ := h.1
  exact ⟨o,e,fun v z => by rw [d] at z; cases z⟩
end
open Builtin.SmallTypes (nextOf ownedTupleIsFree ownedTupleHandOut)
structure ZA (z TI TO i1 i2 l1 l2 : Addr) : Prop where
 a : TI ≠ z ∧ TO ≠ z ∧ i1 ≠ z ∧ i2 ≠ z ∧ l1 ≠ z ∧ l2 ≠ z
 b : TI ≠ TO ∧ i1 ≠ TO ∧ i2 ≠ TO ∧ l1 ≠ TO ∧ l2 ≠ TO
 c : TI ≠ i1 ∧ i2 ≠ i1 ∧ l1 ≠ i1 ∧ l2 ≠ i1
 d : TI ≠ i2 ∧ l1 ≠ i2 ∧ l2 ≠ i2
section
variable {P : Program} {w : World} {A : Around} {E : Value → Shared → Prop} {s : Shared} {z TI TO i1 i2 l1 l2 : Addr} {us vs : Array Value} {S1 S2 : Nat → Heap → Prop}
theorem zipG_item {k : Nat} {u v a b : Value} {Q : Value → Shared → Prop} (D : ZA z TI TO i1 i2 l1 l2) (N1 : Nx P w i1 l1 us S1) (N2 : Nx P w i2 l2 vs S2)
 (hz : IsZip s.heap z TI TO .none) (hTI : IsPair s.heap TI (.ref i1) (.ref i2)) (hTO : IsPair s.heap TO a b) (h1 : S1 k s.heap) (h2 : S2 k s.heap) (hu : us[k]? = some u) (hv : vs[k]? = some v)
 (q : ∀ g,IsZip g z TI TO (rawInt s.heap.objs.size) → IsPair g TO u v → S1 (k + 1) g → S2 (k + 1) g → IsPair g s.heap.objs.size u v → g.objs.size = s.heap.objs.size + 1 →
   (∀ c o,c ≠ z → c ≠ TO → c ≠ i1 → c ≠ i2 → s.heap.get? c = some o → g.get? c = some o) → Q (.ref s.heap.objs.size) { s with heap := g }) :
 wpAny (model P w) A (Builtin.«zip.__next__» ⟨[.ref z],[]⟩) (fun fin s' => ∃ v,fin = .done (.ret v) ∧ Q v s') E s := by
 obtain ⟨⟨d1,d2,d3,d4,d5,d6⟩,⟨d7,d8,d9,d10,d11⟩,⟨d12,d13,d14,d15⟩,d16,d17,d18⟩ := D
 show wpAny _ _ (field (.ref z) 2 >>= _) _ _ _; refine wpAny_bind (wpAny_field hz rfl (x := .bool false) rfl ?_)
 show wpAny _ _ (field (.ref z) 3 >>= _) _ _ _; refine wpAny_bind (wpAny_field hz rfl (x := .ref TI) rfl (wpAny_bind (wpAny_seqItems hTI rfl ?_)))
 show wpAny _ _ (ownedTupleIsFree (.ref z) >>= _) _ _ _
 refine wpAny_bind ?_
 unfold ownedTupleIsFree
 refine wpAny_bind (wpAny_field hz rfl (x := .none) rfl (wpAny_pure ?_)); simp only [if_true]
 refine wpAny_bind (wpAny_rule (wpAny_bind (wpAny_field hz rfl (x := .ref TO) rfl (wpAny_bind (wpAny_setField_rec hz (by simp) fun g1 z1 b1 => ?_)))))
 replace z1 : IsZip g1 z TI TO .ellipsis := z1
 refine wpAny_bind ?_
 simp only [List.zipIdx_cons,List.zipIdx_nil,List.forIn_cons,List.forIn_nil]; refine wpAny_bind (wpAny_bind (wpAny_onRaise ?_))
 show wpAny _ _ (nextOf (.ref i1) >>= _) _ _ _
 refine wpAny_bind (N1.item _ _ _ _ k u (N1.keep k _ _ h1 (fun o e => b1.extBut _ _ d3 e) fun o e => b1.extBut _ _ d5 e) hu fun g2 n2 b2 => wpAny_pure ?_)
 have t2 : IsPair g2 TO a b := b2.extBut _ _ (Ne.symm d8) (b1.extBut _ _ d2 hTO)
 refine wpAny_bind (wpAny_seqItems t2 rfl (wpAny_bind (wpAny_updateSeq_pair t2 fun g3 t3 b3 => ?_)))
 replace t3 : IsPair g3 TO u b := t3
 refine wpAny_bind (wpAny_letGo (wpAny_pure (wpAny_bind (wpAny_bind (wpAny_onRaise ?_)))))
 show wpAny _ _ (nextOf (.ref i2) >>= _) _ _ _
 have y2 : S2 k g3 := N2.keep k _ _ h2 (fun o e => b3.extBut _ _ d9 (b2.extBut _ _ d13 (b1.extBut _ _ d4 e))) fun o e => b3.extBut _ _ d11 (b2.extBut _ _ d15 (b1.extBut _ _ d6 e))
 refine wpAny_bind (N2.item _ _ _ _ k v y2 hv fun g4 n4 b4 => wpAny_pure ?_)
 have t4 : IsPair g4 TO u b := b4.extBut _ _ (Ne.symm d9) t3
 refine wpAny_bind (wpAny_seqItems t4 rfl (wpAny_bind (wpAny_updateSeq_pair t4 fun g5 t5 b5 => ?_)))
 replace t5 : IsPair g5 TO u v := t5
 refine wpAny_bind (wpAny_letGo (wpAny_pure (wpAny_pure (wpAny_bind (wpAny_seqItems t5 rfl (wpAny_bind (wpAny_newTuple ?_)))))))
 have sz : g5.objs.size = s.heap.objs.size := by rw [b5.1,b4.1,b3.1,b2.1,b1.1]
 have z5 : IsZip g5 z TI TO .ellipsis := b5.extBut _ _ (Ne.symm d2) (b4.extBut _ _ (Ne.symm d4) (b3.extBut _ _ (Ne.symm d2) (b2.extBut _ _ (Ne.symm d3) z1)))
 have k5 : ∀ c o,c ≠ z → c ≠ TO → c ≠ i1 → c ≠ i2 → s.heap.get? c = some o → g5.get? c = some o := fun c o c1 c2 c3 c4 e => b5.extBut _ _ c2 (b4.extBut _ _ c4 (b3.extBut _ _ c2 (b2.extBut _ _ c3 (b1.extBut _ _ c1 e))))
 have m1 : S1 (k + 1) g5 := N1.keep _ _ _ n2 (fun o e => b5.extBut _ _ d8 (b4.extBut _ _ (Ne.symm d13) (b3.extBut _ _ d8 e))) fun o e => b5.extBut _ _ d10 (b4.extBut _ _ d17 (b3.extBut _ _ d10 e))
 have m2 : S2 (k + 1) g5 := N2.keep _ _ _ n4 (fun o e => b5.extBut _ _ d9 e) fun o e => b5.extBut _ _ d11 e
 have lz : z < g5.objs.size := Heap.lt_size z5
 show wpAny _ _ (ownedTupleHandOut (.ref z) (.ref g5.objs.size) >>= _) _ _ _
 refine wpAny_bind ?_
 unfold ownedTupleHandOut
 have z6 : IsZip (g5.push { cls := .type "tuple",data := .seq #[u,v] }) z TI TO .ellipsis := Heap.get?_push_of_some _ z5
 refine wpAny_bind (wpAny_setField_rec z6 (by simp) fun g7 z7 b7 => ?_)
 replace z7 : IsZip g7 z TI TO (rawInt g5.objs.size) := z7
 refine wpAny_setField_rec z7 (by simp) fun g8 z8 b8 => ?_
 replace z8 : IsZip g8 z TI TO (rawInt g5.objs.size) := z8
 have up : ∀ c o,c ≠ z → g5.get? c = some o → g8.get? c = some o := fun c o c1 e => b8.extBut _ _ c1 (b7.extBut _ _ c1 (Heap.get?_push_of_some _ e))
 have t8 : IsPair g8 g5.objs.size u v := b8.extBut _ _ (Nat.ne_of_gt lz) (b7.extBut _ _ (Nat.ne_of_gt lz) (Heap.get?_push_size _ rfl))
 have sz8 : g8.objs.size = g5.objs.size + 1 := by rw [b8.1,b7.1,Heap.size_push]
 rw [sz] at z8 t8 sz8
 refine wpAny_pure ⟨_,rfl,?_⟩
 show Q (.ref g5.objs.size) _
 rw [sz]
 exact q g8 z8 (up _ _ d2 t5) (N1.keep _ _ _ m1 (fun o e => up _ o d3 e) fun o e => up _ o d5 e) (N2.keep _ _ _ m2 (fun o e => up _ o d4 e) fun o e => up _ o d6 e) t8 sz8 fun c o c1 c2 c3 c4 e => up c o c1 (k5 c o c1 c2 c3 c4 e)
theorem zipG_end {k : Nat} {a b : Value} {Q : Fin → Shared → Prop} (hh : A.handled = none) (D : ZA z TI TO i1 i2 l1 l2) (N1 : Nx P w i1 l1 us S1) (N2 : Nx P w i2 l2 vs S2)
 (hz : IsZip s.heap z TI TO .none) (hTI : IsPair s.heap TI (.ref i1) (.ref i2)) (hTO : IsPair s.heap TO a b) (h1 : S1 k s.heap) (h2 : S2 k s.heap) (hend : us[k]? = none ∨ vs[k]? = none)
 (q : ∀ g e,(∀ c o,c ≠ z → c ≠ TO → c ≠ i1 → c ≠ i2 → s.heap.get? c = some o → g.get? c = some o) → (∃ o,g.get? e = some o ∧ o.cls = .type "StopIteration") → E (.ref e) { s with heap := g }) :
 wpAny (model P w) A (Builtin.«zip.__next__» ⟨[.ref z],[]⟩) Q E s := by
 obtain ⟨⟨d1,d2,d3,d4,d5,d6⟩,⟨d7,d8,d9,d10,d11⟩,⟨d12,d13,d14,d15⟩,d16,d17,d18⟩ := D
 show wpAny _ _ (field (.ref z) 2 >>= _) _ _ _; refine wpAny_bind (wpAny_field hz rfl (x := .bool false) rfl ?_)
 show wpAny _ _ (field (.ref z) 3 >>= _) _ _ _; refine wpAny_bind (wpAny_field hz rfl (x := .ref TI) rfl (wpAny_bind (wpAny_seqItems hTI rfl ?_)))
 show wpAny _ _ (ownedTupleIsFree (.ref z) >>= _) _ _ _
 refine wpAny_bind ?_
 unfold ownedTupleIsFree
 refine wpAny_bind (wpAny_field hz rfl (x := .none) rfl (wpAny_pure ?_)); simp only [if_true]
 refine wpAny_bind (wpAny_rule (wpAny_bind (wpAny_field hz rfl (x := .ref TO) rfl (wpAny_bind (wpAny_setField_rec hz (by simp) fun g1 z1 b1 => ?_)))))
 replace z1 : IsZip g1 z TI TO .ellipsis := z1
 refine wpAny_bind ?_
 simp only [List.zipIdx_cons,List.zipIdx_nil,List.forIn_cons,List.forIn_nil]; refine wpAny_bind (wpAny_bind (wpAny_onRaise ?_))
 show wpAny _ _ (nextOf (.ref i1) >>= _) _ _ _
 have y1 : S1 k g1 := N1.keep k _ _ h1 (fun o e => b1.extBut _ _ d3 e) fun o e => b1.extBut _ _ d5 e
 cases hu : us[k]? with
 | none =>
   refine wpAny_bind (N1.fin _ _ _ _ k hh y1 hu fun g2 e b2 he => ?_)
   obtain ⟨oe,eo,ec⟩ := he
   have z2 : IsZip g2 z TI TO .ellipsis := b2 _ _ (Ne.symm d3) z1
   have nez : e ≠ z := fun y => by subst y; rw [z2] at eo; cases eo; simp at ec
   exact wpAny_setField_rec z2 (by simp) fun g3 _ b3 => q g3 e (fun c o c1 _ c3 _ y => b3.extBut _ _ c1 (b2 _ _ c3 (b1.extBut _ _ c1 y))) ⟨oe,b3.extBut _ _ nez eo,ec⟩
 | some u =>
   have hv : vs[k]? = none := hend.resolve_left fun y => by rw [hu] at y; cases y
   refine wpAny_bind (N1.item _ _ _ _ k u y1 hu fun g2 n2 b2 => wpAny_pure ?_)
   have t2 : IsPair g2 TO a b := b2.extBut _ _ (Ne.symm d8) (b1.extBut _ _ d2 hTO)
   refine wpAny_bind (wpAny_seqItems t2 rfl (wpAny_bind (wpAny_updateSeq_pair t2 fun g3 t3 b3 => ?_)))
   refine wpAny_bind (wpAny_letGo (wpAny_pure (wpAny_bind (wpAny_bind (wpAny_onRaise ?_)))))
   show wpAny _ _ (nextOf (.ref i2) >>= _) _ _ _
   have y2 : S2 k g3 := N2.keep k _ _ h2 (fun o e => b3.extBut _ _ d9 (b2.extBut _ _ d13 (b1.extBut _ _ d4 e))) fun o e => b3.extBut _ _ d11 (b2.extBut _ _ d15 (b1.extBut _ _ d6 e))
   refine wpAny_bind (N2.fin _ _ _ _ k hh y2 hv fun g4 e b4 he => ?_)
   obtain ⟨oe,eo,ec⟩ := he
   have z4 : IsZip g4 z TI TO .ellipsis := b4 _ _ (Ne.symm d4) (b3.extBut _ _ (Ne.symm d2) (b2.extBut _ _ (Ne.symm d3) z1))
   have nez : e ≠ z := fun y => by subst y; rw [z4] at eo; cases eo; simp at ec
   exact wpAny_setField_rec z4 (by simp) fun g5 _ b5 => q g5 e (fun c o c1 c2 c3 c4 y => b5.extBut _ _ c1 (b4 _ _ c4 (b3.extBut _ _ c2 (b2.extBut _ _ c3 (b1.extBut _ _ c1 y))))) ⟨oe,b5.extBut _ _ nez eo,ec⟩
theorem nextG_item {k : Nat} {u v a b : Value} {Q : Option Value → Shared → Prop} (D : ZA z TI TO i1 i2 l1 l2) (N1 : Nx P w i1 l1 us S1) (N2 : Nx P w i2 l2 vs S2)
 (hz : IsZip s.heap z TI TO .none) (hTI : IsPair s.heap TI (.ref i1) (.ref i2)) (hTO : IsPair s.heap TO a b) (h1 : S1 k s.heap) (h2 : S2 k s.heap) (hu : us[k]? = some u) (hv : vs[k]? = some v)
 (q : ∀ g,IsZip g z TI TO (rawInt s.heap.objs.size) → IsPair g TO u v → S1 (k + 1) g → S2 (k + 1) g → IsPair g s.heap.objs.size u v → g.objs.size = s.heap.objs.size + 1 →
   (∀ c o,c ≠ z → c ≠ TO → c ≠ i1 → c ≠ i2 → s.heap.get? c = some o → g.get? c = some o) → Q (some (.ref s.heap.objs.size)) { s with heap := g }) : wpAny (model P w) A (pyNext (.ref z)) Q E s := by
 have hT : s.TypeIs (.ref z) "zip" := ⟨_,hz,rfl⟩
 unfold pyNext
 exact wpAny_bind (wpAny_attempt (wpAny_callSpecial?_slot (name := Str.ofString "__next__") hT F.slot_zip_next (wpAny_call_entry F.slot_zip_next hT F.entry_zip_next
  (zipG_item D N1 N2 hz hTI hTO h1 h2 hu hv fun g a1 a2 a3 a4 a5 a6 a7 => wpAny_pure (q g a1 a2 a3 a4 a5 a6 a7)) (F.args_zip_next_1 _))))
theorem nextG_end {k : Nat} {a b : Value} {Q : Option Value → Shared → Prop} (hh : A.handled = none) (D : ZA z TI TO i1 i2 l1 l2) (N1 : Nx P w i1 l1 us S1) (N2 : Nx P w i2 l2 vs S2)
 (hz : IsZip s.heap z TI TO .none) (hTI : IsPair s.heap TI (.ref i1) (.ref i2)) (hTO : IsPair s.heap TO a b) (h1 : S1 k s.heap) (h2 : S2 k s.heap) (hend : us[k]? = none ∨ vs[k]? = none)
 (q : ∀ g,(∀ c o,c ≠ z → c ≠ TO → c ≠ i1 → c ≠ i2 → s.heap.get? c = some o → g.get? c = some o) → Q none { s with heap := g }) : wpAny (model P w) A (pyNext (.ref z)) Q E s := by
 have hT : s.TypeIs (.ref z) "zip" := ⟨_,hz,rfl⟩
 unfold pyNext
 refine wpAny_bind (wpAny_attempt (wpAny_callSpecial?_slot (name := Str.ofString "__next__") hT F.slot_zip_next (wpAny_call_entry F.slot_zip_next hT F.entry_zip_next
  (zipG_end hh D N1 N2 hz hTI hTO h1 h2 hend fun g e kk he => ?_) (F.args_zip_next_1 _))))
 obtain ⟨o,eo,ec⟩ := he
 exact wpAny_bind (wpAny_isInstance (T := "StopIteration") (b := true) ⟨o,eo,ec⟩ isSubtype_stop (wpAny_pure (q _ kk)))
end
def itTy : Bool → String
 | false => "list_iterator"
 | true => "tuple_iterator"
def IsSq : Bool → Heap → Addr → Array Value → Prop
 | false => Heap.IsList
 | true => Heap.IsTuple
def IsIt : Bool → Heap → Addr → Addr → Nat → Prop
 | false => Heap.IsListIter
 | true => Heap.IsTupleIter
theorem IsSq.push {b : Bool} {g : Heap} {l : Addr} {us : Array Value} (h : IsSq b g l us) (o : Obj) : IsSq b (g.push o) l us := by
 cases b
 ·exact Heap.IsList.push h o
 ·exact Heap.IsTuple.push h o
theorem IsSq.lt {b : Bool} {g : Heap} {l : Addr} {us : Array Value} (h : IsSq b g l us) : l < g.objs.size := by
 cases b <;> (obtain ⟨o,e,_⟩ := h; exact Heap.lt_size e)
theorem isIt_of {b : Bool} {g : Heap} {it l : Addr} {dd : Option Addr} {sl : Array (Option Value)} (h : g.get? it = some ⟨.type (itTy b),dd,.fields #[.ref l,.int 0 0],sl⟩) : IsIt b g it l 0 := by
 cases b <;> exact ⟨_,h,rfl,rfl⟩
theorem nx_of {P : Program} {w : World} {b : Bool} {it l : Addr} {us : Array Value} (hne : l ≠ it) : Nx P w it l us (fun k g => IsIt b g it l k ∧ IsSq b g l us) := by
 cases b
 ·exact nx_list hne
 ·exact nx_tup hne
abbrev itO (b : Bool) (l : Addr) : Obj := { cls := .type (itTy b),data := .fields #[.ref l,.int 0 0] }
abbrev zg1 (g : Heap) (b1 : Bool) (l1 : Addr) : Heap := g.push (itO b1 l1)
abbrev zg2 (g : Heap) (b1 b2 : Bool) (l1 l2 : Addr) : Heap := (zg1 g b1 l1).push (itO b2 l2)
abbrev zg3 (g : Heap) (b1 b2 : Bool) (l1 l2 : Addr) : Heap := (zg2 g b1 b2 l1 l2).push { cls := .type "tuple",data := .seq #[.ref g.objs.size,.ref (zg1 g b1 l1).objs.size] }
abbrev zg4 (g : Heap) (b1 b2 : Bool) (l1 l2 : Addr) : Heap := (zg3 g b1 b2 l1 l2).push { cls := .type "tuple",data := .seq #[.none,.none] }
abbrev zg5 (g : Heap) (b1 b2 : Bool) (l1 l2 : Addr) : Heap := (zg4 g b1 b2 l1 l2).push { cls := .type "zip",data := .fields #[.none,.bool false,.bool false,.ref (zg2 g b1 b2 l1 l2).objs.size,.ref (zg3 g b1 b2 l1 l2).objs.size] }
theorem iter_sq {P : Program} {w : World} {A : Around} {E : Value → Shared → Prop} {s : Shared} {b : Bool} {l : Addr} {us : Array Value} {Q : Value → Shared → Prop} (h : IsSq b s.heap l us) (q : Q (.ref s.heap.objs.size) { s with heap := s.heap.push (itO b l) }) : wpAny (model P w) A (pyIter (.ref l)) Q E s := by
 cases b
 ·exact wpAny_pyIter_list h q
 ·exact wpAny_pyIter_tuple h q
theorem zip_made (b1 b2 : Bool) (l1 l2 : Addr) (us vs : Array Value) : Meets (Builtin.«zip.__new__» ⟨[.type "zip",.ref l1,.ref l2],[]⟩) (fun _ R s => IsSq b1 s.heap l1 us ∧ IsSq b2 s.heap l2 vs ∧ R (.ok (.ret (.ref (zg4 s.heap b1 b2 l1 l2).objs.size))) { s with heap := zg5 s.heap b1 b2 l1 l2 }) :=
 .of_wp fun P w A R s h => by
  obtain ⟨hp,g,d,tk,os⟩ := s
  obtain ⟨y1,y2,h⟩ := h
  have ez := sub_zip
  have e1 : IsSq b1 (Shared.heap ⟨hp,g,d,tk,os⟩) l1 us := y1
  have e2 : IsSq b2 (Shared.heap ⟨hp.push (itO b1 l1),g,d,tk,os⟩) l2 vs := IsSq.push y2 _
  wp_walk using iter_sq e1,iter_sq e2
  exact ⟨_,rfl,h⟩
theorem call_zipG {P : Program} {w : World} {A : Around} {E : Value → Shared → Prop} {s : Shared} {b1 b2 : Bool} {l1 l2 : Addr} {us vs : Array Value} {Q : Value → Shared → Prop} (y1 : IsSq b1 s.heap l1 us) (y2 : IsSq b2 s.heap l2 vs)
 (q : ∀ g,IsZip g (s.heap.objs.size + 4) (s.heap.objs.size + 2) (s.heap.objs.size + 3) .none → IsPair g (s.heap.objs.size + 2) (.ref s.heap.objs.size) (.ref (s.heap.objs.size + 1)) → IsPair g (s.heap.objs.size + 3) .none .none →
   IsIt b1 g s.heap.objs.size l1 0 → IsIt b2 g (s.heap.objs.size + 1) l2 0 → (∀ c o,s.heap.get? c = some o → g.get? c = some o) → Q (.ref (s.heap.objs.size + 4)) { s with heap := g }) : wpAny (model P w) A (call (.type "zip") [.ref l1,.ref l2]) Q E s := by
 refine callType_new F.called_zip (by decide) (F.typeCall_zip_2 _ _) (F.newCall_zip_2 _ _) (fun obj => F.args_object_init_3 obj _ _) F.entry_zip_new (zip_made b1 b2 l1 l2 us vs) ⟨y1,y2,?_⟩
 have n1 : (zg1 s.heap b1 l1).objs.size = s.heap.objs.size + 1 := Heap.size_push ..
 have n2 : (zg2 s.heap b1 b2 l1 l2).objs.size = s.heap.objs.size + 2 := by rw [Heap.size_push,n1]
 have n3 : (zg3 s.heap b1 b2 l1 l2).objs.size = s.heap.objs.size + 3 := by rw [Heap.size_push,n2]
 have n4 : (zg4 s.heap b1 b2 l1 l2).objs.size = s.heap.objs.size + 4 := by rw [Heap.size_push,n3]
 have up := fun (g : Heap) (o : Obj) (c : Addr) (x : Obj) (e : g.get? c = some x) => Heap.get?_push_of_some (h := g) o e
 have p5 : (zg5 s.heap b1 b2 l1 l2).get? (zg4 s.heap b1 b2 l1 l2).objs.size = some _ := Heap.get?_push_size _ rfl
 have p4 : (zg5 s.heap b1 b2 l1 l2).get? (zg3 s.heap b1 b2 l1 l2).objs.size = some _ := up _ _ _ _ (Heap.get?_push_size _ rfl)
 have p3 : (zg5 s.heap b1 b2 l1 l2).get? (zg2 s.heap b1 b2 l1 l2).objs.size = some _ := up _ _ _ _ (up _ _ _ _ (Heap.get?_push_size _ rfl))
 have p2 : (zg5 s.heap b1 b2 l1 l2).get? (zg1 s.heap b1 l1).objs.size = some _ := up _ _ _ _ (up _ _ _ _ (up _ _ _ _ (Heap.get?_push_size _ rfl)))
 have p1 : (zg5 s.heap b1 b2 l1 l2).get? s.heap.objs.size = some _ := up _ _ _ _ (up _ _ _ _ (up _ _ _ _ (up _ _ _ _ (Heap.get?_push_size _ rfl))))
 show _ ∧ _
 rw [n2,n3,n4] at p5
 rw [n1,n2] at p3
 rw [n3] at p4
 rw [n1] at p2
 rw [n4]
 exact ⟨⟨_,p5,rfl⟩,q _ p5 p3 p4 (isIt_of p1) (isIt_of p2) fun c o x => up _ _ _ _ (up _ _ _ _ (up _ _ _ _ (up _ _ _ _ (up _ _ _ _ x))))⟩
def SqB (K : PySem.W.Frag) (H : Hp) : Bool → Addr → List V → Prop
 | false => SqL K H
 | true => SqT K H
theorem Inv.sqb {X : Cx} {pins : List (Addr × Obj)} {σ : St} {H : Hp} {s : Shared} {b : Bool} {a : Addr} {xs : List V} (I : Inv X pins σ H s) (h : SqB X.K H b a xs) : ∃ its : List Value,Vals xs its ∧ IsSq b s.heap a its.toArray ∧ xs.length ≤ sizeLine := by
 cases b
 ·obtain ⟨its,r,p,z⟩ := I.list h
  exact ⟨its,r,p.isList,z⟩
 ·obtain ⟨its,r,p,z⟩ := I.tuple h
  exact ⟨its,r,p,z⟩
theorem Inv.sqb_inj {X : Cx} {pins : List (Addr × Obj)} {σ : St} {H : Hp} {s : Shared} {b : Bool} {a : Addr} {xs ys : List V} (I : Inv X pins σ H s) (h : SqB X.K H b a xs) (h' : SqB X.K H b a ys) : xs = ys := by
 cases b
 ·exact I.list_inj h h'
 ·exact I.tuple_inj h h'
theorem IsIt.at {b : Bool} {g g' : Heap} {it l : Addr} {k : Nat} (h : IsIt b g it l k) (e : ∀ o,g.get? it = some o → g'.get? it = some o) : IsIt b g' it l k := by
 cases b
 ·exact Heap.IsListIter.at h e
 ·exact Heap.IsTupleIter.at h e
theorem IsIt.obj {b : Bool} {g : Heap} {it l : Addr} {k : Nat} (h : IsIt b g it l k) : ∃ o,g.get? it = some o ∧ ∀ v,o.data ≠ .cell v := by
 cases b <;> (obtain ⟨o,e,_,d⟩ := h; exact ⟨o,e,fun v z => by rw [d] at z; cases z⟩)
def Itg (K : PySem.W.Frag) (b1 b2 : Bool) (a b : Addr) : It :=
 ⟨fun i H => ∃ xs ys x y,SqB K H b1 a xs ∧ SqB K H b2 b ys ∧ xs[i]? = some x ∧ ys[i]? = some y,
  fun i H v H' => ∃ p x y,v = .ref p ∧ H p = none ∧ (∀ xs,SqB K H b1 a xs → xs[i]? = some x) ∧ (∀ ys,SqB K H b2 b ys → ys[i]? = some y) ∧ H' = upd H p (.tup [x,y]),
  fun i H => ∃ xs ys,SqB K H b1 a xs ∧ SqB K H b2 b ys ∧ (xs.length ≤ i ∨ ys.length ≤ i)⟩
theorem turn_zipG {P : Program} {w : World} {K : PySem.W.Frag} {es : List Expr} {x1} {tp : Pos} (b1 b2 : Bool) (a b z TI TO i1 i2 : Addr) (D : ZA z TI TO i1 i2 a b) :
 Turn P w K (.Tuple es x1 tp) (Itg K b1 b2 a b) [z,TI,TO,i1,i2] z (fun i h => IsZip h z TI TO .none ∧ IsPair h TI (.ref i1) (.ref i2) ∧ (∃ u v,IsPair h TO u v) ∧ IsIt b1 h i1 a i ∧ IsIt b2 h i2 b i) where
 mem := by simp
 obj := fun i h st c hc => by
  obtain ⟨s1,s2,⟨u,v,s3⟩,s4,s5⟩ := st
  simp only [List.mem_cons,List.not_mem_nil,or_false] at hc
  rcases hc with q | q | q | q | q
  ·subst q
   exact ⟨_,s1,fun v q => by
    have q' : Data.fields _ = Data.cell v := q
    cases q'⟩
  ·subst q
   exact ⟨_,s2,fun v q => by
    have q' : Data.seq _ _ = Data.cell v := q
    cases q'⟩
  ·subst q
   exact ⟨_,s3,fun v q => by
    have q' : Data.seq _ _ = Data.cell v := q
    cases q'⟩
  ·subst q; exact s4.obj
  ·subst q; exact s5.obj
 keep := fun i h h' st k => by
  obtain ⟨s1,s2,⟨u,v,s3⟩,s4,s5⟩ := st
  exact ⟨k z (by simp) _ s1,k TI (by simp) _ s2,⟨u,v,k TO (by simp) _ s3⟩,s4.at fun o q => k i1 (by simp) o q,s5.at fun o q => k i2 (by simp) o q⟩
 item := by
  intro X hP hw hK hc i pins s σ H E I hf st hg
  subst hP hw hK
  obtain ⟨xs,ys,x,y,hq,hq2,hx,hy⟩ := hg
  obtain ⟨s1,s2,⟨u0,v0,s3⟩,s4,s5⟩ := st
  obtain ⟨its,rv,p,_⟩ := I.sqb hq
  obtain ⟨its2,rv2,p2,_⟩ := I.sqb hq2
  obtain ⟨u,hu,ru⟩ := rv.get hx
  obtain ⟨v,hv,rv'⟩ := rv2.get hy
  obtain ⟨z0,z1,_,z3,z4,z5⟩ := hf z (by simp)
  obtain ⟨t0,t1,_,t3,t4,t5⟩ := hf TO (by simp)
  obtain ⟨f0,f1,_,f3,f4,f5⟩ := hf i1 (by simp)
  obtain ⟨g0,g1,_,g3,g4,g5⟩ := hf i2 (by simp)
  have hfp : H s.heap.objs.size = none := I.hok.fresh (Nat.le_refl _)
  have D' := D
  obtain ⟨⟨d1,d2,d3,d4,d5,d6⟩,⟨d7,d8,d9,d10,d11⟩,⟨d12,d13,d14,d15⟩,d16,d17,d18⟩ := D
  refine nextG_item D' (nx_of (b := b1) d14) (nx_of (b := b2) d18) s1 s2 s3 ⟨s4,p⟩ ⟨s5,p2⟩ (u := u) (v := v) (by simpa using hu) (by simpa using hv) fun h' e1 e2 e3 e4 e5 sz kk => ⟨_,rfl,?_⟩
  refine wpAny_letOwnedTupleGo_zip (s := { s with heap := h' }) e1 fun h2 e6 sb => ?_
  have zP : z ≠ s.heap.objs.size := Nat.ne_of_lt (Heap.lt_size s1)
  have tP : TO ≠ s.heap.objs.size := Nat.ne_of_lt (Heap.lt_size s3)
  have TP : TI ≠ s.heap.objs.size := Nat.ne_of_lt (Heap.lt_size s2)
  have iP : i1 ≠ s.heap.objs.size := by obtain ⟨o,q,_⟩ := s4.obj; exact Nat.ne_of_lt (Heap.lt_size q)
  have jP : i2 ≠ s.heap.objs.size := by obtain ⟨o,q,_⟩ := s5.obj; exact Nat.ne_of_lt (Heap.lt_size q)
  have nin : ∀ c o,c ∉ [z,TO,i1,i2] → s.heap.get? c = some o → h2.get? c = some o := fun c o hc q => by
   simp only [List.mem_cons,List.not_mem_nil,or_false,not_or] at hc
   exact (sb.2 c hc.1).trans (kk c o hc.1 hc.2.1 hc.2.2.1 hc.2.2.2 q)
  have tp2 : h2.get? s.heap.objs.size = some { cls := .type "tuple",data := .seq #[u,v] } := (sb.2 _ (Ne.symm zP)).trans e5
  have c1 : IsIt b1 h2 i1 a (i + 1) := e3.1.at fun o q => (sb.2 _ d3).trans q
  have c2 : IsIt b2 h2 i2 b (i + 1) := e4.1.at fun o q => (sb.2 _ d4).trans q
  have cTO : IsPair h2 TO u v := (sb.2 _ d2).trans e2
  have cTI : IsPair h2 TI (.ref i1) (.ref i2) := (sb.2 _ d1).trans (kk TI _ d1 d7 d12 d16 s2)
  refine ⟨.ref s.heap.objs.size,upd H s.heap.objs.size (.tup [x,y]),?_,rfl,⟨_,x,y,rfl,hfp,fun zs hz => by rw [I.sqb_inj hz hq]; exact hx,fun zs hz => by rw [I.sqb_inj hz hq2]; exact hy,rfl⟩,⟨e6,cTI,⟨u,v,cTO⟩,c1,c2⟩,fun c hc => ?_⟩
  ·show Inv X pins σ (upd H s.heap.objs.size (.tup [x,y])) { s with heap := h2,gens := s.gens,drawn := s.drawn,toks := s.toks }
   refine I.step (h' := h2) (t' := s.toks) (g' := s.gens) (d' := s.drawn) (ch := [z,TO,i1,i2]) (fun c hc => ?_) (fun c o _ _ hc q _ => nin c o hc q) (fun c o _ _ hc q _ => ⟨o.slots,nin c o hc q⟩) (fun c o hc q n => ?_) (fun c o hc q => ⟨o,nin c o hc q⟩)
    (fun c xs q => ?_) (fun c o' u' q => ?_) (fun c ps q => ?_) (fun m hm => ?_) (fun c o q => ?_) I.bare
   ·simp only [List.mem_cons,List.not_mem_nil,or_false] at hc
    rcases hc with q | q | q | q
    ·subst q; exact ⟨z3,z1,z4,z5⟩
    ·subst q; exact ⟨t3,t1,t4,t5⟩
    ·subst q; exact ⟨f3,f1,f4,f5⟩
    ·subst q; exact ⟨g3,g1,g4,g5⟩
   ·rw [upd_ne (Nat.ne_of_lt (Heap.lt_size q))]; exact n
   ·rw [upd_ne (Ah q hfp)]; exact q
   ·rw [upd_ne (Ah q hfp)]; exact q
   ·exact ⟨#[],by rw [upd_ne (Ah q hfp),q]; simp⟩
   ·obtain ⟨o,es',ep',ho,r⟩ := hm
    exact ⟨o,es',ep',nin _ o (by simp [Ne.symm z1,Ne.symm t1,Ne.symm f1,Ne.symm g1]) ho,r⟩
   ·by_cases hc : c = s.heap.objs.size
    ·subst hc
     rw [Ad] at q
     cases q
     refine ⟨by rw [sizeLine_eq]; simp,[u,v],.cons ru (.cons rv' .nil),?_⟩
     exact ⟨_,tp2,rfl,_,rfl⟩
    ·rw [upd_ne hc] at q
     refine (I.hok c o q).stay (fun d v hd r => nin d v (fun q2 => ?_) r) (fun d q2 => by rw [upd_ne (Ah q2 hfp)]; exact q2) fun d xs q2 => by rw [upd_ne (Ah q2 hfp)]; exact q2
     have hcn : H d ≠ none := by
      rcases hd with q3 | q3
      ·rw [q3,q]; simp
      ·rw [q3]; simp
     simp only [List.mem_cons,List.not_mem_nil,or_false] at q2
     rcases q2 with q3 | q3 | q3 | q3
     ·rw [q3,z0] at hcn; exact hcn rfl
     ·rw [q3,t0] at hcn; exact hcn rfl
     ·rw [q3,f0] at hcn; exact hcn rfl
     ·rw [q3,g0] at hcn; exact hcn rfl
  ·obtain ⟨w0,_⟩ := hf c hc
   simp only [List.mem_cons,List.not_mem_nil,or_false] at hc
   rcases hc with q | q | q | q | q
   ·subst q; rw [upd_ne zP]; exact z0
   ·rw [upd_ne (by rw [q]; exact TP)]; exact w0
   ·subst q; rw [upd_ne tP]; exact t0
   ·subst q; rw [upd_ne iP]; exact f0
   ·subst q; rw [upd_ne jP]; exact g0
 done := by
  intro X hP hw hK hc i pins s σ H E I hf st hg
  subst hP hw hK
  obtain ⟨xs,ys,hq,hq2,hx⟩ := hg
  obtain ⟨s1,s2,⟨u0,v0,s3⟩,s4,s5⟩ := st
  obtain ⟨its,rv,p,_⟩ := I.sqb hq
  obtain ⟨its2,rv2,p2,_⟩ := I.sqb hq2
  obtain ⟨z0,z1,_,z3,z4,z5⟩ := hf z (by simp)
  obtain ⟨t0,t1,_,t3,t4,t5⟩ := hf TO (by simp)
  obtain ⟨f0,f1,_,f3,f4,f5⟩ := hf i1 (by simp)
  obtain ⟨g0,g1,_,g3,g4,g5⟩ := hf i2 (by simp)
  have hl := rv.length
  have hl2 := rv2.length
  refine nextG_end (I.ok.hd hc) D (nx_of (b := b1) D.c.2.2.1) (nx_of (b := b2) D.d.2.2) s1 s2 s3 ⟨s4,p⟩ ⟨s5,p2⟩ (by
   rcases hx with h | h
   ·left; simp; omega
   ·right; simp; omega) fun h' eb => ⟨rfl,?_⟩
  have nin : ∀ c o,c ∉ [z,TO,i1,i2] → s.heap.get? c = some o → h'.get? c = some o := fun c o hc q => by
   simp only [List.mem_cons,List.not_mem_nil,or_false,not_or] at hc
   exact eb c o hc.1 hc.2.1 hc.2.2.1 hc.2.2.2 q
  show Inv X pins σ H { s with heap := h',gens := s.gens,drawn := s.drawn,toks := s.toks }
  refine I.step (h' := h') (t' := s.toks) (g' := s.gens) (d' := s.drawn) (ch := [z,TO,i1,i2]) (fun c hc => ?_) (fun c o _ _ hc q _ => nin c o hc q) (fun c o _ _ hc q _ => ⟨o.slots,nin c o hc q⟩) (fun c o hc q n => n) (fun c o hc q => ⟨o,nin c o hc q⟩)
   (fun c xs q => q) (fun c o' u' q => q) (fun c ps q => ⟨#[],by rw [q]; simp⟩) (fun m hm => ?_) (fun c o q => ?_) I.bare
  ·simp only [List.mem_cons,List.not_mem_nil,or_false] at hc
   rcases hc with q | q | q | q
   ·subst q; exact ⟨z3,z1,z4,z5⟩
   ·subst q; exact ⟨t3,t1,t4,t5⟩
   ·subst q; exact ⟨f3,f1,f4,f5⟩
   ·subst q; exact ⟨g3,g1,g4,g5⟩
  ·obtain ⟨o,es',ep',ho,r⟩ := hm
   exact ⟨o,es',ep',nin _ o (by simp [Ne.symm z1,Ne.symm t1,Ne.symm f1,Ne.symm g1]) ho,r⟩
  ·refine (I.hok c o q).stay (fun d v hd r => nin d v (fun q2 => ?_) r) (fun d q2 => q2) fun d xs q2 => q2
   have hcn : H d ≠ none := by
    rcases hd with q3 | q3
    ·rw [q3,q]; simp
    ·rw [q3]; simp
   simp only [List.mem_cons,List.not_mem_nil,or_false] at q2
   rcases q2 with q3 | q3 | q3 | q3
   ·rw [q3,z0] at hcn; exact hcn rfl
   ·rw [q3,t0] at hcn; exact hcn rfl
   ·rw [q3,f0] at hcn; exact hcn rfl
   ·rw [q3,g0] at hcn; exact hcn rfl
 self := fun A i s Q E st h => wpAny_pyIter_zip st.1 h
theorem bootZipG : bootBuiltins "zip" = some (.type "zip") := by decide +kernel
theorem za_new {n a b : Nat} (ha : a < n) (hb : b < n) : ZA (n + 4) (n + 2) (n + 3) n (n + 1) a b :=
 have e : ∀ {x y : Nat},x < y → x ≠ y := fun h => Nat.ne_of_lt h
 have e' : ∀ {x y : Nat},y < x → x ≠ y := fun h => Nat.ne_of_gt h
 ⟨⟨e (by omega),e (by omega),e (by omega),e (by omega),e (by omega),e (by omega)⟩,⟨e (by omega),e (by omega),e (by omega),e (by omega),e (by omega)⟩,⟨e' (by omega),e' (by omega),e (by omega),e (by omega)⟩,e' (by omega),e (by omega),e (by omega)⟩
def iZipG (K : PySem.W.Frag) (t : TA) : TI := fun σ H R => t σ H fun vs H1 => ∃ b1 b2 a b,vs = [.ref a,.ref b] ∧ (∃ xs,SqB K H1 b1 a xs) ∧ (∃ ys,SqB K H1 b2 b ys) ∧ R (Itg K b1 b2 a b) H1
section
variable {X : Cx}
theorem pi_zipG {a b : Expr} {ta : TA} {p pos : Pos} {es : List Expr} {x1} {tp : Pos} (hg : Gl X "zip") (hm : X.mg "zip" = none) (ha : PA X [a,b] ta) (hs : starEach [a,b] X.env = [(false,eval a X.env),(false,eval b X.env)] := by rfl) (hs2 : starEach [b] X.env = [(false,eval b X.env)] := by rfl) :
 PI X (.Tuple es x1 tp) (.Call (.Name "zip" p) [a,b] [] pos) (iZipG X.K ta) := by
 intro pins s σ H R I h
 refine Call_ (ld_blt I hg hm bootZipG (PyProof.Rows.callWith_type1 (thn (ha pos pins s σ H _ I h) fun us s1 ⟨vs,H1,I1,r1,q1⟩ => ?_) (by rw [hs,hs2]) (by rw [hs2]; rfl)))
 obtain ⟨b1,b2,l,m,e,⟨xs,hq⟩,⟨ys,hq2⟩,q⟩ := q1
 subst e
 obtain ⟨u,v,rfl,ru,rv0⟩ := vals2 r1
 obtain rfl : u = Value.ref l := ru
 obtain rfl : v = Value.ref m := rv0
 obtain ⟨its,rv,pl,_⟩ := I1.sqb hq
 obtain ⟨its2,rv2,pl2,_⟩ := I1.sqb hq2
 refine call_zipG pl pl2 fun h' e1 e2 e3 e4 e5 hk => ?_
 refine wpAny_pyIter_zip (s := { s1 with heap := h' }) e1 ?_
 refine ⟨s1.heap.objs.size + 4,[s1.heap.objs.size + 4,s1.heap.objs.size + 2,s1.heap.objs.size + 3,s1.heap.objs.size,s1.heap.objs.size + 1],_,_,H1,rfl,I1.kept (t' := s1.toks) hk,turn_zipG b1 b2 l m _ _ _ _ _ (za_new pl.lt pl2.lt),⟨e1,e2,⟨_,_,e3⟩,e4,e5⟩,fun c hc => ?_,q⟩
 simp only [List.mem_cons,List.not_mem_nil,or_false] at hc
 have le : s1.heap.objs.size ≤ c := by rcases hc with z | z | z | z | z <;> (rw [z]; first | exact Nat.le_refl _ | exact Nat.le_add_right _ _)
 exact I1.fpOk le (I1.hok.fresh le)
end
theorem comp_zipG {k : Nat} {js : List Nat} {g : TG} {tc : TT} {te : TE} {σ : St} {fin : List V → Hp → Prop} {H : Hp} {K : PySem.W.Frag} {b1 b2 : Bool} {a b : Addr} {xs ys : List V} (Pv : Nat → List V → Hp → Prop) (h0 : Pv 0 [] H) (hn : xs.length ≤ sizeLine) (hxy : xs.length = ys.length) (hl : ∀ i us H,Pv i us H → us.length ≤ i)
 (hq : ∀ i us H,i ≤ xs.length → Pv i us H → SqB K H b1 a xs ∧ SqB K H b2 b ys)
 (hs : ∀ i x y p us H,xs[i]? = some x → ys[i]? = some y → Pv i us H → H p = none → g (.ref p) (sigC k js σ) (upd H p (.tup [x,y])) fun σ2 H3 => tc σ2 H3 fun c H4 => if c = true then te σ2 H4 fun u H5 => Pv (i + 1) (us ++ [u]) H5 else Pv (i + 1) us H4)
 (hd : ∀ us H,Pv xs.length us H → fin us H) : compW k js g tc te σ (Itg K b1 b2 a b) H fin := by
 refine ⟨fun i m us H => m = xs.length - i ∧ i ≤ xs.length ∧ Pv i us H,⟨xs.length,by simp,Nat.zero_le _,h0⟩,?_⟩
 rintro i m us H ⟨rfl,hi,p⟩
 have hy := hl i us H p
 obtain ⟨q1,q2⟩ := hq i us H hi p
 by_cases hlt : i < xs.length
 ·have hlt2 : i < ys.length := by omega
  refine .inr ⟨⟨xs,ys,xs[i],ys[i],q1,q2,by simp [hlt],by simp [hlt2]⟩,by omega,Pv (i + 1),fun us' H' p' => ⟨xs.length - (i + 1),by omega,rfl,hlt,p'⟩,fun v H' y => ?_⟩
  obtain ⟨c,x,y,rfl,hn,ex,ey,rfl⟩ := y
  exact hs i x y c us _ (ex xs q1) (ey ys q2) p hn
 ·have e : i = xs.length := by omega
  subst e
  exact .inl ⟨⟨xs,ys,q1,q2,.inl (Nat.le_refl _)⟩,by omega,hd us H p⟩
section
variable {X : Cx} {k : Nat} {f C : Addr} {fd : FuncData} {ps : List Str} {sp : Sp} {dvs : List V} {ds : List Value} {E : XK} {x m : Str} {p pos apos : Pos} {e : Expr} {es : List Expr} {t : TA} {RX : St → Addr → Hp → Prop}
end
section
variable {P : Program} {w : World} {K : PySem.W.Frag} {mg : Str → Option Value} {base : Heap}
end
end L2
namespace PySem
open Sem (wp)
open Builtin
end PySem
namespace L2
open PySem PySem.Spec PyProof.Rows
section
variable {P : Program} {w : World} {K : PySem.W.Frag} {mg : Str → Option Value} {base : Heap}
end
theorem op_eqNil {X : Cx} (hu : X.A.units < cLine) : OpR X (compareOp .Eq) (fun x y H Q => ∃ a b xs,x = .ref a ∧ y = .ref b ∧ SqL X.K H a xs ∧ SqL X.K H b [] ∧ Q (.bl xs.isEmpty) H) := by
 intro pins s σ H x y v u Q I rx ry h
 obtain ⟨a,b,xs,rfl,rfl,ha,hb,q⟩ := h
 cases rx
 cases ry
 obtain ⟨its,rv,pl,_⟩ := I.list ha
 obtain ⟨its',rv',pl',_⟩ := I.list hb
 have l1 := rv.length
 cases rv'
 cases xs with
 | nil =>
   cases rv
   exact SeqAt.RcAt.lists (e := fun _ => true) pl.isList pl'.isList rfl hu (fun j h1 h2 => absurd h2 (by simp)) _ _ _ _ (Bc I q (by simp))
 | cons x r => exact SeqAt.RcAt.lists_lengths pl.isList pl'.isList (by simp at l1; simp [← l1]) hu _ _ _ _ (Bc I q (by simp))
theorem call_lenK {X : Cx} (K : PySem.W.Frag) (hK : X.K = K) : CallR X (.builtin "len") (fun xs H Q => ∃ x n,xs = [x] ∧ LenV K x H n ∧ Q (.int n) H) := by
 subst hK
 exact A4
section
variable {X : Cx} {pins : List (Addr × Obj)} {σ : St} {H : Hp} {s : Shared}
end
section
variable {X : Cx}
end
structure RawD (h : Heap) (d : Addr) (ob : Obj) (es : Array DictEntry) (ep : Nat) : Prop where
 get : h.get? d = some ob
 exa : ob.ExactDict
 dat : ob.data = .dict es ep
theorem RawD.at {h h' : Heap} {d : Addr} {ob : Obj} {es : Array DictEntry} {ep : Nat} (r : RawD h d ob es ep) (k : ∀ o,h.get? d = some o → h'.get? d = some o) : RawD h' d ob es ep := ⟨k _ r.get,r.exa,r.dat⟩
section
variable {P : Program} {w : World} {A : Around} {E : Value → Shared → Prop} {s : Shared} {it d : Addr} {ob : Obj} {es : Array DictEntry} {ep i : Nat}
theorem RawD.typeIs (r : RawD s.heap d ob es ep) : s.TypeIs (.ref d) "dict" := ⟨ob,r.get,r.exa.1⟩
theorem iter_raw {Q : Value → Shared → Prop} (hd : (d == sysModules) = false) (r : RawD s.heap d ob es ep) (q : Q (.ref s.heap.objs.size) { s with heap := s.heap.push { cls := .type "dict_keyiterator",data := .fields #[.ref d,.int 0 0,.int es.size 0,.int ep 0] } }) :
 wpAny (model P w) A (pyIter (.ref d)) Q E s := by
 have ty := r.typeIs
 refine wpAny_pyIter_slot ty F.slot_dict_iter (wpAny_call_entry F.slot_dict_iter ty F.entry_dict_iter ?_ (F.args_dict_iter_1 _))
 unfold Builtin.«dict.__iter__»; refine wpAny_bind ?_
 unfold Builtin.Dict.dictSlotNone; refine wpAny_bind (wpAny_notOrdered_dict ty ?_)
 show wpAny _ _ (pure (Value.ref d)) _ _ s; refine wpAny_pure ?_
 show wpAny _ _ (Builtin.Dict.showsAll d >>= _) _ _ s; unfold Builtin.Dict.showsAll
 rw [if_neg (by rw [hd]; exact Bool.false_ne_true)]; refine wpAny_bind (wpAny_pure ?_)
 refine wpAny_bind (wpAny_dictEntries r.get r.dat (wpAny_bind (wpAny_dictEpoch r.get r.dat ?_)))
 refine wpAny_bind (wpAny_newObj_type (wpAny_pure ⟨_,rfl,"dict_keyiterator",_,⟨_,Heap.get?_push_size _ rfl,rfl⟩,F.slot_dict_keyiterator_next.lookup,?_⟩)); simpa [rawInt] using q
theorem next_raw_item {Q : Option Value → Shared → Prop} (hit : s.heap.IsKeyIter it d i es.size ep) (r : RawD s.heap d ob es ep) (hi : i < es.size)
 (q : ∀ g,g.IsKeyIter it d (i + 1) es.size ep → Heap.SameBut it s.heap g → Q (some es[i].key) { s with heap := g }) : wpAny (model P w) A (pyNext (.ref it)) Q E s := by
 obtain ⟨oi,ei,ci,di⟩ := id hit
 have ty := hit.typeIs
 unfold pyNext
 refine wpAny_bind (wpAny_attempt (wpAny_callSpecial?_slot (name := Str.ofString "__next__") ty F.slot_dict_keyiterator_next (wpAny_call_entry F.slot_dict_keyiterator_next ty F.entry_dict_keyiterator_next ?_ (F.args_dict_keyiterator_next_1 _))))
 refine wpAny_bind (wpAny_pure (wpAny_bind (wpAny_bind ?_)))
 first | refine wpAny_bind (wpAny_typeNameOfWhole_keyiter ty (wpAny_pure ?_)) | refine wpAny_bind (wpAny_typeNameOf_keyiter ty (wpAny_pure ?_))
 refine wpAny_bind (wpAny_fieldsOf ei di ?_)
 simp only [show Builtin.Dict_items.ownsTuple "dict_keyiterator" = false from by decide,Bool.false_eq_true,if_false]
 show wpAny _ _ (if (Value.ref d == Value.none) = true then _ else _) _ _ s
 rw [if_neg (fun z => by cases z)]; refine wpAny_bind (wpAny_pure (wpAny_bind (wpAny_dictEntries r.get r.dat ?_)))
 rw [if_neg (by simp)]; refine wpAny_bind (wpAny_pure (wpAny_bind (wpAny_dictEpoch r.get r.dat ?_)))
 rw [if_neg (by simp)]; refine wpAny_pure ?_
 simp only [show ¬ ((i : Int) < 0) from by omega,if_false,Int.toNat_natCast,Array.getElem?_eq_getElem hi]; refine wpAny_bind ?_
 first | refine wpAny_bind (wpAny_typeNameOfWhole_keyiter ty (wpAny_pure ?_)) | refine wpAny_bind (wpAny_typeNameOf_keyiter ty (wpAny_pure ?_))
 refine wpAny_bind (wpAny_isOneOf_keyiter ty ?_)
 show wpAny _ _ (setField (.ref it) 1 (rawInt ((i : Int) + 1)) >>= _) _ _ s; refine wpAny_bind (wpAny_setField ei di (by simp) ?_)
 have hit' : (s.heap.update it (Obj.mapFields (·.setIfInBounds 1 (rawInt ((i : Int) + 1))))).IsKeyIter it d (i + 1) es.size ep := ⟨_,Heap.get?_update_self _ ei (Obj.isFreed_of_fields (Obj.data_mapFields di _)),(Obj.cls_mapFields ..).trans ci,by rw [Obj.data_mapFields di]; simp [rawInt]⟩
 refine wpAny_bind (wpAny_holding (wpAny_bind (wpAny_isOneOf_keyiter (s := { s with heap := s.heap.update it (Obj.mapFields (·.setIfInBounds 1 (rawInt ((i : Int) + 1)))) }) hit'.typeIs ?_)))
 show wpAny _ _ (pure es[i].key) _ _ _
 exact wpAny_pure (wpAny_pure ⟨_,rfl,wpAny_pure (q _ hit' (Heap.SameBut.update ..))⟩)
theorem next_raw_end {Q : Option Value → Shared → Prop} (hh : A.handled = none) (hit : s.heap.IsKeyIter it d i es.size ep) (r : RawD s.heap d ob es ep) (hi : es.size ≤ i) (q : ∀ g,Heap.ExtBut it s.heap g → Q none { s with heap := g }) : wpAny (model P w) A (pyNext (.ref it)) Q E s := by
 obtain ⟨oi,ei,ci,di⟩ := id hit
 have ty := hit.typeIs
 unfold pyNext
 refine wpAny_bind (wpAny_attempt (wpAny_callSpecial?_slot (name := Str.ofString "__next__") ty F.slot_dict_keyiterator_next (wpAny_call_entry F.slot_dict_keyiterator_next ty F.entry_dict_keyiterator_next ?_ (F.args_dict_keyiterator_next_1 _))))
 refine wpAny_bind (wpAny_pure (wpAny_bind (wpAny_bind ?_)))
 first | refine wpAny_bind (wpAny_typeNameOfWhole_keyiter ty (wpAny_pure ?_)) | refine wpAny_bind (wpAny_typeNameOf_keyiter ty (wpAny_pure ?_))
 refine wpAny_bind (wpAny_fieldsOf ei di ?_)
 simp only [show Builtin.Dict_items.ownsTuple "dict_keyiterator" = false from by decide,Bool.false_eq_true,if_false]
 show wpAny _ _ (if (Value.ref d == Value.none) = true then _ else _) _ _ s
 rw [if_neg (fun z => by cases z)]; refine wpAny_bind (wpAny_pure (wpAny_bind (wpAny_dictEntries r.get r.dat ?_)))
 rw [if_neg (by simp)]; refine wpAny_bind (wpAny_pure (wpAny_bind (wpAny_dictEpoch r.get r.dat ?_)))
 rw [if_neg (by simp)]; refine wpAny_pure ?_
 simp only [show ¬ ((i : Int) < 0) from by omega,if_false,Int.toNat_natCast,Array.getElem?_eq_none hi]; refine wpAny_bind ?_
 first | refine wpAny_bind (wpAny_typeNameOfWhole_keyiter ty (wpAny_pure ?_)) | refine wpAny_bind (wpAny_typeNameOf_keyiter ty (wpAny_pure ?_))
 show wpAny _ _ (setField (.ref it) 0 .none >>= _) _ _ s; refine wpAny_bind (wpAny_setField ei di (by simp) ?_)
 show wpAny _ _ (newExc (.type "StopIteration") [] >>= _) _ _ _
 refine wpAny_bind ?_
 simp only [newExc,newTuple]
 refine wpAny_bind (wpAny_newObj_type ?_ (by size_fits)); refine wpAny_bind (m := firstArgMember _ _) (wpAny_of_eq (a := Value.none) (by first | rfl | (simp only [firstArgMember]; rfl)) ?_)
 refine wpAny_newObj_type ?_ (by size_fits); simp only [raiseNew]
 refine wpAny_bind (wpAny_handled ?_)
 first | rw [show A.in1.handled = none from hh] | rw [hh]
 refine wpAny_bind (wpAny_pure (wpAny_throw ?_))
 exact wpAny_bind (wpAny_isInstance (T := "StopIteration") (b := true) ⟨_,Heap.get?_push_size _ rfl,rfl⟩ isSubtype_stop (wpAny_pure (q _ (((Heap.SameBut.update ..).extBut.push _).push _))))
theorem walks_raw (hh : A.handled = none) (I : Addr) (hne : d ≠ I) : Walks P w A I [I,d] [I] es.size (fun i v => ∃ e,es[i]? = some e ∧ v = e.key) (fun i h => h.IsKeyIter I d i es.size ep ∧ RawD h d ob es ep) where
 sub := fun b hb => by
  rw [List.mem_singleton] at hb
  rw [hb]; exact List.mem_cons_self
 frame := fun i h h' st hk => ⟨st.1.at fun o e => hk I List.mem_cons_self o e,st.2.at fun o e => hk d (List.mem_cons_of_mem _ List.mem_cons_self) o e⟩
 item := fun i s Q E hi st q => next_raw_item st.1 st.2 hi fun g h1 sb => q _ g s.toks ⟨_,Array.getElem?_eq_getElem hi,rfl⟩ ⟨h1,st.2.at fun o e => sb.extBut _ _ hne e⟩ fun b o hb e => sb.extBut b o (fun z => hb (by rw [z]; exact List.mem_singleton.mpr rfl)) e
 done := fun s Q E st q => next_raw_end hh st.1 st.2 (Nat.le_refl _) fun g eb => q g s.toks fun b o hb e => eb b o (fun z => hb (by rw [z]; exact List.mem_singleton.mpr rfl)) e
 self := fun A s Q E st q => wpAny_pyIter_keyiter st.1 q
theorem src_raw (lo : (d == sysModules) = false) : PySem.W.KdlSrc P w "dict" d d es.size (fun i v => ∃ e,es[i]? = some e ∧ v = e.key) (fun h => RawD h d ob es ep) where
 type := fun s r => r.typeIs
 there := fun h r => ⟨Heap.lt_size r.get,Heap.lt_size r.get⟩
 keep := fun h h' r hk => r.at fun o e => hk d (.inl rfl) o e
 notList := by decide
 notTuple := by decide
 hint := fun A E s Q r q => PySem.W.kdl_hint_dict r.typeIs q
 iter := fun A s hh r => ⟨_,_,(fun E Q q => iter_raw lo r q),walks_raw hh _ (Nat.ne_of_lt (Heap.lt_size r.get)),⟨⟨_,Heap.get?_push_size _ rfl,rfl,rfl⟩,r.at fun o e => Heap.get?_push_of_some _ e⟩⟩
end
section
variable {X : Cx} {pins : List (Addr × Obj)} {σ : St} {H : Hp} {s : Shared} {a : Addr} {kvs : List (List Key × V)}
theorem Inv.freezeT (I : Inv X pins σ H s) (e : H a = some (.dT kvs)) : ∃ ob,Inv X pins σ (upd H a (.frz ob (.dT kvs))) s := by
 have ok := (show Cq X.prog X.w H s.heap a (.dT kvs) from I.hok a _ e)
 obtain ⟨z,y,xs,r,ob,es,ep,h1,h2,h3,h4,h5⟩ := id ok
 have ne : ∀ {b : Addr} {o : HO},H b = some o → o ≠ .dT kvs → b ≠ a := fun q n => ne_of q e n
 refine ⟨ob,?_⟩
 show Inv X pins σ (upd H a (.frz ob (.dT kvs))) { s with heap := s.heap,gens := s.gens,drawn := s.drawn,toks := s.toks }
 refine I.step (h' := s.heap) (t' := s.toks) (g' := s.gens) (d' := s.drawn) (ch := []) (fun b hb => by cases hb) (fun b o _ _ _ q _ => q) (fun b o _ _ _ q _ => ⟨o.slots,q⟩) (fun b o _ q n => ?_) (fun b o _ q => ⟨o,q⟩)
  (fun b xs q => ?_) (fun b o u q => ?_) (fun b ps q => ?_) (fun m hm => hm) (fun b o q => ?_) I.bare
 ·rw [upd_ne (fun z => by subst z; rw [e] at n; cases n)]; exact n
 ·rw [upd_ne (ne q (by intro z; cases z))]; exact q
 ·rw [upd_ne (ne q (by intro z; cases z))]; exact q
 ·exact ⟨#[],by rw [upd_ne (ne q (by intro z; cases z)),q]; simp⟩
 ·have own : ∀ c x,H c = some (.own x) → upd H a (.frz ob (.dT kvs)) c = some (.own x) := fun c x q => by rw [upd_ne (ne q (by intro z; cases z))]; exact q
  have tup : ∀ c ys,H c = some (.tup ys) → upd H a (.frz ob (.dT kvs)) c = some (.tup ys) := fun c x q => by rw [upd_ne (ne q (by intro z; cases z))]; exact q
  by_cases hb : b = a
  ·subst hb
   rw [Ad] at q
   cases q
   exact ⟨h1,ok.stay (fun _ _ _ q => q) (fun c q => own c _ q) tup⟩
  ·rw [upd_ne hb] at q
   exact (I.hok b o q).stay (fun _ _ _ q => q) (fun c q => own c _ q) tup
theorem Inv.rawT {ob : Obj} (I : Inv X pins σ H s) (e : H a = some (.frz ob (.dT kvs))) : (a == sysModules) = false ∧ kvs.length ≤ sizeLine ∧ ∃ es ep xs,RawD s.heap a ob es ep ∧ KT H kvs xs ∧ es.toList = xs.map (entryOfKey (tupleKind (Cg X.prog X.w))) := by
 obtain ⟨h0,z,y,xs,r,ob',es,ep,h1,h2,h3,h4,h5⟩ := (show Cq X.prog X.w H s.heap a (.frz ob (.dT kvs)) from I.hok a _ e)
 rw [h0] at h1
 cases h1
 exact ⟨y,z,es,ep,xs,⟨h0,h2,h3⟩,r,h4⟩
end
def KeysAt (H : Hp) (kvs : List (List Key × V)) (ps : List Addr) : Prop := ps.length = kvs.length ∧ ∀ (i : Nat) (p : Addr) (k : List Key) (v : V),ps[i]? = some p → kvs[i]? = some (k,v) → H p = some (.tup (k.map kV))
theorem kt_get {H : Hp} : ∀ {kvs : List (List Key × V)} {xs : List (List Key × Addr × Value)},KT H kvs xs → kvs.length = xs.length ∧ ∀ (i : Nat) (k : List Key) (v : V),kvs[i]? = some (k,v) → ∃ a u,xs[i]? = some (k,a,u) ∧ H a = some (.tup (k.map kV))
 | _,_,.nil => ⟨rfl,fun i k v h => by simp at h⟩
 | p :: ps,q :: qs,.cons h t => by
   obtain ⟨e,f⟩ := kt_get t
   refine ⟨by simp [e],fun i k v hi => ?_⟩
   cases i with
   | zero =>
     simp only [List.getElem?_cons_zero,Option.some.injEq] at hi
     subst hi
     obtain ⟨k',a,u⟩ := q
     obtain ⟨h1,h2,h3⟩ := h
     cases h1
     exact ⟨a,u,rfl,h2⟩
   | succ n =>
     simp only [List.getElem?_cons_succ] at hi ⊢
     exact f n k v hi
def sRetF (te : TE) : TS := fun D σ H => te σ H fun v H1 => ∃ a kvs,v = .ref a ∧ H1 a = some (.dT kvs) ∧ ∀ ob,D.rt v (upd H1 a (.frz ob (.dT kvs)))
section
variable {X : Cx}
theorem ps_retF {e : Expr} {pos : Pos} {te : TE} (he : PE X e te) : PS X (.Return (some e) pos) (sRetF te) := by
 intro pins s σ H D I h
 refine wpAny_Return_some (thn (he pins s σ H _ I h) fun v s1 ⟨x,H1,I1,r1,a,kvs,ex,e1,q1⟩ => ?_)
 obtain ⟨ob,I2⟩ := I1.freezeT e1
 exact ⟨x,σ,_,I2,r1,q1 ob⟩
theorem call_list_dT (hh : X.A.handled = none) : CallR X (.type "list") (fun xs H Q => ∃ a ob kvs,xs = [.ref a] ∧ H a = some (.frz ob (.dT kvs)) ∧ ∀ (ps : List Addr) (l : Addr),KeysAt H kvs ps → H l = none → Q (.ref l) (upd H l (.lst (ps.map V.ref)))) := by
 intro pins s σ H xs us Q I r h
 obtain ⟨a,ob,kvs,rfl,ea,q⟩ := h
 obtain ⟨u,rfl,ru⟩ := vals1 r
 cases ru
 obtain ⟨y,z,es,ep,ys,rd,kt,e4⟩ := I.rawT ea
 obtain ⟨le,ge⟩ := kt_get kt
 have sz : es.size = kvs.length := by rw [← Array.length_toList,e4,List.length_map,le]
 refine PySem.W.kdl_call (src_raw y) hh rd (by rw [sz]; exact z) fun h' tk acc' c' hk hD hacc => ?_
 have hfp : H s.heap.objs.size = none := I.hok.fresh (Nat.le_refl _)
 have key : ∀ (i : Nat) (x : List Key × Addr × Value),ys[i]? = some x → acc'[i]? = some (.ref x.2.1) := fun i x hx => by
  have hi : i < acc'.size := by
   rw [hacc.1,sz,le]
   exact (List.getElem?_eq_some_iff.mp hx).1
  obtain ⟨e,h1,h2⟩ := hacc.2 i acc'[i] (by simp [hi])
  have h3 : es[i]? = some (entryOfKey (tupleKind (Cg X.prog X.w)) x) := by rw [← Array.getElem?_toList,e4,List.getElem?_map,hx]; rfl
  rw [h3] at h1
  cases h1
  rw [Array.getElem?_eq_getElem hi,h2]
  rfl
 have accs : acc'.toList = (ys.map (·.2.1)).map Value.ref := by
  refine List.ext_getElem? fun i => ?_
  rw [Array.getElem?_toList,List.getElem?_map,List.getElem?_map]
  cases hx : ys[i]? with
  | none =>
    have : acc'.size ≤ i := by
     rw [hacc.1,sz,le]
     exact List.getElem?_eq_none_iff.mp hx
    rw [Array.getElem?_eq_none this]; rfl
  | some x => rw [key i x hx]; rfl
 refine ⟨.ref s.heap.objs.size,upd H s.heap.objs.size (.lst ((ys.map (·.2.1)).map V.ref)),?_,rfl,q (ys.map (·.2.1)) _ ⟨by rw [List.length_map,le],fun i p k v h1 h2 => ?_⟩ hfp⟩
 ·refine I.laid (t' := tk) (o := .lst ((ys.map (·.2.1)).map V.ref)) hk (Nat.le_refl _) ⟨by rw [List.length_map,List.length_map,← le]; exact z,acc'.toList,c',?_,by rw [Array.toArray_toList]; exact hD⟩
  rw [accs]
  generalize ys.map (·.2.1) = zs
  induction zs with
  | nil => exact .nil
  | cons x r ih => exact .cons rfl ih
 ·obtain ⟨b,u,h3,h4⟩ := ge i k v h2
  rw [List.getElem?_map,h3] at h1
  cases h1
  exact h4
end
section
variable {X : Cx}
end
end L2
namespace PySem
namespace SeqAt
open AutoSeq1 (wpAny_loadPart')
open PySem.Spec PyProof.Rows
end SeqAt
end PySem
namespace L2
open PySem PySem.Spec PyProof.Rows
def eqI (y v : V) : Bool := if flatV v then eqV y v else false
def eqT (w : Str) (n : Int) : List V → Bool
 | [x,y] => eqI (.str w) x && eqI (.int n) y
 | _ => false
section
variable {X : Cx} {pins : List (Addr × Obj)} {σ : St} {H : Hp} {s : Shared}
end
section
variable {X : Cx}
theorem B9 (a b : Str) : (a ++ b).length = a.length + b.length := by
 show (a.cps ++ b.cps).size = _
 rw [Array.size_append]
 rfl
theorem empty_app (z : Str) : Str.empty ++ z = z := by
 show (⟨#[] ++ z.cps⟩ : Str) = z
 rw [Array.empty_append]
def tF1 (ta : TE) (y : Str) : TE := fun σ H Q => y.length ≤ sizeLine ∧ ta σ H fun x H1 => ∃ z,x = .str z ∧ (y ++ z).length ≤ sizeLine ∧ Q (.str (y ++ z)) H1
theorem pe_f1 {a : Expr} {ta : TE} {y : Str} {k : Nat} {p1 p2 pos : Pos} (ha : PE X a ta) : PE X (.JoinedStr [.Constant (.str y) k p1,.FormattedValue a (-1) none p2] pos) (tF1 ta y) := by
 intro pins s σ H Q I ⟨hy,h⟩
 refine wpAny_JoinedStr ?_
 show wpAny _ _ (eval (.Constant (.str y) k p1) X.env) _ _ _
 refine Calls.Constant_str ⟨y,_,rfl,by rw [empty_app]; exact hy,?_⟩
 rw [empty_app]
 show wpAny _ _ (eval (.FormattedValue a (-1) none p2) X.env) _ _ _
 refine wpAny_FormattedValue_plain (thn (ha pins _ σ H _ (I.tok _) h) fun u s1 ⟨x,H1,I1,rx,z,ex,hz,q⟩ => ?_)
 subst ex
 obtain ⟨t,rfl⟩ := rx
 refine formatField_str (fun t' tk => ⟨z,t',rfl,hz,?_⟩) (by rw [B9] at hz; omega)
 exact ⟨hz,⟨.str _,H1,(I1.tok _).tok _,⟨_,rfl⟩,q⟩⟩
def tF4 (ta tb : TE) (y z : Str) : TE := fun σ H Q => y.length ≤ sizeLine ∧ ta σ H fun v H1 => ∃ n,v = .int n ∧ n.natAbs.log2 < 1920 ∧ (y ++ Str.ofString (toString n) ++ z).length ≤ sizeLine ∧ tb σ H1 fun v2 H2 => ∃ m,v2 = .int m ∧ m.natAbs.log2 < 1920 ∧
 (y ++ Str.ofString (toString n) ++ z ++ Str.ofString (toString m)).length ≤ sizeLine ∧ Q (.str (y ++ Str.ofString (toString n) ++ z ++ Str.ofString (toString m))) H2
theorem pe_f4 {a b : Expr} {ta tb : TE} {y z : Str} {k1 k2 : Nat} {p1 p2 p3 p4 pos : Pos} (ha : PE X a ta) (hb : PE X b tb) : PE X (.JoinedStr [.Constant (.str y) k1 p1,.FormattedValue a (-1) none p2,.Constant (.str z) k2 p3,.FormattedValue b (-1) none p4] pos) (tF4 ta tb y z) := by
 intro pins s σ H Q I ⟨hy,h⟩
 refine wpAny_JoinedStr ?_
 show wpAny _ _ (eval (.Constant (.str y) k1 p1) X.env) _ _ _
 refine Calls.Constant_str ⟨y,_,rfl,by rw [empty_app]; exact hy,?_⟩
 rw [empty_app]
 show wpAny _ _ (eval (.FormattedValue a (-1) none p2) X.env) _ _ _
 refine wpAny_FormattedValue_plain (thn (ha pins _ σ H _ (I.tok _) h) fun u s1 ⟨x,H1,I1,rx,n,ex,hn,hl,q⟩ => ?_)
 subst ex
 obtain ⟨t,rfl⟩ := rx
 have hl' : (y ++ Str.ofString (toString n)).length ≤ sizeLine := by
  rw [B9] at hl
  omega
 refine wpAny_formatField_int hn ⟨_,_,rfl,hl',?_⟩
 show wpAny _ _ (eval (.Constant (.str z) k2 p3) X.env) _ _ _
 refine Calls.Constant_str ⟨z,_,rfl,hl,?_⟩
 show wpAny _ _ (eval (.FormattedValue b (-1) none p4) X.env) _ _ _
 refine wpAny_FormattedValue_plain (thn (hb pins _ σ H1 _ (((I1.tok _).tok _)) q) fun u s2 ⟨x,H2,I2,rx,m,ex,hm,hl2,q2⟩ => ?_)
 subst ex
 obtain ⟨t2,rfl⟩ := rx
 refine wpAny_formatField_int hm ⟨_,_,rfl,hl2,hl2,?_⟩
 exact ⟨.str _,H2,(I2.tok _).tok _,⟨_,rfl⟩,q2⟩
theorem strs_flat (zs : List Str) : (zs.map V.str).all flatV = true := List.all_eq_true.mpr fun y hy => by
 obtain ⟨z,_,rfl⟩ := List.mem_map.mp hy
 rfl
theorem vals_get : ∀ {xs : List V} {us : List Value} {i : Nat} {x : V},Vals xs us → xs[i]? = some x → ∃ u,us[i]? = some u ∧ RelV x u
 | _,_,i,x,.nil,h => by simp at h
 | _,_,0,x,.cons r t,h => by
   simp only [List.getElem?_cons_zero,Option.some.injEq] at h
   subst h
   exact ⟨_,rfl,r⟩
 | _,_,i + 1,x,.cons r t,h => by
   simp only [List.getElem?_cons_succ] at h
   exact vals_get (i := i) t h
theorem mt_index : MtR X "list.index" (fun x xs H Q => ∃ (p : Addr) (zs : List Str) (z : Str) (j : Nat),x = .ref p ∧ xs = [.str z] ∧ SqL X.K H p (zs.map V.str) ∧ zs[j]? = some z ∧ (∀ i,i < j → zs[i]? ≠ some z) ∧ Q (.int (j : Nat)) H) := by
 intro pins s σ H x xs v us Q I rx rs h
 obtain ⟨p,zs,z,j,rfl,rfl,hq,hj,hno,q⟩ := h
 cases rx
 obtain ⟨u,rfl,ru⟩ := vals1 rs
 obtain ⟨its,rv,⟨o,n,ho,hc,hd,hs⟩,hz⟩ := I.list hq
 have hl := rv.length
 rw [List.length_map] at hl hz
 have hjz := (List.getElem?_eq_some_iff.mp hj).1
 have hjl : j < its.toArray.size := by rw [List.size_toArray]; omega
 have he : ∀ i (hi : i < its.toArray.size),eqU (.str z) its.toArray[i] = decide (zs[i]? = some z) := fun i hi => by
  rw [List.size_toArray] at hi
  have hiz : i < zs.length := by omega
  obtain ⟨w,hw,rw'⟩ := vals_get (i := i) rv (by rw [List.getElem?_map,List.getElem?_eq_getElem hiz]; rfl)
  have hw' := (List.getElem?_eq_some_iff.mp hw).2
  rw [List.getElem_toArray,hw',eqU_of rw' rfl,List.getElem?_eq_getElem hiz]
  show (zs[i] == z) = _
  rw [Bool.eq_iff_iff,beq_iff_eq,decide_eq_true_iff,Option.some.injEq]
 obtain ⟨oc,od,odt,osl⟩ := o
 cases hc
 cases hd
 cases hs
 refine call_meets F.slot_list_index ⟨_,ho,rfl⟩ F.entry_list_index (F.args_list_index_2 _ _) (SeqAt.list_indexAt p its.toArray n _ osl u (eqU (.str z)) j hjl (by rw [sizeLine_eq] at hz; omega) ?_ ?_) ⟨ho,fun w hw => mem_eqAt ru rfl rv (strs_flat zs) w (by simpa using hw),?_⟩
 ·rw [he j hjl]
  exact decide_eq_true hj
 ·intro m hm hlt
  rw [he m hm]
  exact decide_eq_false (hno m hlt)
 ·exact ⟨.int _,H,I.tok _,⟨_,rfl⟩,q⟩
end
theorem tuple_indexAt (l : Addr) (items : Array Value) (n : Nat) (dd : Option Addr) (sl : Array (Option Value)) (x : Value) (e : Value → Bool) (j : Nat) (hj : j < items.size) (hit : e items[j] = true) (hno : ∀ m (hm : m < items.size),m < j → e items[m] = false) :
 Meets (Builtin.«tuple.index» ⟨[.ref l,x],[]⟩) (fun A R s => s.heap.get? l = some { cls := .type "tuple",dict := dd,data := .seq items n,slots := sl } ∧ (∀ y,y ∈ items → SeqAt.EqAt A.in1 s y x (e y)) ∧ R (.ok (.ret (.int j s.toks))) { s with toks := s.toks + 1 }) := by
 intro prog w A R s h
 obtain ⟨hp,g,d,tk,os⟩ := s; obtain ⟨hl,he,h⟩ := h
 unfold Builtin.«tuple.index»
 simp only [Std.Legacy.Range.forIn_eq_forIn_range']
 wp_walk using wpAny_loadPart' hl
 refine wpAny_forIn_list _ (fun l b s' => s' = ⟨hp,g,d,tk,os⟩ ∧ b = (none,()) ∧ ∃ i,i ≤ j ∧ l = List.range' i (items.size - i)) _ ?turn ?fin (List.range' 0 [:min items.size items.size].size) (none,()) ?init
 case init => exact ⟨rfl,rfl,0,Nat.zero_le _,by simp [Std.Legacy.Range.size]⟩
 case fin =>
  rintro b s' ⟨rfl,rfl,i,hi,hl'⟩
  have := congrArg List.length hl'
  rw [List.length_range'] at this
  simp at this
  omega
 case turn =>
  rintro y rest b s' ⟨rfl,rfl,i,hi,hl'⟩
  obtain ⟨m,hm⟩ : ∃ m,items.size - i = m + 1 := ⟨items.size - i - 1,by omega⟩
  rw [hm,List.range'_succ] at hl'
  cases hl'
  have hlt : y < items.size := by omega
  have hy : items[y]? = some items[y] := getElem?_pos items y hlt
  rw [hy]
  refine wpAny_bind (he _ (Array.getElem_mem hlt) prog w _ _ ?_)
  by_cases hij : y = j
  ·subst hij
   rw [hit]
   wp_walk
   exact h
  ·rw [hno y hlt (by omega)]
   exact wpAny_pure ⟨rfl,rfl,y + 1,by omega,by congr 1; omega⟩
section
variable {X : Cx}
theorem mt_indexT : MtR X "tuple.index" (fun x xs H Q => ∃ (p : Addr) (zs : List Str) (z : Str) (j : Nat),x = .ref p ∧ xs = [.str z] ∧ SqT X.K H p (zs.map V.str) ∧ zs[j]? = some z ∧ (∀ i,i < j → zs[i]? ≠ some z) ∧ Q (.int (j : Nat)) H) := by
 intro pins s σ H x xs v us Q I rx rs h
 obtain ⟨p,zs,z,j,rfl,rfl,hq,hj,hno,q⟩ := h
 cases rx
 obtain ⟨u,rfl,ru⟩ := vals1 rs
 obtain ⟨its,rv,⟨o,ho,hc,n,hs⟩,hz⟩ := I.tuple hq
 have hl := rv.length
 rw [List.length_map] at hl hz
 have hjz := (List.getElem?_eq_some_iff.mp hj).1
 have hjl : j < its.toArray.size := by rw [List.size_toArray]; omega
 have he : ∀ i (hi : i < its.toArray.size),eqU (.str z) its.toArray[i] = decide (zs[i]? = some z) := fun i hi => by
  rw [List.size_toArray] at hi
  have hiz : i < zs.length := by omega
  obtain ⟨w,hw,rw'⟩ := vals_get (i := i) rv (by rw [List.getElem?_map,List.getElem?_eq_getElem hiz]; rfl)
  have hw' := (List.getElem?_eq_some_iff.mp hw).2
  rw [List.getElem_toArray,hw',eqU_of rw' rfl,List.getElem?_eq_getElem hiz]
  show (zs[i] == z) = _
  rw [Bool.eq_iff_iff,beq_iff_eq,decide_eq_true_iff,Option.some.injEq]
 obtain ⟨oc,od,odt,osl⟩ := o
 cases hc
 cases hs
 refine call_meets F.slot_tuple_index ⟨_,ho,rfl⟩ F.entry_tuple_index (F.args_tuple_index_2 _ _) (tuple_indexAt p its.toArray n od osl u (eqU (.str z)) j hjl ?_ ?_) ⟨ho,fun w hw => mem_eqAt ru rfl rv (strs_flat zs) w (by simpa using hw),?_⟩
 ·rw [he j hjl]
  exact decide_eq_true hj
 ·intro m hm hlt
  rw [he m hm]
  exact decide_eq_false (hno m hlt)
 ·exact ⟨.int _,H,I.tok _,⟨_,rfl⟩,q⟩
end
section
variable {prog : Program} {w : World} {A : Around} {R : Result → Shared → Prop} {I : Addr} {fp wr : List Addr} {G : Array GenState → Array GenState → Prop} {n : Nat} {P : Nat → Value → Prop} {St : Nat → Shared → Prop}
theorem setOf_cong {h : Heap} {a : Addr} {S S' : Str → Bool} {n n' : Nat} (x : h.SetOf (strKind prog w) a S n) (e : ∀ k,S k = S' k) (en : n = n') : h.SetOf (strKind prog w) a S' n' := by
 have : S = S' := funext e
 subst this en
 exact x
theorem set_fill (W : WalksS prog w A.in1 I fp wr G n P St) (S : Addr) (hS : S ∉ fp) (zs : List Str) (hn : zs.length = n) (nd : zs.Nodup) (hv : ∀ i v,P i v → ∃ z t,zs[i]? = some z ∧ v = .str z t) (hb : n + 1 < scanBound) :
 ∀ (k i : Nat) (s : Shared),n - i = k → i ≤ n → St i s → s.heap.SetOf (strKind prog w) S (fun y => decide (y ∈ zs.take i)) i →
  (∀ s',Moved (S :: wr) G s s' → s'.heap.SetOf (strKind prog w) S (fun y => decide (y ∈ zs)) n → R (.ok (.ret .none)) s') →
  codeAny (model prog w) A (.builtin "set.update.loop" ⟨[.ref S,.ref I],[]⟩) R s := by
 have hSw : S ∉ wr := fun h => hS (W.sub _ h)
 have up : ∀ b ∈ wr,b ∈ S :: wr := fun b hb => List.mem_cons_of_mem _ hb
 have moved : ∀ {s s' : Shared} {i : Nat},Moved wr G s s' → s.heap.SetOf (strKind prog w) S (fun y => decide (y ∈ zs.take i)) i → s'.heap.SetOf (strKind prog w) S (fun y => decide (y ∈ zs.take i)) i := fun hm ⟨o,es,ep,t,ho,rest⟩ => ⟨o,es,ep,t,hm.heap S _ hSw ho,rest⟩
 intro k
 induction k with
 | zero =>
   intro i s hk hi hst hs hR
   have : i = n := by omega
   subst this
   refine codeAny_builtin PyProof.Rows.F.entry_set_update_loop ?_
   rw [Around.under_plainId PyProof.Rows.F.plain_set_update_loop _]
   show wpAny _ A.in1 (pyNext (.ref I) >>= _) _ _ s
   refine wpAny_bind (W.done s _ _ hst fun s' hm => ?_)
   show wpAny _ A.in1 (ret Value.none) _ _ s'
   exact wpAny_pure (hR s' (hm.mono up) (setOf_cong (moved hm hs) (fun y => by rw [List.take_of_length_le (by omega)]) rfl))
 | succ k ih =>
   intro i s hk hi hst hs hR
   have hlt : i < n := by omega
   refine codeAny_builtin PyProof.Rows.F.entry_set_update_loop ?_
   rw [Around.under_plainId PyProof.Rows.F.plain_set_update_loop _]
   show wpAny _ A.in1 (pyNext (.ref I) >>= _) _ _ s
   refine wpAny_bind (W.item i s _ _ hlt hst fun v s' hP hst' hm => ?_)
   obtain ⟨z,t,hz,rfl⟩ := hv i v hP
   obtain ⟨hil,hze⟩ := List.getElem?_eq_some_iff.mp hz
   have hs' := moved hm hs
   show wpAny _ A.in1 (holding [Value.str z t] (setAdd S (.str z t)) >>= _) _ _ s'
   refine wpAny_bind (wpAny_holding ?_)
   unfold setAdd
   refine wpAny_holding ?_
   have his : (strKind prog w).is z (.str z t) = true := by
    show Value.isStrOf z (.str z t) = true
    simp [Value.isStrOf]
   have hnot : decide (z ∈ zs.take i) = false := decide_eq_false fun m => by
    obtain ⟨j,hj,e⟩ := List.mem_iff_getElem.mp m
    rw [List.length_take] at hj
    rw [List.getElem_take] at e
    exact (List.pairwise_iff_getElem.mp nd) j i (by omega) hil (by omega) (by rw [e,hze])
   refine wpAny_bind ((strKind prog w).pyHash (k := z) his ?_)
   refine wpAny_setAddHashed_of (knd := strKind prog w) (s := { s' with toks := s'.toks + 1 }) his rfl hs' (by omega) fun h' hsb hS2 => ?_
   have hSi : h'.SetOf (strKind prog w) S (fun y => decide (y ∈ zs.take (i + 1))) (i + 1) := setOf_cong hS2 (fun y => by
    rw [List.take_succ_eq_append_getElem hil,hze,← Bool.decide_or,decide_eq_decide,List.mem_append,List.mem_singleton]) (by rw [hnot]; rfl)
   refine wpAny_pure ⟨plainId_quiet PyProof.Rows.F.plain_set_update_loop _,ih (i + 1) _ (by omega) hlt (W.frame _ s' _ _ hst' (Nat.le_succ _) fun b hb o e => ?_) hSi fun s'' hm'' hS'' => ?_⟩
   ·rw [hsb.2 b (fun h : b = S => hS (by rw [← h]; exact hb))]; exact e
   ·refine hR s'' (Moved.trans W.gtrans ((hm.mono up).then_heap (Nat.le_succ _) fun b o hb e => ?_) hm'') hS''
    rw [hsb.2 b (fun h : b = S => hb (by rw [h]; exact List.mem_cons_self))]; exact e
end
theorem strs_at : ∀ {vs : List Value} {zs : List Str},StrsAre vs zs → ∀ (i : Nat) (v : Value),vs[i]? = some v → ∃ z t,zs[i]? = some z ∧ v = .str z t
 | _,_,.nil,i,v,h => by simp at h
 | _,_,.cons z t r,0,v,h => by
   simp only [List.getElem?_cons_zero,Option.some.injEq] at h
   exact ⟨z,t,rfl,h.symm⟩
 | _,_,.cons z t r,i + 1,v,h => by
   simp only [List.getElem?_cons_succ] at h
   exact strs_at r i v h
section
variable {prog : Program} {w : World} {A : Around} {E : Value → Shared → Prop} {s : Shared}
theorem call_set_strs {l : Addr} {items : Array Value} {zs : List Str} {Q : Value → Shared → Prop} (hh : A.handled = none) (hl : s.heap.IsList l items) (hz : StrsAre items.toList zs) (nd : zs.Nodup) (hb : items.size + 1 < scanBound)
 (h : ∀ (h' : Heap) (tk : Nat),h'.SetOf (strKind prog w) s.heap.objs.size (fun y => decide (y ∈ zs)) items.size → (∀ b o,b < s.heap.objs.size → s.heap.get? b = some o → h'.get? b = some o) → Q (.ref s.heap.objs.size) { s with heap := h',toks := tk }) :
 wpAny (model prog w) A (call (.type "set") [.ref l]) Q E s := by
 obtain ⟨c,tl,hmro⟩ := F.called_set.mro
 have hmade := F.called_set.made
 have hsub := F.called_set.sub
 refine wpAny_call (codeAny_of_tree ?_)
 show wpAny _ _ (callAny (.type "set") _) _ _ _
 refine wpAny_pure ⟨Code.quiet_builtin _ (by decide +kernel),codeAny_builtin F.entry_type_call ?_⟩
 rw [Around.under_plain (weight_type_call_type "set" [.ref l] []) rfl]
 have h1 := F.called_set.notType
 have h2 := F.called_set.canCreate
 have hct := F.typeCall_set_1 (.ref l)
 repeat (any_goals (first | assumption | wp_step))
 refine codeAny_mono (code_set_new_1 (.ref l) (E := E) (Q₁ := fun obj s₁ => ∃ led : Bool,obj = .ref s.heap.objs.size ∧ s₁ = { s with heap := s.heap.push { cls := .type "set",dict := none,data := .set #[] 0 (.fresh 0 0 led) } }) fun led => ⟨led,rfl,rfl⟩) fun r s₁ hr => ?_
 cases r with
 | error e => exact hr
 | ok fl =>
   cases fl with
   | ret obj =>
     obtain ⟨led,rfl,rfl⟩ := hr
     have hS : (s.heap.push { cls := .type "set",dict := none,data := .set #[] 0 (.fresh 0 0 led) }).get? s.heap.objs.size = some { cls := .type "set",dict := none,data := .set #[] 0 (.fresh 0 0 led) } := Heap.get?_push_size _ rfl
     have hT : Shared.TypeIs { s with heap := s.heap.push { cls := .type "set",dict := none,data := .set #[] 0 (.fresh 0 0 led) } } (.ref s.heap.objs.size) "set" := ⟨_,hS,rfl⟩
     have hli := F.called_set.init.lookup
     have hbi := F.called_set.init.bind (.ref s.heap.objs.size)
     repeat (any_goals (first | assumption | wp_step))
     refine codeAny_mono (codeAny_call_builtin (R := wants (fun r s₂ => r = .none ∧ ∃ h' tk,s₂ = { s with heap := h',toks := tk } ∧ h'.SetOf (strKind prog w) s.heap.objs.size (fun y => decide (y ∈ zs)) items.size ∧
      (∀ b o,b < s.heap.objs.size → s.heap.get? b = some o → h'.get? b = some o)) E) F.called_set.init.plain F.entry_set_init (check_set_init_1 hT ?_)) fun r₂ s₂ hr₂ => ?_
     ·obtain ⟨⟨ocls,odict,odata,oslots⟩,hol,hcl,nl,hdl⟩ := id hl
      simp only at hcl hdl
      subst hcl hdl
      have hol' : (s.heap.push { cls := .type "set",dict := none,data := .set #[] 0 (.fresh 0 0 led) }).get? l = some { cls := .type "list",dict := odict,data := .seq items nl,slots := oslots } := Heap.get?_push_of_some _ hol
      have hsls := F.sub_list_set
      have hslf := F.sub_list_frozenset
      have hne : (Value.type "list" == Value.type "dict") = false := by decide
      have hl1 : (s.heap.push { cls := .type "set",dict := none,data := .set #[] 0 (.fresh 0 0 led) }).IsList l items := ⟨_,hol',rfl,nl,rfl⟩
      unfold Builtin.«set.__init__» noKeywords Builtin.Frozenset.updateFrom
      generalize hPI : pyIter = PI
      wp_walk
      subst hPI
      refine wpAny_pyIter_list hl1 ?_
      refine wpAny_bind (wpAny_runValue ?_)
      have hlS : l < s.heap.objs.size := Heap.lt_size hol
      have hh3 : A.in1.in1.in1.handled = none := by simp [hh]
      have szp : (s.heap.push { cls := .type "set",dict := none,data := .set #[] 0 (.fresh 0 0 led) }).objs.size = s.heap.objs.size + 1 := Heap.size_push _ _
      have hneI : l ≠ (s.heap.push { cls := .type "set",dict := none,data := .set #[] 0 (.fresh 0 0 led) }).objs.size := by rw [szp]; exact Nat.ne_of_lt (Nat.lt_succ_of_lt hlS)
      have hSf : s.heap.objs.size ∉ [(s.heap.push { cls := .type "set",dict := none,data := .set #[] 0 (.fresh 0 0 led) }).objs.size,l] := by
       simp only [List.mem_cons,List.not_mem_nil,or_false,not_or]
       exact ⟨by rw [szp]; exact Nat.ne_of_lt (Nat.lt_succ_self _),Nat.ne_of_gt hlS⟩
      have hln : zs.length = items.size := by
       have := hz.length
       simpa using this.symm
      have hval : ∀ (i : Nat) (v : Value),items[i]? = some v → ∃ z t,zs[i]? = some z ∧ v = .str z t := fun i v hv => strs_at hz i v (by rw [Array.getElem?_toList]; exact hv)
      refine set_fill ((Walks.list hh3 _ l hneI items).toS) s.heap.objs.size hSf zs hln nd hval hb (items.size - 0) 0 _ (by omega) (Nat.zero_le _) ⟨⟨_,Heap.get?_push_size _ rfl,rfl,rfl⟩,(hl1.push _)⟩ ?hS0 ?hR
      case hS0 =>
       have hget := Heap.get?_push_of_some { cls := .type "list_iterator",data := .fields #[.ref l,.int 0 0] } hS
       exact setOf_cong ((setObjOf_fresh (knd := strKind prog w) led).setOf hget (by unfold scanBound; omega)) (fun y => by simp) rfl
      case hR =>
       intro s' hm hS'
       obtain ⟨h',g',d',tk',os'⟩ := s'
       have eg : g' = s.gens := hm.gens
       have ed : d' = s.drawn := hm.drawn
       have eo : os' = s.os := hm.os
       subst eg ed eo
       show wpAny _ _ _ _ _ _
       refine wpAny_pure ?_
       show wpAny _ _ (ret Value.none) _ _ _
       refine wpAny_pure ⟨rfl,h',tk',rfl,hS',fun b o hb e => ?_⟩
       refine hm.heap b o ?_ (Heap.get?_push_of_some _ (Heap.get?_push_of_some _ e))
       simp only [List.mem_cons,List.not_mem_nil,or_false,not_or]
       exact ⟨Nat.ne_of_lt hb,by rw [szp]; exact Nat.ne_of_lt (Nat.lt_succ_of_lt hb)⟩
     ·cases r₂ with
      | error e => exact hr₂
      | ok fl₂ =>
        cases fl₂ with
        | ret r =>
          obtain ⟨rfl,h',tk,rfl,hS',hk'⟩ := hr₂
          repeat (any_goals (first | assumption | wp_step))
          exact h _ _ hS' hk'
        | _ => exact hr₂.elim
   | _ => exact hr.elim
end
theorem boot_set : bootBuiltins "set" = some (.type "set") := by decide +kernel
section
variable {X : Cx}
def tLenS (K : PySem.W.Frag) (te : TE) : TE := fun σ H Q => te σ H fun x H1 => ∃ (a : Addr) (zs : List Str),x = .ref a ∧ SqL K H1 a (zs.map V.str) ∧ zs.Nodup ∧ zs.length ≤ 1000 ∧ Q (.int (zs.length : Nat)) H1
theorem pe_lenS {e : Expr} {te : TE} {p1 p2 p3 pos : Pos} (hh : X.A.handled = none) (g1 : Gl X "len") (m1 : X.mg "len" = none) (g2 : Gl X "set") (m2 : X.mg "set" = none) (he : PE X e te)
 (h1 : starEach [.Call (.Name "set" p2) [e] [] p3] X.env = [(false,eval (.Call (.Name "set" p2) [e] [] p3) X.env)] := by rfl) (h2 : starEach [e] X.env = [(false,eval e X.env)] := by rfl) :
 PE X (.Call (.Name "len" p1) [.Call (.Name "set" p2) [e] [] p3] [] pos) (tLenS X.K te) := by
 intro pins s σ H Q I h
 refine wpAny_Call_Name_kw (ld_blt I g1 m1 boot_len ?_ (by decide) (by decide))
 refine PyProof.Rows.callWith_builtin1 ?_ h1 rfl
 rw [h1]
 show wpAny _ _ (spliced ((false,eval (.Call (.Name "set" p2) [e] [] p3) X.env) :: backTo pos (starEach [] X.env))) _ _ s
 refine Calls.spliced_cons ?_
 refine wpAny_Call_Name_kw (ld_blt I g2 m2 boot_set ?_ (by decide) (by decide))
 refine PyProof.Rows.callWith_type1 ?_ h2 rfl
 rw [h2]
 show wpAny _ _ (spliced ((false,eval e X.env) :: backTo p3 (starEach [] X.env))) _ _ s
 refine Calls.spliced_cons (thn (he pins s σ H _ I h) fun u s1 ⟨x,H1,I1,r1,q1⟩ => ?_)
 obtain ⟨a,zs,rfl,hq,nd,hz,q⟩ := q1
 cases r1
 refine Calls.spliced_nil ?_
 obtain ⟨its,rv,pl,_⟩ := I1.list hq
 have hl := rv.length
 rw [List.length_map] at hl
 refine call_set_strs (zs := zs) hh pl.isList (by simpa using strsAre_of rv) nd (by rw [List.size_toArray,← hl]; unfold scanBound; omega) fun h' tk hS hk => ?_
 refine Calls.spliced_nil ?_
 obtain ⟨o,es,ep,t,ho,hex,hd,_,_,_,hf,hn⟩ := hS
 have hlen : es.size = zs.length := by rw [hn,List.size_toArray,← hl]
 refine call_len_set (s := { s1 with heap := h',toks := tk }) ho hex hd hf (by omega) ?_
 refine ⟨.int (zs.length : Nat),H1,(I1.kept (t' := tk + 1 + 1) fun b u e => hk b u (Heap.lt_size e) e),⟨_,by rw [hlen]⟩,q⟩
end
end L2
namespace K15
open PySem L2 PyProof.Rows
def top (i : Nat) : Stmt := PySem.Challenge.pw_grantweave_k15_books_as_texts.main.body.getD i (.Pass ⟨0,0,0,0⟩)
structure Txt (mg : Str → Option Value) : Prop where
 n_len : mg "len" = none
 n_isinstance : mg "isinstance" = none
 n_range : mg "range" = none
 n_int : mg "int" = none
 n_bool : mg "bool" = none
 n_str : mg "str" = none
 n_tuple : mg "tuple" = none
 n_list : mg "list" = none
 n_all : mg "all" = none
 n_zip : mg "zip" = none
 n_min : mg "min" = none
 n_max : mg "max" = none
 n_enumerate : mg "enumerate" = none
 g_LETTERS : ∃ t,mg "LETTERS" = some (.str "abcdefghijklmnopqrstuvwxyz" t)
 g_LONGEST_WORD : ∃ t,mg "LONGEST_WORD" = some (.int 8 t)
 g_GREATEST_NUMBER : ∃ t,mg "GREATEST_NUMBER" = some (.int 99 t)
 g_LAST_DAY : ∃ t,mg "LAST_DAY" = some (.int 9999 t)
 g_DEED_BITS : ∃ t,mg "DEED_BITS" = some (.int 5 t)
 g_STRING_BITS : ∃ t,mg "STRING_BITS" = some (.int 6 t)
 g_DUTY_BITS : ∃ t,mg "DUTY_BITS" = some (.int 6 t)
 g_GREATEST_REACH : ∃ t,mg "GREATEST_REACH" = some (.int 3 t)
 g_MOST_LICENCES : ∃ t,mg "MOST_LICENCES" = some (.int 12 t)
 g_JOIN_COUNT : ∃ t,mg "JOIN_COUNT" = some (.int 4 t)
section
variable {P : Program} {w : World} {K : PySem.W.Frag} {mg : Str → Option Value} {base : Heap}
abbrev s_law_cell : Stmt := top 84
theorem sc_law_cell : Ak ["_law_script","_law_k"] ["_law_script","_law_k"] (Ag s_law_cell) := by trivial
theorem ok_cell (T : Txt mg) (F : Ai K mg "_law_cell" s_law_cell ["_law_script","_law_k"]) : FnAt P w K mg base "_law_cell" 1 ["_law_script","_law_k"] (spCell K) := by
 refine F.at sc_law_cell (fun vs H Q E h => ?_) (fun f cdv A outer s H vs Q E hr h => ?_)
 ·obtain ⟨a,ns,k,rfl,_⟩ := h
  rfl
 ·obtain ⟨a,ns,k,rfl,hS,q⟩ := h
  refine ⟨_,(Ab (A7 (A1 op_lt (pv 1) (An A4 rfl T.n_len boot_len (Aa (pv 0) Ac)) (A0 _)) (Ae (Aq (Az At (pv 0) (pv 1) (fun _ _ => rfl)))) Ap)
   (Ae (Aq (Ax C0 (Ax op_mul Af (pv 1)) Af)))),?_⟩
  refine ⟨_,rfl,_,rfl,_,_,rfl,.inl ⟨_,hS,rfl⟩,_,_,rfl,rfl,_,rfl,ite2 (fun hlt => ?_) (fun _ => ?_)⟩
  ·have hlt : (k : Int) < (((ns.map V.int).length : Nat) : Int) := of_decide_eq_true hlt
   have hk : k < ns.length := by rw [List.length_map] at hlt; omega
   refine ⟨_,rfl,_,rfl,a,_,_,V.int ns[k],rfl,rfl,hS,atI_nat (by rw [List.getElem?_map,List.getElem?_eq_getElem hk]; rfl),q _⟩
  ·exact ⟨_,rfl,_,_,rfl,rfl,.inl ⟨by decide,by decide⟩,_,_,rfl,rfl,q _⟩
abbrev s_law_mixed : Stmt := top 85
theorem sc_law_mixed : Ak ["_law_cell_here","_law_k","_law_number"] ["_law_cell_here","_law_k"] (Ag s_law_mixed) := by trivial
theorem ok_mixed (F : Ai K mg "_law_mixed" s_law_mixed ["_law_cell_here","_law_k"]) : FnAt P w K mg base "_law_mixed" 1 ["_law_cell_here","_law_k"] spMixed := by
 refine F.at sc_law_mixed (fun vs H Q E h => ?_) (fun f cdv A outer s H vs Q E hr h => ?_)
 ·obtain ⟨a,k,rfl,_⟩ := h
  rfl
 ·obtain ⟨a,k,rfl,q⟩ := h
  refine ⟨_,(Ab (Al (i := 2) sc_law_mixed.nd rfl (by trivial) (Ax Ek (Ax C0 (Ax C0 (Ax op_mul (Ax Ek (pv 0) Af) Af) (Ax op_mul Af (pv 1))) Af) Af))
   (Ab (Al (i := 2) sc_law_mixed.nd rfl (by trivial) (Ax Ek (Ax C0 (Ax C0 (Ax op_mul (pv 2) (pv 2)) (Ax op_mul Af (pv 1))) Af) Af))
   (Ae (Aq (Ax Ek (Ax op_mul (pv 2) (pv 2)) Af))))),?_⟩
  have md : ∀ (x : Int) (y : Int),0 < y → y < 4294967296 → -(2 ^ 64) < x % y ∧ x % y < 2 ^ 64 := fun x y h1 h2 => by
   have a1 := Int.emod_nonneg x (show y ≠ 0 by omega)
   have a2 := Int.emod_lt_of_pos x h1
   omega
  refine ⟨_,rfl,_,_,rfl,rfl,(by show (0 : Int) < _; decide),_,_,rfl,rfl,.inr ⟨by decide,by decide⟩,_,rfl,_,_,rfl,rfl,.inl ⟨by decide,by decide⟩,_,_,rfl,rfl,_,_,rfl,rfl,_,_,rfl,rfl,(by show (0 : Int) < _; decide),?_⟩
  refine ⟨_,rfl,_,rfl,_,_,rfl,rfl,.inl (md _ _ (by decide) (by decide)),_,rfl,_,_,rfl,rfl,.inl ⟨by decide,by decide⟩,_,_,rfl,rfl,_,_,rfl,rfl,_,_,rfl,rfl,(by show (0 : Int) < _; decide),?_⟩
  exact ⟨_,rfl,_,rfl,_,_,rfl,rfl,.inl (md _ _ (by decide) (by decide)),_,_,rfl,rfl,(by show (0 : Int) < _; decide),q _⟩
abbrev s_law_box : Stmt := top 86
theorem sc_law_box : Ak ["_law_cell_here"] ["_law_cell_here"] (Ag s_law_box) := by trivial
theorem ok_box (F : Ai K mg "_law_box" s_law_box ["_law_cell_here"]) : FnAt P w K mg base "_law_box" 1 ["_law_cell_here"] spBox := by
 refine F.at sc_law_box (fun vs H Q E h => ?_) (fun f cdv A outer s H vs Q E hr h => ?_)
 ·obtain ⟨c,rfl,_⟩ := h
  rfl
 ·obtain ⟨c,rfl,q⟩ := h
  refine ⟨_,(Ab (A7 (A1 op_ge (pv 0) (Ax op_pow Af Af) (A0 _)) (Ae (Aq (A5 (Aa (pv 0) (Aa (Ax Ek (pv 0) Af) (Aa Af Ac)))))) Ap)
   (Ae (Aq (A5 (Aa Af (Aa (Ax Ek (pv 0) Af) (Aa Af Ac))))))),?_⟩
  refine ⟨_,rfl,_,_,rfl,rfl,⟨by decide,by decide,by decide⟩,_,_,rfl,rfl,_,rfl,ite2 (fun _ => ?_) (fun _ => ?_)⟩
  ·exact ⟨_,rfl,_,rfl,_,_,rfl,rfl,(by show (0 : Int) < _; decide),(by show 3 ≤ sizeLine; decide),fun p hp => q p _ _ _ hp⟩
  ·exact ⟨_,rfl,_,_,rfl,rfl,(by show (0 : Int) < _; decide),(by show 3 ≤ sizeLine; decide),fun p hp => q p _ _ _ hp⟩
abbrev s_law_take : Stmt := top 87
theorem sc_law_take : Ak ["_law_box_here","_law_many","_law_number"] ["_law_box_here","_law_many"] (Ag s_law_take) := by trivial
theorem ok_take (F_mixed : FnAt P w K mg base "_law_mixed" 1 ["_law_cell_here","_law_k"] spMixed) (F : Ai K mg "_law_take" s_law_take ["_law_box_here","_law_many"]) : FnAt P w K mg base "_law_take" 2 ["_law_box_here","_law_many"] spTake := by
 refine F.at sc_law_take (fun vs H Q E h => ?_) (fun f cdv A outer s H vs Q E hr h => ?_)
 ·obtain ⟨b,n,rfl,_⟩ := h
  rfl
 ·obtain ⟨b,n,rfl,⟨x,y,z,hb⟩,h0,h1,q⟩ := h
  refine ⟨_,(Ab (A7 (A1 op_gt (Az At (pv 0) Af (fun _ _ => rfl)) Af (A0 _)) (Ab (Al (i := 2) sc_law_take.nd rfl (by trivial) (Ax Ek (Az At (pv 0) Af (fun _ _ => rfl)) (pv 1)))
   (Ab (ps_asg (Ax op_fdivB (Az At (pv 0) Af (fun _ _ => rfl)) (pv 1)) (pg_sub (pv 0) Af set_list))
   (Ae (Aq (pv 2))))) Ap)
   (Ab (ps_asg (Ax C0 (Az At (pv 0) Af (fun _ _ => rfl)) Af) (pg_sub (pv 0) Af set_list))
   (Ae (Aq (Ax Ek (Ao F_mixed hr (by decide) rfl (Aa (Az At (pv 0) Af (fun _ _ => rfl)) (Aa (Az At (pv 0) Af (fun _ _ => rfl)) Ac))) (pv 1)))))),?_⟩
  have a1 : ∀ r : Int,0 ≤ r % n := fun r => Int.emod_nonneg r (show n ≠ 0 by omega)
  have a2 : ∀ r : Int,r % n < n := fun r => Int.emod_lt_of_pos r h0
  have oth : ∀ x y z : Int,Oth b H (upd H b (.lst [.int x,.int y,.int z])) := fun x y z => ⟨⟨x,y,z,Ad⟩,fun c o e nc => by rw [upd_ne nc]; exact e⟩
  refine ⟨_,rfl,b,_,_,V.int x,rfl,rfl,SqL.of hb,rfl,_,_,rfl,rfl,_,rfl,ite2 (fun _ => ?_) (fun _ => ?_)⟩
  ·refine ⟨_,rfl,b,_,_,V.int x,rfl,rfl,SqL.of hb,rfl,_,rfl,_,_,rfl,rfl,h0,?_⟩
   refine ⟨_,rfl,b,_,_,V.int x,rfl,rfl,SqL.of hb,rfl,_,rfl,_,_,rfl,rfl,⟨h0,h1⟩,?_⟩
   refine ⟨_,rfl,b,_,_,0,rfl,rfl,hb,rfl,?_⟩
   exact ⟨_,rfl,q _ _ (a1 _) (a2 _) (oth _ _ _)⟩
  ·refine ⟨_,rfl,b,_,_,V.int z,rfl,rfl,SqL.of hb,rfl,_,_,rfl,rfl,?_⟩
   refine ⟨_,rfl,b,_,_,2,rfl,rfl,hb,rfl,?_⟩
   refine ⟨_,rfl,b,_,_,V.int y,rfl,rfl,SqL.of Ad,rfl,_,rfl,b,_,_,V.int (z + 1),rfl,rfl,SqL.of Ad,rfl,_,_,rfl,fun r => ?_⟩
   exact ⟨_,rfl,_,_,rfl,rfl,h0,q _ _ (a1 _) (a2 _) (oth _ _ _)⟩
end
section
variable {P : Program} {w : World} {K : PySem.W.Frag} {mg : Str → Option Value} {base : Heap}
def Arg (K : PySem.W.Frag) (H : Hp) (x : V) : Prop := ∃ k,KdOf K H x k
def spWhole (K : PySem.W.Frag) : Sp := fun vs H Q _ => ∃ x,vs = [x] ∧ Arg K H x ∧ Q (.bl (wholeV x)) H
abbrev sis_whole : Stmt := top 18
theorem scis_whole : Ak ["thing"] ["thing"] (Ag sis_whole) := by trivial
theorem whole_of {H : Hp} {x : V} {k : Kd} (h : KdOf K H x k) : (k.isA .int && !(k.isA .bl)) = wholeV x := by
 have h : TyOf K H x (.type k.nm) := h
 generalize hT : Value.type k.nm = T at h
 cases h <;> cases k <;> first | rfl | exact absurd (Value.type.inj hT) (by decide) | cases hT
theorem ok_whole (T : Txt mg) (F : Ai K mg "is_whole" sis_whole ["thing"]) : FnAt P w K mg base "is_whole" 1 ["thing"] (spWhole K) := by
 refine F.at scis_whole (fun vs H Q E h => ?_) (fun f cdv A outer s H vs Q E hr h => ?_)
 ·obtain ⟨x,rfl,_⟩ := h
  rfl
 ·obtain ⟨x,rfl,⟨k,hk⟩,q⟩ := h
  refine ⟨_,(Ae (Aq (Dl (An (D5 .int (by simp)) rfl T.n_isinstance boot_isinstance (Aa (pv 0) (Aa (Bx (v := .ty "int") rfl T.n_int boot_int rfl) Ac))) (Ex (pe_not (An (D5 .bl (by simp)) rfl T.n_isinstance boot_isinstance (Aa (pv 0) (Aa (Bx (v := .ty "bool") rfl T.n_bool boot_bool rfl) Ac)))))))),?_⟩
  rw [← whole_of hk] at q
  refine ⟨_,rfl,x,k,rfl,hk,_,rfl,?_⟩
  cases e : k.isA .int with
  | true =>
    rw [e] at q
    exact iteT ⟨_,rfl,x,k,rfl,hk,_,rfl,q⟩
  | false =>
    rw [e] at q
    exact iteF q
theorem kd_str {H : Hp} {x : V} {k : Kd} (h : KdOf K H x k) (e : k.isA .str = true) : ∃ z,x = .str z := by
 have h : TyOf K H x (.type k.nm) := h
 generalize hT : Value.type k.nm = T at h
 cases h <;> cases k <;> first | exact ⟨_,rfl⟩ | exact absurd e (by decide) | exact absurd (Value.type.inj hT) (by decide) | cases hT
theorem kd_nostr {H : Hp} {x : V} {k : Kd} (h : KdOf K H x k) (e : k.isA .str = false) : wordV x = false := by
 have h : TyOf K H x (.type k.nm) := h
 generalize hT : Value.type k.nm = T at h
 cases h <;> cases k <;> first | rfl | exact absurd e (by decide) | exact absurd (Value.type.inj hT) (by decide) | cases hT
def spWord (K : PySem.W.Frag) : Sp := fun vs H Q _ => ∃ x,vs = [x] ∧ Arg K H x ∧ (∀ z,x = .str z → z.length ≤ 1000) ∧ ∀ H',Same H H' → Q (.bl (wordV x)) H'
abbrev sis_word : Stmt := top 19
theorem scis_word : Ak ["thing"] ["thing"] (Ag sis_word) := by trivial
theorem take_map_snoc (z : Str) {i : Nat} (hi : i < z.cps.size) (g : Nat → V) : (z.cps.toList.take i).map g ++ [g (z.cps.getD i 0)] = (z.cps.toList.take (i + 1)).map g := by
 have e : z.cps.getD i 0 = z.cps.toList[i]'(by simpa using hi) := by
  rw [Array.getD_eq_getD_getElem?,Array.getElem?_eq_getElem hi]; simp
 rw [List.take_succ_eq_append_getElem (by simpa using hi),List.map_append,e]
 rfl
theorem ok_word (T : Txt mg) (F : Ai K mg "is_word" sis_word ["thing"]) : FnAt P w K mg base "is_word" 1 ["thing"] (spWord K) := by
 refine F.at scis_word (fun vs H Q E h => ?_) (fun f cdv A outer s H vs Q E hr h => ?_)
 ·obtain ⟨x,rfl,_⟩ := h
  rfl
 ·obtain ⟨x,rfl,⟨k,hk⟩,hl,q⟩ := h
  refine ⟨_,(Ab (A7 (PW.pt (pw_or (A9 (A8 (An (D5 .str (by simp)) rfl T.n_isinstance boot_isinstance (Aa (pv 0) (Aa (Bx (v := .ty "str") rfl T.n_str boot_str rfl) Ac))))) (Ej (A9 (pt_chain op_le op_le Af (An A4 rfl T.n_len boot_len (Aa (pv 0) Ac)) (Bi rfl T.g_LONGEST_WORD)))))) (Ae (Aq pe_bl)) Ap)
   (Ae (Aq (An (Di rfl) rfl T.n_all boot_all (Aa (Bs (sc := Ag sis_word) (N0 := ["thing"]) (xs := ["sign"]) (ys := []) (js := []) (by trivial) rfl (pi_str (pv 0)) (fun _ _ _ _ => (As (i := 0) (show (["sign"] : List Str).Nodup by decide +kernel) rfl (by trivial))) (fun _ _ _ _ => Cj) (fun _ _ _ _ => (Bo op_in_str (pv 0) (pe_globS rfl T.g_LETTERS) (by with_unfolding_all rfl)))) Ac))))),?_⟩
  refine ⟨_,rfl,x,k,rfl,hk,_,rfl,?_⟩
  cases e : k.isA .str with
  | false =>
    refine iteT (iteT ?_)
    have := q H (Same.refl H)
    rw [kd_nostr hk e] at this
    exact this
  | true =>
    refine iteF ?_
    obtain ⟨z,rfl⟩ := kd_str hk e
    have hz := hl z rfl
    have hs : sizeLine = 16777216 := sizeLine_eq
    refine ⟨_,rfl,_,_,rfl,⟨by omega,rfl⟩,_,_,rfl,rfl,_,rfl,?_⟩
    have no : ¬ (1 ≤ z.length ∧ z.length ≤ 8) → Q (.bl false) H := fun hn => by
     have := q H (Same.refl H)
     have e2 : wordV (.str z) = false := by
      show (decide (1 ≤ z.length ∧ z.length ≤ 8) && z.cps.toList.all D3) = false
      rw [decide_eq_false hn]; rfl
     rw [e2] at this
     exact this
    refine ite2 (fun h1 => ?_) (fun h1 => ?_)
    ·have h1 : (1 : Int) ≤ (z.length : Int) := of_decide_eq_true h1
     refine ⟨_,_,rfl,rfl,_,rfl,?_⟩
     refine ite2 (fun h2 => ?_) (fun h2 => ?_)
     ·have h2 : ¬ ((z.length : Int) ≤ 8) := by simpa using h2
      exact no (by omega)
     ·have h2 : (z.length : Int) ≤ 8 := by simpa using h2
      refine ⟨_,rfl,z,rfl,comp_str (fun i ys H' => H' = H ∧ ys = (z.cps.toList.take i).map fun c => V.bl (D3 c)) ⟨rfl,rfl⟩ (by show z.length ≤ sizeLine; omega) ?_ ?_ ?_⟩
      ·rintro i ys H' ⟨rfl,rfl⟩
       simp; omega
      ·rintro i ys H' hi ⟨rfl,rfl⟩
       refine ⟨_,rfl,_,_,rfl,rfl,rfl,?_⟩
       have e3 : (!(Builtin.Str.occurrences (Str.ofString "abcdefghijklmnopqrstuvwxyz") (sgn z i) 0 (Str.ofString "abcdefghijklmnopqrstuvwxyz").length 1).isEmpty) = D3 (z.cps.getD i 0) := low_in _
       rw [e3]
       exact take_map_snoc z hi fun c => V.bl (D3 c)
      ·rintro ys H' ⟨rfl,rfl⟩ p hp
       refine ⟨p,z.cps.toList.map D3,rfl,SqL.of (by rw [Ad,List.take_of_length_le (by simp),List.map_map]; rfl),?_⟩
       have e2 : wordV (.str z) = (z.cps.toList.map D3).all id := by
        show (decide (1 ≤ z.length ∧ z.length ≤ 8) && z.cps.toList.all D3) = _
        rw [decide_eq_true (by omega),List.all_map]
        rfl
       have := q _ (Same.new (o := .lst ((z.cps.toList.take z.cps.size).map fun c => V.bl (D3 c))) hp)
       rw [e2] at this
       exact this
    ·have h1 : ¬ ((1 : Int) ≤ (z.length : Int)) := by simpa using h1
     exact ⟨_,rfl,iteT (no (by omega))⟩
theorem TyOf.same' {H H' : Hp} {x : V} {t : Value} (h : TyOf K H x t) (s : Same H H') : TyOf K H' x t := by
 cases h with
 | non => exact .non
 | bl b => exact .bl b
 | int i => exact .int i
 | str z => exact .str z
 | flt z => exact .flt z
 | lst e => exact .lst (s _ _ e)
 | frz e => exact .frz (s _ _ e)
 | tup e => exact .tup (s _ _ e)
 | dK e => exact .dK (s _ _ e)
 | dT e => exact .dT (s _ _ e)
 | ins e cl ha hn htk hm => exact .ins (s _ _ e) cl ha hn htk hm
theorem Arg.same {H H' : Hp} {x : V} (h : Arg K H x) (s : Same H H') : Arg K H' x := by
 obtain ⟨k,h⟩ := h
 exact ⟨k,TyOf.same' h s⟩
def Short (x : V) : Prop := ∀ z,x = .str z → z.length ≤ 1000
theorem kd_tup {H : Hp} {x : V} {k : Kd} (h : KdOf K H x k) (e : k.isA .tup = true) : ∃ a xs,x = .ref a ∧ H a = some (.tup xs) := by
 have h : TyOf K H x (.type k.nm) := h
 generalize hT : Value.type k.nm = T at h
 cases h <;> cases k <;> first | exact ⟨_,_,rfl,by assumption⟩ | exact absurd e (by decide) | exact absurd (Value.type.inj hT) (by decide) | cases hT
theorem kd_notup {H : Hp} {x : V} {k : Kd} (h : KdOf K H x k) (e : k.isA .tup = false) : keyV H x = false := by
 have h : TyOf K H x (.type k.nm) := h
 generalize hT : Value.type k.nm = T at h
 cases h with
 | lst ea => show (match H _ with | some (.tup [x,y]) => wordV x && numV y | _ => false) = false; rw [ea]
 | frz ea => show (match H _ with | some (.tup [x,y]) => wordV x && numV y | _ => false) = false; rw [ea]
 | dK ea => show (match H _ with | some (.tup [x,y]) => wordV x && numV y | _ => false) = false; rw [ea]
 | dT ea => show (match H _ with | some (.tup [x,y]) => wordV x && numV y | _ => false) = false; rw [ea]
 | tup ea => cases k <;> first | exact absurd e (by decide) | exact absurd (Value.type.inj hT) (by decide)
 | ins ea => cases hT
 | _ => rfl
def spKey (K : PySem.W.Frag) : Sp := fun vs H Q _ => ∃ x,vs = [x] ∧ Arg K H x ∧ (∀ a xs,x = .ref a → H a = some (.tup xs) → ∀ y ∈ xs,Arg K H y ∧ Short y) ∧ ∀ H',Same H H' → Q (.bl (keyV H x)) H'
abbrev sis_key : Stmt := top 20
theorem scis_key : Ak ["thing"] ["thing"] (Ag sis_key) := by trivial
theorem ok_key (T : Txt mg) (F_is_word : FnAt P w K mg base "is_word" 1 ["thing"] (spWord K)) (F_is_whole : FnAt P w K mg base "is_whole" 1 ["thing"] (spWhole K)) (F : Ai K mg "is_key" sis_key ["thing"]) : FnAt P w K mg base "is_key" 2 ["thing"] (spKey K) := by
 refine F.at scis_key (fun vs H Q E h => ?_) (fun f cdv A outer s H vs Q E hr h => ?_)
 ·obtain ⟨x,rfl,_⟩ := h
  rfl
 ·obtain ⟨x,rfl,⟨k,hk⟩,hy,q⟩ := h
  refine ⟨_,(Ab (A7 (PW.pt (pw_or (A9 (A8 (An (D5 .tup (by simp)) rfl T.n_isinstance boot_isinstance (Aa (pv 0) (Aa (Bx (v := .ty "tuple") rfl T.n_tuple boot_tuple rfl) Ac))))) (Ej (A1 op_ne (An A4 rfl T.n_len boot_len (Aa (pv 0) Ac)) Af (A0 _))))) (Ae (Aq pe_bl)) Ap)
   (Ae (Aq (Dl (Ao F_is_word hr (by decide) rfl (Aa (Az Bt (pv 0) Af (fun _ _ => rfl)) Ac)) (Dl (Ao F_is_whole hr (by decide) rfl (Aa (Az Bt (pv 0) Af (fun _ _ => rfl)) Ac)) (Ex (pe_chain op_le op_le Af (Az Bt (pv 0) Af (fun _ _ => rfl)) (Bi rfl T.g_GREATEST_NUMBER)))))))),?_⟩
  refine ⟨_,rfl,x,k,rfl,hk,_,rfl,?_⟩
  cases e : k.isA .tup with
  | false =>
    refine iteT (iteT ?_)
    have := q H (Same.refl H)
    rw [kd_notup hk e] at this
    exact this
  | true =>
    refine iteF ?_
    obtain ⟨a,xs,rfl,ha⟩ := kd_tup hk e
    refine ⟨_,rfl,_,_,rfl,.inr ⟨xs,SqT.of ha,rfl⟩,rfl,_,rfl,ite2 (fun h2 => ?_) (fun h2 => ?_)⟩
    ·have h2 : ¬ ((xs.length : Int) = 2) := by simpa using h2
     have := q H (Same.refl H)
     have e2 : keyV H (.ref a) = false := by
      show (match H a with | some (.tup [x,y]) => wordV x && numV y | _ => false) = false
      rw [ha]
      match xs,h2 with
      | [],_ => rfl
      | [_],_ => rfl
      | [_,_],h2 => exact absurd rfl h2
      | _ :: _ :: _ :: _,_ => rfl
     rw [e2] at this
     exact this
    ·have h2 : (xs.length : Int) = 2 := by simpa using h2
     match xs,h2,ha,hy with
     | [],h2,_,_ => exact absurd h2 (by decide)
     | [_],h2,_,_ => simp at h2
     | _ :: _ :: _ :: _,h2,_,_ => simp at h2; omega
     | [u,v],_,ha,hy =>
       have e2 : keyV H (.ref a) = (wordV u && numV v) := by
          show (match H a with | some (.tup [x,y]) => wordV x && numV y | _ => false) = _
          rw [ha]
       rw [e2] at q
       obtain ⟨au,lu⟩ := hy a _ rfl ha u (by simp)
       obtain ⟨av,lv⟩ := hy a _ rfl ha v (by simp)
       refine ⟨_,rfl,a,_,_,u,rfl,rfl,SqT.of ha,rfl,u,rfl,au,lu,fun H1 s1 => ⟨_,rfl,?_⟩⟩
       have ha1 := s1 _ _ ha
       cases eu : wordV u with
       | false => rw [eu] at q; exact iteF (q _ s1)
       | true =>
         rw [eu,Bool.true_and] at q
         refine iteT ⟨_,rfl,a,_,_,v,rfl,rfl,SqT.of ha1,rfl,v,rfl,av.same s1,_,rfl,?_⟩
         cases v with
         | int n =>
           refine iteT ⟨_,rfl,a,_,_,V.int n,rfl,rfl,SqT.of ha1,rfl,_,_,rfl,rfl,_,rfl,ite2 (fun h3 => ?_) (fun h3 => ?_)⟩
           ·have h3 : 0 ≤ n := of_decide_eq_true h3
            refine ⟨_,_,rfl,rfl,?_⟩
            have := q _ s1
            have e4 : numV (.int n) = decide (n ≤ 99) := by
             show decide (0 ≤ n ∧ n ≤ 99) = _
             rw [Bool.eq_iff_iff]; simp [h3]
            rw [e4] at this
            exact this
           ·have h3 : ¬ (0 ≤ n) := by simpa using h3
            have := q _ s1
            have e4 : numV (.int n) = false := decide_eq_false (by omega)
            rw [e4] at this
            exact this
         | _ => exact iteF (q _ s1)
def spDay (K : PySem.W.Frag) : Sp := fun vs H Q _ => ∃ x,vs = [x] ∧ Arg K H x ∧ Q (.bl (dayV x)) H
abbrev sis_day : Stmt := top 21
theorem scis_day : Ak ["thing"] ["thing"] (Ag sis_day) := by trivial
theorem ok_day (T : Txt mg) (F_is_whole : FnAt P w K mg base "is_whole" 1 ["thing"] (spWhole K)) (F : Ai K mg "is_day" sis_day ["thing"]) : FnAt P w K mg base "is_day" 2 ["thing"] (spDay K) := by
 refine F.at scis_day (fun vs H Q E h => ?_) (fun f cdv A outer s H vs Q E hr h => ?_)
 ·obtain ⟨x,rfl,_⟩ := h
  rfl
 ·obtain ⟨x,rfl,hk,q⟩ := h
  refine ⟨_,(Ae (Aq (Dl (Ao F_is_whole hr (by decide) rfl (Aa (pv 0) Ac)) (Ex (pe_chain op_le op_le Af (pv 0) (Bi rfl T.g_LAST_DAY)))))),?_⟩
  refine ⟨_,rfl,x,rfl,hk,_,rfl,?_⟩
  cases x with
  | int n =>
    refine iteT ⟨_,rfl,_,_,rfl,rfl,_,rfl,ite2 (fun h3 => ?_) (fun h3 => ?_)⟩
    ·have h3 : 0 ≤ n := of_decide_eq_true h3
     refine ⟨_,_,rfl,rfl,?_⟩
     have e4 : dayV (.int n) = decide (n ≤ 9999) := by
      show decide (0 ≤ n ∧ n ≤ 9999) = _
      rw [Bool.eq_iff_iff]; simp [h3]
     rw [e4] at q
     exact q
    ·have h3 : ¬ (0 ≤ n) := by simpa using h3
     have e4 : dayV (.int n) = false := decide_eq_false (by omega)
     rw [e4] at q
     exact q
  | _ => exact iteF q
def spMask (K : PySem.W.Frag) : Sp := fun vs H Q _ => ∃ (x : V) (m : Nat),vs = [x,.int m] ∧ Arg K H x ∧ Q (.bl (maskV m x)) H
abbrev sis_mask : Stmt := top 22
theorem scis_mask : Ak ["thing","many"] ["thing","many"] (Ag sis_mask) := by trivial
theorem ok_mask (F_is_whole : FnAt P w K mg base "is_whole" 1 ["thing"] (spWhole K)) (F : Ai K mg "is_mask" sis_mask ["thing","many"]) : FnAt P w K mg base "is_mask" 2 ["thing","many"] (spMask K) := by
 refine F.at scis_mask (fun vs H Q E h => ?_) (fun f cdv A outer s H vs Q E hr h => ?_)
 ·obtain ⟨x,m,rfl,_⟩ := h
  rfl
 ·obtain ⟨x,m,rfl,hk,q⟩ := h
  refine ⟨_,(Ae (Aq (Dl (Ao F_is_whole hr (by decide) rfl (Aa (pv 0) Ac)) (Dl (Bo op_ge (pv 0) Af (A0 _)) (Ex (Bo op_le (pe_bm0 PySem.F.plainAttrs_int PySem.F.slot_int_bit_length PySem.F.type_int_bit_length mt_bitlen (pv 0)) (pv 1) (A0 _))))))),?_⟩
  refine ⟨_,rfl,x,rfl,hk,_,rfl,?_⟩
  cases x with
  | int n =>
    refine iteT ⟨_,rfl,_,_,rfl,rfl,_,rfl,ite2 (fun h3 => ?_) (fun h3 => ?_)⟩
    ·have h3 : 0 ≤ n := of_decide_eq_true h3
     refine ⟨_,rfl,rfl,n,rfl,rfl,_,rfl,_,_,rfl,rfl,?_⟩
     have e4 : maskV m (.int n) = decide (((Builtin.Int.intBits n : Nat) : Int) ≤ (m : Int)) := by
      rw [bits_le h3]
      show decide (0 ≤ n ∧ n < 2 ^ m) = _
      rw [Bool.eq_iff_iff]; simp [h3]
     rw [e4] at q
     exact q
    ·have h3 : ¬ (0 ≤ n) := by simpa using h3
     have e4 : maskV m (.int n) = false := decide_eq_false (fun z => h3 z.1)
     rw [e4] at q
     exact q
  | _ => exact iteF q
end
end K15
namespace L2
open PySem PySem.Spec PyProof.Rows
theorem kit_list_any {K : PySem.W.Frag} : PySem.W.kitAny K (.type "list") [.type "list",.type "tuple"] = some true := by
 show (match PySem.W.kitOne K (.type "list") (.type "list") with | some true => some true | some false => PySem.W.kitAny K (.type "list") [.type "tuple"] | none => none) = some true
 rw [kit_same]
theorem call_isLT {X : Cx} : CallR X (.builtin "isinstance") (fun xs H Q => ∃ (a : Addr) (ys : List V) (tp : Addr),xs = [.ref a,.ref tp] ∧ H a = some (.lst ys) ∧ SqT X.K H tp [.ty "list",.ty "tuple"] ∧ Q (.bl true) H) := by
 intro pins s σ H xs us Q I r h
 obtain ⟨a,ys,tp,rfl,ha,hq,q⟩ := h
 obtain ⟨u,w',rfl,rx,rc⟩ := vals2 r
 obtain rfl : u = Value.ref a := rx
 obtain rfl : w' = Value.ref tp := rc
 obtain ⟨_,_,n,_,h1⟩ := (show Cq X.prog X.w H s.heap a (.lst ys) from I.hok a _ ha)
 obtain ⟨its,rv,pl,_⟩ := I.tuple hq
 have ei : its = [.type "list",.type "tuple"] := by
  cases rv with
  | cons r1 r2 => cases r2 with
    | cons r3 r4 =>
      cases r4
      have r1 : _ = Value.type "list" := r1
      have r3 : _ = Value.type "tuple" := r3
      rw [r1,r3]
 obtain ⟨⟨oc,odd,odt,osl⟩,e1,hc,n1,dd⟩ := pl
 dsimp only at hc dd
 subst hc dd ei
 exact PySem.W.kia_tup PySem.W.kitx_list I.kIn ⟨_,h1,rfl⟩ e1 kit_list_any (fun z => nomatch z) fun tk => ⟨.bl true,H,I.tok _,rfl,q⟩
theorem kit_tuple_list {K : PySem.W.Frag} : PySem.W.kitOne K (.type "tuple") (.type "list") = some false := Bz (by decide +kernel) (by decide +kernel) (by decide +kernel)
theorem kit_tuple_any {K : PySem.W.Frag} : PySem.W.kitAny K (.type "tuple") [.type "list",.type "tuple"] = some true := by
 show (match PySem.W.kitOne K (.type "tuple") (.type "list") with | some true => some true | some false => PySem.W.kitAny K (.type "tuple") [.type "tuple"] | none => none) = some true
 rw [kit_tuple_list]
 show (match PySem.W.kitOne K (.type "tuple") (.type "tuple") with | some true => some true | some false => PySem.W.kitAny K (.type "tuple") [] | none => none) = some true
 rw [kit_same]
theorem call_isTT {X : Cx} : CallR X (.builtin "isinstance") (fun xs H Q => ∃ (a : Addr) (ys : List V) (tp : Addr),xs = [.ref a,.ref tp] ∧ H a = some (.tup ys) ∧ SqT X.K H tp [.ty "list",.ty "tuple"] ∧ Q (.bl true) H) := by
 intro pins s σ H xs us Q I r h
 obtain ⟨a,ys,tp,rfl,ha,hq,q⟩ := h
 obtain ⟨u,w',rfl,rx,rc⟩ := vals2 r
 obtain rfl : u = Value.ref a := rx
 obtain rfl : w' = Value.ref tp := rc
 obtain ⟨_,_,_,ob,h1,hcl,_⟩ := (show Cq X.prog X.w H s.heap a (.tup ys) from I.hok a _ ha)
 obtain ⟨its,rv,pl,_⟩ := I.tuple hq
 have ei : its = [.type "list",.type "tuple"] := by
  cases rv with
  | cons r1 r2 => cases r2 with
    | cons r3 r4 =>
      cases r4
      have r1 : _ = Value.type "list" := r1
      have r3 : _ = Value.type "tuple" := r3
      rw [r1,r3]
 obtain ⟨⟨oc,odd,odt,osl⟩,e1,hc,n1,dd⟩ := pl
 dsimp only at hc dd
 subst hc dd ei
 exact PySem.W.kia_tup PySem.W.kitx_tuple I.kIn ⟨_,h1,hcl⟩ e1 kit_tuple_any (fun z => nomatch z) fun tk => ⟨.bl true,H,I.tok _,rfl,q⟩
theorem pg_tupK {X : Cx} {pos : Pos} {es : List Expr} {k : Nat} {t : TGs} {n : Nat} (K : PySem.W.Frag) (hc : X.calm = true) (h : PGs X es t) (hK : X.K = K := by rfl) (hn : (assignEach es X.env).length = n := by rfl) (hst : (assignEach es X.env).findIdx? (·.1) = none := by rfl) : PG X (.Tuple es k pos) (gTup K n t) := by
 subst hK
 exact pg_tup hc h hn hst
end L2
namespace K15
open PySem L2 PyProof.Rows
def bitsF : Nat → Nat → Nat → List V
 | 0,_,_ => []
 | f + 1,m,p => if m = 0 then [] else (if m % 2 = 1 then [V.int p] else []) ++ bitsF f (m / 2) (p + 1)
def bitsL (m : Nat) : List V := bitsF 7 m 0
def leastV (m : Nat) : V := match bitsL m with
 | [] => .non
 | x :: _ => x
def beyI (a b : Nat) : Int := Builtin.bitAnd a (Builtin.bitNot b)
def Bu (a b : Nat) : V := leastV (beyI a b).toNat
theorem bey_ok : ∀ a b : Fin 64,0 ≤ beyI a.val b.val ∧ beyI a.val b.val < 64 := by decide +kernel
def spBits : Sp := fun vs H Q _ => ∃ m : Nat,m < 64 ∧ vs = [.int m] ∧ ∀ (l : Addr) (H' : Hp),Same H H' → H' l = some (.lst (bitsL m)) → Q (.ref l) H'
section
variable {P : Program} {w : World} {K : PySem.W.Frag} {mg : Str → Option Value} {base : Heap}
abbrev sbits_of : Stmt := top 23
theorem Et : Ak ["mask","places","place","rest"] ["mask"] (Ag sbits_of) := by trivial
theorem ok_bits (F : Ai K mg "bits_of" sbits_of ["mask"]) : FnAt P w K mg base "bits_of" 1 ["mask"] spBits := by
 refine F.at Et (fun vs H Q E h => ?_) (fun f cdv A outer s H vs Q E hr h => ?_)
 ·obtain ⟨m,_,rfl,_⟩ := h
  rfl
 ·obtain ⟨m,hm,rfl,q⟩ := h
  refine ⟨_,(Ab (Al (i := 1) Et.nd rfl (by trivial) (A5 Ac))
   (Ab (Al (i := 2) Et.nd rfl (by trivial) Af)
   (Ab (Al (i := 3) Et.nd rfl (by trivial) (pv 0))
   (Ab (ps_while PassesOwn.never (A1 op_gt (pv 3) Af (A0 _)) (Ab (A7 (A1 Ey (Ax Ek (pv 3) Af) Af (A0 _)) (Ae (A3 (Bl PySem.F.plainAttrs_list PySem.F.slot_list_append PySem.F.type_list_append A2 (pv 1) (Aa (pv 2) Ac)))) Ap)
   (Ab (Al (i := 3) Et.nd rfl (by trivial) (Ax op_fdivB (pv 3) Af))
   (Ae (Al (i := 2) Et.nd rfl (by trivial) (Ax C0 (pv 2) Af))))))
   (Ae (Aq (pv 1))))))),?_⟩
  have hs : sizeLine = 16777216 := sizeLine_eq
  refine ⟨(by show 0 ≤ sizeLine; decide),fun l hl => ?_⟩
  have s1 := Same.new (o := .lst []) hl
  have e1 : upd H l (.lst []) l = some (.lst []) := Ad
  refine ⟨_,rfl,?_⟩
  refine while_by (fun σ H' => ∃ (r p fu : Nat) (xs : List V),σ = [some (.int m),some (.ref l),some (.int p),some (.int r)] ∧ Same H H' ∧ H' l = some (.lst xs) ∧ r < 2 ^ fu ∧ fu ≤ 7 ∧ xs.length + fu ≤ 7 ∧ xs ++ bitsF fu r p = bitsL m)
   (fun σ _ => match (σ[3]? : Option (Option V)) with | some (some (V.int r)) => r.toNat | _ => 0) ⟨m,0,7,[],rfl,s1,e1,by omega,by omega,by decide,rfl⟩ ?_ ?_
  ·rintro σ H' ⟨r,p,fu,xs,rfl,s',e',hr',hf,hx,eq⟩
   refine ⟨_,rfl,_,_,rfl,rfl,_,rfl,ite2 (fun hpos => ?_) (fun hpos => ?_)⟩
   ·have hpos : (0 : Int) < (r : Int) := of_decide_eq_true hpos
    obtain ⟨g,rfl⟩ : ∃ g,fu = g + 1 := ⟨fu - 1,by cases fu with | zero => simp at hr'; omega | succ n => omega⟩
    have hr2 : r / 2 < 2 ^ g := by rw [Nat.pow_succ] at hr'; omega
    have e2 : (r : Int) / 2 = ((r / 2 : Nat) : Int) := by omega
    have unf : bitsF (g + 1) r p = (if r % 2 = 1 then [V.int p] else []) ++ bitsF g (r / 2) (p + 1) := by
     show (if r = 0 then [] else _) = _
     rw [if_neg (by omega)]
    refine ⟨_,rfl,_,_,rfl,rfl,(by show (0 : Int) < 2; decide),rfl,_,rfl,ite2 (fun hodd => ?_) (fun hodd => ?_)⟩
    ·have hodd : r % 2 = 1 := by
          have := V.int.inj (of_decide_eq_true hodd)
          omega
     refine ⟨_,rfl,.inl ⟨rfl,_,SqL.of e'⟩,_,rfl,l,_,_,rfl,rfl,e',(by omega),?_⟩
     refine ⟨_,rfl,_,_,rfl,rfl,⟨by decide,by decide⟩,_,rfl,_,_,rfl,rfl,⟨r / 2,p + 1,g,xs ++ [V.int p],?_,fun b o e => ?_,Ad,hr2,by omega,by rw [List.length_append,List.length_singleton]; omega,?_⟩,?_⟩
     ·show [some (V.int m),some (V.ref l),some (V.int ((p : Int) + 1)),some (V.int ((r : Int) / 2))] = _
      rw [e2]
      rfl
     ·rw [upd_ne (Ah e hl)]; exact s' b o e
     ·rw [← eq,unf,if_pos hodd,List.append_assoc]
     ·show ((r : Int) / 2).toNat < ((r : Nat) : Int).toNat
      omega
    ·have hodd : ¬ r % 2 = 1 := fun z => hodd (decide_eq_true (show V.int ((r : Int) % 2) = V.int 1 by rw [show (r : Int) % 2 = 1 by omega]))
     refine ⟨_,rfl,_,_,rfl,rfl,⟨by decide,by decide⟩,_,rfl,_,_,rfl,rfl,⟨r / 2,p + 1,g,xs,?_,s',e',hr2,by omega,by omega,?_⟩,?_⟩
     ·show [some (V.int m),some (V.ref l),some (V.int ((p : Int) + 1)),some (V.int ((r : Int) / 2))] = _
      rw [e2]
      rfl
     ·rw [← eq,unf,if_neg hodd,List.nil_append]
     ·show ((r : Int) / 2).toNat < ((r : Nat) : Int).toNat
      omega
   ·have hpos : ¬ (0 : Int) < (r : Int) := fun z => hpos (decide_eq_true z)
    have r0 : r = 0 := by omega
    subst r0
    have eb : bitsF fu 0 p = [] := by cases fu <;> rfl
    rw [eb,List.append_nil] at eq
    exact ⟨_,rfl,q l _ s' (by rw [e',eq])⟩
  ·rintro σ H' Q1 Q2 hq ⟨v,e,i,j,e1,e2,b,e3,z⟩
   exact ⟨v,e,i,j,e1,e2,b,e3,hq _ _ z⟩
def spLeast : Sp := fun vs H Q _ => ∃ m : Nat,m < 64 ∧ vs = [.int m] ∧ ∀ H',Same H H' → Q (leastV m) H'
abbrev sleast_bit : Stmt := top 24
theorem scleast_bit : Ak ["mask","places"] ["mask"] (Ag sleast_bit) := by trivial
theorem ok_least (F_bits : FnAt P w K mg base "bits_of" 1 ["mask"] spBits) (F : Ai K mg "least_bit" sleast_bit ["mask"]) : FnAt P w K mg base "least_bit" 2 ["mask"] spLeast := by
 refine F.at scleast_bit (fun vs H Q E h => ?_) (fun f cdv A outer s H vs Q E hr h => ?_)
 ·obtain ⟨m,_,rfl,_⟩ := h
  rfl
 ·obtain ⟨m,hm,rfl,q⟩ := h
  refine ⟨_,(Ab (Al (i := 1) scleast_bit.nd rfl (by trivial) (Ao F_bits hr (by decide) rfl (Aa (pv 0) Ac)))
   (Ae (Aq (pe_ifExp (pt_truth (pv 1) (fun _ => rfl)) (Az At (pv 1) Af (fun _ _ => rfl)) pe_non)))),?_⟩
  refine ⟨_,rfl,m,hm,rfl,fun l H1 s1 e1 => ?_⟩
  have q1 := q H1 s1
  unfold leastV at q1
  cases hb : bitsL m with
  | nil =>
    rw [hb] at e1 q1
    exact ⟨_,rfl,false,.inl ⟨_,SqL.of e1,rfl⟩,iteF q1⟩
  | cons x r =>
    rw [hb] at e1 q1
    exact ⟨_,rfl,true,.inl ⟨_,SqL.of e1,rfl⟩,iteT ⟨_,rfl,l,_,_,x,rfl,rfl,SqL.of e1,atI_nat (j := 0) rfl,q1⟩⟩
def spBeyond : Sp := fun vs H Q _ => ∃ a b : Nat,a < 64 ∧ b < 64 ∧ vs = [.int a,.int b] ∧ ∀ H',Same H H' → Q (Bu a b) H'
abbrev Dm : Stmt := top 36
theorem scleast_beyond : Ak ["mask","bound"] ["mask","bound"] (Ag Dm) := by trivial
theorem ok_beyond (F_least : FnAt P w K mg base "least_bit" 2 ["mask"] spLeast) (F : Ai K mg "least_beyond" Dm ["mask","bound"]) : FnAt P w K mg base "least_beyond" 3 ["mask","bound"] spBeyond := by
 refine F.at scleast_beyond (fun vs H Q E h => ?_) (fun f cdv A outer s H vs Q E hr h => ?_)
 ·obtain ⟨a,b,_,_,rfl,_⟩ := h
  rfl
 ·obtain ⟨a,b,ha,hb,rfl,q⟩ := h
  refine ⟨_,(Ae (Aq (Ao F_least hr (by decide) rfl (Aa (Ax op_and (pv 0) (pe_un un_inv (pv 1))) Ac)))),?_⟩
  obtain ⟨h0,h1⟩ := bey_ok ⟨a,ha⟩ ⟨b,hb⟩
  dsimp only at h0 h1
  refine ⟨_,rfl,_,rfl,_,rfl,_,_,rfl,rfl,(beyI a b).toNat,by omega,?_,q⟩
  show [V.int (beyI a b)] = [V.int ((beyI a b).toNat : Nat)]
  rw [Int.toNat_of_nonneg h0]
end
theorem mask5 {i : Nat} (h : i < 32) : maskV 5 (V.int i) = true := decide_eq_true ⟨by omega,by show (i : Int) < 32; omega⟩
theorem mask6 {i : Nat} (h : i < 64) : maskV 6 (V.int i) = true := decide_eq_true ⟨by omega,by show (i : Int) < 64; omega⟩
structure Asks (a0 a1 a2 a3 : Nat) : Prop where
 l0 : a0 < 64
 l1 : a1 < 64
 l2 : a2 < 64
 l3 : a3 < 64
 b0 : Bu a0 a1 = .non
 b1 : Bu a1 a2 = .non
 b2 : Bu a2 a3 = .non
abbrev B6 (a0 a1 a2 a3 : Nat) : List V := [.int a0,.int a1,.int a2,.int a3]
structure Four (le st ba re : Nat) : Prop where
 hle : le < 32
 hst : st < 64
 hba : ba < 64
 hsb : Builtin.bitAnd st ba = 0
 hre : re ≤ 3
def spAreT : Sp := fun vs H Q _ => ∃ le st ba re : Nat,Four le st ba re ∧ vs = [.int le,.int st,.int ba,.int re] ∧ Q (.bl true) H
section
variable {P : Program} {w : World} {K : PySem.W.Frag} {mg : Str → Option Value} {base : Heap}
abbrev sare_terms : Stmt := top 37
theorem scare_terms : Ak ["lets","strings","bars","reach"] ["lets","strings","bars","reach"] (Ag sare_terms) := by trivial
theorem ok_are_terms (T : Txt mg) (F_is_mask : FnAt P w K mg base "is_mask" 2 ["thing","many"] (spMask K)) (F_is_whole : FnAt P w K mg base "is_whole" 1 ["thing"] (spWhole K)) (F : Ai K mg "are_terms" sare_terms ["lets","strings","bars","reach"]) :
 FnAt P w K mg base "are_terms" 3 ["lets","strings","bars","reach"] spAreT := by
 refine F.at scare_terms (fun vs H Q E h => ?_) (fun f cdv A outer s H vs Q E hr h => ?_)
 ·obtain ⟨le,st,ba,re,_,rfl,_⟩ := h
  rfl
 ·obtain ⟨le,st,ba,re,g,rfl,q⟩ := h
  refine ⟨_,(Ab (A7 (A9 (A8 (Ao F_is_mask hr (by decide) rfl (Aa (pv 0) (Aa (Bi rfl T.g_DEED_BITS) Ac))))) (Ae (Aq pe_bl)) Ap)
   (Ab (A7 (PW.pt (pw_or (A9 (A8 (Ao F_is_mask hr (by decide) rfl (Aa (pv 1) (Aa (Bi rfl T.g_STRING_BITS) Ac))))) (Ej (A9 (A8 (Ao F_is_mask hr (by decide) rfl (Aa (pv 2) (Aa (Bi rfl T.g_STRING_BITS) Ac)))))))) (Ae (Aq pe_bl)) Ap)
   (Ab (A7 (A1 op_ne (Ax op_and (pv 1) (pv 2)) Af (A0 _)) (Ae (Aq pe_bl)) Ap)
   (Ae (Aq (Dl (Ao F_is_whole hr (by decide) rfl (Aa (pv 3) Ac)) (Ex (pe_chain op_le op_le Af (pv 3) (Bi rfl T.g_GREATEST_REACH))))))))),?_⟩
  refine ⟨_,rfl,.int le,5,rfl,⟨.int,.int _⟩,_,rfl,?_⟩
  rw [mask5 g.hle]
  refine iteF ⟨_,rfl,.int st,6,rfl,⟨.int,.int _⟩,_,rfl,?_⟩
  rw [mask6 g.hst]
  refine iteF ⟨_,rfl,.int ba,6,rfl,⟨.int,.int _⟩,_,rfl,?_⟩
  rw [mask6 g.hba]
  refine iteF ⟨_,rfl,_,rfl,_,_,rfl,rfl,rfl,_,rfl,iteNS (congrArg V.int g.hsb) ?_⟩
  refine ⟨_,rfl,.int re,rfl,⟨.int,.int _⟩,_,rfl,iteT ⟨_,rfl,_,_,rfl,rfl,_,rfl,?_⟩⟩
  have h1 : decide ((0 : Int) ≤ (re : Int)) = true := decide_eq_true (by omega)
  have h2 : decide ((re : Int) ≤ 3) = true := decide_eq_true (by have := g.hre; omega)
  show if decide ((0 : Int) ≤ (re : Int)) = true then _ else _
  rw [if_pos h1]
  refine ⟨_,_,rfl,rfl,?_⟩
  show Q (.bl (decide ((re : Int) ≤ 3))) H
  rw [h2]
  exact q
def spTruth : Sp := fun vs H Q _ => ∃ b : Bool,vs = [.bl b] ∧ Q .non H
abbrev sneed_truth : Stmt := top 39
theorem scneed_truth : Ak ["thing"] ["thing"] (Ag sneed_truth) := by trivial
theorem ok_truth (T : Txt mg) (F : Ai K mg "need_truth" sneed_truth ["thing"]) : FnAt P w K mg base "need_truth" 1 ["thing"] spTruth := by
 refine F.at scneed_truth (fun vs H Q E h => ?_) (fun f cdv A outer s H vs Q E hr h => ?_)
 ·obtain ⟨b,rfl,_⟩ := h
  rfl
 ·obtain ⟨b,rfl,q⟩ := h
  refine ⟨_,(Ae (A7 (A9 (A8 (An (D5 .bl (by simp)) rfl T.n_isinstance boot_isinstance (Aa (pv 0) (Aa (Bx (v := .ty "bool") rfl T.n_bool boot_bool rfl) Ac))))) (Ae Ar) Ap)),?_⟩
  exact ⟨_,rfl,.bl b,.bl,rfl,.bl b,_,rfl,iteF q⟩
def spSpan : Sp := fun vs H Q _ => ∃ f l : Nat,f ≤ l ∧ l ≤ 9999 ∧ vs = [.int f,.int l] ∧ Q .non H
theorem day_ok {i : Nat} (h : i ≤ 9999) : dayV (V.int i) = true := decide_eq_true ⟨by omega,by omega⟩
abbrev sneed_span : Stmt := top 40
theorem scneed_span : Ak ["first","last"] ["first","last"] (Ag sneed_span) := by trivial
theorem ok_span (F_is_day : FnAt P w K mg base "is_day" 2 ["thing"] (spDay K)) (F : Ai K mg "need_span" sneed_span ["first","last"]) : FnAt P w K mg base "need_span" 3 ["first","last"] spSpan := by
 refine F.at scneed_span (fun vs H Q E h => ?_) (fun f cdv A outer s H vs Q E hr h => ?_)
 ·obtain ⟨f,l,_,_,rfl,_⟩ := h
  rfl
 ·obtain ⟨fi,la,h1,h2,rfl,q⟩ := h
  refine ⟨_,(Ab (A7 (A9 (A8 (Ao F_is_day hr (by decide) rfl (Aa (pv 0) Ac)))) (Ae Ar) Ap)
   (Ae (A7 (PW.pt (pw_or (A9 (A8 (Ao F_is_day hr (by decide) rfl (Aa (pv 1) Ac)))) (Ej (A1 op_lt (pv 1) (pv 0) (A0 _))))) (Ae Ar) Ap))),?_⟩
  refine ⟨_,rfl,.int fi,rfl,⟨.int,.int _⟩,_,rfl,?_⟩
  rw [day_ok (show fi ≤ 9999 by omega)]
  refine iteF ⟨_,rfl,.int la,rfl,⟨.int,.int _⟩,_,rfl,?_⟩
  rw [day_ok h2]
  refine iteF ⟨_,rfl,_,rfl,_,_,rfl,rfl,_,rfl,?_⟩
  have hn : ¬ ((la : Int) < (fi : Int)) := by omega
  show if decide ((la : Int) < (fi : Int)) = true then _ else _
  rw [decide_eq_false hn]
  exact iteF q
def spAreA : Sp := fun vs H Q _ => ∃ (l : Addr) (a0 a1 a2 a3 : Nat),Asks a0 a1 a2 a3 ∧ vs = [.ref l] ∧ H l = some (.tup (B6 a0 a1 a2 a3)) ∧ ∀ H',Same H H' → Q (.bl true) H'
abbrev Cv : Stmt := top 38
theorem scare_asks : Ak ["thing"] ["thing"] (Ag Cv) := by trivial
theorem ok_are_asks (T : Txt mg) (F_is_mask : FnAt P w K mg base "is_mask" 2 ["thing","many"] (spMask K)) (F_beyond : FnAt P w K mg base "least_beyond" 3 ["mask","bound"] spBeyond) (F : Ai K mg "are_asks" Cv ["thing"]) :
 FnAt P w K mg base "are_asks" 4 ["thing"] spAreA := by
 refine F.at scare_asks (fun vs H Q E h => ?_) (fun f cdv A outer s H vs Q E hr h => ?_)
 ·obtain ⟨l,a0,a1,a2,a3,_,rfl,_⟩ := h
  rfl
 ·obtain ⟨l,a0,a1,a2,a3,g,rfl,hl,q⟩ := h
  refine ⟨_,(Ab (A7 (PW.pt (pw_or (A9 (A8 (An call_isTT rfl T.n_isinstance boot_isinstance (Aa (pv 0) (Aa (pe_tup (Aa (Bx (v := .ty "list") rfl T.n_list boot_list rfl) (Aa (Bx (v := .ty "tuple") rfl T.n_tuple boot_tuple rfl) Ac))) Ac))))) (Ej (A1 op_ne (An A4 rfl T.n_len boot_len (Aa (pv 0) Ac)) (Bi rfl T.g_JOIN_COUNT) (A0 _))))) (Ae (Aq pe_bl)) Ap)
   (Ab (A7 (A9 (A8 (An (Di rfl) rfl T.n_all boot_all (Aa (Bs (sc := Ag Cv) (N0 := ["thing"]) (xs := ["mask"]) (ys := []) (js := []) (by trivial) rfl (pi_tup (pv 0)) (fun _ _ _ _ => (As (i := 0) (show (["mask"] : List Str).Nodup by decide +kernel) rfl (by trivial))) (fun _ _ _ _ => Cj) (fun _ _ _ _ => (Ao F_is_mask hr (by decide) rfl (Aa (pv 0) (Aa (Bi rfl T.g_DUTY_BITS) Ac))))) Ac)))) (Ae (Aq pe_bl)) Ap)
   (Ae (Aq (An (Di rfl) rfl T.n_all boot_all (Aa (Bs (sc := Ag Cv) (N0 := ["thing"]) (xs := ["looser","closer"]) (ys := []) (js := []) (by trivial) rfl (pi_zipG rfl T.n_zip (Aa (Ba sl_tup (pv 0) Bm (Bd (pe_un un_neg Af))) (Aa (Ba sl_tup (pv 0) (Bd Af) Bm) Ac))) (fun _ _ _ _ => (pg_tupK (n := 2) K rfl (A6 (As (i := 0) (show (["looser","closer"] : List Str).Nodup by decide +kernel) rfl (by trivial)) (A6 (As (i := 1) (show (["looser","closer"] : List Str).Nodup by decide +kernel) rfl (by trivial)) pgs_nil)))) (fun _ _ _ _ => Cj) (fun _ _ _ _ => (pe_cmp (pc_isN (Ao F_beyond hr (by decide) rfl (Aa (pv 0) (Aa (pv 1) Ac))))))) Ac)))))),?_⟩
  have hs : sizeLine = 16777216 := sizeLine_eq
  refine ⟨_,rfl,(by show 2 ≤ sizeLine; decide),fun tp htp => ?_⟩
  have s1 := Same.new (o := .tup [.ty "list",.ty "tuple"]) htp
  have e1 : upd H tp (.tup [.ty "list",.ty "tuple"]) tp = some (.tup [.ty "list",.ty "tuple"]) := Ad
  generalize upd H tp (.tup [.ty "list",.ty "tuple"]) = H1 at s1 e1 ⊢
  have l1 := s1 _ _ hl
  refine ⟨l,_,tp,rfl,l1,SqT.of e1,_,rfl,iteF ?_⟩
  refine ⟨_,rfl,_,_,rfl,.inr ⟨_,SqT.of l1,rfl⟩,rfl,_,rfl,iteNS rfl ?_⟩
  have el : ∀ (i : Nat) (x : V),(B6 a0 a1 a2 a3)[i]? = some x → ∃ n : Nat,n < 64 ∧ x = V.int n := by
   intro i x e
   match i,e with
   | 0,e => cases e; exact ⟨a0,g.l0,rfl⟩
   | 1,e => cases e; exact ⟨a1,g.l1,rfl⟩
   | 2,e => cases e; exact ⟨a2,g.l2,rfl⟩
   | 3,e => cases e; exact ⟨a3,g.l3,rfl⟩
   | n + 4,e => simp at e
  refine ⟨_,rfl,l,rfl,⟨_,SqT.of l1⟩,comp_tup (K := K) (a := l) (xs := B6 a0 a1 a2 a3) (fun i ys H' => ys = (List.replicate i true).map V.bl ∧ H' = H1) ⟨rfl,rfl⟩ (by show 4 ≤ sizeLine; decide) ?_ ?_ ?_ ?_⟩
  ·rintro i ys H' ⟨rfl,_⟩
   simp
  ·rintro i ys H' _ ⟨_,rfl⟩
   exact SqT.of l1
  ·rintro i x ys H' hx ⟨rfl,rfl⟩
   obtain ⟨n,hn,rfl⟩ := el i x hx
   refine ⟨_,rfl,.int n,6,rfl,⟨.int,.int _⟩,?_,rfl⟩
   rw [mask6 hn,List.replicate_succ',List.map_append]
   rfl
  ·rintro ys H' ⟨rfl,rfl⟩
   intro p hp
   have s2 := Same.new (o := .lst ((List.replicate (B6 a0 a1 a2 a3).length true).map V.bl)) hp
   refine ⟨p,List.replicate (B6 a0 a1 a2 a3).length true,rfl,SqL.of Ad,_,rfl,iteF ?_⟩
   generalize upd H' p (.lst ((List.replicate (B6 a0 a1 a2 a3).length true).map V.bl)) = H2 at s2 ⊢
   have l2 := s2 _ _ l1
   refine ⟨_,rfl,_,rfl,_,rfl,l,_,rfl,SqT.of l2,(by show ¬ (HT.sIx 4 0 none = 0 ∧ HT.sIx 4 4 (some (-1)) = 4); decide),fun la hla => ?_⟩
   have s3 := Same.new (o := .tup (cutV (B6 a0 a1 a2 a3) none (some (-1)))) hla
   have e3 : upd H2 la (.tup (cutV (B6 a0 a1 a2 a3) none (some (-1)))) la = some (.tup [.int a0,.int a1,.int a2]) := Ad
   generalize upd H2 la (.tup (cutV (B6 a0 a1 a2 a3) none (some (-1)))) = H3 at s3 e3 ⊢
   have l3 := s3 _ _ l2
   refine ⟨_,rfl,_,rfl,l,_,rfl,SqT.of l3,(by show ¬ (HT.sIx 4 0 (some 1) = 0 ∧ HT.sIx 4 4 none = 4); decide),fun lb hlb => ?_⟩
   have s4 := Same.new (o := .tup (cutV (B6 a0 a1 a2 a3) (some 1) none)) hlb
   have e4 : upd H3 lb (.tup (cutV (B6 a0 a1 a2 a3) (some 1) none)) lb = some (.tup [.int a1,.int a2,.int a3]) := Ad
   generalize upd H3 lb (.tup (cutV (B6 a0 a1 a2 a3) (some 1) none)) = H4 at s4 e4 ⊢
   replace e3 := s4 _ _ e3
   refine ⟨true,true,la,lb,rfl,⟨_,SqT.of e3⟩,⟨_,SqT.of e4⟩,comp_zipG (K := K) (b1 := true) (b2 := true) (a := la) (b := lb) (xs := [.int a0,.int a1,.int a2]) (ys := [.int a1,.int a2,.int a3]) (fun i us H' => us = (List.replicate i true).map V.bl ∧ Same H4 H') ⟨rfl,Same.refl _⟩ (by show 3 ≤ sizeLine; decide) rfl ?_ ?_ ?_ ?_⟩
   ·rintro i us H' ⟨rfl,_⟩
    simp
   ·rintro i us H' _ ⟨_,s'⟩
    exact ⟨SqT.of (s' _ _ e3),SqT.of (s' _ _ e4)⟩
   ·rintro i x y p2 us H' hx hy ⟨rfl,s'⟩ hp2
    have s5 := Same.new (o := .tup [x,y]) hp2
    refine ⟨p2,_,rfl,SqT.of Ad,rfl,_,_,rfl,_,_,rfl,rfl,?_⟩
    have key : ∃ n m : Nat,n < 64 ∧ m < 64 ∧ x = V.int n ∧ y = V.int m ∧ Bu n m = .non := by
     match i,hx,hy with
     | 0,hx,hy => cases hx; cases hy; exact ⟨a0,a1,g.l0,g.l1,rfl,rfl,g.b0⟩
     | 1,hx,hy => cases hx; cases hy; exact ⟨a1,a2,g.l1,g.l2,rfl,rfl,g.b1⟩
     | 2,hx,hy => cases hx; cases hy; exact ⟨a2,a3,g.l2,g.l3,rfl,rfl,g.b2⟩
     | n + 3,hx,_ => simp at hx
    obtain ⟨n,m,hn,hm,rfl,rfl,hb⟩ := key
    refine ⟨_,rfl,_,rfl,n,m,hn,hm,rfl,fun H5 s6 => ⟨?_,(s'.trans s5).trans s6⟩⟩
    rw [hb,List.replicate_succ',List.map_append]
    rfl
   ·rintro us H' ⟨rfl,s'⟩
    intro p3 hp3
    have s5 := Same.new (o := .lst ((List.replicate ([V.int a0,V.int a1,V.int a2] : List V).length true).map V.bl)) hp3
    exact ⟨p3,List.replicate ([V.int a0,V.int a1,V.int a2] : List V).length true,rfl,SqL.of Ad,q _ (((((s1.trans s2).trans s3).trans s4).trans s').trans s5)⟩
def spAreL : Sp := fun vs H Q _ => ∃ (l : Addr) (a0 a1 a2 a3 : Nat),Asks a0 a1 a2 a3 ∧ vs = [.ref l] ∧ H l = some (.lst (B6 a0 a1 a2 a3)) ∧ ∀ H',Same H H' → Q (.bl true) H'
theorem ok_are_asksL (T : Txt mg) (F_is_mask : FnAt P w K mg base "is_mask" 2 ["thing","many"] (spMask K)) (F_beyond : FnAt P w K mg base "least_beyond" 3 ["mask","bound"] spBeyond) (F : Ai K mg "are_asks" Cv ["thing"]) :
 FnAt P w K mg base "are_asks" 4 ["thing"] spAreL := by
 refine F.at scare_asks (fun vs H Q E h => ?_) (fun f cdv A outer s H vs Q E hr h => ?_)
 ·obtain ⟨l,a0,a1,a2,a3,_,rfl,_⟩ := h
  rfl
 ·obtain ⟨l,a0,a1,a2,a3,g,rfl,hl,q⟩ := h
  refine ⟨_,(Ab (A7 (PW.pt (pw_or (A9 (A8 (An call_isLT rfl T.n_isinstance boot_isinstance (Aa (pv 0) (Aa (pe_tup (Aa (Bx (v := .ty "list") rfl T.n_list boot_list rfl) (Aa (Bx (v := .ty "tuple") rfl T.n_tuple boot_tuple rfl) Ac))) Ac))))) (Ej (A1 op_ne (An A4 rfl T.n_len boot_len (Aa (pv 0) Ac)) (Bi rfl T.g_JOIN_COUNT) (A0 _))))) (Ae (Aq pe_bl)) Ap)
   (Ab (A7 (A9 (A8 (An (Di rfl) rfl T.n_all boot_all (Aa (Bs (sc := Ag Cv) (N0 := ["thing"]) (xs := ["mask"]) (ys := []) (js := []) (by trivial) rfl (Bn (pv 0)) (fun _ _ _ _ => (As (i := 0) (show (["mask"] : List Str).Nodup by decide +kernel) rfl (by trivial))) (fun _ _ _ _ => Cj) (fun _ _ _ _ => (Ao F_is_mask hr (by decide) rfl (Aa (pv 0) (Aa (Bi rfl T.g_DUTY_BITS) Ac))))) Ac)))) (Ae (Aq pe_bl)) Ap)
   (Ae (Aq (An (Di rfl) rfl T.n_all boot_all (Aa (Bs (sc := Ag Cv) (N0 := ["thing"]) (xs := ["looser","closer"]) (ys := []) (js := []) (by trivial) rfl (pi_zipG rfl T.n_zip (Aa (Ba Cn (pv 0) Bm (Bd (pe_un un_neg Af))) (Aa (Ba Cn (pv 0) (Bd Af) Bm) Ac))) (fun _ _ _ _ => (pg_tupK (n := 2) K rfl (A6 (As (i := 0) (show (["looser","closer"] : List Str).Nodup by decide +kernel) rfl (by trivial)) (A6 (As (i := 1) (show (["looser","closer"] : List Str).Nodup by decide +kernel) rfl (by trivial)) pgs_nil)))) (fun _ _ _ _ => Cj) (fun _ _ _ _ => (pe_cmp (pc_isN (Ao F_beyond hr (by decide) rfl (Aa (pv 0) (Aa (pv 1) Ac))))))) Ac)))))),?_⟩
  have hs : sizeLine = 16777216 := sizeLine_eq
  refine ⟨_,rfl,(by show 2 ≤ sizeLine; decide),fun tp htp => ?_⟩
  have s1 := Same.new (o := .tup [.ty "list",.ty "tuple"]) htp
  have e1 : upd H tp (.tup [.ty "list",.ty "tuple"]) tp = some (.tup [.ty "list",.ty "tuple"]) := Ad
  generalize upd H tp (.tup [.ty "list",.ty "tuple"]) = H1 at s1 e1 ⊢
  have l1 := s1 _ _ hl
  refine ⟨l,_,tp,rfl,l1,SqT.of e1,_,rfl,iteF ?_⟩
  refine ⟨_,rfl,_,_,rfl,.inl ⟨_,SqL.of l1,rfl⟩,rfl,_,rfl,iteNS rfl ?_⟩
  have el : ∀ (i : Nat) (x : V),(B6 a0 a1 a2 a3)[i]? = some x → ∃ n : Nat,n < 64 ∧ x = V.int n := by
   intro i x e
   match i,e with
   | 0,e => cases e; exact ⟨a0,g.l0,rfl⟩
   | 1,e => cases e; exact ⟨a1,g.l1,rfl⟩
   | 2,e => cases e; exact ⟨a2,g.l2,rfl⟩
   | 3,e => cases e; exact ⟨a3,g.l3,rfl⟩
   | n + 4,e => simp at e
  refine ⟨_,rfl,l,rfl,⟨_,SqL.of l1⟩,Bj (K := K) (a := l) (xs := B6 a0 a1 a2 a3) (fun i ys H' => ys = (List.replicate i true).map V.bl ∧ H' = H1) ⟨rfl,rfl⟩ (by show 4 ≤ sizeLine; decide) ?_ ?_ ?_ ?_⟩
  ·rintro i ys H' ⟨rfl,_⟩
   simp
  ·rintro i ys H' _ ⟨_,rfl⟩
   exact SqL.of l1
  ·rintro i x ys H' hx ⟨rfl,rfl⟩
   obtain ⟨n,hn,rfl⟩ := el i x hx
   refine ⟨_,rfl,.int n,6,rfl,⟨.int,.int _⟩,?_,rfl⟩
   rw [mask6 hn,List.replicate_succ',List.map_append]
   rfl
  ·rintro ys H' ⟨rfl,rfl⟩
   intro p hp
   have s2 := Same.new (o := .lst ((List.replicate (B6 a0 a1 a2 a3).length true).map V.bl)) hp
   refine ⟨p,List.replicate (B6 a0 a1 a2 a3).length true,rfl,SqL.of Ad,_,rfl,iteF ?_⟩
   generalize upd H' p (.lst ((List.replicate (B6 a0 a1 a2 a3).length true).map V.bl)) = H2 at s2 ⊢
   have l2 := s2 _ _ l1
   refine ⟨_,rfl,_,rfl,_,rfl,l,_,rfl,SqL.of l2,fun la hla => ?_⟩
   have s3 := Same.new (o := .lst (cutV (B6 a0 a1 a2 a3) none (some (-1)))) hla
   have e3 : upd H2 la (.lst (cutV (B6 a0 a1 a2 a3) none (some (-1)))) la = some (.lst [.int a0,.int a1,.int a2]) := Ad
   generalize upd H2 la (.lst (cutV (B6 a0 a1 a2 a3) none (some (-1)))) = H3 at s3 e3 ⊢
   have l3 := s3 _ _ l2
   refine ⟨_,rfl,_,rfl,l,_,rfl,SqL.of l3,fun lb hlb => ?_⟩
   have s4 := Same.new (o := .lst (cutV (B6 a0 a1 a2 a3) (some 1) none)) hlb
   have e4 : upd H3 lb (.lst (cutV (B6 a0 a1 a2 a3) (some 1) none)) lb = some (.lst [.int a1,.int a2,.int a3]) := Ad
   generalize upd H3 lb (.lst (cutV (B6 a0 a1 a2 a3) (some 1) none)) = H4 at s4 e4 ⊢
   replace e3 := s4 _ _ e3
   refine ⟨false,false,la,lb,rfl,⟨_,SqL.of e3⟩,⟨_,SqL.of e4⟩,comp_zipG (K := K) (b1 := false) (b2 := false) (a := la) (b := lb) (xs := [.int a0,.int a1,.int a2]) (ys := [.int a1,.int a2,.int a3]) (fun i us H' => us = (List.replicate i true).map V.bl ∧ Same H4 H') ⟨rfl,Same.refl _⟩ (by show 3 ≤ sizeLine; decide) rfl ?_ ?_ ?_ ?_⟩
   ·rintro i us H' ⟨rfl,_⟩
    simp
   ·rintro i us H' _ ⟨_,s'⟩
    exact ⟨SqL.of (s' _ _ e3),SqL.of (s' _ _ e4)⟩
   ·rintro i x y p2 us H' hx hy ⟨rfl,s'⟩ hp2
    have s5 := Same.new (o := .tup [x,y]) hp2
    refine ⟨p2,_,rfl,SqT.of Ad,rfl,_,_,rfl,_,_,rfl,rfl,?_⟩
    have key : ∃ n m : Nat,n < 64 ∧ m < 64 ∧ x = V.int n ∧ y = V.int m ∧ Bu n m = .non := by
     match i,hx,hy with
     | 0,hx,hy => cases hx; cases hy; exact ⟨a0,a1,g.l0,g.l1,rfl,rfl,g.b0⟩
     | 1,hx,hy => cases hx; cases hy; exact ⟨a1,a2,g.l1,g.l2,rfl,rfl,g.b1⟩
     | 2,hx,hy => cases hx; cases hy; exact ⟨a2,a3,g.l2,g.l3,rfl,rfl,g.b2⟩
     | n + 3,hx,_ => simp at hx
    obtain ⟨n,m,hn,hm,rfl,rfl,hb⟩ := key
    refine ⟨_,rfl,_,rfl,n,m,hn,hm,rfl,fun H5 s6 => ⟨?_,(s'.trans s5).trans s6⟩⟩
    rw [hb,List.replicate_succ',List.map_append]
    rfl
   ·rintro us H' ⟨rfl,s'⟩
    intro p3 hp3
    have s5 := Same.new (o := .lst ((List.replicate ([V.int a0,V.int a1,V.int a2] : List V).length true).map V.bl)) hp3
    exact ⟨p3,List.replicate ([V.int a0,V.int a1,V.int a2] : List V).length true,rfl,SqL.of Ad,q _ (((((s1.trans s2).trans s3).trans s4).trans s').trans s5)⟩
def spKept : Sp := fun vs H Q _ => ∃ (l : Addr) (a0 a1 a2 a3 : Nat),Asks a0 a1 a2 a3 ∧ vs = [.ref l] ∧ (H l = some (.tup (B6 a0 a1 a2 a3)) ∨ H l = some (.lst (B6 a0 a1 a2 a3))) ∧ ∀ (p : Addr) (H' : Hp),Same H H' → H' p = some (.tup (B6 a0 a1 a2 a3)) → Q (.ref p) H'
abbrev skept_asks : Stmt := top 41
theorem sckept_asks : Ak ["asks"] ["asks"] (Ag skept_asks) := by trivial
theorem ok_kept (T : Txt mg) (F_are_asks : FnAt P w K mg base "are_asks" 4 ["thing"] spAreA) (F_are_asksL : FnAt P w K mg base "are_asks" 4 ["thing"] spAreL) (F : Ai K mg "kept_asks" skept_asks ["asks"]) : FnAt P w K mg base "kept_asks" 5 ["asks"] spKept := by
 refine F.at sckept_asks (fun vs H Q E h => ?_) (fun f cdv A outer s H vs Q E hr h => ?_)
 ·obtain ⟨l,a0,a1,a2,a3,_,rfl,_⟩ := h
  rfl
 ·obtain ⟨l,a0,a1,a2,a3,g,rfl,hl | hl,q⟩ := h
  ·refine ⟨_,(Ab (A7 (pt_cmp (pc_isN (pv 0))) (Ae Ar) Ap)
    (Ab (A7 (A9 (A8 (Ao F_are_asks hr (by decide) rfl (Aa (pv 0) Ac)))) (Ae Ar) Ap)
    (Ae (Aq (Bh Du rfl T.n_tuple boot_tuple (Aa (pv 0) Ac)))))),?_⟩
   refine ⟨_,rfl,_,rfl,iteF ⟨_,rfl,l,a0,a1,a2,a3,g,rfl,hl,fun H1 s1 => ⟨_,rfl,iteF ?_⟩⟩⟩
   exact ⟨_,rfl,l,_,rfl,.inr ⟨SqT.of (s1 _ _ hl),q l _ s1 (s1 _ _ hl)⟩⟩
  ·refine ⟨_,(Ab (A7 (pt_cmp (pc_isN (pv 0))) (Ae Ar) Ap)
    (Ab (A7 (A9 (A8 (Ao F_are_asksL hr (by decide) rfl (Aa (pv 0) Ac)))) (Ae Ar) Ap)
    (Ae (Aq (Bh Du rfl T.n_tuple boot_tuple (Aa (pv 0) Ac)))))),?_⟩
   refine ⟨_,rfl,_,rfl,iteF ⟨_,rfl,l,a0,a1,a2,a3,g,rfl,hl,fun H1 s1 => ⟨_,rfl,iteF ?_⟩⟩⟩
   exact ⟨_,rfl,l,_,rfl,.inl ⟨SqL.of (s1 _ _ hl),fun p hp => q p _ (s1.trans (Same.new hp)) Ad⟩⟩
end
def t4 (le st ba re : Nat) : List (Str × V) := putF "reach" (.int re) (putF "bars" (.int ba) (putF "strings" (.int st) (putF "lets" (.int le) [])))
def l10 (le st ba re : Nat) (pk pa : Addr) (sa : Bool) (fi la : Nat) (lg : Bool) : List (Str × V) :=
 putF "lasting" (.bl lg) (putF "last" (.int la) (putF "first" (.int fi) (putF "asks" (.ref pa) (putF "same" (.bl sa) (putF "key" (.ref pk) (t4 le st ba re))))))
section
variable {le st ba re fi la : Nat} {pk pa : Addr} {sa lg : Bool}
theorem t4_lets : (t4 le st ba re).lookup ("lets" : Str) = some (.int le) := by unfold t4; repeat (first | rw [Aj,if_pos rfl] | rw [Aj,if_neg (by decide +kernel)])
theorem t4_strings : (t4 le st ba re).lookup ("strings" : Str) = some (.int st) := by unfold t4; repeat (first | rw [Aj,if_pos rfl] | rw [Aj,if_neg (by decide +kernel)])
theorem t4_bars : (t4 le st ba re).lookup ("bars" : Str) = some (.int ba) := by unfold t4; repeat (first | rw [Aj,if_pos rfl] | rw [Aj,if_neg (by decide +kernel)])
theorem t4_reach : (t4 le st ba re).lookup ("reach" : Str) = some (.int re) := by unfold t4; repeat (first | rw [Aj,if_pos rfl] | rw [Aj,if_neg (by decide +kernel)])
theorem t4_no {m : Str} (h : ¬ m = "reach" ∧ ¬ m = "bars" ∧ ¬ m = "strings" ∧ ¬ m = "lets") : (t4 le st ba re).lookup m = none := by
 unfold t4
 rw [Aj,if_neg h.1,Aj,if_neg h.2.1,Aj,if_neg h.2.2.1,Aj,if_neg h.2.2.2]
 rfl
theorem l10_t4 {m : Str} (h : ¬ m = "lasting" ∧ ¬ m = "last" ∧ ¬ m = "first" ∧ ¬ m = "asks" ∧ ¬ m = "same" ∧ ¬ m = "key") : (l10 le st ba re pk pa sa fi la lg).lookup m = (t4 le st ba re).lookup m := by
 unfold l10
 rw [Aj,if_neg h.1,Aj,if_neg h.2.1,Aj,if_neg h.2.2.1,Aj,if_neg h.2.2.2.1,Aj,if_neg h.2.2.2.2.1,Aj,if_neg h.2.2.2.2.2]
theorem l10_key : (l10 le st ba re pk pa sa fi la lg).lookup ("key" : Str) = some (.ref pk) := by unfold l10; repeat (first | rw [Aj,if_pos rfl] | rw [Aj,if_neg (by decide +kernel)])
theorem l10_same : (l10 le st ba re pk pa sa fi la lg).lookup ("same" : Str) = some (.bl sa) := by unfold l10; repeat (first | rw [Aj,if_pos rfl] | rw [Aj,if_neg (by decide +kernel)])
theorem l10_asks : (l10 le st ba re pk pa sa fi la lg).lookup ("asks" : Str) = some (.ref pa) := by unfold l10; repeat (first | rw [Aj,if_pos rfl] | rw [Aj,if_neg (by decide +kernel)])
theorem l10_first : (l10 le st ba re pk pa sa fi la lg).lookup ("first" : Str) = some (.int fi) := by unfold l10; repeat (first | rw [Aj,if_pos rfl] | rw [Aj,if_neg (by decide +kernel)])
theorem l10_last : (l10 le st ba re pk pa sa fi la lg).lookup ("last" : Str) = some (.int la) := by unfold l10; repeat (first | rw [Aj,if_pos rfl] | rw [Aj,if_neg (by decide +kernel)])
theorem l10_lasting : (l10 le st ba re pk pa sa fi la lg).lookup ("lasting" : Str) = some (.bl lg) := by unfold l10; repeat (first | rw [Aj,if_pos rfl] | rw [Aj,if_neg (by decide +kernel)])
end
theorem Bb (f : Str) (v : V) {fs : List (Str × V)} {n : Nat} (h : fs.length ≤ n) : (putF f v fs).length ≤ n + 1 := by
 have := length_putF f v fs
 omega
structure TCls (K : PySem.W.Frag) (C : Addr) : Prop where
 cl : Cls K C
 lets : Cz K C "lets"
 strings : Cz K C "strings"
 bars : Cz K C "bars"
 reach : Cz K C "reach"
structure LCls (K : PySem.W.Frag) (C : Addr) : Prop extends TCls K C where
 key : Cz K C "key"
 same : Cz K C "same"
 asks : Cz K C "asks"
 first : Cz K C "first"
 last : Cz K C "last"
 lasting : Cz K C "lasting"
def But (p : Addr) (H H' : Hp) : Prop := ∀ b o,H b = some o → b ≠ p → H' b = some o
def spTInit (C : Addr) : Sp := fun vs H Q _ => ∃ (p dx : Addr) (le st ba re : Nat),Four le st ba re ∧ vs = [.ref p,.int le,.int st,.int ba,.int re] ∧ H p = some (.ins C dx []) ∧ ∀ H',H' p = some (.ins C dx (t4 le st ba re)) → But p H H' → Q .non H'
section
variable {P : Program} {w : World} {K : PySem.W.Frag} {mg : Str → Option Value} {base : Heap} {C cT cL : Addr}
abbrev C5 : Stmt := Ch (top 42) 0
theorem scTerms_init : Ak ["self","lets","strings","bars","reach"] ["self","lets","strings","bars","reach"] (Ag C5) := by trivial
theorem ok_tinit (c : TCls K C) (F_are_terms : FnAt P w K mg base "are_terms" 3 ["lets","strings","bars","reach"] spAreT) {f : Addr} {fd : FuncData} (F : Fun K "__init__" "Terms.__init__" C5 f fd) :
 FnOk P w K mg base CX0 4 f fd ["self","lets","strings","bars","reach"] (spTInit C) := by
 refine F.ok scTerms_init (fun vs H Q E h => ?_) (fun cdv A outer s H vs Q E hr h => ?_)
 ·obtain ⟨p,dx,le,st,ba,re,_,rfl,_⟩ := h
  rfl
 ·obtain ⟨p,dx,le,st,ba,re,g,rfl,hp,q⟩ := h
  refine ⟨_,(Ab (A7 (A9 (A8 (Ao F_are_terms hr (by decide) rfl (Aa (pv 1) (Aa (pv 2) (Aa (pv 3) (Aa (pv 4) Ac))))))) (Ae Ar) Ap)
   (Ab (Ev (pv 0) (pv 1) rfl) (Ab (Ev (pv 0) (pv 2) rfl) (Ab (Ev (pv 0) (pv 3) rfl) (Ae (Ev (pv 0) (pv 4) rfl)))))),?_⟩
  refine ⟨_,rfl,_,rfl,_,rfl,_,rfl,le,st,ba,re,g,rfl,_,rfl,iteF ?_⟩
  refine ⟨_,rfl,_,rfl,p,C,dx,[],rfl,hp,c.cl,c.lets,(by show 0 < 1000; decide),?_⟩
  refine ⟨_,rfl,_,rfl,p,C,dx,_,rfl,Ad,c.cl,c.strings,(Nat.lt_of_le_of_lt (Bb _ _ (n := 0) (Nat.le_refl _)) (by decide)),?_⟩
  refine ⟨_,rfl,_,rfl,p,C,dx,_,rfl,Ad,c.cl,c.bars,(Nat.lt_of_le_of_lt (Bb _ _ (Bb _ _ (n := 0) (Nat.le_refl _))) (by decide)),?_⟩
  refine ⟨_,rfl,_,rfl,p,C,dx,_,rfl,Ad,c.cl,c.reach,(Nat.lt_of_le_of_lt (Bb _ _ (Bb _ _ (Bb _ _ (n := 0) (Nat.le_refl _)))) (by decide)),?_⟩
  refine q _ Ad fun b o e hb => ?_
  rw [upd_ne hb,upd_ne hb,upd_ne hb,upd_ne hb]
  exact e
structure Row where
 w : Str
 n : Nat
 le : Nat
 st : Nat
 ba : Nat
 re : Nat
 sa : Bool
 a0 : Nat
 a1 : Nat
 a2 : Nat
 a3 : Nat
 fi : Nat
 la : Nat
 lg : Bool
structure Row.Good (r : Row) : Prop where
 hw : Ay r.w = true
 hn : r.n ≤ 99
 h4 : Four r.le r.st r.ba r.re
 ha : Asks r.a0 r.a1 r.a2 r.a3
 hf : r.fi ≤ r.la
 hl : r.la ≤ 9999
abbrev Row.keyV (r : Row) : List V := [.str r.w,.int r.n]
abbrev Row.asks (r : Row) : List V := B6 r.a0 r.a1 r.a2 r.a3
def Row.l10 (r : Row) (pk pa : Addr) : List (Str × V) := K15.l10 r.le r.st r.ba r.re pk pa r.sa r.fi r.la r.lg
def spLInit (C : Addr) : Sp := fun vs H Q _ => ∃ (p dx pk : Addr) (va : V) (r : Row),r.Good ∧ vs = [.ref p,.ref pk,.int r.le,.int r.st,.int r.ba,.int r.re,.bl r.sa,va,.int r.fi,.int r.la,.bl r.lg] ∧ H p = some (.ins C dx []) ∧ H pk = some (.tup r.keyV) ∧
 (∃ l,va = .ref l ∧ (H l = some (.tup r.asks) ∨ H l = some (.lst r.asks))) ∧
 ∀ (pa : Addr) (H' : Hp),H' p = some (.ins C dx (r.l10 pk pa)) → H' pa = some (.tup r.asks) → But p H H' → Q .non H'
abbrev Cb : Stmt := Ch (top 43) 0
abbrev psL : List Str := ["self","key","lets","strings","bars","reach","same","asks","first","last","lasting"]
theorem scLicence_init : Ak ["self","key","lets","strings","bars","reach","same","asks","first","last","lasting","four_asks"] psL (Ag Cb) := by trivial
theorem ok_linit (c : LCls K C) (CT : CFn P w K mg base "Terms" "__init__" 4 ["self","lets","strings","bars","reach"] (spTInit C)) (F_is_key : FnAt P w K mg base "is_key" 2 ["thing"] (spKey K)) (F_need_truth : FnAt P w K mg base "need_truth" 1 ["thing"] spTruth) (F_kept : FnAt P w K mg base "kept_asks" 5 ["asks"] spKept) (F_span : FnAt P w K mg base "need_span" 3 ["first","last"] spSpan)
 {f : Addr} {fd : FuncData} (F : FunD K "__init__" "Licence.__init__" Cb f fd) : FnOk P w K mg base CX0 6 f fd psL (spLInit C) := by
 refine F.ok scLicence_init (fun vs H Q E h => ?_) (fun cdv A outer s H vs Q E hr h => ?_)
 ·obtain ⟨p,dx,pk,va,r,_,rfl,_⟩ := h
  rfl
 ·obtain ⟨p,dx,pk,va,r,g,rfl,hp,hk,hv,q⟩ := h
  refine ⟨_,(Ab (A7 (A9 (A8 (Ao F_is_key hr (by decide) rfl (Aa (pv 1) Ac)))) (Ae Ar) Ap)
   (Ab (A3 (pe_cfn CT hr (by decide) rfl (Aa (pv 0) (Aa (pv 2) (Aa (pv 3) (Aa (pv 4) (Aa (pv 5) Ac)))))))
   (Ab (A3 (Ao F_need_truth hr (by decide) rfl (Aa (pv 6) Ac)))
   (Ab (Al (i := 11) scLicence_init.nd rfl (by trivial) (Ao F_kept hr (by decide) rfl (Aa (pv 7) Ac)))
   (Ab (A3 (Ao F_span hr (by decide) rfl (Aa (pv 8) (Aa (pv 9) Ac))))
   (Ab (A3 (Ao F_need_truth hr (by decide) rfl (Aa (pv 10) Ac)))
   (Ab (Ev (pv 0) (pv 1) rfl) (Ab (Ev (pv 0) (pv 6) rfl) (Ab (Ev (pv 0) (pv 11) rfl) (Ab (Ev (pv 0) (pv 8) rfl) (Ab (Ev (pv 0) (pv 9) rfl) (Ae (Ev (pv 0) (pv 10) rfl))))))))))))),?_⟩
  have hwl : r.w.length ≤ 1000 := by
   have := g.hw
   unfold Ay at this
   simp only [Bool.and_eq_true,decide_eq_true_eq] at this
   omega
  have kv : keyV H (.ref pk) = true := by
   show (match H pk with | some (.tup [x,y]) => wordV x && numV y | _ => false) = true
   rw [hk]
   show (Ay r.w && decide ((0 : Int) ≤ (r.n : Int) ∧ (r.n : Int) ≤ 99)) = true
   rw [g.hw,Bool.true_and]
   exact decide_eq_true ⟨by omega,by have := g.hn; omega⟩
  refine ⟨_,rfl,.ref pk,rfl,⟨.tup,.tup hk⟩,?_,fun H1 s1 => ⟨_,rfl,?_⟩⟩
  ·intro a xs e h y hy
   cases e
   rw [hk] at h
   cases h
   simp only [List.mem_cons,List.not_mem_nil,or_false] at hy
   rcases hy with rfl | rfl
   ·exact ⟨⟨.str,.str _⟩,fun z e => by cases e; exact hwl⟩
   ·exact ⟨⟨.int,.int _⟩,fun z e => by cases e⟩
  rw [kv]
  refine iteF ?_
  refine ⟨_,rfl,_,rfl,_,rfl,_,rfl,_,rfl,p,dx,r.le,r.st,r.ba,r.re,g.h4,rfl,s1 _ _ hp,fun H2 e2 b2 => ?_⟩
  refine ⟨_,rfl,r.sa,rfl,?_⟩
  have other : ∀ b o,H b = some o → b ≠ p → H2 b = some o := fun b o e hb => b2 b o (s1 b o e) hb
  have fin : ∀ (pa : Addr) (H3 : Hp),Same H2 H3 → H3 pa = some (.tup r.asks) → Q .non (upd (upd (upd (upd (upd (upd H3 p (.ins C dx (putF "key" (.ref pk) (t4 r.le r.st r.ba r.re)))) p (.ins C dx (putF "same" (.bl r.sa) (putF "key" (.ref pk) (t4 r.le r.st r.ba r.re))))) p (.ins C dx (putF "asks" (.ref pa) (putF "same" (.bl r.sa) (putF "key" (.ref pk) (t4 r.le r.st r.ba r.re)))))) p (.ins C dx (putF "first" (.int r.fi) (putF "asks" (.ref pa) (putF "same" (.bl r.sa) (putF "key" (.ref pk) (t4 r.le r.st r.ba r.re))))))) p (.ins C dx (putF "last" (.int r.la) (putF "first" (.int r.fi) (putF "asks" (.ref pa) (putF "same" (.bl r.sa) (putF "key" (.ref pk) (t4 r.le r.st r.ba r.re)))))))) p (.ins C dx (r.l10 pk pa))) := by
   intro pa H3 s3 e3
   have np : pa ≠ p := ne_of e3 (s3 _ _ e2) (by intro z; cases z)
   refine q pa _ Ad (by rw [upd_ne np,upd_ne np,upd_ne np,upd_ne np,upd_ne np,upd_ne np]; exact e3) fun b o e hb => ?_
   rw [upd_ne hb,upd_ne hb,upd_ne hb,upd_ne hb,upd_ne hb,upd_ne hb]
   exact s3 b o (other b o e hb)
  have l4 : (t4 r.le r.st r.ba r.re).length ≤ 4 := Bb _ _ (Bb _ _ (Bb _ _ (Bb _ _ (n := 0) (Nat.le_refl _))))
  obtain ⟨l,rfl,hl⟩ := hv
  have hl2 : H2 l = some (.tup r.asks) ∨ H2 l = some (.lst r.asks) := hl.imp (fun hl => other _ _ hl (ne_of hl hp (by intro z; cases z))) (fun hl => other _ _ hl (ne_of hl hp (by intro z; cases z)))
  refine ⟨_,rfl,l,r.a0,r.a1,r.a2,r.a3,g.ha,rfl,hl2,fun pa H3 s3 e3 => ?_⟩
  refine ⟨_,rfl,_,rfl,r.fi,r.la,g.hf,g.hl,rfl,_,rfl,r.lg,rfl,?_⟩
  refine ⟨_,rfl,_,rfl,p,C,dx,_,rfl,s3 _ _ e2,c.cl,c.key,Nat.lt_of_le_of_lt l4 (by decide),?_⟩
  refine ⟨_,rfl,_,rfl,p,C,dx,_,rfl,Ad,c.cl,c.same,Nat.lt_of_le_of_lt (Bb _ _ l4) (by decide),?_⟩
  refine ⟨_,rfl,_,rfl,p,C,dx,_,rfl,Ad,c.cl,c.asks,Nat.lt_of_le_of_lt (Bb _ _ (Bb _ _ l4)) (by decide),?_⟩
  refine ⟨_,rfl,_,rfl,p,C,dx,_,rfl,Ad,c.cl,c.first,Nat.lt_of_le_of_lt (Bb _ _ (Bb _ _ (Bb _ _ l4))) (by decide),?_⟩
  refine ⟨_,rfl,_,rfl,p,C,dx,_,rfl,Ad,c.cl,c.last,Nat.lt_of_le_of_lt (Bb _ _ (Bb _ _ (Bb _ _ (Bb _ _ l4)))) (by decide),?_⟩
  refine ⟨_,rfl,_,rfl,p,C,dx,_,rfl,Ad,c.cl,c.lasting,Nat.lt_of_le_of_lt (Bb _ _ (Bb _ _ (Bb _ _ (Bb _ _ (Bb _ _ l4))))) (by decide),?_⟩
  exact fin pa H3 s3 e3
end
abbrev Row.tup (r : Row) (pk pa : Addr) : List V := [.ref pk,.int r.le,.int r.st,.int r.ba,.int r.re,.bl r.sa,.ref pa,.int r.fi,.int r.la,.bl r.lg]
def Dj (H : Hp) (q : Addr) (r : Row) : Prop := ∃ pk pa,H q = some (.tup (r.tup pk pa)) ∧ H pk = some (.tup r.keyV) ∧ H pa = some (.tup r.asks)
theorem Dj.same {H H' : Hp} {q : Addr} {r : Row} (h : Dj H q r) (s : Same H H') : Dj H' q r := by
 obtain ⟨pk,pa,h1,h2,h3⟩ := h
 exact ⟨pk,pa,s _ _ h1,s _ _ h2,s _ _ h3⟩
def spTL (cL : Addr) : Sp := fun vs H Q _ => ∃ (p dx pk pa : Addr) (r : Row),vs = [.ref p] ∧ H p = some (.ins cL dx (r.l10 pk pa)) ∧ ∀ (q : Addr) (H' : Hp),Same H H' → H' q = some (.tup (r.tup pk pa)) → Q (.ref q) H'
theorem join_go : ∀ (zs : List Nat) (acc : Array Nat),(zs.map fun c => (⟨#[c]⟩ : Str)).foldl (fun acc p => acc ++ Str.empty.cps ++ p.cps) acc = acc ++ zs.toArray
 | [],acc => by simp
 | c :: r,acc => by
   rw [List.map_cons,List.foldl_cons,join_go r]
   show acc ++ #[] ++ #[c] ++ r.toArray = acc ++ (c :: r).toArray
   simp
theorem join_signs (zs : List Nat) (sep : Str) (hs : sep = Str.empty) : Txt.join sep (zs.map fun c => (⟨#[c]⟩ : Str)) = ⟨zs.toArray⟩ := by
 subst hs
 cases zs with
 | nil => rfl
 | cons c r =>
   show (⟨(r.map fun c => (⟨#[c]⟩ : Str)).foldl (fun acc p => acc ++ Str.empty.cps ++ p.cps) #[c]⟩ : Str) = _
   rw [join_go]
   simp
theorem slice_to {z : Str} {i : Nat} (h : i ≤ z.cps.toList.length) : Txt.slice z none (some (i : Int)) = ⟨(z.cps.toList.take i).toArray⟩ := by
 have := slice_closes_to (x := z) (j := i) ⟨by omega,by omega⟩
 have := beq_iff_eq.mp this
 rw [this]
 simp
theorem slice_from {z : Str} {i : Nat} (h : i ≤ z.cps.toList.length) : Txt.slice z (some (i : Int)) none = ⟨(z.cps.toList.drop i).toArray⟩ := by
 have hz : z.length = z.cps.toList.length := by simp [Str.length]
 rw [slice_from_eq (x := z) (i := i) (b := z.length) (by omega) (by omega) rfl]
 congr 2
 rw [List.take_of_length_le]
 ·simp
 ·rw [List.length_drop]
  have : z.cps.toList.length = z.length := hz.symm
  omega
theorem app_l (A B : List Nat) : (⟨A.toArray⟩ : Str) ++ (⟨B.toArray⟩ : Str) = ⟨(A ++ B).toArray⟩ := by
 show (⟨A.toArray ++ B.toArray⟩ : Str) = _
 simp
theorem word_l {L : List Nat} (h1 : 1 ≤ L.length) (h2 : L.length ≤ 8) (h3 : L.all D3 = true) : Ay ⟨L.toArray⟩ = true := by
 unfold Ay
 rw [Bool.and_eq_true,decide_eq_true_eq]
 refine ⟨?_,by simpa using h3⟩
 show 1 ≤ L.toArray.size ∧ L.toArray.size ≤ 8
 rw [List.size_toArray]
 exact ⟨h1,h2⟩
abbrev abc : Str := Str.ofString "abcdefghijklmnopqrstuvwxyz"
theorem abc_at {r : Int} (h0 : 0 ≤ r) (h1 : r < 26) : ∃ c,atI abc.cps.toList r = some c ∧ D3 c = true := by
 have el : abc.cps.toList = [97,98,99,100,101,102,103,104,105,106,107,108,109,110,111,112,113,114,115,116,117,118,119,120,121,122] := by decide +kernel
 obtain ⟨c1,e1,m1⟩ := atI_ex (xs := abc.cps.toList) h0 (by rw [el]; exact h1)
 refine ⟨c1,e1,?_⟩
 have hl : ∀ c ∈ abc.cps.toList,D3 c = true := by rw [el]; decide +kernel
 exact hl c1 m1
theorem abc_val : ∀ n : Fin 26,atI abc.cps.toList (n.val : Int) = some (97 + n.val) := by decide +kernel
theorem abc_inj {r r' : Int} (h0 : 0 ≤ r) (h1 : r < 26) (h0' : 0 ≤ r') (h1' : r' < 26) (e : atI abc.cps.toList r = atI abc.cps.toList r') : r = r' := by
 obtain ⟨n,rfl⟩ : ∃ n : Nat,r = (n : Int) := ⟨r.toNat,by omega⟩
 obtain ⟨n',rfl⟩ : ∃ n : Nat,r' = (n : Int) := ⟨r'.toNat,by omega⟩
 have a := abc_val ⟨n,by omega⟩
 have b := abc_val ⟨n',by omega⟩
 dsimp only at a b
 rw [a,b] at e
 have := Option.some.inj e
 omega
def Lett (pos : Nat) (first : Int) (us : List Str) : Prop := ∀ (j : Nat) (z : Str),us[j]? = some z → z.cps.toList[pos]? = atI abc.cps.toList ((first + 7 * (0 + (j : Int))) % 26)
theorem Lett.snoc {pos : Nat} {first : Int} {us : List Str} {z : Str} (h : Lett pos first us) (e : z.cps.toList[pos]? = atI abc.cps.toList ((first + 7 * (0 + (us.length : Int))) % 26)) : Lett pos first (us ++ [z]) := fun j y hy => by
 by_cases hj : j < us.length
 ·rw [List.getElem?_append_left hj] at hy; exact h j y hy
 ·have hj2 : j = us.length := by
   have := (List.getElem?_eq_some_iff.mp hy).1
   rw [List.length_append,List.length_singleton] at this
   omega
  subst hj2
  rw [List.getElem?_append_right (Nat.le_refl _),Nat.sub_self] at hy
  cases hy
  exact e
theorem Lett.nodup {pos : Nat} {first : Int} {us : List Str} (h : Lett pos first us) (hl : us.length ≤ 12) : us.Nodup := by
 rw [List.Nodup,List.pairwise_iff_getElem]
 intro i j hi hj hij e
 have a := h i us[i] (List.getElem?_eq_getElem hi)
 have b := h j us[j] (List.getElem?_eq_getElem hj)
 rw [e,b] at a
 have := abc_inj (Int.emod_nonneg _ (by decide)) (Int.emod_lt_of_pos _ (by decide)) (Int.emod_nonneg _ (by decide)) (Int.emod_lt_of_pos _ (by decide)) a
 omega
theorem abc_len : abc.length ≤ sizeLine := by
 rw [show abc.length = 26 from by decide +kernel,sizeLine_eq]
 decide
theorem all_take {L : List Nat} {n : Nat} (h : L.all D3 = true) : (L.take n).all D3 = true := List.all_eq_true.mpr fun x hx => List.all_eq_true.mp h x (List.mem_of_mem_take hx)
theorem all_drop {L : List Nat} {n : Nat} (h : L.all D3 = true) : (L.drop n).all D3 = true := List.all_eq_true.mpr fun x hx => List.all_eq_true.mp h x (List.mem_of_mem_drop hx)
def spWords : Sp := fun vs H Q _ => ∃ (c : Int) (m : Nat),m ≤ 12 ∧ vs = [.int c,.int m] ∧ ∀ (l : Addr) (zs : List Str) (H' : Hp),Same H H' → H' l = some (.lst (zs.map V.str)) → zs.length = m → (∀ z ∈ zs,Ay z = true) → zs.Nodup → H l = none → Q (.ref l) H'
section
variable {P : Program} {w : World} {K : PySem.W.Frag} {mg : Str → Option Value} {base : Heap}
abbrev D0 : Stmt := top 88
abbrev nWords : List Str := ["_law_cell_here","_law_many","_law_letters","_law_box_here","_law_size","_law_at","_law_way","_law_base","_law_first","_law_found","_law_k","_law_letter"]
theorem Be : Ak nWords ["_law_cell_here","_law_many"] (Ag D0) := by trivial
theorem ok_words (T : Txt mg) (F__law_box : FnAt P w K mg base "_law_box" 1 ["_law_cell_here"] spBox) (F__law_take : FnAt P w K mg base "_law_take" 2 ["_law_box_here","_law_many"] spTake) (F : Ai K mg "_law_words" D0 ["_law_cell_here","_law_many"]) : FnAt P w K mg base "_law_words" 3 ["_law_cell_here","_law_many"] spWords := by
 refine F.at Be (fun vs H Q E h => ?_) (fun f cdv A outer s H vs Q E hr h => ?_)
 ·obtain ⟨c,m,_,rfl,_⟩ := h
  rfl
 ·obtain ⟨c,m,hm,rfl,q⟩ := h
  refine ⟨_,(Ab (Al (i := 2) Be.nd rfl (by trivial) Av)
   (Ab (Al (i := 3) Be.nd rfl (by trivial) (Ao F__law_box hr (by decide) rfl (Aa (pv 0) Ac)))
   (Ab (Al (i := 4) Be.nd rfl (by trivial) (Ao F__law_take hr (by decide) rfl (Aa (pv 3) (Aa Af Ac))))
   (Ab (Al (i := 5) Be.nd rfl (by trivial) (Ao F__law_take hr (by decide) rfl (Aa (pv 3) (Aa (Ax C0 (pv 4) Af) Ac))))
   (Ab (Al (i := 6) Be.nd rfl (by trivial) (Ao F__law_take hr (by decide) rfl (Aa (pv 3) (Aa Af Ac))))
   (Ab (Al (i := 7) Be.nd rfl (by trivial) (Bl PySem.F.plainAttrs_str PySem.F.slot_str_join PySem.F.type_str_join D2 Av (Aa (Bs (sc := Ag D0) (N0 := nWords) (xs := ["_law_k"]) (ys := ["_law_letters","_law_box_here"]) (js := [2,3]) (by trivial) rfl (Ew rfl T.n_range (Aa (pv 4) Ac)) (fun _ _ _ _ => (As (i := 0) (show (["_law_k","_law_letters","_law_box_here"] : List Str).Nodup by decide +kernel) rfl (by trivial))) (fun _ _ _ _ => Cj) (fun _ _ _ _ => (Az ix_str (pv 1) (Ao F__law_take hr (by decide) rfl (Aa (pv 2) (Aa Af Ac))) (fun _ _ => rfl)))) Ac)))
   (Ab (Al (i := 8) Be.nd rfl (by trivial) (Ao F__law_take hr (by decide) rfl (Aa (pv 3) (Aa Af Ac))))
   (Ab (Al (i := 9) Be.nd rfl (by trivial) (A5 Ac))
   (Ab (Dg PassesOwn.never rfl (Ew rfl T.n_range (Aa (pv 1) Ac)) (As (i := 10) Be.nd rfl (by trivial)) (Ab (Al (i := 11) Be.nd rfl (by trivial) (Az ix_str (pv 2) (Ax Ek (Ax C0 (pv 8) (Ax op_mul Af (pv 10))) Af) (fun _ _ => rfl)))
   (Ae (A7 (A1 op_gt (pv 10) Af (A0 _)) (Ae Ar) (Ae (A7 (A1 Ey (pv 6) Af (A0 _)) (Ae (A3 (Bl PySem.F.plainAttrs_list PySem.F.slot_list_append PySem.F.type_list_append A2 (pv 9) (Aa (Ax B1 (Ax B1 (Ba sl_str (pv 7) Bm (Bd (pv 5))) (pv 11)) (Ba sl_str (pv 7) (Bd (pv 5)) Bm)) Ac)))) (Ae (A3 (Bl PySem.F.plainAttrs_list PySem.F.slot_list_append PySem.F.type_list_append A2 (pv 9) (Aa (Ax B1 (pv 11) (Ba sl_str (pv 7) Bm (Bd (Ao F__law_take hr (by decide) rfl (Aa (pv 3) (Aa (Ax C0 (An (call_min2 rfl) rfl T.n_min boot_min (Aa (pv 4) (Aa Af Ac))) Af) Ac)))))) Ac))))))))))
   (Ae (Aq (pv 9)))))))))))),?_⟩
  have hs : sizeLine = 16777216 := sizeLine_eq
  refine ⟨_,rfl,c,rfl,fun b x y z hb => ?_⟩
  have O1 : Oth b (upd H b (.lst [.int x,.int y,.int z])) (upd H b (.lst [.int x,.int y,.int z])) := Oth.refl ⟨x,y,z,Ad⟩
  have S0 : ∀ {H' : Hp},Oth b (upd H b (.lst [.int x,.int y,.int z])) H' → Same H H' := fun {H'} o d u e => o.oth d u (by rw [upd_ne (Ah e hb)]; exact e) (Ah e hb)
  generalize upd H b (.lst [.int x,.int y,.int z]) = H1 at O1 S0 ⊢
  refine ⟨_,rfl,b,8,rfl,O1.box,(by decide),(by decide),fun size H2 s0 s1 o2 => ?_⟩
  refine ⟨_,rfl,_,rfl,_,_,rfl,rfl,b,size + 1,rfl,o2.box,(by omega),(by show size + 1 < 10000000000000000000000000000000000000000; omega),fun at_ H3 a0 a1 o3 => ?_⟩
  refine ⟨_,rfl,b,2,rfl,o3.box,(by decide),(by decide),fun way H4 w0 w1 o4 => ?_⟩
  have O4 := (o2.trans o3).trans o4
  refine ⟨rfl,_,rfl,size,rfl,(by omega),(by omega),comp_range (n := size.toNat) (fun i ys H' => (∃ zs : List Nat,ys = zs.map (fun c => V.str ⟨#[c]⟩) ∧ zs.length = i ∧ zs.all D3 = true) ∧ Oth b H1 H') ⟨⟨[],rfl,rfl,rfl⟩,O4⟩ (by omega) ?_ ?_ ?_⟩
  ·rintro i ys H' ⟨⟨zs,rfl,e,_⟩,_⟩
   rw [List.length_map,e]; exact Nat.le_refl _
  ·rintro i ys H5 hi ⟨⟨zs,rfl,e,h1⟩,o5⟩
   refine ⟨_,rfl,_,rfl,b,26,rfl,o5.box,(by decide),(by decide),fun r1 H6 r0 r2 o6 => ?_⟩
   obtain ⟨c1,e1,low⟩ := abc_at r0 r2
   refine ⟨_,_,c1,rfl,rfl,abc_len,e1,?_⟩
   exact ⟨⟨zs ++ [c1],by simp,by simp [e],by rw [List.all_append,h1]; simp [low]⟩,o5.trans o6⟩
  ·rintro ys H5 ⟨⟨zs,rfl,e,hlow⟩,o5⟩ p hp
   have O6 : Oth b H1 (upd H5 p (.lst (zs.map fun c => V.str ⟨#[c]⟩))) := o5.new hp
   have em : (zs.map fun c => V.str ⟨#[c]⟩) = (zs.map fun c => (⟨#[c]⟩ : Str)).map V.str := by rw [List.map_map]; rfl
   have hsum : ((zs.map fun c => (⟨#[c]⟩ : Str)).map (·.length)).sum = zs.length := by
    clear e O6 em hlow hp
    induction zs with
    | nil => rfl
    | cons c r ih => rw [List.map_cons,List.map_cons,List.sum_cons,ih]; show 1 + r.length = r.length + 1; omega
   refine ⟨_,p,zs.map fun c => ⟨#[c]⟩,rfl,rfl,SqL.of (by rw [← em]; exact Ad),(by rw [hsum,List.length_map,e]; show _ + _ * 0 ≤ _; omega),?_⟩
   rw [join_signs zs (Str.ofString "") (by decide +kernel)]
   have zl : zs.length = size.toNat := e
   have zlen : (⟨zs.toArray⟩ : Str).cps.toList = zs := by simp
   have zlen2 : (⟨zs.toArray⟩ : Str).length = zs.length := by show zs.toArray.size = _; rw [List.size_toArray]
   generalize upd H5 p (.lst (zs.map fun c => V.str ⟨#[c]⟩)) = H6 at O6 ⊢
   refine ⟨_,rfl,b,26,rfl,O6.box,(by decide),(by decide),fun first H7 f0 f1 o7 => ?_⟩
   have O7 := O6.trans o7
   refine ⟨(by show 0 ≤ sizeLine; decide),fun l hl => ?_⟩
   have O8 := O7.new (o := .lst []) hl
   have e8 : upd H7 l (.lst []) l = some (.lst []) := Ad
   have nl : l ≠ b := Box.ne O7.box hl
   have hl0 : H l = none := (S0 O7).free hl
   generalize upd H7 l (.lst []) = H8 at O8 e8 ⊢
   refine ⟨_,rfl,m,rfl,(by omega),(by omega),E2 (n := m) (fun i σ H' => ∃ (us : List Str) (v10 v11 : Option V),σ = [some (.int c),some (.int m),some (.str abc),some (.ref b),some (.int size),some (.int at_),some (.int way),some (.str ⟨zs.toArray⟩),some (.int first),some (.ref l),v10,v11] ∧ us.length = i ∧ (∀ z ∈ us,Ay z = true) ∧ H' l = some (.lst (us.map V.str)) ∧ Box H' b ∧ Same H H' ∧ Lett (if way = 0 then at_.toNat else 0) first us)
    ⟨[],_,_,rfl,rfl,by simp,e8,O8.box,S0 O8,fun j z h => by simp at h⟩ ?_ ?_⟩
   ·rintro i σ H9 hi ⟨us,v10,v11,rfl,hlen,hall,el,hbox,ss,lett⟩
    have m0 : 0 ≤ (first + 7 * (0 + (i : Int))) % 26 := Int.emod_nonneg _ (by decide)
    have m1 : (first + 7 * (0 + (i : Int))) % 26 < 26 := Int.emod_lt_of_pos _ (by decide)
    obtain ⟨c1,e1,low⟩ := abc_at m0 m1
    refine ⟨_,rfl,_,rfl,_,rfl,_,_,rfl,rfl,.inl ⟨by decide,by decide⟩,_,_,rfl,rfl,_,_,rfl,rfl,(by show (0 : Int) < 26; decide),_,_,c1,rfl,rfl,abc_len,e1,?_⟩
    refine ⟨_,rfl,_,_,rfl,rfl,_,rfl,?_⟩
    have hng : ¬ ((25 : Int) < 0 + (i : Int)) := by omega
    show if decide ((25 : Int) < 0 + (i : Int)) = true then _ else _
    rw [decide_eq_false hng]
    refine iteF ?_
    have same2 : ∀ (HA : Hp) (xs : List V),Same H HA → Same H (upd HA l (.lst xs)) := fun HA xs sA d u e => by rw [upd_ne (Ah e hl0)]; exact sA d u e
    refine ⟨_,rfl,rfl,_,rfl,ite2 (fun hw => ?_) (fun hw => ?_)⟩
    ·have hw' : way = 0 := V.int.inj (of_decide_eq_true hw)
     obtain ⟨a,rfl⟩ : ∃ a : Nat,at_ = (a : Int) := ⟨at_.toNat,by omega⟩
     have ha : a ≤ (⟨zs.toArray⟩ : Str).cps.toList.length := by rw [zlen]; omega
     have t1 := slice_to ha
     have t2 := slice_from ha
     rw [zlen] at t1 t2
     have wd : (⟨(zs.take a).toArray⟩ : Str) ++ ⟨#[c1]⟩ ++ ⟨(zs.drop a).toArray⟩ = ⟨(zs.take a ++ [c1] ++ zs.drop a).toArray⟩ := by
          rw [show (⟨#[c1]⟩ : Str) = ⟨([c1] : List Nat).toArray⟩ from rfl,app_l,app_l]
     have ln : (zs.take a ++ [c1] ++ zs.drop a).length = zs.length + 1 := by
          rw [List.length_append,List.length_append,List.length_take,List.length_drop,List.length_singleton]
          rw [zlen] at ha
          omega
     have isw : Ay (⟨(zs.take a).toArray⟩ ++ ⟨#[c1]⟩ ++ ⟨(zs.drop a).toArray⟩ : Str) = true := by
          rw [wd]
          refine word_l (by omega) (by omega) ?_
          rw [List.all_append,List.all_append,all_take hlow,all_drop hlow]
          simp [low]
     have len1 : (⟨(zs.take a).toArray⟩ : Str).length ≤ 7 := by show (zs.take a).toArray.size ≤ 7; rw [List.size_toArray,List.length_take]; omega
     have len2 : (⟨(zs.drop a).toArray⟩ : Str).length ≤ 7 := by show (zs.drop a).toArray.size ≤ 7; rw [List.size_toArray,List.length_drop]; omega
     refine ⟨_,rfl,.inl ⟨rfl,_,SqL.of el⟩,_,rfl,_,rfl,_,rfl,⟨zs.toArray⟩,rfl,(by omega),?_⟩
     rw [t1]
     refine ⟨_,rfl,_,_,rfl,rfl,(by show _ + 1 ≤ sizeLine; omega),_,rfl,_,rfl,_,rfl,⟨zs.toArray⟩,rfl,(by omega),?_⟩
     rw [t2]
     refine ⟨_,_,rfl,rfl,?_,l,_,_,rfl,rfl,el,(by rw [List.length_map]; omega),?_⟩
     ·have : ((⟨(zs.take a).toArray⟩ : Str) ++ (⟨#[c1]⟩ : Str)).length = (⟨(zs.take a).toArray⟩ : Str).length + 1 := by
       show ((zs.take a).toArray ++ #[c1]).size = _
       rw [Array.size_append]
       rfl
      omega
     ·refine ⟨us ++ [⟨(zs.take a).toArray⟩ ++ ⟨#[c1]⟩ ++ ⟨(zs.drop a).toArray⟩],_,_,rfl,by rw [List.length_append,hlen]; rfl,fun z hz => ?_,?_,?_,same2 _ _ ss,?_⟩
      ·rcases List.mem_append.mp hz with hz | hz
       ·exact hall z hz
       ·rw [List.mem_singleton] at hz; rw [hz]; exact isw
      ·rw [Ad,List.map_append]; rfl
      ·obtain ⟨x1,y1,z1,hbx⟩ := hbox
       exact ⟨x1,y1,z1,by rw [upd_ne (Ne.symm nl)]; exact hbx⟩
      ·refine lett.snoc ?_
       rw [hlen,e1,if_pos hw',wd,Int.toNat_natCast]
       rw [zlen] at ha
       show ((zs.take a ++ [c1] ++ zs.drop a).toArray.toList)[a]? = some c1
       have hta : (zs.take a).length = a := by rw [List.length_take]; omega
       rw [List.toList_toArray,List.append_assoc,List.getElem?_append_right (by omega),hta,Nat.sub_self]
       rfl
    ·have hw' : ¬ way = 0 := fun z => hw (by rw [z]; exact decide_eq_true rfl)
     refine ⟨_,rfl,.inl ⟨rfl,_,SqL.of el⟩,_,rfl,_,rfl,_,rfl,_,rfl,_,_,rfl,_,_,rfl,rfl,b,(if (5 : Int) < size then 5 else size) + 1,rfl,hbox,(by split <;> omega),(by show (if (5 : Int) < size then (5 : Int) else size) + 1 < 10000000000000000000000000000000000000000; split <;> omega),fun n HA n0 n1 oA => ?_⟩
     have elA : HA l = some (.lst (us.map V.str)) := oA.oth _ _ el nl
     obtain ⟨k,rfl⟩ : ∃ k : Nat,n = (k : Int) := ⟨n.toNat,by omega⟩
     have hk5 : k ≤ zs.length := by split at n1 <;> omega
     have ha : k ≤ (⟨zs.toArray⟩ : Str).cps.toList.length := by rw [zlen]; exact hk5
     have t1 := slice_to ha
     rw [zlen] at t1
     have wd : (⟨#[c1]⟩ : Str) ++ ⟨(zs.take k).toArray⟩ = ⟨([c1] ++ zs.take k).toArray⟩ := by
          rw [show (⟨#[c1]⟩ : Str) = ⟨([c1] : List Nat).toArray⟩ from rfl,app_l]
     have ln : ([c1] ++ zs.take k).length ≤ 8 ∧ 1 ≤ ([c1] ++ zs.take k).length := by
          rw [List.length_append,List.length_take,List.length_singleton]
          omega
     have isw : Ay (⟨#[c1]⟩ ++ ⟨(zs.take k).toArray⟩ : Str) = true := by
          rw [wd]
          refine word_l ln.2 ln.1 ?_
          rw [List.all_append,all_take hlow]
          simp [low]
     have len1 : (⟨(zs.take k).toArray⟩ : Str).length ≤ 7 := by show (zs.take k).toArray.size ≤ 7; rw [List.size_toArray,List.length_take]; omega
     refine ⟨_,rfl,⟨zs.toArray⟩,rfl,(by omega),?_⟩
     rw [t1]
     refine ⟨_,_,rfl,rfl,(by show 1 + _ ≤ sizeLine; omega),l,_,_,rfl,rfl,elA,(by rw [List.length_map]; omega),?_⟩
     refine ⟨us ++ [⟨#[c1]⟩ ++ ⟨(zs.take k).toArray⟩],_,_,rfl,by rw [List.length_append,hlen]; rfl,fun z hz => ?_,?_,?_,same2 _ _ (fun d u e => ?_),?_⟩
     ·rcases List.mem_append.mp hz with hz | hz
      ·exact hall z hz
      ·rw [List.mem_singleton] at hz; rw [hz]; exact isw
     ·rw [Ad,List.map_append]; rfl
     ·obtain ⟨x1,y1,z1,hbx⟩ := oA.box
      exact ⟨x1,y1,z1,by rw [upd_ne (Ne.symm nl)]; exact hbx⟩
     ·exact oA.oth d u (ss d u e) (Ah e hb)
     ·refine lett.snoc ?_
      rw [hlen,e1,if_neg hw',wd]
      rfl
   ·rintro σ H9 ⟨us,v10,v11,rfl,hlen,hall,el,hbox,ss,lett⟩
    exact ⟨_,rfl,q l us H9 ss el hlen hall (lett.nodup (by omega)) hl0⟩
end
end K15
namespace L2
open PySem PySem.Spec PyProof.Rows
def tMid (t : TS) : TS := fun D σ H => ∃ M : L2.St → Hp → Prop,t { D with nx := M } σ H ∧ ∀ σ' H',M σ' H' → D.nx σ' H'
theorem ps_mid {X : Cx} {st : Stmt} {t : TS} (h : PS X st t) : PS X st (tMid t) := by
 intro pins s σ H D I ⟨M,hM,k⟩
 refine thn (h pins s σ H { D with nx := M } I hM) fun f s' hf => ?_
 cases f with
 | next => obtain ⟨σ',H',I',q⟩ := hf; exact ⟨σ',H',I',k _ _ q⟩
 | brk => exact hf
 | cont => exact hf
 | ret u => exact hf
end L2
namespace K15
open PySem L2 PyProof.Rows
theorem and_ok : ∀ a b : Fin 64,0 ≤ Builtin.bitAnd (a.val : Int) (b.val : Int) ∧ Builtin.bitAnd (a.val : Int) (b.val : Int) < 64 := by decide +kernel
theorem or_ok : ∀ a b : Fin 64,0 ≤ Builtin.bitOr (a.val : Int) (b.val : Int) ∧ Builtin.bitOr (a.val : Int) (b.val : Int) < 64 := by decide +kernel
theorem xor63 : ∀ a : Fin 64,0 ≤ Builtin.bitXor 63 (a.val : Int) ∧ Builtin.bitXor 63 (a.val : Int) < 64 := by decide +kernel
theorem xor31 : ∀ a : Fin 32,0 ≤ Builtin.bitXor 31 (a.val : Int) ∧ Builtin.bitXor 31 (a.val : Int) < 32 := by decide +kernel
theorem and32 : ∀ a b : Fin 32,0 ≤ Builtin.bitAnd (a.val : Int) (b.val : Int) ∧ Builtin.bitAnd (a.val : Int) (b.val : Int) < 32 := by decide +kernel
theorem disj : ∀ s x : Fin 64,Builtin.bitAnd (s.val : Int) (Builtin.bitAnd (x.val : Int) (Builtin.bitXor 63 (s.val : Int))) = 0 := by decide +kernel
theorem disj2 : ∀ s x : Fin 64,Builtin.bitAnd (s.val : Int) (Builtin.bitAnd (Builtin.bitXor 63 (s.val : Int)) (x.val : Int)) = 0 := by decide +kernel
theorem or_bey : ∀ a t : Fin 64,Bu a.val (Builtin.bitOr (a.val : Int) (t.val : Int)).toNat = .non := by decide +kernel
theorem El {i : Int} {n : Nat} (h0 : 0 ≤ i) (h1 : i < n) : ∃ k : Nat,i = (k : Int) ∧ k < n := ⟨i.toNat,by omega,by omega⟩
theorem and64 {a b : Nat} (ha : a < 64) (hb : b < 64) : ∃ k : Nat,Builtin.bitAnd (a : Int) (b : Int) = (k : Int) ∧ k < 64 := El (and_ok ⟨a,ha⟩ ⟨b,hb⟩).1 (and_ok ⟨a,ha⟩ ⟨b,hb⟩).2
theorem or64 {a b : Nat} (ha : a < 64) (hb : b < 64) : ∃ k : Nat,Builtin.bitOr (a : Int) (b : Int) = (k : Int) ∧ k < 64 := El (or_ok ⟨a,ha⟩ ⟨b,hb⟩).1 (or_ok ⟨a,ha⟩ ⟨b,hb⟩).2
theorem x64 {a : Nat} (ha : a < 64) : ∃ k : Nat,Builtin.bitXor 63 (a : Int) = (k : Int) ∧ k < 64 := El (xor63 ⟨a,ha⟩).1 (xor63 ⟨a,ha⟩).2
theorem x32 {a : Nat} (ha : a < 32) : ∃ k : Nat,Builtin.bitXor 31 (a : Int) = (k : Int) ∧ k < 32 := El (xor31 ⟨a,ha⟩).1 (xor31 ⟨a,ha⟩).2
theorem a32 {a b : Nat} (ha : a < 32) (hb : b < 32) : ∃ k : Nat,Builtin.bitAnd (a : Int) (b : Int) = (k : Int) ∧ k < 32 := El (and32 ⟨a,ha⟩ ⟨b,hb⟩).1 (and32 ⟨a,ha⟩ ⟨b,hb⟩).2
def KeyAt (H : Hp) (p : Addr) : Prop := ∃ (w : Str) (n : Nat),Ay w = true ∧ n ≤ 99 ∧ H p = some (.tup [.str w,.int n])
theorem Em {b : Addr} {H H' : Hp} {p : Addr} {xs : List V} (h : H p = some (.tup xs)) (hb : Box H b) (o : Oth b H H') : H' p = some (.tup xs) := by
 obtain ⟨x,y,z,hb⟩ := hb
 exact o.oth _ _ h (ne_of h hb (by intro z; cases z))
theorem KeyAt.oth {b : Addr} {H H' : Hp} {p : Addr} (h : KeyAt H p) (hb : Box H b) (o : Oth b H H') : KeyAt H' p := by
 obtain ⟨w,n,h1,h2,h3⟩ := h
 exact ⟨w,n,h1,h2,Em h3 hb o⟩
theorem KeyAt.same {H H' : Hp} {p : Addr} (h : KeyAt H p) (s : Same H H') : KeyAt H' p := by
 obtain ⟨w,n,h1,h2,h3⟩ := h
 exact ⟨w,n,h1,h2,s _ _ h3⟩
theorem Dj.oth {b : Addr} {H H' : Hp} {q : Addr} {r : Row} (h : Dj H q r) (hb : Box H b) (o : Oth b H H') : Dj H' q r := by
 obtain ⟨pk,pa,h1,h2,h3⟩ := h
 exact ⟨pk,pa,Em h1 hb o,Em h2 hb o,Em h3 hb o⟩
def spWithin : Sp := fun vs H Q _ => ∃ (b : Addr) (m k : Nat),vs = [.ref b,.int m,.int k] ∧ Box H b ∧ k ≤ 6 ∧ ∀ (t : Nat) (H' : Hp),t < 2 ^ k → Oth b H H' → Q (.int (Builtin.bitAnd m t)) H'
section
variable {P : Program} {w : World} {K : PySem.W.Frag} {mg : Str → Option Value} {base : Heap}
abbrev Ef : Stmt := top 89
theorem sc_law_within : Ak ["_law_box_here","_law_mask","_law_many"] ["_law_box_here","_law_mask","_law_many"] (Ag Ef) := by trivial
theorem ok_within (F__law_take : FnAt P w K mg base "_law_take" 2 ["_law_box_here","_law_many"] spTake) (F : Ai K mg "_law_within" Ef ["_law_box_here","_law_mask","_law_many"]) : FnAt P w K mg base "_law_within" 3 ["_law_box_here","_law_mask","_law_many"] spWithin := by
 refine F.at sc_law_within (fun vs H Q E h => ?_) (fun f cdv A outer s H vs Q E hr h => ?_)
 ·obtain ⟨b,m,k,rfl,_⟩ := h
  rfl
 ·obtain ⟨b,m,k,rfl,hb,hk,q⟩ := h
  refine ⟨_,(Ae (Aq (Ax op_and (pv 1) (Ao F__law_take hr (by decide) rfl (Aa (pv 0) (Aa (Ax op_shl Af (pv 2)) Ac)))))),?_⟩
  have e : (1 : Int) * 2 ^ ((k : Int).toNat) = ((2 ^ k : Nat) : Int) := by
   rw [Int.one_mul,Int.toNat_natCast]
   exact (Int.natCast_pow 2 k).symm
  have h64 : 2 ^ k ≤ 2 ^ 6 := Nat.pow_le_pow_right (by decide) hk
  have h1 : 0 < 2 ^ k := Nat.two_pow_pos k
  refine ⟨_,rfl,_,rfl,_,rfl,_,_,rfl,rfl,⟨by omega,by omega,by decide⟩,b,((2 ^ k : Nat) : Int),?_,hb,(by omega),(by show ((2 ^ k : Nat) : Int) < 10000000000000000000000000000000000000000; omega),fun r H1 r0 r1 o1 => ?_⟩
  ·show [V.ref b,V.int (1 * 2 ^ ((k : Int).toNat))] = _
   rw [e]
  ·obtain ⟨t,rfl,ht⟩ := El r0 r1
   exact ⟨_,_,rfl,rfl,q t H1 ht o1⟩
end
def spLic : Sp := fun vs H Q _ => ∃ (b lk lw : Addr) (ks qs : List Addr),vs = [.ref b,.ref lk,.ref lw] ∧ Box H b ∧ H lk = some (.lst (ks.map V.ref)) ∧ H lw = some (.lst (qs.map V.ref)) ∧ lk ≠ b ∧ lw ≠ b ∧ qs.length < ks.length ∧ ks.length ≤ 12 ∧
 (∀ p ∈ ks,KeyAt H p) ∧ (∀ q ∈ qs,∃ r,Row.Good r ∧ Dj H q r) ∧ ∀ (q : Addr) (H' : Hp),Oth b H H' → (∃ r,Row.Good r ∧ Dj H' q r ∧ ∃ p,ks[qs.length]? = some p ∧ H p = some (.tup r.keyV)) → Q (.ref q) H'
section
variable {P : Program} {w : World} {K : PySem.W.Frag} {mg : Str → Option Value} {base : Heap}
abbrev Dr : Stmt := top 90
abbrev nLic : List Str := ["_law_box_here","_law_keys_here","_law_known","_law_lets","_law_strings","_law_bars","_law_reach","_law_same","_law_old","_law_asks","_law_k","_law_first","_law_last","_law_row"]
theorem Aw : Ak nLic ["_law_box_here","_law_keys_here","_law_known"] (Ag Dr) := by trivial
def AskL (as : List Nat) : Prop := (∀ a ∈ as,a < 64) ∧ ∀ (j : Nat) (x y : Nat),as[j]? = some x → as[j + 1]? = some y → Bu x y = .non
theorem ok_licence (T : Txt mg) (F__law_take : FnAt P w K mg base "_law_take" 2 ["_law_box_here","_law_many"] spTake) (F__law_within : FnAt P w K mg base "_law_within" 3 ["_law_box_here","_law_mask","_law_many"] spWithin) (F : Ai K mg "_law_licence" Dr ["_law_box_here","_law_keys_here","_law_known"]) :
 FnAt P w K mg base "_law_licence" 4 ["_law_box_here","_law_keys_here","_law_known"] spLic := by
 refine F.at Aw (fun vs H Q E h => ?_) (fun f cdv A outer s H vs Q E hr h => ?_)
 ·obtain ⟨b,lk,lw,ks,qs,rfl,_⟩ := h
  rfl
 ·obtain ⟨b,lk,lw,ks,qs,rfl,hb,hk,hw,nkb,nwb,hlt,h12,hkey,hrow,q⟩ := h
  refine ⟨_,(Ab (Al (i := 3) Aw.nd rfl (by trivial) (Ax op_xor Af (Ao F__law_within hr (by decide) rfl (Aa (pv 0) (Aa (Ao F__law_take hr (by decide) rfl (Aa (pv 0) (Aa Af Ac))) (Aa Af Ac))))))
   (Ab (Al (i := 4) Aw.nd rfl (by trivial) (Ao F__law_within hr (by decide) rfl (Aa (pv 0) (Aa (Ao F__law_take hr (by decide) rfl (Aa (pv 0) (Aa Af Ac))) (Aa Af Ac)))))
   (Ab (Al (i := 5) Aw.nd rfl (by trivial) (Ao F__law_within hr (by decide) rfl (Aa (pv 0) (Aa (Ax op_xor Af (pv 4)) (Aa Af Ac)))))
   (Ab (Al (i := 6) Aw.nd rfl (by trivial) (Ao F__law_take hr (by decide) rfl (Aa (pv 0) (Aa Af Ac))))
   (Ab (Al (i := 7) Aw.nd rfl (by trivial) (Bo Ey (Ao F__law_take hr (by decide) rfl (Aa (pv 0) (Aa Af Ac))) Af (A0 _)))
   (Ab (ps_mid (A7 (PW.pt (pw_and (A1 (op_neNil hr.units0) (pv 2) (A5 Ac) (A0 _)) (pw_and1 (A1 Ey (Ao F__law_take hr (by decide) rfl (Aa (pv 0) (Aa Af Ac))) Af (A0 _))))) (Ab (Al (i := 8) Aw.nd rfl (by trivial) (Az At (pv 2) (Ao F__law_take hr (by decide) rfl (Aa (pv 0) (Aa (An A4 rfl T.n_len boot_len (Aa (pv 2) Ac)) Ac))) (fun _ _ => rfl)))
   (Ab (Al (i := 3) Aw.nd rfl (by trivial) (Ax op_and (Az Bt (pv 8) Af (fun _ _ => rfl)) (pv 3)))
   (Ab (Al (i := 4) Aw.nd rfl (by trivial) (Ax op_and (Ax op_or (Az Bt (pv 8) Af (fun _ _ => rfl)) (pv 4)) (Ax op_xor Af (Az Bt (pv 8) Af (fun _ _ => rfl)))))
   (Ab (Al (i := 5) Aw.nd rfl (by trivial) (Ax op_and (Ax op_or (Az Bt (pv 8) Af (fun _ _ => rfl)) (pv 5)) (Ax op_xor Af (pv 4))))
   (Ab (Al (i := 6) Aw.nd rfl (by trivial) (An (call_min2 rfl) rfl T.n_min boot_min (Aa (Az Bt (pv 8) Af (fun _ _ => rfl)) (Aa (pv 6) Ac))))
   (Ae (Al (i := 7) Aw.nd rfl (by trivial) (pe_or (Az Bt (pv 8) Af (fun _ _ => rfl)) (Ex (pv 7)))))))))) Ap))
   (Ab (Al (i := 9) Aw.nd rfl (by trivial) (A5 (Aa (Ao F__law_within hr (by decide) rfl (Aa (pv 0) (Aa (Ao F__law_take hr (by decide) rfl (Aa (pv 0) (Aa Af Ac))) (Aa Af Ac)))) Ac)))
   (Ab (Dg PassesOwn.never rfl (Ew rfl T.n_range (Aa Af Ac)) (As (i := 10) Aw.nd rfl (by trivial)) (Ae (A3 (Bl PySem.F.plainAttrs_list PySem.F.slot_list_append PySem.F.type_list_append A2 (pv 9) (Aa (Ax op_or (Az At (pv 9) (pe_un un_neg Af) (fun _ _ => rfl)) (Ao F__law_within hr (by decide) rfl (Aa (pv 0) (Aa (Ao F__law_take hr (by decide) rfl (Aa (pv 0) (Aa Af Ac))) (Aa Af Ac))))) Ac)))))
   (Ab (Al (i := 11) Aw.nd rfl (by trivial) (Ao F__law_take hr (by decide) rfl (Aa (pv 0) (Aa (Az At (A5 (Aa Af (Aa Af Ac))) (Ao F__law_take hr (by decide) rfl (Aa (pv 0) (Aa Af Ac))) (fun _ _ => rfl)) Ac))))
   (Ab (Al (i := 12) Aw.nd rfl (by trivial) (Ax C0 (pv 11) (Ao F__law_take hr (by decide) rfl (Aa (pv 0) (Aa (Ax op_sub Af (pv 11)) Ac)))))
   (Ab (Al (i := 13) Aw.nd rfl (by trivial) (pe_tup (Aa (Az At (pv 1) (An A4 rfl T.n_len boot_len (Aa (pv 2) Ac)) (fun _ _ => rfl)) (Aa (pv 3) (Aa (pv 4) (Aa (pv 5) (Aa (pv 6) (Aa (pv 7) Ac))))))))
   (Ae (Aq (Ax op_catT (pv 13) (pe_tup (Aa (Bh Du rfl T.n_tuple boot_tuple (Aa (pv 9) Ac)) (Aa (pv 11) (Aa (pv 12) (Aa (Bo Ey (Ao F__law_take hr (by decide) rfl (Aa (pv 0) (Aa Af Ac))) Af (A0 _)) Ac))))))))))))))))))),?_⟩
  have hs : sizeLine = 16777216 := sizeLine_eq
  refine ⟨_,rfl,_,rfl,b,32,rfl,hb,(by decide),(by decide),fun m1 H1 m10 m11 o1 => ?_⟩
  obtain ⟨m1,rfl,hm1⟩ := El m10 m11
  refine ⟨b,m1,5,rfl,o1.box,(by decide),fun t1 H2 ht1 o2 => ?_⟩
  obtain ⟨x1,ex1,hx1⟩ := a32 hm1 (show t1 < 32 from ht1)
  obtain ⟨le,ele,hle⟩ := x32 hx1
  refine ⟨_,_,rfl,rfl,?_⟩
  rw [ex1]
  show tSeq _ _ _ ((start nLic [.ref b,.ref lk,.ref lw]).set 3 (some (V.int (Builtin.bitXor 31 (x1 : Int))))) H2
  rw [ele]
  refine ⟨_,rfl,_,rfl,b,64,rfl,o2.box,(by decide),(by decide),fun m2 H3 m20 m21 o3 => ?_⟩
  obtain ⟨m2,rfl,hm2⟩ := El m20 m21
  refine ⟨b,m2,6,rfl,o3.box,(by decide),fun t2 H4 ht2 o4 => ?_⟩
  obtain ⟨st,est,hst⟩ := and64 hm2 (show t2 < 64 from ht2)
  rw [est]
  obtain ⟨x3,ex3,hx3⟩ := x64 hst
  refine ⟨_,rfl,_,rfl,_,_,rfl,rfl,b,x3,6,(by show [V.ref b,V.int (Builtin.bitXor 63 (st : Int)),V.int 6] = _; rw [ex3]; rfl),o4.box,(by decide),fun t3 H5 ht3 o5 => ?_⟩
  obtain ⟨ba,eba,hba⟩ := and64 hx3 (show t3 < 64 from ht3)
  have hsb : Builtin.bitAnd (st : Int) (ba : Int) = 0 := by
   rw [← eba,← ex3]
   exact disj2 ⟨st,hst⟩ ⟨t3,ht3⟩
  rw [eba]
  refine ⟨_,rfl,b,4,rfl,o5.box,(by decide),(by decide),fun re H6 re0 re1 o6 => ?_⟩
  obtain ⟨re,rfl,hre⟩ := El re0 re1
  refine ⟨_,rfl,b,4,rfl,o6.box,(by decide),(by decide),fun sa H7 _ _ o7 => ⟨rfl,?_⟩⟩
  have O7 : Oth b H H7 := (((((o1.trans o2).trans o3).trans o4).trans o5).trans o6).trans o7
  have F4 : Four le st ba re := ⟨hle,hst,hba,hsb,by omega⟩
  generalize decide (V.int sa = V.int 0) = sb
  refine ⟨fun σ' H' => ∃ (le st ba re : Nat) (sb : Bool) (v8 : Option V),σ' = [some (.ref b),some (.ref lk),some (.ref lw),some (.int le),some (.int st),some (.int ba),some (.int re),some (.bl sb),v8,none,none,none,none,none] ∧ Four le st ba re ∧ Oth b H H',?_,?_⟩
  ·refine ⟨_,rfl,(by show 0 ≤ sizeLine; decide),fun l0 hl0 => ?_⟩
   have O8 := O7.new (o := .lst []) hl0
   have e0 : upd H7 l0 (.lst []) l0 = some (.lst []) := Ad
   generalize upd H7 l0 (.lst []) = H8 at O8 e0 ⊢
   have w8 : H8 lw = some (.lst (qs.map V.ref)) := O8.oth _ _ hw nwb
   refine ⟨lw,l0,_,rfl,rfl,SqL.of w8,SqL.of e0,_,rfl,?_⟩
   cases hq : qs with
   | nil => exact iteF ⟨le,st,ba,re,sb,_,rfl,F4,O8⟩
   | cons q0 qr =>
     refine iteT ?_
     refine ⟨_,rfl,b,2,rfl,O8.box,(by decide),(by decide),fun u H9 _ _ o9 => ⟨rfl,_,rfl,?_⟩⟩
     have O9 := O8.trans o9
     refine ite2 (fun _ => ?_) (fun _ => ⟨le,st,ba,re,sb,_,rfl,F4,O9⟩)
     have w9 : H9 lw = some (.lst (qs.map V.ref)) := O9.oth _ _ hw nwb
     refine ⟨_,rfl,_,rfl,_,rfl,_,_,rfl,.inl ⟨_,SqL.of w9,rfl⟩,b,((qs.map V.ref).length : Int),rfl,O9.box,(by rw [hq]; simp),(by show (((qs.map V.ref).length : Nat) : Int) < 10000000000000000000000000000000000000000; rw [List.length_map]; omega),fun ix HA i0 i1 oA => ?_⟩
     have OA := O9.trans oA
     have wA : HA lw = some (.lst (qs.map V.ref)) := OA.oth _ _ hw nwb
     obtain ⟨v,ev,mv⟩ := atI_ex (xs := qs.map V.ref) i0 i1
     obtain ⟨qo,hqo,rfl⟩ := List.mem_map.mp mv
     obtain ⟨ro,go,hro⟩ := hrow qo hqo
     obtain ⟨pk,pa,r1,r2,r3⟩ := hro.oth hb OA
     refine ⟨lw,_,_,_,rfl,rfl,SqL.of wA,ev,?_⟩
     obtain ⟨le2,ele2,hle2⟩ := a32 go.h4.hle hle
     refine ⟨_,rfl,qo,_,_,V.int ro.le,rfl,rfl,SqT.of r1,rfl,_,rfl,_,_,rfl,rfl,?_⟩
     obtain ⟨y1,ey1,hy1⟩ := or64 go.h4.hst hst
     obtain ⟨y2,ey2,hy2⟩ := x64 go.h4.hba
     obtain ⟨st2,est2,hst2⟩ := and64 hy1 hy2
     refine ⟨_,rfl,qo,_,_,V.int ro.st,rfl,rfl,SqT.of r1,rfl,_,rfl,_,_,rfl,rfl,_,rfl,qo,_,_,V.int ro.ba,rfl,rfl,SqT.of r1,rfl,_,_,rfl,rfl,_,_,rfl,rfl,?_⟩
     obtain ⟨z1,ez1,hz1⟩ := or64 go.h4.hba hba
     obtain ⟨z2,ez2,hz2⟩ := x64 hst2
     obtain ⟨ba2,eba2,hba2⟩ := and64 hz1 hz2
     refine ⟨_,rfl,qo,_,_,V.int ro.ba,rfl,rfl,SqT.of r1,rfl,_,rfl,_,_,rfl,rfl,_,rfl,_,_,rfl,rfl,_,_,rfl,rfl,?_⟩
     have hsb2 : Builtin.bitAnd (st2 : Int) (ba2 : Int) = 0 := by
      rw [← eba2,← ez2]
      exact disj ⟨st2,hst2⟩ ⟨z1,hz1⟩
     obtain ⟨re2,ere2,hre2⟩ : ∃ k : Nat,(if (re : Int) < (ro.re : Int) then (re : Int) else (ro.re : Int)) = (k : Int) ∧ k ≤ 3 := by
      have := go.h4.hre
      by_cases hc : (re : Int) < (ro.re : Int)
      ·rw [if_pos hc]; exact ⟨re,rfl,by omega⟩
      ·rw [if_neg hc]; exact ⟨ro.re,rfl,by omega⟩
     refine ⟨_,rfl,qo,_,_,V.int ro.re,rfl,rfl,SqT.of r1,rfl,_,rfl,_,_,rfl,?_⟩
     refine ⟨_,rfl,qo,_,_,V.bl ro.sa,rfl,rfl,SqT.of r1,rfl,_,rfl,?_⟩
     have F5 : Four le2 st2 ba2 re2 := ⟨hle2,hst2,hba2,hsb2,hre2⟩
     have big : ∀ sc : Bool,([some (V.ref b),some (V.ref lk),some (V.ref lw),some (V.int (Builtin.bitAnd (ro.le : Int) (le : Int))),some (V.int (Builtin.bitAnd (Builtin.bitOr (ro.st : Int) (st : Int)) (Builtin.bitXor 63 (ro.ba : Int)))),some (V.int (Builtin.bitAnd (Builtin.bitOr (ro.ba : Int) (ba : Int)) (Builtin.bitXor 63 (Builtin.bitAnd (Builtin.bitOr (ro.st : Int) (st : Int)) (Builtin.bitXor 63 (ro.ba : Int)))))),some (V.int (if (re : Int) < (ro.re : Int) then (re : Int) else (ro.re : Int))),some (V.bl sc),some (V.ref qo),none,none,none,none,none] : L2.St)
          = [some (V.ref b),some (V.ref lk),some (V.ref lw),some (V.int le2),some (V.int st2),some (V.int ba2),some (V.int re2),some (V.bl sc),some (V.ref qo),none,none,none,none,none] := by
      intro sc
      rw [ele2,ey1,ey2,est2,ez1,ez2,eba2,ere2]
     cases hsa : ro.sa with
     | true => exact iteT ⟨le2,st2,ba2,re2,true,_,big true,F5,OA⟩
     | false => exact iteF ⟨_,rfl,le2,st2,ba2,re2,sb,_,big sb,F5,OA⟩
  ·rintro σ' H' ⟨le,st,ba,re,sb,v8,rfl,F4,O⟩
   have hl9' : ∀ {H2 : Hp} {l9 : Addr},Oth b H H2 → H2 l9 = none → H l9 = none := fun o h => o.free h
   refine ⟨_,rfl,_,rfl,b,64,rfl,O.box,(by decide),(by decide),fun m1 H1 x0 x1 o1 => ?_⟩
   obtain ⟨m1,rfl,hm1⟩ := El x0 x1
   refine ⟨b,m1,6,rfl,o1.box,(by decide),fun t1 H2 ht1 o2 => ?_⟩
   obtain ⟨a0,ea0,ha0⟩ := and64 hm1 (show t1 < 64 from ht1)
   refine ⟨(by show 1 ≤ sizeLine; decide),fun l9 h9 => ?_⟩
   have O2 := (O.trans o1).trans o2
   have O3 := O2.new (o := .lst [.int (Builtin.bitAnd (m1 : Int) (t1 : Int))]) h9
   have e9 : upd H2 l9 (.lst [.int (Builtin.bitAnd (m1 : Int) (t1 : Int))]) l9 = some (.lst [V.int a0]) := by rw [Ad,ea0]
   have n9 : l9 ≠ b := Box.ne O2.box h9
   have f9 : H l9 = none := hl9' O2 h9
   generalize upd H2 l9 (.lst [.int (Builtin.bitAnd (m1 : Int) (t1 : Int))]) = H3 at O3 e9 ⊢
   refine ⟨3,rfl,(by decide),(by decide),E2 (n := 3) (fun i σ H' => ∃ (pre : List Nat) (x : Nat) (v10 : Option V),σ = [some (.ref b),some (.ref lk),some (.ref lw),some (.int le),some (.int st),some (.int ba),some (.int re),some (.bl sb),v8,some (.ref l9),v10,none,none,none] ∧ pre.length = i ∧ AskL (pre ++ [x]) ∧ H' l9 = some (.lst ((pre ++ [x]).map fun (a : Nat) => V.int a)) ∧ Oth b H H')
    ⟨[],a0,_,rfl,rfl,⟨fun a ha => by simp at ha; rw [ha]; exact ha0,fun j x y h1 h2 => by simp at h2⟩,e9,O3⟩ ?_ ?_⟩
   ·rintro i σ H4 hi ⟨pre,x,v10,rfl,hp,hA,e4,O4⟩
    have hx64 : x < 64 := hA.1 x (List.mem_append_right _ (List.mem_singleton.mpr rfl))
    refine ⟨_,rfl,.inl ⟨rfl,_,SqL.of e4⟩,_,rfl,_,rfl,l9,_,_,V.int x,rfl,rfl,SqL.of e4,(by rw [List.map_append]; exact atI_last _ _),?_⟩
    refine ⟨_,rfl,_,rfl,b,64,rfl,O4.box,(by decide),(by decide),fun m2 H5 y0 y1 o5 => ?_⟩
    obtain ⟨m2,rfl,hm2⟩ := El y0 y1
    refine ⟨b,m2,6,rfl,o5.box,(by decide),fun t2 H6 ht2 o6 => ?_⟩
    obtain ⟨k1,ek1,hk1⟩ := and64 hm2 (show t2 < 64 from ht2)
    obtain ⟨y,ey,hy⟩ := or64 hx64 hk1
    have o56 := o5.trans o6
    have e6 : H6 l9 = some (.lst ((pre ++ [x]).map fun (a : Nat) => V.int a)) := o56.oth _ _ e4 n9
    have bxy : Bu x y = .non := by
     have := or_bey ⟨x,hx64⟩ ⟨k1,hk1⟩
     dsimp only at this
     rw [ey] at this
     exact this
    refine ⟨_,_,rfl,rfl,l9,_,_,rfl,rfl,e6,(by rw [List.length_map,List.length_append,List.length_singleton]; omega),?_⟩
    refine ⟨pre ++ [x],y,_,rfl,by rw [List.length_append,hp]; rfl,⟨fun a ha => ?_,fun j u v h1 h2 => ?_⟩,?_,?_,fun c o e nc => ?_⟩
    ·rcases List.mem_append.mp ha with ha | ha
     ·exact hA.1 a ha
     ·rw [List.mem_singleton] at ha; rw [ha]; exact hy
    ·by_cases hj : j + 1 < (pre ++ [x]).length
     ·rw [List.getElem?_append_left hj] at h2
      rw [List.getElem?_append_left (by omega)] at h1
      exact hA.2 j u v h1 h2
     ·have hj2 : j + 1 = (pre ++ [x]).length := by
       have := (List.getElem?_eq_some_iff.mp h2).1
       rw [List.length_append,List.length_singleton] at this
       omega
      have hj3 : j = pre.length := by rw [List.length_append,List.length_singleton] at hj2; omega
      rw [hj2,List.getElem?_append_right (Nat.le_refl _),Nat.sub_self] at h2
      cases h2
      subst hj3
      rw [List.getElem?_append_left (by rw [List.length_append,List.length_singleton]; omega),List.getElem?_append_right (Nat.le_refl _),Nat.sub_self] at h1
      cases h1
      exact bxy
    ·rw [Ad]
     show some (HO.lst (((pre ++ [x]).map fun (a : Nat) => V.int a) ++ [V.int (Builtin.bitOr (x : Int) (Builtin.bitAnd (m2 : Int) (t2 : Int)))])) = _
     rw [ek1,ey,List.map_append (l₂ := [y])]
     rfl
    ·obtain ⟨x1,y1,z1,hbx⟩ := (O4.trans o56).box
     exact ⟨x1,y1,z1,by rw [upd_ne (Ne.symm n9)]; exact hbx⟩
    ·rw [upd_ne (Ah e f9)]
     exact (O4.trans o56).oth c o e nc
   ·rintro σ H4 ⟨pre,x,v10,rfl,hp,hA,e4,O4⟩
    obtain ⟨b0,b1,b2,rfl⟩ : ∃ b0 b1 b2,pre = [b0,b1,b2] := by
     match pre,hp with
     | [b0,b1,b2],_ => exact ⟨b0,b1,b2,rfl⟩
    have ask : Asks b0 b1 b2 x := ⟨hA.1 _ (by simp),hA.1 _ (by simp),hA.1 _ (by simp),hA.1 _ (by simp),hA.2 0 _ _ rfl rfl,hA.2 1 _ _ rfl rfl,hA.2 2 _ _ rfl rfl⟩
    have e4 : H4 l9 = some (.lst (B6 b0 b1 b2 x)) := e4
    refine ⟨_,rfl,(by show 2 ≤ sizeLine; decide),fun lq hlq => ?_⟩
    have s5 := Same.new (o := .lst [.int 1,.int 10000]) hlq
    have e5 : upd H4 lq (.lst [.int 1,.int 10000]) lq = some (.lst [.int 1,.int 10000]) := Ad
    have nq : lq ≠ b := Box.ne O4.box hlq
    have O5 := O4.new (o := .lst [.int 1,.int 10000]) hlq
    generalize upd H4 lq (.lst [.int 1,.int 10000]) = H5 at s5 e5 O5 ⊢
    refine ⟨_,rfl,b,2,rfl,O5.box,(by decide),(by decide),fun r H6 r0 r1 o6 => ?_⟩
    obtain ⟨v,ev,mv⟩ := atI_ex (xs := [V.int 1,V.int 10000]) r0 (by show r < 2; omega)
    obtain ⟨n,rfl,n0,n1⟩ : ∃ n : Int,v = .int n ∧ 0 < n ∧ n ≤ 10000 := by
     simp only [List.mem_cons,List.not_mem_nil,or_false] at mv
     rcases mv with rfl | rfl
     ·exact ⟨1,rfl,by decide,by decide⟩
     ·exact ⟨10000,rfl,by decide,by decide⟩
    refine ⟨lq,_,r,_,rfl,rfl,SqL.of (o6.oth _ _ e5 nq),ev,b,n,rfl,o6.box,n0,(by show n < 10000000000000000000000000000000000000000; omega),fun fi H7 f0 f1 o7 => ?_⟩
    have O7 := (O5.trans o6).trans o7
    refine ⟨_,rfl,_,rfl,_,rfl,_,_,rfl,rfl,b,10000 - fi,rfl,O7.box,(by omega),(by show 10000 - fi < 10000000000000000000000000000000000000000; omega),fun d H8 d0 d1 o8 => ⟨_,_,rfl,rfl,?_⟩⟩
    have O8 := O7.trans o8
    obtain ⟨fi,rfl⟩ : ∃ k : Nat,fi = (k : Int) := ⟨fi.toNat,by omega⟩
    obtain ⟨d,rfl⟩ : ∃ k : Nat,d = (k : Int) := ⟨d.toNat,by omega⟩
    have w8 : H8 lw = some (.lst (qs.map V.ref)) := O8.oth _ _ hw nwb
    have k8 : H8 lk = some (.lst (ks.map V.ref)) := O8.oth _ _ hk nkb
    have ek : ks[qs.length]? = some (ks[qs.length]'hlt) := List.getElem?_eq_getElem hlt
    obtain ⟨kw,kn,kw1,kn1,kp⟩ := hkey _ (List.getElem_mem hlt)
    generalize ks[qs.length]'hlt = pk at ek kp
    refine ⟨_,rfl,_,rfl,_,_,rfl,.inl ⟨_,SqL.of w8,rfl⟩,lk,_,_,V.ref pk,rfl,rfl,SqL.of k8,atI_nat (by rw [List.length_map,List.getElem?_map,ek]; rfl),_,rfl,_,rfl,_,rfl,_,rfl,_,rfl,(by show 6 ≤ sizeLine; decide),fun t6 h6 => ?_⟩
    have e6 : upd H8 t6 (.tup [.ref pk,.int le,.int st,.int ba,.int re,.bl sb]) t6 = some (.tup [.ref pk,.int le,.int st,.int ba,.int re,.bl sb]) := Ad
    have OA := O8.new (o := .tup [.ref pk,.int le,.int st,.int ba,.int re,.bl sb]) h6
    have sA := Same.new (o := .tup [.ref pk,.int le,.int st,.int ba,.int re,.bl sb]) h6
    have e9 : H8 l9 = some (.lst (B6 b0 b1 b2 x)) := o8.oth _ _ (o7.oth _ _ (o6.oth _ _ (s5 _ _ e4) n9) n9) n9
    generalize upd H8 t6 (.tup [.ref pk,.int le,.int st,.int ba,.int re,.bl sb]) = HA at e6 OA sA ⊢
    refine ⟨_,rfl,_,rfl,l9,_,rfl,.inl ⟨SqL.of (sA _ _ e9),fun pa hpa => ?_⟩⟩
    have sB := Same.new (o := .tup (B6 b0 b1 b2 x)) hpa
    have eB : upd HA pa (.tup (B6 b0 b1 b2 x)) pa = some (.tup (B6 b0 b1 b2 x)) := Ad
    have OB := OA.new (o := .tup (B6 b0 b1 b2 x)) hpa
    generalize upd HA pa (.tup (B6 b0 b1 b2 x)) = HB at sB eB OB ⊢
    refine ⟨_,rfl,_,rfl,_,rfl,b,2,rfl,OB.box,(by decide),(by decide),fun lg HC _ _ oC => ⟨rfl,?_⟩⟩
    have OC := OB.trans oC
    have eC : HC pa = some (.tup (B6 b0 b1 b2 x)) := Em eB OB.box oC
    have e6C : HC t6 = some (.tup [.ref pk,.int le,.int st,.int ba,.int re,.bl sb]) := Em (sB _ _ e6) OB.box oC
    have kC : HC pk = some (.tup [.str kw,.int kn]) := Em kp hb OC
    generalize decide (V.int lg = V.int 0) = lgb
    refine ⟨(by show 4 ≤ sizeLine; decide),fun t4' h4' => ?_⟩
    have sD := Same.new (o := .tup [.ref pa,.int fi,.int ((fi : Int) + d),.bl lgb]) h4'
    have eD : upd HC t4' (.tup [.ref pa,.int fi,.int ((fi : Int) + d),.bl lgb]) t4' = some (.tup [.ref pa,.int fi,.int ((fi : Int) + d),.bl lgb]) := Ad
    have OD := OC.new (o := .tup [.ref pa,.int fi,.int ((fi : Int) + d),.bl lgb]) h4'
    refine ⟨t6,t4',_,_,rfl,rfl,SqT.of (sD _ _ e6C),SqT.of eD,(by simp),(by show 6 + 4 ≤ sizeLine; decide),(fun h => by cases h),fun _ q1 hq1 => ?_⟩
    have sE := Same.new (o := .tup ([.ref pk,.int le,.int st,.int ba,.int re,.bl sb] ++ [.ref pa,.int fi,.int ((fi : Int) + d),.bl lgb])) hq1
    refine q q1 _ (OD.new hq1) ⟨⟨kw,kn,le,st,ba,re,sb,b0,b1,b2,x,fi,fi + d,lgb⟩,⟨kw1,kn1,F4,ask,by show fi ≤ fi + d; omega,by show fi + d ≤ 9999; omega⟩,⟨pk,pa,Ad,sE _ _ (sD _ _ kC),sE _ _ (sD _ _ eC)⟩,pk,ek,kp⟩
end
theorem tup_upd {H : Hp} {p l : Addr} {xs ys : List V} {o : HO} (h : H p = some (.tup xs)) (hl : H l = some (.lst ys)) : (upd H l o) p = some (.tup xs) := by
 rw [upd_ne (ne_of h hl (by intro z; cases z))]
 exact h
theorem KeyAt.upd {H : Hp} {p l : Addr} {ys : List V} {o : HO} (h : KeyAt H p) (hl : H l = some (.lst ys)) : KeyAt (upd H l o) p := by
 obtain ⟨w,n,h1,h2,h3⟩ := h
 exact ⟨w,n,h1,h2,tup_upd h3 hl⟩
theorem Dj.upd {H : Hp} {q l : Addr} {r : Row} {ys : List V} {o : HO} (h : Dj H q r) (hl : H l = some (.lst ys)) : Dj (upd H l o) q r := by
 obtain ⟨pk,pa,h1,h2,h3⟩ := h
 exact ⟨pk,pa,tup_upd h1 hl,tup_upd h2 hl,tup_upd h3 hl⟩
def Dist (H : Hp) (ps : List Addr) : Prop := ∀ (i j : Nat) (p q : Addr) (w w' : Str) (n : Int),ps[i]? = some p → ps[j]? = some q → H p = some (.tup [.str w,.int n]) → H q = some (.tup [.str w',.int n]) → i = j
theorem Dist.tups {H H' : Hp} {ps : List Addr} (d : Dist H ps) (k : ∀ p ∈ ps,KeyAt H p) (t : ∀ a xs,H a = some (.tup xs) → H' a = some (.tup xs)) : Dist H' ps := fun i j p q w w' n hi hj ep eq => by
 obtain ⟨w1,n1,_,_,e1⟩ := k p (List.mem_of_getElem? hi)
 obtain ⟨w2,n2,_,_,e2⟩ := k q (List.mem_of_getElem? hj)
 have f1 := t _ _ e1
 have f2 := t _ _ e2
 rw [ep] at f1
 rw [eq] at f2
 rw [← f1] at e1
 rw [← f2] at e2
 exact d i j p q w w' n hi hj e1 e2
def Nums (r1 : Int) (H : Hp) (ps : List Addr) : Prop := ∀ (i : Nat) (p : Addr),ps[i]? = some p → ∃ (w : Str) (n : Int),H p = some (.tup [.str w,.int n]) ∧ n / 8 = (5 * (0 + (i : Int)) + r1 % 12) % 12
theorem Nums.dist {r1 : Int} {H : Hp} {ps : List Addr} (h : Nums r1 H ps) (hl : ps.length ≤ 12) : Dist H ps := fun i j p q w w' n hi hj ep eq => by
 obtain ⟨w1,n1,e1,m1⟩ := h i p hi
 obtain ⟨w2,n2,e2,m2⟩ := h j q hj
 rw [ep] at e1
 rw [eq] at e2
 simp only [Option.some.injEq,HO.tup.injEq,List.cons.injEq,V.str.injEq,V.int.injEq,and_true] at e1 e2
 rw [← e1.2] at m1
 rw [← e2.2] at m2
 have := (List.getElem?_eq_some_iff.mp hi).1
 have := (List.getElem?_eq_some_iff.mp hj).1
 omega
def spKeys : Sp := fun vs H Q _ => ∃ (c : Int) (n : Nat),n ≤ 12 ∧ vs = [.int c,.int n] ∧ ∀ (l : Addr) (ps : List Addr) (H' : Hp),Same H H' → H' l = some (.lst (ps.map V.ref)) → ps.length = n → (∀ p ∈ ps,KeyAt H' p) → Dist H' ps → H l = none → Q (.ref l) H'
section
variable {P : Program} {w : World} {K : PySem.W.Frag} {mg : Str → Option Value} {base : Heap}
abbrev s_law_keys : Stmt := top 91
theorem C3 : Ak ["_law_cell_here","_law_many","_law_words_here","_law_shift","_law_found","_law_k","_law_number"] ["_law_cell_here","_law_many"] (Ag s_law_keys) := by trivial
theorem ok_keys (T : Txt mg) (F__law_mixed : FnAt P w K mg base "_law_mixed" 1 ["_law_cell_here","_law_k"] spMixed) (F__law_words : FnAt P w K mg base "_law_words" 3 ["_law_cell_here","_law_many"] spWords) (F : Ai K mg "_law_keys" s_law_keys ["_law_cell_here","_law_many"]) : FnAt P w K mg base "_law_keys" 4 ["_law_cell_here","_law_many"] spKeys := by
 refine F.at C3 (fun vs H Q E h => ?_) (fun f cdv A outer s H vs Q E hr h => ?_)
 ·obtain ⟨c,n,_,rfl,_⟩ := h
  rfl
 ·obtain ⟨c,n,hn,rfl,q⟩ := h
  refine ⟨_,(Ab (Al (i := 2) C3.nd rfl (by trivial) (Ao F__law_words hr (by decide) rfl (Aa (pv 0) (Aa Af Ac))))
   (Ab (Al (i := 3) C3.nd rfl (by trivial) (Ax Ek (Ao F__law_mixed hr (by decide) rfl (Aa (pv 0) (Aa Af Ac))) Af))
   (Ab (Al (i := 4) C3.nd rfl (by trivial) (A5 Ac))
   (Ab (Dg PassesOwn.never rfl (Ew rfl T.n_range (Aa (pv 1) Ac)) (As (i := 5) C3.nd rfl (by trivial)) (Ab (Al (i := 6) C3.nd rfl (by trivial) (Ax C0 (Ax op_mul Af (Ax Ek (Ax C0 (Ax op_mul Af (pv 5)) (pv 3)) Af)) (Ax Ek (Ao F__law_mixed hr (by decide) rfl (Aa (pv 0) (Aa (Ax C0 Af (pv 5)) Ac))) Af)))
   (Ae (A3 (Bl PySem.F.plainAttrs_list PySem.F.slot_list_append PySem.F.type_list_append A2 (pv 4) (Aa (pe_tup (Aa (Az At (pv 2) (Ax Ek (Ao F__law_mixed hr (by decide) rfl (Aa (pv 0) (Aa (Ax C0 Af (pv 5)) Ac))) Af) (fun _ _ => rfl)) (Aa (pv 6) Ac))) Ac))))))
   (Ae (Aq (pv 4))))))),?_⟩
  have hs : sizeLine = 16777216 := sizeLine_eq
  refine ⟨_,rfl,c,4,(by decide),rfl,fun l0 zs H1 s1 e1 hz4 hall _ _ => ?_⟩
  refine ⟨_,rfl,c,899,rfl,fun r1 => ⟨_,_,rfl,rfl,(by show (0 : Int) < 12; decide),?_⟩⟩
  refine ⟨(by show 0 ≤ sizeLine; decide),fun l hl => ?_⟩
  have s2 := Same.new (o := .lst []) hl
  have e2 : upd H1 l (.lst []) l = some (.lst []) := Ad
  have fl1 : H1 l = none := hl
  have fl : H l = none := s1.free hl
  have nl0 : l0 ≠ l := Ah e1 hl
  generalize upd H1 l (.lst []) = H2 at s2 e2 ⊢
  refine ⟨_,rfl,n,rfl,(by omega),(by omega),E2 (n := n) (fun i σ H' => ∃ (ps : List Addr) (v5 v6 : Option V),σ = [some (.int c),some (.int n),some (.ref l0),some (.int (r1 % 12)),some (.ref l),v5,v6] ∧ ps.length = i ∧ H' l = some (.lst (ps.map V.ref)) ∧ (∀ p ∈ ps,KeyAt H' p) ∧ Same H1 H' ∧ Nums r1 H' ps)
   ⟨[],_,_,rfl,rfl,e2,by simp,s2,fun i p h => by simp at h⟩ ?_ ?_⟩
  ·rintro i σ H3 hi ⟨ps,v5,v6,rfl,hlen,el,hk,s3,nu⟩
   refine ⟨_,rfl,_,_,rfl,rfl,.inl ⟨by decide,by decide⟩,_,rfl,_,_,rfl,rfl,_,_,rfl,rfl,(by show (0 : Int) < 12; decide),_,_,rfl,rfl,.inl ⟨by decide,by decide⟩,_,rfl,_,rfl,_,_,rfl,rfl,c,_,rfl,fun r2 => ⟨_,_,rfl,rfl,(by show (0 : Int) < 8; decide),_,_,rfl,rfl,?_⟩⟩
   refine ⟨_,rfl,.inl ⟨rfl,_,SqL.of el⟩,_,rfl,_,rfl,_,rfl,_,_,rfl,rfl,c,_,rfl,fun r3 => ⟨_,_,rfl,rfl,(by show (0 : Int) < 4; decide),?_⟩⟩
   obtain ⟨v,ev,mv⟩ := atI_ex (xs := zs.map V.str) (r := r3 % 4) (Int.emod_nonneg _ (by decide)) (by rw [List.length_map,hz4]; exact Int.emod_lt_of_pos _ (by decide))
   obtain ⟨z,hz,rfl⟩ := List.mem_map.mp mv
   have m1 : 0 ≤ 8 * ((5 * (0 + (i : Int)) + r1 % 12) % 12) + r2 % 8 := by
    have := Int.emod_nonneg (5 * (0 + (i : Int)) + r1 % 12) (show (12 : Int) ≠ 0 by decide)
    have := Int.emod_nonneg r2 (show (8 : Int) ≠ 0 by decide)
    omega
   have m2 : 8 * ((5 * (0 + (i : Int)) + r1 % 12) % 12) + r2 % 8 < 100 := by
    have := Int.emod_lt_of_pos (5 * (0 + (i : Int)) + r1 % 12) (show (0 : Int) < 12 by decide)
    have := Int.emod_lt_of_pos r2 (show (0 : Int) < 8 by decide)
    omega
   obtain ⟨kn,ekn,hkn⟩ := El (n := 100) m1 m2
   refine ⟨l0,_,_,V.str z,rfl,rfl,SqL.of (s3 _ _ e1),ev,_,rfl,(by show 2 ≤ sizeLine; decide),fun p hp => ?_⟩
   have s4 := Same.new (o := .tup [.str z,.int (8 * ((5 * (0 + (i : Int)) + r1 % 12) % 12) + r2 % 8)]) hp
   have e4 : upd H3 p (.tup [.str z,.int (8 * ((5 * (0 + (i : Int)) + r1 % 12) % 12) + r2 % 8)]) p = some (.tup [.str z,.int kn]) := by rw [Ad,ekn]
   refine ⟨l,_,_,rfl,rfl,s4 _ _ el,(by rw [List.length_map]; omega),?_⟩
   refine ⟨ps ++ [p],_,_,rfl,by rw [List.length_append,hlen]; rfl,by rw [Ad,List.map_append]; rfl,fun p' hp' => ?_,fun d o e => ?_,fun j p' hj => ?_⟩
   ·rcases List.mem_append.mp hp' with h | h
    ·exact ((hk p' h).same s4).upd (s4 _ _ el)
    ·rw [List.mem_singleton] at h
     subst h
     exact KeyAt.upd ⟨z,kn,hall z hz,by omega,e4⟩ (s4 _ _ el)
   ·rw [upd_ne (Ah e fl1)]
    exact s4 _ _ (s3 _ _ e)
   ·have up : ∀ {a : Addr} {xs ys : List V},upd H3 p (.tup [.str z,.int (8 * ((5 * (0 + (i : Int)) + r1 % 12) % 12) + r2 % 8)]) a = some (.tup xs) → upd (upd H3 p (.tup [.str z,.int (8 * ((5 * (0 + (i : Int)) + r1 % 12) % 12) + r2 % 8)])) l (.lst ys) a = some (.tup xs) := fun h => tup_upd h (s4 _ _ el)
    by_cases hji : j < ps.length
    ·rw [List.getElem?_append_left hji] at hj
     obtain ⟨w1,n1,h1,h2⟩ := nu j p' hj
     exact ⟨w1,n1,up (s4 _ _ h1),h2⟩
    ·have hj2 : j = ps.length := by
          have := (List.getElem?_eq_some_iff.mp hj).1
          rw [List.length_append,List.length_singleton] at this
          omega
     subst hj2
     rw [List.getElem?_append_right (Nat.le_refl _),Nat.sub_self] at hj
     cases hj
     refine ⟨z,_,up Ad,?_⟩
     have := Int.emod_nonneg r2 (show (8 : Int) ≠ 0 by decide)
     have := Int.emod_lt_of_pos r2 (show (0 : Int) < 8 by decide)
     rw [hlen]
     omega
  ·rintro σ H3 ⟨ps,v5,v6,rfl,hlen,el,hk,s3,nu⟩
   exact ⟨_,rfl,q l ps H3 (s1.trans s3) el hlen hk (nu.dist (by omega)) fl⟩
structure RowsK (H : Hp) (ks qs : List Addr) (rs : List Row) : Prop where
 len : qs.length = rs.length
 row : ∀ (i : Nat) (q : Addr) (r : Row),qs[i]? = some q → rs[i]? = some r → Row.Good r ∧ Dj H q r ∧ ∃ p,ks[i]? = some p ∧ H p = some (.tup r.keyV)
theorem Dj.tups {H H' : Hp} {q : Addr} {r : Row} (h : Dj H q r) (t : ∀ a xs,H a = some (.tup xs) → H' a = some (.tup xs)) : Dj H' q r := by
 obtain ⟨pk,pa,h1,h2,h3⟩ := h
 exact ⟨pk,pa,t _ _ h1,t _ _ h2,t _ _ h3⟩
theorem RowsK.tups {H H' : Hp} {ks qs : List Addr} {rs : List Row} (h : RowsK H ks qs rs) (t : ∀ a xs,H a = some (.tup xs) → H' a = some (.tup xs)) : RowsK H' ks qs rs := ⟨h.len,fun i q r h1 h2 => by
 obtain ⟨g,a,p,e1,e2⟩ := h.row i q r h1 h2
 exact ⟨g,a.tups t,p,e1,t _ _ e2⟩⟩
theorem RowsK.all {H : Hp} {ks qs : List Addr} {rs : List Row} (h : RowsK H ks qs rs) : ∀ q ∈ qs,∃ r,Row.Good r ∧ Dj H q r := fun q hq => by
 obtain ⟨i,hi,rfl⟩ := List.mem_iff_getElem.mp hq
 have hr : i < rs.length := by rw [← h.len]; exact hi
 obtain ⟨g,a,_⟩ := h.row i qs[i] rs[i] (List.getElem?_eq_getElem hi) (List.getElem?_eq_getElem hr)
 exact ⟨_,g,a⟩
theorem RowsK.snoc {H : Hp} {ks qs : List Addr} {rs : List Row} {q : Addr} {r : Row} (h : RowsK H ks qs rs) (g : Row.Good r) (a : Dj H q r) {p : Addr} (e1 : ks[qs.length]? = some p) (e2 : H p = some (.tup r.keyV)) : RowsK H ks (qs ++ [q]) (rs ++ [r]) := by
 refine ⟨by rw [List.length_append,List.length_append,h.len]; rfl,fun i q' r' h1 h2 => ?_⟩
 by_cases hi : i < qs.length
 ·rw [List.getElem?_append_left hi] at h1
  rw [List.getElem?_append_left (by rw [← h.len]; exact hi)] at h2
  exact h.row i q' r' h1 h2
 ·have hj2 : i = qs.length := by
   have := (List.getElem?_eq_some_iff.mp h1).1
   rw [List.length_append,List.length_singleton] at this
   omega
  subst hj2
  rw [List.getElem?_append_right (Nat.le_refl _),Nat.sub_self] at h1
  rw [List.getElem?_append_right (by rw [h.len]; exact Nat.le_refl _),h.len,Nat.sub_self] at h2
  cases h1
  cases h2
  exact ⟨g,a,p,e1,e2⟩
theorem RowsK.nodup {H : Hp} {ks qs : List Addr} {rs : List Row} (h : RowsK H ks qs rs) (d : Dist H ks) : (rs.map fun r => (r.w,r.n)).Nodup := by
 rw [List.Nodup,List.pairwise_iff_getElem]
 intro i j hi hj hij e
 rw [List.length_map] at hi hj
 rw [List.getElem_map,List.getElem_map] at e
 obtain ⟨_,_,p,e1,e2⟩ := h.row i (qs[i]'(by rw [h.len]; exact hi)) rs[i] (List.getElem?_eq_getElem _) (List.getElem?_eq_getElem hi)
 obtain ⟨_,_,p',e1',e2'⟩ := h.row j (qs[j]'(by rw [h.len]; exact hj)) rs[j] (List.getElem?_eq_getElem _) (List.getElem?_eq_getElem hj)
 have en : rs[i].n = rs[j].n := congrArg Prod.snd e
 have : i = j := d i j p p' _ _ _ e1 e1' e2 (by rw [e2']; show some (HO.tup [V.str _,V.int ((rs[j].n : Nat) : Int)]) = _; rw [← en])
 omega
def D6 (H : Hp) (qs : List Addr) (rs : List Row) : Prop := qs.length = rs.length ∧ ∀ (i : Nat) (q : Addr) (r : Row),qs[i]? = some q → rs[i]? = some r → r.Good ∧ Dj H q r
theorem D6.same {H H' : Hp} {qs : List Addr} {rs : List Row} (h : D6 H qs rs) (s : Same H H') : D6 H' qs rs := ⟨h.1,fun i q r h1 h2 => ⟨(h.2 i q r h1 h2).1,(h.2 i q r h1 h2).2.same s⟩⟩
theorem RowsK.rows {H : Hp} {ks qs : List Addr} {rs : List Row} (h : RowsK H ks qs rs) : D6 H qs rs := ⟨h.len,fun i q r h1 h2 => ⟨(h.row i q r h1 h2).1,(h.row i q r h1 h2).2.1⟩⟩
def spBook : Sp := fun vs H Q _ => ∃ c o : Int,vs = [.int c,.int o] ∧ ∀ (l : Addr) (qs : List Addr) (rs : List Row) (H' : Hp),Same H H' → H' l = some (.lst (qs.map V.ref)) → qs.length ≤ 12 → D6 H' qs rs → (rs.map fun r => (r.w,r.n)).Nodup → H l = none → Q (.ref l) H'
abbrev s_law_book : Stmt := top 92
theorem Co : Ak ["_law_cell_here","_law_other","_law_box_here","_law_many","_law_keys_here","_law_known","_law_k"] ["_law_cell_here","_law_other"] (Ag s_law_book) := by trivial
theorem ok_book (T : Txt mg) (F__law_box : FnAt P w K mg base "_law_box" 1 ["_law_cell_here"] spBox) (F__law_take : FnAt P w K mg base "_law_take" 2 ["_law_box_here","_law_many"] spTake) (F__law_keys : FnAt P w K mg base "_law_keys" 4 ["_law_cell_here","_law_many"] spKeys) (F__law_licence : FnAt P w K mg base "_law_licence" 4 ["_law_box_here","_law_keys_here","_law_known"] spLic)
 (F : Ai K mg "_law_book" s_law_book ["_law_cell_here","_law_other"]) : FnAt P w K mg base "_law_book" 5 ["_law_cell_here","_law_other"] spBook := by
 refine F.at Co (fun vs H Q E h => ?_) (fun f cdv A outer s H vs Q E hr h => ?_)
 ·obtain ⟨c,o,rfl,_⟩ := h
  rfl
 ·obtain ⟨c,ot,rfl,q⟩ := h
  refine ⟨_,(Ab (Al (i := 2) Co.nd rfl (by trivial) (Ao F__law_box hr (by decide) rfl (Aa (pv 0) Ac)))
   (Ab (Al (i := 3) Co.nd rfl (by trivial) (Ao F__law_take hr (by decide) rfl (Aa (pv 2) (Aa Af Ac))))
   (Ab (ps_mid (A7 (A1 Ey (Ao F__law_take hr (by decide) rfl (Aa (pv 2) (Aa Af Ac))) Af (A0 _)) (Ae (Al (i := 3) Co.nd rfl (by trivial) (Ax C0 Af (Ao F__law_take hr (by decide) rfl (Aa (pv 2) (Aa Af Ac)))))) Ap))
   (Ab (Al (i := 4) Co.nd rfl (by trivial) (Ao F__law_keys hr (by decide) rfl (Aa (pv 1) (Aa (pv 3) Ac))))
   (Ab (Al (i := 5) Co.nd rfl (by trivial) (A5 Ac))
   (Ab (Dg PassesOwn.never rfl (Ew rfl T.n_range (Aa (pv 3) Ac)) (As (i := 6) Co.nd rfl (by trivial)) (Ae (A3 (Bl PySem.F.plainAttrs_list PySem.F.slot_list_append PySem.F.type_list_append A2 (pv 5) (Aa (Ao F__law_licence hr (by decide) rfl (Aa (pv 2) (Aa (pv 4) (Aa (pv 5) Ac)))) Ac)))))
   (Ae (Aq (pv 5))))))))),?_⟩
  have hs : sizeLine = 16777216 := sizeLine_eq
  refine ⟨_,rfl,c,rfl,fun b x y z hb => ?_⟩
  have O1 : Oth b (upd H b (.lst [.int x,.int y,.int z])) (upd H b (.lst [.int x,.int y,.int z])) := Oth.refl ⟨x,y,z,Ad⟩
  have S0 : ∀ {H' : Hp},Oth b (upd H b (.lst [.int x,.int y,.int z])) H' → Same H H' := fun {H'} o d u e => o.oth d u (by rw [upd_ne (Ah e hb)]; exact e) (Ah e hb)
  generalize upd H b (.lst [.int x,.int y,.int z]) = H1 at O1 S0 ⊢
  refine ⟨_,rfl,b,6,rfl,O1.box,(by decide),(by decide),fun m H2 m0 m1 o2 => ?_⟩
  obtain ⟨m,rfl,hm⟩ := El m0 m1
  refine ⟨fun σ' H' => ∃ n : Nat,n ≤ 12 ∧ σ' = [some (.int c),some (.int ot),some (.ref b),some (.int n),none,none,none] ∧ Oth b H1 H',?_,?_⟩
  ·refine ⟨_,rfl,b,8,rfl,o2.box,(by decide),(by decide),fun u H3 _ _ o3 => ⟨rfl,_,rfl,ite2 (fun _ => ?_) (fun _ => ?_)⟩⟩
   ·refine ⟨_,rfl,b,6,rfl,o3.box,(by decide),(by decide),fun t H4 t0 t1 o4 => ⟨_,_,rfl,rfl,?_⟩⟩
    obtain ⟨t,rfl,ht⟩ := El t0 t1
    exact ⟨7 + t,by omega,rfl,(o2.trans o3).trans o4⟩
   ·exact ⟨m,by omega,rfl,o2.trans o3⟩
  ·rintro σ' H3 ⟨n,hn,rfl,O3⟩
   refine ⟨_,rfl,_,rfl,ot,n,hn,rfl,fun lk ks H4 s4 ek hklen hkey hdist fk => ?_⟩
   have O4 : Oth b H1 H4 := O3.same s4
   have nkb : lk ≠ b := Box.ne O3.box fk
   refine ⟨(by show 0 ≤ sizeLine; decide),fun lw hlw => ?_⟩
   have O5 := O4.new (o := .lst []) hlw
   have s5 := Same.new (o := .lst []) hlw
   have e5 : upd H4 lw (.lst []) lw = some (.lst []) := Ad
   have nwb : lw ≠ b := Box.ne O4.box hlw
   have fw : H lw = none := (S0 O4).free hlw
   have f1w : H1 lw = none := O4.free hlw
   have nkw : lk ≠ lw := Ah ek hlw
   generalize upd H4 lw (.lst []) = H5 at O5 s5 e5 ⊢
   refine ⟨_,rfl,n,rfl,(by omega),(by omega),E2 (n := n) (fun i σ H' => ∃ (qs : List Addr) (v6 : Option V),σ = [some (.int c),some (.int ot),some (.ref b),some (.int n),some (.ref lk),some (.ref lw),v6] ∧ qs.length = i ∧ H' lw = some (.lst (qs.map V.ref)) ∧ H' lk = some (.lst (ks.map V.ref)) ∧ (∀ p ∈ ks,KeyAt H' p) ∧ (∃ rs,RowsK H' ks qs rs) ∧ Oth b H1 H' ∧ ∀ a xs,H4 a = some (.tup xs) → H' a = some (.tup xs))
    ⟨[],_,rfl,rfl,e5,s5 _ _ ek,fun p hp => (hkey p hp).same s5,⟨[],rfl,fun i q r h => by simp at h⟩,O5,fun a xs e => s5 _ _ e⟩ ?_ ?_⟩
   ·rintro i σ H6 hi ⟨qs,v6,rfl,hlen,ew,ek6,hk6,⟨rs,hq6⟩,O6,TT⟩
    refine ⟨_,rfl,.inl ⟨rfl,_,SqL.of ew⟩,_,rfl,_,rfl,_,rfl,b,lk,lw,ks,qs,rfl,O6.box,ek6,ew,nkb,nwb,by omega,by omega,hk6,hq6.all,fun q1 H7 o7 ⟨r,gr,hr1,pk1,hpk1,ek1⟩ => ?_⟩
    have ew7 : H7 lw = some (.lst (qs.map V.ref)) := o7.oth _ _ ew nwb
    refine ⟨lw,_,_,rfl,rfl,ew7,(by rw [List.length_map]; omega),?_⟩
    refine ⟨qs ++ [q1],_,rfl,by rw [List.length_append,hlen]; rfl,by rw [Ad,List.map_append]; rfl,by rw [upd_ne nkw]; exact o7.oth _ _ ek6 nkb,fun p hp => ((hk6 p hp).oth O6.box o7).upd ew7,⟨rs ++ [r],?_⟩,⟨?_,fun d o e nd => ?_⟩,?_⟩
    ·exact RowsK.snoc (hq6.tups fun a xs e => tup_upd (Em e O6.box o7) ew7) gr (hr1.upd ew7) hpk1 (tup_upd (Em ek1 O6.box o7) ew7)
    ·obtain ⟨x1,y1,z1,hbx⟩ := o7.box
     exact ⟨x1,y1,z1,by rw [upd_ne (Ne.symm nwb)]; exact hbx⟩
    ·rw [upd_ne (Ah e f1w)]
     exact (O6.trans o7).oth d o e nd
    ·exact fun a xs e => tup_upd (Em (TT a xs e) O6.box o7) ew7
   ·rintro σ H6 ⟨qs,v6,rfl,hlen,ew,ek6,hk6,⟨rs,hq6⟩,O6,TT⟩
    exact ⟨_,rfl,q lw qs rs H6 (S0 O6) ew (by omega) hq6.rows (hq6.nodup (hdist.tups hkey TT)) fw⟩
end
theorem hu1 {A : Around} {k : Nat} (hr : Room k A) : A.units + 1 < cLine := by have := hr.units; omega
structure LKit (K : PySem.W.Frag) (cL : Addr) : Prop where
 cl : Cls K cL
 ha : PySem.W.findIn K (.ref cL) "__class__" = some (some (.builtin "object.__class__"))
 hn : PySem.W.specialIn K (.builtin "object.__class__") "__get__" = some (some (.builtin "getset_descriptor.__get__"))
 htk : PySem.W.takesIn K (.builtin "object.__class__") = some true
 hm : PySem.W.mroIn K cL (.type "object") = some true
 kL : PySem.W.kitOne K (.ref cL) (.ref cL) = some true
theorem LKit.ty {K : PySem.W.Frag} {C a dx : Addr} {fs : List (Str × V)} {H : Hp} (i : LKit K C) (e : H a = some (.ins C dx fs)) : TyOf K H (.ref a) (.ref C) := .ins e i.cl i.ha i.hn i.htk i.hm
theorem inV_str (z : Str) : ∀ zs : List Str,inV (.str z) (zs.map V.str) = decide (z ∈ zs)
 | [] => rfl
 | y :: zs => by
   have ih := inV_str z zs
   unfold inV at ih ⊢
   rw [List.map_cons,List.any_cons,ih]
   show (y == z || decide (z ∈ zs)) = decide (z ∈ y :: zs)
   rw [Bool.eq_iff_iff,Bool.or_eq_true,beq_iff_eq,decide_eq_true_iff,decide_eq_true_iff,List.mem_cons]
   exact ⟨fun h => h.imp Eq.symm id,fun h => h.imp Eq.symm id⟩
theorem not_ahead {zs : List Str} (h : zs.Nodup) {i : Nat} (hi : i < zs.length) : zs[i] ∉ zs.take i := fun m => by
 obtain ⟨j,hj,e⟩ := List.mem_iff_getElem.mp m
 rw [List.length_take] at hj
 rw [List.getElem_take] at e
 exact (List.pairwise_iff_getElem.mp h) j i (by omega) hi (by omega) e
theorem flat_strs (zs : List Str) : (zs.map V.str).all flatV = true := List.all_eq_true.mpr fun y hy => by
 obtain ⟨z,_,rfl⟩ := List.mem_map.mp hy
 rfl
theorem word_short {z : Str} (h : Ay z = true) : Short (.str z) := fun y e => by
 cases e
 unfold Ay at h
 simp only [Bool.and_eq_true,decide_eq_true_eq] at h
 omega
def Sq (H : Hp) (l : Addr) (xs : List V) : Prop := H l = some (.lst xs) ∨ H l = some (.tup xs)
theorem Sq.same {H H' : Hp} {l : Addr} {xs : List V} (h : Sq H l xs) (s : Same H H') : Sq H' l xs := h.imp (s _ _) (s _ _)
def spNames (K : PySem.W.Frag) : Sp := fun vs H Q _ => ∃ (l : Addr) (zs : List Str) (m : Nat),vs = [.ref l,.int m] ∧ m ≤ 6 ∧ Sq H l (zs.map V.str) ∧ (∀ z ∈ zs,Ay z = true) ∧ zs.Nodup ∧ zs.length ≤ m ∧ ∀ (lk : Addr) (H' : Hp),Same H H' → H lk = none → H' lk = some (.lst (zs.map V.str)) → Q (.ref lk) H'
def spNam6 : Sp := fun vs H Q _ => ∃ (l : Addr) (zs : List Str),vs = [.ref l] ∧ Sq H l (zs.map V.str) ∧ (∀ z ∈ zs,Ay z = true) ∧ zs.Nodup ∧ zs.length ≤ 6 ∧ ∀ (lk : Addr) (H' : Hp),Same H H' → H lk = none → H' lk = some (.lst (zs.map V.str)) → Q (.ref lk) H'
section
variable {P : Program} {w : World} {K : PySem.W.Frag} {mg : Str → Option Value} {base : Heap} {cL : Addr}
abbrev skept_names : Stmt := top 46
theorem Dd : Ak ["names","most","kept","name"] ["names","most"] (Ag skept_names) := by trivial
theorem ok_names (T : Txt mg) (F_is_word : FnAt P w K mg base "is_word" 1 ["thing"] (spWord K)) (F : Ai K mg "kept_names" skept_names ["names","most"]) : FnAt P w K mg base "kept_names" 2 ["names","most"] (spNames K) := by
 refine F.at Dd (fun vs H Q E h => ?_) (fun f cdv A outer s H vs Q E hr h => ?_)
 ·obtain ⟨l,zs,m,rfl,_⟩ := h
  rfl
 ·obtain ⟨l,zs,m,rfl,hm,hl | hl,hw,hnd,hlen,q⟩ := h
  ·refine ⟨_,(Ab (A7 (A9 (A8 (An call_isLT rfl T.n_isinstance boot_isinstance (Aa (pv 0) (Aa (pe_tup (Aa (Bx (v := .ty "list") rfl T.n_list boot_list rfl) (Aa (Bx (v := .ty "tuple") rfl T.n_tuple boot_tuple rfl) Ac))) Ac))))) (Ae Ar) Ap)
    (Ab (A7 (A1 op_gt (An A4 rfl T.n_len boot_len (Aa (pv 0) Ac)) (pv 1) (A0 _)) (Ae Ar) Ap)
    (Ab (Al (i := 2) Dd.nd rfl (by trivial) (A5 Ac))
    (Ab (Dg PassesOwn.never rfl (Bn (pv 0)) (As (i := 3) Dd.nd rfl (by trivial)) (Ab (A7 (A9 (A8 (Ao F_is_word hr (by decide) rfl (Aa (pv 3) Ac)))) (Ae Ar) Ap)
    (Ab (A7 (A1 op_in_seq (pv 3) (pv 2) (by with_unfolding_all rfl)) (Ae Ar) Ap)
    (Ae (A3 (Bl PySem.F.plainAttrs_list PySem.F.slot_list_append PySem.F.type_list_append A2 (pv 2) (Aa (pv 3) Ac)))))))
    (Ae (Aq (pv 2))))))),?_⟩
   refine ⟨_,rfl,(by show 2 ≤ sizeLine; decide),fun tp htp => ?_⟩
   have s1 := Same.new (o := .tup [.ty "list",.ty "tuple"]) htp
   have e1 : upd H tp (.tup [.ty "list",.ty "tuple"]) tp = some (.tup [.ty "list",.ty "tuple"]) := Ad
   generalize upd H tp (.tup [.ty "list",.ty "tuple"]) = H1 at s1 e1 ⊢
   have l1 := s1 _ _ hl
   refine ⟨l,_,tp,rfl,l1,SqT.of e1,_,rfl,iteF ?_⟩
   refine ⟨_,rfl,_,_,rfl,.inl ⟨_,SqL.of l1,rfl⟩,_,rfl,_,_,rfl,rfl,_,rfl,ite2 (fun h2 => ?_) (fun h2 => ?_)⟩
   ·have h2 : (((zs.map V.str).length : Nat) : Int) > (m : Int) := of_decide_eq_true h2
    rw [List.length_map] at h2
    omega
   refine ⟨(by show 0 ≤ sizeLine; decide),fun lk hlk => ?_⟩
   have s2 := Same.new (o := .lst []) hlk
   have e2 : upd H1 lk (.lst []) lk = some (.lst []) := Ad
   have nk : H lk = none := s1.free hlk
   generalize upd H1 lk (.lst []) = H2 at s2 e2 ⊢
   have s12 := s1.trans s2
   refine ⟨_,rfl,l,rfl,⟨_,SqL.of (s12 _ _ hl)⟩,for_list (K := K) (a := l) (xs := zs.map V.str) (fun i σ H' => ∃ v3,σ = [some (.ref l),some (.int m),some (.ref lk),v3] ∧ Same H H' ∧ H' lk = some (.lst ((zs.take i).map V.str)))
    ⟨_,rfl,s12,e2⟩ (fun i σ H' _ h => ?_) ?_ ?_⟩
   ·obtain ⟨v3,_,s',_⟩ := h
    exact SqL.of (s' _ _ hl)
   ·rintro i x σ H' hx ⟨v3,rfl,s',e'⟩
    rw [List.getElem?_map] at hx
    obtain ⟨z,hz,rfl⟩ := Option.map_eq_some_iff.mp hx
    obtain ⟨hi,hze⟩ := List.getElem?_eq_some_iff.mp hz
    have hzw := hw z (List.mem_of_getElem? hz)
    have ht : zs.take (i + 1) = zs.take i ++ [z] := by rw [List.take_succ_eq_append_getElem hi,hze]
    refine ⟨_,rfl,.str z,rfl,⟨.str,.str _⟩,word_short hzw,fun H3 s3 => ⟨_,rfl,?_⟩⟩
    have s03 := s'.trans s3
    show if (!Ay z) = true then _ else _
    rw [hzw]
    refine iteF ⟨_,rfl,_,rfl,lk,(zs.take i).map V.str,rfl,.inl (SqL.of (s3 _ _ e')),rfl,flat_strs _,_,rfl,?_⟩
    rw [inV_str,decide_eq_false (by rw [← hze]; exact not_ahead hnd hi)]
    refine iteF ⟨_,rfl,.inl ⟨rfl,_,SqL.of (s3 _ _ e')⟩,_,rfl,lk,_,_,rfl,rfl,s3 _ _ e',?_,?_⟩
    ·rw [sizeLine_eq,List.length_map,List.length_take]; omega
    ·exact ⟨_,rfl,fun d o e => by rw [upd_ne (Ah e nk)]; exact s03 _ _ e,by rw [Ad,ht,List.map_append]; rfl⟩
   ·rintro σ H' ⟨v3,rfl,s',e'⟩
    rw [List.length_map,List.take_length] at e'
    exact ⟨_,rfl,q lk H' s' nk e'⟩
  ·refine ⟨_,(Ab (A7 (A9 (A8 (An call_isTT rfl T.n_isinstance boot_isinstance (Aa (pv 0) (Aa (pe_tup (Aa (Bx (v := .ty "list") rfl T.n_list boot_list rfl) (Aa (Bx (v := .ty "tuple") rfl T.n_tuple boot_tuple rfl) Ac))) Ac))))) (Ae Ar) Ap)
    (Ab (A7 (A1 op_gt (An A4 rfl T.n_len boot_len (Aa (pv 0) Ac)) (pv 1) (A0 _)) (Ae Ar) Ap)
    (Ab (Al (i := 2) Dd.nd rfl (by trivial) (A5 Ac))
    (Ab (Dg PassesOwn.never rfl (pi_tup (pv 0)) (As (i := 3) Dd.nd rfl (by trivial)) (Ab (A7 (A9 (A8 (Ao F_is_word hr (by decide) rfl (Aa (pv 3) Ac)))) (Ae Ar) Ap)
    (Ab (A7 (A1 op_in_seq (pv 3) (pv 2) (by with_unfolding_all rfl)) (Ae Ar) Ap)
    (Ae (A3 (Bl PySem.F.plainAttrs_list PySem.F.slot_list_append PySem.F.type_list_append A2 (pv 2) (Aa (pv 3) Ac)))))))
    (Ae (Aq (pv 2))))))),?_⟩
   refine ⟨_,rfl,(by show 2 ≤ sizeLine; decide),fun tp htp => ?_⟩
   have s1 := Same.new (o := .tup [.ty "list",.ty "tuple"]) htp
   have e1 : upd H tp (.tup [.ty "list",.ty "tuple"]) tp = some (.tup [.ty "list",.ty "tuple"]) := Ad
   generalize upd H tp (.tup [.ty "list",.ty "tuple"]) = H1 at s1 e1 ⊢
   have l1 := s1 _ _ hl
   refine ⟨l,_,tp,rfl,l1,SqT.of e1,_,rfl,iteF ?_⟩
   refine ⟨_,rfl,_,_,rfl,.inr ⟨_,SqT.of l1,rfl⟩,_,rfl,_,_,rfl,rfl,_,rfl,ite2 (fun h2 => ?_) (fun h2 => ?_)⟩
   ·have h2 : (((zs.map V.str).length : Nat) : Int) > (m : Int) := of_decide_eq_true h2
    rw [List.length_map] at h2
    omega
   refine ⟨(by show 0 ≤ sizeLine; decide),fun lk hlk => ?_⟩
   have s2 := Same.new (o := .lst []) hlk
   have e2 : upd H1 lk (.lst []) lk = some (.lst []) := Ad
   have nk : H lk = none := s1.free hlk
   generalize upd H1 lk (.lst []) = H2 at s2 e2 ⊢
   have s12 := s1.trans s2
   refine ⟨_,rfl,l,rfl,⟨_,SqT.of (s12 _ _ hl)⟩,for_tup (K := K) (a := l) (xs := zs.map V.str) (fun i σ H' => ∃ v3,σ = [some (.ref l),some (.int m),some (.ref lk),v3] ∧ Same H H' ∧ H' lk = some (.lst ((zs.take i).map V.str)))
    ⟨_,rfl,s12,e2⟩ (fun i σ H' _ h => ?_) ?_ ?_⟩
   ·obtain ⟨v3,_,s',_⟩ := h
    exact SqT.of (s' _ _ hl)
   ·rintro i x σ H' hx ⟨v3,rfl,s',e'⟩
    rw [List.getElem?_map] at hx
    obtain ⟨z,hz,rfl⟩ := Option.map_eq_some_iff.mp hx
    obtain ⟨hi,hze⟩ := List.getElem?_eq_some_iff.mp hz
    have hzw := hw z (List.mem_of_getElem? hz)
    have ht : zs.take (i + 1) = zs.take i ++ [z] := by rw [List.take_succ_eq_append_getElem hi,hze]
    refine ⟨_,rfl,.str z,rfl,⟨.str,.str _⟩,word_short hzw,fun H3 s3 => ⟨_,rfl,?_⟩⟩
    have s03 := s'.trans s3
    show if (!Ay z) = true then _ else _
    rw [hzw]
    refine iteF ⟨_,rfl,_,rfl,lk,(zs.take i).map V.str,rfl,.inl (SqL.of (s3 _ _ e')),rfl,flat_strs _,_,rfl,?_⟩
    rw [inV_str,decide_eq_false (by rw [← hze]; exact not_ahead hnd hi)]
    refine iteF ⟨_,rfl,.inl ⟨rfl,_,SqL.of (s3 _ _ e')⟩,_,rfl,lk,_,_,rfl,rfl,s3 _ _ e',?_,?_⟩
    ·rw [sizeLine_eq,List.length_map,List.length_take]; omega
    ·exact ⟨_,rfl,fun d o e => by rw [upd_ne (Ah e nk)]; exact s03 _ _ e,by rw [Ad,ht,List.map_append]; rfl⟩
   ·rintro σ H' ⟨v3,rfl,s',e'⟩
    rw [List.length_map,List.take_length] at e'
    exact ⟨_,rfl,q lk H' s' nk e'⟩
abbrev Do : Stmt := top 47
theorem sckept_strings : Ak ["names"] ["names"] (Ag Do) := by trivial
theorem ok_strings (T : Txt mg) (F_kept_names : FnAt P w K mg base "kept_names" 2 ["names","most"] (spNames K)) (F : Ai K mg "kept_strings" Do ["names"]) : FnAt P w K mg base "kept_strings" 3 ["names"] spNam6 := by
 refine F.at sckept_strings (fun vs H Q E h => ?_) (fun f cdv A outer s H vs Q E hr h => ?_)
 ·obtain ⟨l,zs,rfl,_⟩ := h
  rfl
 ·obtain ⟨l,zs,rfl,hl,hw,hn,h6,q⟩ := h
  refine ⟨_,(Ae (Aq (Ao F_kept_names hr (by decide) rfl (Aa (pv 0) (Aa (Bi rfl T.g_STRING_BITS) Ac))))),?_⟩
  exact ⟨_,rfl,l,zs,6,rfl,by decide,hl,hw,hn,h6,q⟩
abbrev Ec : Stmt := top 48
theorem sckept_duties : Ak ["names"] ["names"] (Ag Ec) := by trivial
theorem ok_duties (T : Txt mg) (F_kept_names : FnAt P w K mg base "kept_names" 2 ["names","most"] (spNames K)) (F : Ai K mg "kept_duties" Ec ["names"]) : FnAt P w K mg base "kept_duties" 3 ["names"] spNam6 := by
 refine F.at sckept_duties (fun vs H Q E h => ?_) (fun f cdv A outer s H vs Q E hr h => ?_)
 ·obtain ⟨l,zs,rfl,_⟩ := h
  rfl
 ·obtain ⟨l,zs,rfl,hl,hw,hn,h6,q⟩ := h
  refine ⟨_,(Ae (Aq (Ao F_kept_names hr (by decide) rfl (Aa (pv 0) (Aa (Bi rfl T.g_DUTY_BITS) Ac))))),?_⟩
  exact ⟨_,rfl,l,zs,6,rfl,by decide,hl,hw,hn,h6,q⟩
structure Row.Fits (r : Row) (a b : Nat) : Prop where
 st : r.st < 2 ^ a
 ba : r.ba < 2 ^ a
 a3 : r.a3 < 2 ^ b
theorem or_nat : ∀ a b : Fin 64,Builtin.bitOr (a.val : Int) (b.val : Int) = ((a.val ||| b.val : Nat) : Int) := by decide +kernel
theorem and_nat : ∀ a b : Fin 64,Builtin.bitAnd (a.val : Int) (b.val : Int) = ((a.val &&& b.val : Nat) : Int) := by decide +kernel
theorem lt_cast {a n : Nat} (h : a < 2 ^ n) : (a : Int) < 2 ^ n := by
 have : ((a : Nat) : Int) < ((2 ^ n : Nat) : Int) := Int.ofNat_lt.mpr h
 rwa [Int.natCast_pow] at this
def spNamed (cL : Addr) : Sp := fun vs H Q _ => ∃ (p ls ld : Addr) (r : Row) (ss ds : List V) (dx pk pa : Addr),vs = [.ref p,.ref ls,.ref ld] ∧ r.Good ∧ H p = some (.ins cL dx (r.l10 pk pa)) ∧ H pa = some (.tup r.asks) ∧ H ls = some (.lst ss) ∧ H ld = some (.lst ds) ∧ r.Fits ss.length ds.length ∧ Q .non H
abbrev sneed_named : Stmt := top 49
theorem scneed_named : Ak ["licence","strings","duties"] ["licence","strings","duties"] (Ag sneed_named) := by trivial
theorem ok_named (T : Txt mg) (c : LCls K cL) (F_is_mask : FnAt P w K mg base "is_mask" 2 ["thing","many"] (spMask K)) (F : Ai K mg "need_named" sneed_named ["licence","strings","duties"]) : FnAt P w K mg base "need_named" 3 ["licence","strings","duties"] (spNamed cL) := by
 refine F.at scneed_named (fun vs H Q E h => ?_) (fun f cdv A outer s H vs Q E hr h => ?_)
 ·obtain ⟨p,ls,ld,r,ss,ds,dx,pk,pa,rfl,_⟩ := h
  rfl
 ·obtain ⟨p,ls,ld,r,ss,ds,dx,pk,pa,rfl,g,hp,ha,hs,hd,ft,q⟩ := h
  refine ⟨_,(Ab (A7 (A9 (A8 (Ao F_is_mask hr (by decide) rfl (Aa (Ax op_or (Bf (pv 0) rfl) (Bf (pv 0) rfl)) (Aa (An A4 rfl T.n_len boot_len (Aa (pv 1) Ac)) Ac))))) (Ae Ar) Ap)
   (Ae (A7 (A9 (A8 (Ao F_is_mask hr (by decide) rfl (Aa (Az Bt (Bf (pv 0) rfl) (pe_un un_neg Af) (fun _ _ => rfl)) (Aa (An A4 rfl T.n_len boot_len (Aa (pv 2) Ac)) Ac))))) (Ae Ar) Ap))),?_⟩
  have f1 : (r.l10 pk pa).lookup ("strings" : Str) = some (.int r.st) := (l10_t4 (by decide +kernel)).trans t4_strings
  have f2 : (r.l10 pk pa).lookup ("bars" : Str) = some (.int r.ba) := (l10_t4 (by decide +kernel)).trans t4_bars
  have f3 : (r.l10 pk pa).lookup ("asks" : Str) = some (.ref pa) := l10_asks
  have e1 : maskV ss.length (.int (Builtin.bitOr (r.st : Int) (r.ba : Int))) = true := by
   rw [or_nat ⟨r.st,g.h4.hst⟩ ⟨r.ba,g.h4.hba⟩]
   exact decide_eq_true ⟨by omega,lt_cast (Nat.or_lt_two_pow ft.st ft.ba)⟩
  have e2 : maskV ds.length (.int (r.a3 : Int)) = true := decide_eq_true ⟨by omega,lt_cast ft.a3⟩
  refine ⟨_,rfl,p,cL,dx,_,_,rfl,hp,c.cl,c.strings,f1,_,rfl,p,cL,dx,_,_,rfl,hp,c.cl,c.bars,f2,_,_,rfl,rfl,_,rfl,_,_,rfl,.inl ⟨_,SqL.of hs,rfl⟩,_,ss.length,rfl,⟨.int,.int _⟩,_,rfl,?_⟩
  rw [e1]
  refine iteF ⟨_,rfl,p,cL,dx,_,_,rfl,hp,c.cl,c.asks,f3,_,rfl,pa,_,_,V.int r.a3,rfl,rfl,SqT.of ha,rfl,_,rfl,_,_,rfl,.inl ⟨_,SqL.of hd,rfl⟩,_,ds.length,rfl,⟨.int,.int _⟩,_,rfl,?_⟩
  rw [e2]
  exact iteF q
end
def LAt (cL : Addr) (H : Hp) (p : Addr) (r : Row) : Prop := ∃ dx pk pa,H p = some (.ins cL dx (r.l10 pk pa)) ∧ H pk = some (.tup r.keyV) ∧ H pa = some (.tup r.asks)
theorem LAt.same {cL : Addr} {H H' : Hp} {p : Addr} {r : Row} (h : LAt cL H p r) (s : Same H H') : LAt cL H' p r := by
 obtain ⟨dx,pk,pa,h1,h2,h3⟩ := h
 exact ⟨dx,pk,pa,s _ _ h1,s _ _ h2,s _ _ h3⟩
def E3 (cL : Addr) (H : Hp) (xs : List Addr) (rs : List Row) : Prop := xs.length = rs.length ∧ ∀ (i : Nat) (x : Addr) (r : Row),xs[i]? = some x → rs[i]? = some r → r.Good ∧ LAt cL H x r
theorem E3.same {cL : Addr} {H H' : Hp} {xs : List Addr} {rs : List Row} (h : E3 cL H xs rs) (s : Same H H') : E3 cL H' xs rs := ⟨h.1,fun i q r h1 h2 => ⟨(h.2 i q r h1 h2).1,(h.2 i q r h1 h2).2.same s⟩⟩
abbrev Cy (r : Row) : Str × Nat := (r.w,r.n)
abbrev kk (p : Str × Nat) : List Key := [.inr p.1,.inl (p.2 : Int)]
theorem kk_inj {p q : Str × Nat} (e : kk p = kk q) : p = q := by
 have e : ([Sum.inr p.1,Sum.inl (p.2 : Int)] : List Key) = [.inr q.1,.inl (q.2 : Int)] := e
 simp only [List.cons.injEq,Sum.inr.injEq,Sum.inl.injEq,and_true] at e
 exact Prod.ext e.1 (by have := e.2; omega)
def bKvs (ys : List Addr) (rs : List Row) : List (List Key × V) := (ys.zip rs).map fun p => (kk (Cy p.2),V.ref p.1)
theorem bKvs_len {ys : List Addr} {rs : List Row} (h : ys.length = rs.length) : (bKvs ys rs).length = rs.length := by
 unfold bKvs
 rw [List.length_map,List.length_zip]
 omega
theorem bKvs_get {ys : List Addr} {rs : List Row} {i : Nat} {k : List Key} {v : V} (e : (bKvs ys rs)[i]? = some (k,v)) : ∃ y r,ys[i]? = some y ∧ rs[i]? = some r ∧ k = kk (Cy r) ∧ v = .ref y := by
 unfold bKvs at e
 rw [List.getElem?_map] at e
 obtain ⟨⟨y,r⟩,h1,h2⟩ := Option.map_eq_some_iff.mp e
 rw [List.getElem?_zip_eq_some] at h1
 cases h2
 exact ⟨y,r,h1.1,h1.2,rfl,rfl⟩
theorem bKvs_snoc {ys : List Addr} {rs : List Row} {y : Addr} {r : Row} (h : ys.length = rs.length) : bKvs (ys ++ [y]) (rs ++ [r]) = bKvs ys rs ++ [(kk (Cy r),.ref y)] := by
 unfold bKvs
 rw [List.zip_append h,List.map_append]
 rfl
theorem val_none : ∀ {ys : List Addr} {rs : List Row} {p : Str × Nat},p ∉ rs.map Cy → valV (bKvs ys rs) (kk p) = none
 | [],_,_,_ => rfl
 | _ :: _,[],_,_ => rfl
 | y :: ys,r :: rs,p,h => by
   rw [List.map_cons,List.mem_cons,not_or] at h
   show valV ((kk (Cy r),V.ref y) :: bKvs ys rs) (kk p) = none
   rw [valV_neg (fun e => h.1 (kk_inj e).symm)]
   exact val_none h.2
theorem val_at : ∀ {ys : List Addr} {rs : List Row} {i : Nat} {y : Addr} {r : Row},(rs.map Cy).Nodup → ys[i]? = some y → rs[i]? = some r → valV (bKvs ys rs) (kk (Cy r)) = some (.ref y)
 | [],_,i,y,r,_,h,_ => by simp at h
 | _ :: _,[],i,y,r,_,_,h => by simp at h
 | y0 :: ys,r0 :: rs,i,y,r,nd,h1,h2 => by
   show valV ((kk (Cy r0),V.ref y0) :: bKvs ys rs) (kk (Cy r)) = _
   rw [List.map_cons,List.nodup_cons] at nd
   cases i with
   | zero =>
     simp only [List.getElem?_cons_zero,Option.some.injEq] at h1 h2
     subst h1 h2
     rw [valV_pos rfl]
   | succ n =>
     simp only [List.getElem?_cons_succ] at h1 h2
     rw [valV_neg (fun e => nd.1 (by
      have e : kk (Cy r0) = kk (Cy r) := e
      rw [kk_inj e]; exact List.mem_map.mpr ⟨r,List.mem_of_getElem? h2,rfl⟩))]
     exact val_at nd.2 h1 h2
def spLics (cL : Addr) : Sp := fun vs H Q _ => ∃ (l ls ld : Addr) (ys : List Addr) (rs : List Row) (ss es : List V),vs = [.ref l,.ref ls,.ref ld] ∧ Sq H l (ys.map V.ref) ∧ H ls = some (.lst ss) ∧ H ld = some (.lst es) ∧ (∀ r ∈ rs,r.Fits ss.length es.length) ∧ E3 cL H ys rs ∧ (rs.map Cy).Nodup ∧ ys.length ≤ 12 ∧
 ∀ (dk : Addr) (ob : Obj) (H' : Hp),Same H H' → H' dk = some (.frz ob (.dT (bKvs ys rs))) → Q (.ref dk) H'
section
variable {P : Program} {w : World} {K : PySem.W.Frag} {mg : Str → Option Value} {base : Heap} {ck g cT cL cB : Addr}
abbrev Da : Stmt := top 50
theorem B8 : Ak ["licences","strings","duties","kept","licence"] ["licences","strings","duties"] (Ag Da) := by trivial
theorem ok_lics (T : Txt mg) (c : LCls K cL) (kit : LKit K cL) (mL : mg "Licence" = some (.ref cL)) (F_named : FnAt P w K mg base "need_named" 3 ["licence","strings","duties"] (spNamed cL)) (F : Ai K mg "kept_licences" Da ["licences","strings","duties"]) :
 FnAt P w K mg base "kept_licences" 4 ["licences","strings","duties"] (spLics cL) := by
 refine F.at B8 (fun vs H Q E h => ?_) (fun f cdv A outer s H vs Q E hr h => ?_)
 ·obtain ⟨l,ls,ld,ys,rs,ss,es,rfl,_⟩ := h
  rfl
 ·obtain ⟨l,ls,ld,ys,rs,ss,es,rfl,hl | hl,hls,hld,h6,hL,nd,h12,q⟩ := h
  ·refine ⟨_,(Ab (A7 (A9 (A8 (An call_isLT rfl T.n_isinstance boot_isinstance (Aa (pv 0) (Aa (pe_tup (Aa (Bx (v := .ty "list") rfl T.n_list boot_list rfl) (Aa (Bx (v := .ty "tuple") rfl T.n_tuple boot_tuple rfl) Ac))) Ac))))) (Ae Ar) Ap)
    (Ab (A7 (A1 op_gt (An A4 rfl T.n_len boot_len (Aa (pv 0) Ac)) (Bi rfl T.g_MOST_LICENCES) (A0 _)) (Ae Ar) Ap)
    (Ab (Al (i := 3) B8.nd rfl (by trivial) pe_dnewT)
    (Ab (Dg PassesOwn.never rfl (Bn (pv 0)) (As (i := 4) B8.nd rfl (by trivial))
      (Ab (A7 (A9 (A8 (An call_isinst rfl T.n_isinstance boot_isinstance (Aa (pv 4) (Aa (pe_glob (v := .ref cL) rfl mL rfl) Ac))))) (Ae Ar) Ap)
      (Ab (A7 (pt_cmp (pc_din (hu1 hr) (Bf (pv 4) rfl) (pv 3))) (Ae Ar) Ap)
      (Ab (A3 (Ao F_named hr (by decide) rfl (Aa (pv 4) (Aa (pv 1) (Aa (pv 2) Ac)))))
      (Ae (ps_dput (hu1 hr) (pv 3) (Bf (pv 4) rfl) (pv 4) rfl))))))
    (Ae (ps_retF (pv 3))))))),?_⟩
   refine ⟨_,rfl,(by show 2 ≤ sizeLine; decide),fun tp htp => ?_⟩
   have s1 := Same.new (o := .tup [.ty "list",.ty "tuple"]) htp
   have e1 : upd H tp (.tup [.ty "list",.ty "tuple"]) tp = some (.tup [.ty "list",.ty "tuple"]) := Ad
   generalize upd H tp (.tup [.ty "list",.ty "tuple"]) = H1 at s1 e1 ⊢
   have l1 := s1 _ _ hl
   refine ⟨l,_,tp,rfl,l1,SqT.of e1,_,rfl,iteF ?_⟩
   refine ⟨_,rfl,_,_,rfl,.inl ⟨_,SqL.of l1,rfl⟩,_,_,rfl,rfl,_,rfl,ite2 (fun h2 => ?_) (fun h2 => ?_)⟩
   ·have h2 : (((ys.map V.ref).length : Nat) : Int) > (12 : Int) := of_decide_eq_true h2
    rw [List.length_map] at h2
    omega
   refine fun dk hdk => ?_
   have s2 := Same.new (o := .dT []) hdk
   have e2 : upd H1 dk (.dT []) dk = some (.dT []) := Ad
   have nk : H dk = none := s1.free hdk
   generalize upd H1 dk (.dT []) = H2 at s2 e2 ⊢
   have s12 := s1.trans s2
   have hlen := hL.1
   refine ⟨_,rfl,l,rfl,⟨_,SqL.of (s12 _ _ hl)⟩,for_list (K := K) (a := l) (xs := ys.map V.ref) (fun i σ H' => ∃ v4 : Option V,σ = [some (.ref l),some (.ref ls),some (.ref ld),some (.ref dk),v4] ∧ Same H H' ∧ H' dk = some (.dT (bKvs (ys.take i) (rs.take i))))
    ⟨_,rfl,s12,e2⟩ (fun i σ H' _ h => ?_) ?_ ?_⟩
   ·obtain ⟨v4,_,s',_⟩ := h
    exact SqL.of (s' _ _ hl)
   ·rintro i x σ H' hx ⟨v4,rfl,s',e'⟩
    rw [List.getElem?_map] at hx
    obtain ⟨y,hy,rfl⟩ := Option.map_eq_some_iff.mp hx
    obtain ⟨hi,hye⟩ := List.getElem?_eq_some_iff.mp hy
    have hir : i < rs.length := by omega
    have hr' : rs[i]? = some rs[i] := List.getElem?_eq_getElem hir
    have hta : ys.take (i + 1) = ys.take i ++ [y] := by rw [List.take_succ_eq_append_getElem hi,hye]
    have htr : rs.take (i + 1) = rs.take i ++ [rs[i]] := List.take_succ_eq_append_getElem hir
    have hnot : Cy rs[i] ∉ (rs.take i).map Cy := fun m => by
     obtain ⟨r',hm,er⟩ := List.mem_map.mp m
     obtain ⟨j,hj,e⟩ := List.mem_iff_getElem.mp hm
     rw [List.length_take] at hj
     rw [List.getElem_take] at e
     have := (List.pairwise_iff_getElem.mp nd) j i (by rw [List.length_map]; omega) (by rw [List.length_map]; exact hir) (by omega)
     rw [List.getElem_map,List.getElem_map,e] at this
     exact this er
    generalize rs[i] = r at hr' htr hnot
    obtain ⟨g,dx,pk,pa,hp,hpk,hpa⟩ := (hL.same s').2 i y r hy hr'
    have f4 : (r.l10 pk pa).lookup ("key" : Str) = some (.ref pk) := l10_key
    have vn : valV (bKvs (ys.take i) (rs.take i)) (kk (Cy r)) = none := val_none hnot
    refine ⟨_,rfl,_,_,.ref cL,.ref cL,true,rfl,rfl,kit.ty hp,kit.kL,_,rfl,iteF ?_⟩
    refine ⟨_,rfl,y,cL,dx,_,_,rfl,hp,c.cl,c.key,f4,_,rfl,dk,_,rfl,DGet.t (k := kk (Cy r)) e' hpk,_,rfl,?_⟩
    rw [vn]
    have ft := h6 r (List.mem_of_getElem? hr')
    refine iteF ⟨_,rfl,_,rfl,_,rfl,y,ls,ld,r,ss,es,dx,pk,pa,rfl,g,hp,hpa,s' _ _ hls,s' _ _ hld,ft,?_⟩
    refine ⟨_,rfl,_,rfl,_,rfl,y,cL,dx,_,_,rfl,hp,c.cl,c.key,f4,dk,_,rfl,DPut.t (k := kk (Cy r)) e' hpk (by rw [sizeLine_eq,bKvs_len (by rw [List.length_take,List.length_take]; omega),List.length_take]; omega),?_⟩
    refine ⟨_,rfl,fun b o e => by rw [upd_ne (Ah e nk)]; exact s' _ _ e,?_⟩
    rw [Ad,putK_new _ vn,hta,htr,bKvs_snoc (by rw [List.length_take,List.length_take]; omega)]
   ·rintro σ H' ⟨v4,rfl,s',e'⟩
    rw [List.length_map,List.take_length,hlen,List.take_length] at e'
    exact ⟨_,rfl,dk,_,rfl,e',fun ob => q dk ob _ (fun b o e => by rw [upd_ne (Ah e nk)]; exact s' _ _ e) Ad⟩
  ·refine ⟨_,(Ab (A7 (A9 (A8 (An call_isTT rfl T.n_isinstance boot_isinstance (Aa (pv 0) (Aa (pe_tup (Aa (Bx (v := .ty "list") rfl T.n_list boot_list rfl) (Aa (Bx (v := .ty "tuple") rfl T.n_tuple boot_tuple rfl) Ac))) Ac))))) (Ae Ar) Ap)
    (Ab (A7 (A1 op_gt (An A4 rfl T.n_len boot_len (Aa (pv 0) Ac)) (Bi rfl T.g_MOST_LICENCES) (A0 _)) (Ae Ar) Ap)
    (Ab (Al (i := 3) B8.nd rfl (by trivial) pe_dnewT)
    (Ab (Dg PassesOwn.never rfl (pi_tup (pv 0)) (As (i := 4) B8.nd rfl (by trivial))
      (Ab (A7 (A9 (A8 (An call_isinst rfl T.n_isinstance boot_isinstance (Aa (pv 4) (Aa (pe_glob (v := .ref cL) rfl mL rfl) Ac))))) (Ae Ar) Ap)
      (Ab (A7 (pt_cmp (pc_din (hu1 hr) (Bf (pv 4) rfl) (pv 3))) (Ae Ar) Ap)
      (Ab (A3 (Ao F_named hr (by decide) rfl (Aa (pv 4) (Aa (pv 1) (Aa (pv 2) Ac)))))
      (Ae (ps_dput (hu1 hr) (pv 3) (Bf (pv 4) rfl) (pv 4) rfl))))))
    (Ae (ps_retF (pv 3))))))),?_⟩
   refine ⟨_,rfl,(by show 2 ≤ sizeLine; decide),fun tp htp => ?_⟩
   have s1 := Same.new (o := .tup [.ty "list",.ty "tuple"]) htp
   have e1 : upd H tp (.tup [.ty "list",.ty "tuple"]) tp = some (.tup [.ty "list",.ty "tuple"]) := Ad
   generalize upd H tp (.tup [.ty "list",.ty "tuple"]) = H1 at s1 e1 ⊢
   have l1 := s1 _ _ hl
   refine ⟨l,_,tp,rfl,l1,SqT.of e1,_,rfl,iteF ?_⟩
   refine ⟨_,rfl,_,_,rfl,.inr ⟨_,SqT.of l1,rfl⟩,_,_,rfl,rfl,_,rfl,ite2 (fun h2 => ?_) (fun h2 => ?_)⟩
   ·have h2 : (((ys.map V.ref).length : Nat) : Int) > (12 : Int) := of_decide_eq_true h2
    rw [List.length_map] at h2
    omega
   refine fun dk hdk => ?_
   have s2 := Same.new (o := .dT []) hdk
   have e2 : upd H1 dk (.dT []) dk = some (.dT []) := Ad
   have nk : H dk = none := s1.free hdk
   generalize upd H1 dk (.dT []) = H2 at s2 e2 ⊢
   have s12 := s1.trans s2
   have hlen := hL.1
   refine ⟨_,rfl,l,rfl,⟨_,SqT.of (s12 _ _ hl)⟩,for_tup (K := K) (a := l) (xs := ys.map V.ref) (fun i σ H' => ∃ v4 : Option V,σ = [some (.ref l),some (.ref ls),some (.ref ld),some (.ref dk),v4] ∧ Same H H' ∧ H' dk = some (.dT (bKvs (ys.take i) (rs.take i))))
    ⟨_,rfl,s12,e2⟩ (fun i σ H' _ h => ?_) ?_ ?_⟩
   ·obtain ⟨v4,_,s',_⟩ := h
    exact SqT.of (s' _ _ hl)
   ·rintro i x σ H' hx ⟨v4,rfl,s',e'⟩
    rw [List.getElem?_map] at hx
    obtain ⟨y,hy,rfl⟩ := Option.map_eq_some_iff.mp hx
    obtain ⟨hi,hye⟩ := List.getElem?_eq_some_iff.mp hy
    have hir : i < rs.length := by omega
    have hr' : rs[i]? = some rs[i] := List.getElem?_eq_getElem hir
    have hta : ys.take (i + 1) = ys.take i ++ [y] := by rw [List.take_succ_eq_append_getElem hi,hye]
    have htr : rs.take (i + 1) = rs.take i ++ [rs[i]] := List.take_succ_eq_append_getElem hir
    have hnot : Cy rs[i] ∉ (rs.take i).map Cy := fun m => by
     obtain ⟨r',hm,er⟩ := List.mem_map.mp m
     obtain ⟨j,hj,e⟩ := List.mem_iff_getElem.mp hm
     rw [List.length_take] at hj
     rw [List.getElem_take] at e
     have := (List.pairwise_iff_getElem.mp nd) j i (by rw [List.length_map]; omega) (by rw [List.length_map]; exact hir) (by omega)
     rw [List.getElem_map,List.getElem_map,e] at this
     exact this er
    generalize rs[i] = r at hr' htr hnot
    obtain ⟨g,dx,pk,pa,hp,hpk,hpa⟩ := (hL.same s').2 i y r hy hr'
    have f4 : (r.l10 pk pa).lookup ("key" : Str) = some (.ref pk) := l10_key
    have vn : valV (bKvs (ys.take i) (rs.take i)) (kk (Cy r)) = none := val_none hnot
    refine ⟨_,rfl,_,_,.ref cL,.ref cL,true,rfl,rfl,kit.ty hp,kit.kL,_,rfl,iteF ?_⟩
    refine ⟨_,rfl,y,cL,dx,_,_,rfl,hp,c.cl,c.key,f4,_,rfl,dk,_,rfl,DGet.t (k := kk (Cy r)) e' hpk,_,rfl,?_⟩
    rw [vn]
    have ft := h6 r (List.mem_of_getElem? hr')
    refine iteF ⟨_,rfl,_,rfl,_,rfl,y,ls,ld,r,ss,es,dx,pk,pa,rfl,g,hp,hpa,s' _ _ hls,s' _ _ hld,ft,?_⟩
    refine ⟨_,rfl,_,rfl,_,rfl,y,cL,dx,_,_,rfl,hp,c.cl,c.key,f4,dk,_,rfl,DPut.t (k := kk (Cy r)) e' hpk (by rw [sizeLine_eq,bKvs_len (by rw [List.length_take,List.length_take]; omega),List.length_take]; omega),?_⟩
    refine ⟨_,rfl,fun b o e => by rw [upd_ne (Ah e nk)]; exact s' _ _ e,?_⟩
    rw [Ad,putK_new _ vn,hta,htr,bKvs_snoc (by rw [List.length_take,List.length_take]; omega)]
   ·rintro σ H' ⟨v4,rfl,s',e'⟩
    rw [List.length_map,List.take_length,hlen,List.take_length] at e'
    exact ⟨_,rfl,dk,_,rfl,e',fun ob => q dk ob _ (fun b o e => by rw [upd_ne (Ah e nk)]; exact s' _ _ e) Ad⟩
structure BCls (K : PySem.W.Frag) (C : Addr) : Prop where
 cl : Cls K C
 strings : Cz K C "strings"
 duties : Cz K C "duties"
 by_key : Cz K C "by_key"
abbrev bF (ls ld dk : Addr) : List (Str × V) := putF "by_key" (.ref dk) (putF "duties" (.ref ld) (putF "strings" (.ref ls) []))
theorem bF_strings {ls ld dk : Addr} : (bF ls ld dk).lookup ("strings" : Str) = some (.ref ls) := by repeat (first | rw [Aj,if_pos rfl] | rw [Aj,if_neg (by decide +kernel)])
theorem bF_duties {ls ld dk : Addr} : (bF ls ld dk).lookup ("duties" : Str) = some (.ref ld) := by repeat (first | rw [Aj,if_pos rfl] | rw [Aj,if_neg (by decide +kernel)])
theorem bF_by_key {ls ld dk : Addr} : (bF ls ld dk).lookup ("by_key" : Str) = some (.ref dk) := by repeat (first | rw [Aj,if_pos rfl] | rw [Aj,if_neg (by decide +kernel)])
theorem bF_no {ls ld dk : Addr} {m : Str} (h : ¬ m = "by_key" ∧ ¬ m = "duties" ∧ ¬ m = "strings") : (bF ls ld dk).lookup m = none := by
 rw [Aj,if_neg h.1,Aj,if_neg h.2.1,Aj,if_neg h.2.2]
 rfl
structure Ck (cL cB : Addr) (H : Hp) (p : Addr) (z1 z2 : List Str) (ys : List Addr) (rs : List Row) : Prop where
 ex : ∃ (dx ls ld dk : Addr) (ob : Obj),H p = some (.ins cB dx (bF ls ld dk)) ∧ H ls = some (.lst (z1.map V.str)) ∧ H ld = some (.lst (z2.map V.str)) ∧ H dk = some (.frz ob (.dT (bKvs ys rs)))
 lics : E3 cL H ys rs
 nd : (rs.map Cy).Nodup
 le : ys.length ≤ 12
theorem Ck.same {H H' : Hp} {p : Addr} {z1 z2 : List Str} {ys : List Addr} {rs : List Row} (h : Ck cL cB H p z1 z2 ys rs) (s : Same H H') : Ck cL cB H' p z1 z2 ys rs := by
 obtain ⟨⟨dx,ls,ld,dk,ob,h1,h2,h3,h4⟩,hl,nd,le⟩ := h
 exact ⟨⟨dx,ls,ld,dk,ob,s _ _ h1,s _ _ h2,s _ _ h3,s _ _ h4⟩,hl.same s,nd,le⟩
def Keeps (H0 H H' : Hp) : Prop := ∀ b o,H b = some o → (H0 b = none ∨ ∀ xs,o ≠ .lst xs) → H' b = some o
theorem E3.keeps {H0 H H' : Hp} {xs : List Addr} {rs : List Row} (h : E3 cL H xs rs) (k : Keeps H0 H H') : E3 cL H' xs rs := ⟨h.1,fun i x r hx hr => by
 obtain ⟨g,dx,pk,pa,a,b,c⟩ := h.2 i x r hx hr
 exact ⟨g,dx,pk,pa,k _ _ a (.inr fun _ z => by cases z),k _ _ b (.inr fun _ z => by cases z),k _ _ c (.inr fun _ z => by cases z)⟩⟩
def spBInit (cL cB : Addr) : Sp := fun vs H Q _ => ∃ (p dx lx ly lz : Addr) (z1 z2 : List Str) (ys : List Addr) (rs : List Row) (H0 : Hp),vs = [.ref p,.ref lx,.ref ly,.ref lz] ∧ H p = some (.ins cB dx []) ∧ H0 p = none ∧ Same H0 H ∧ Sq H0 lx (z1.map V.str) ∧ Sq H0 ly (z2.map V.str) ∧ Sq H0 lz (ys.map V.ref) ∧
 (∀ z ∈ z1,Ay z = true) ∧ z1.Nodup ∧ z1.length ≤ 6 ∧ (∀ z ∈ z2,Ay z = true) ∧ z2.Nodup ∧ z2.length ≤ 6 ∧ E3 cL H0 ys rs ∧ (rs.map Cy).Nodup ∧ ys.length ≤ 12 ∧ (∀ r ∈ rs,r.Fits z1.length z2.length) ∧
 ∀ H',Same H0 H' → (∀ H'',Keeps H0 H' H'' → Ck cL cB H'' p z1 z2 ys rs) → Q .non H'
abbrev Dx : Stmt := Ch (top 51) 0
abbrev psB : List Str := ["self","strings","duties","licences"]
theorem scBook_init : Ak psB psB (Ag Dx) := by trivial
theorem ok_binit (c : BCls K cB) (F_s : FnAt P w K mg base "kept_strings" 3 ["names"] spNam6) (F_d : FnAt P w K mg base "kept_duties" 3 ["names"] spNam6) (F_l : FnAt P w K mg base "kept_licences" 4 ["licences","strings","duties"] (spLics cL))
 {f : Addr} {fd : FuncData} (F : Fun K "__init__" "Book.__init__" Dx f fd) : FnOk P w K mg base CX0 5 f fd psB (spBInit cL cB) := by
 refine F.ok scBook_init (fun vs H Q E h => ?_) (fun cdv A outer s H vs Q E hr h => ?_)
 ·obtain ⟨p,dx,lx,ly,lz,z1,z2,ys,rs,H0,rfl,_⟩ := h
  rfl
 ·obtain ⟨p,dx,lx,ly,lz,z1,z2,ys,rs,H0,rfl,hp,hp0,s0,qx,qy,qz,w1,n1,l1,w2,n2,l2,hL,nd,h12,h6,q⟩ := h
  refine ⟨_,(Ab (Ev (pv 0) (Ao F_s hr (by decide) rfl (Aa (pv 1) Ac)) rfl)
   (Ab (Ev (pv 0) (Ao F_d hr (by decide) rfl (Aa (pv 2) Ac)) rfl)
   (Ae (Ev (pv 0) (Ao F_l hr (by decide) rfl (Aa (pv 3) (Aa (Bf (pv 0) rfl) (Aa (Bf (pv 0) rfl) Ac)))) rfl)))),?_⟩
  have up : ∀ {H1 : Hp} {fs : List (Str × V)},Same H0 H1 → Same H0 (upd H1 p (.ins cB dx fs)) := fun s1 b o e => by rw [upd_ne (Ah e hp0)]; exact s1 b o e
  refine ⟨_,rfl,lx,z1,rfl,qx.same s0,w1,n1,l1,fun lk H1 s1 hlk e1 => ?_⟩
  have p1 := s1 _ _ hp
  refine ⟨_,rfl,p,cB,dx,[],rfl,p1,c.cl,c.strings,(by show 0 < 1000; decide),?_⟩
  have S2 : Same H0 (upd H1 p (.ins cB dx (putF "strings" (.ref lk) []))) := up (s0.trans s1)
  have p2 : upd H1 p (.ins cB dx (putF "strings" (.ref lk) [])) p = some (.ins cB dx (putF "strings" (.ref lk) [])) := Ad
  have e2 : upd H1 p (.ins cB dx (putF "strings" (.ref lk) [])) lk = some (.lst (z1.map V.str)) := by rw [upd_ne (ne_of e1 p1 (by intro z; cases z))]; exact e1
  generalize upd H1 p (.ins cB dx (putF "strings" (.ref lk) [])) = H2 at S2 p2 e2 ⊢
  refine ⟨_,rfl,ly,z2,rfl,qy.same S2,w2,n2,l2,fun ld H3 s3 hld e3 => ?_⟩
  have p3 := s3 _ _ p2
  have e2 := s3 _ _ e2
  refine ⟨_,rfl,p,cB,dx,_,rfl,p3,c.cl,c.duties,(Nat.lt_of_le_of_lt (Bb _ _ (n := 0) (Nat.le_refl _)) (by decide)),?_⟩
  have S4 : Same H0 (upd H3 p (.ins cB dx (putF "duties" (.ref ld) (putF "strings" (.ref lk) [])))) := up (S2.trans s3)
  have p4 : upd H3 p (.ins cB dx (putF "duties" (.ref ld) (putF "strings" (.ref lk) []))) p = some (.ins cB dx (putF "duties" (.ref ld) (putF "strings" (.ref lk) []))) := Ad
  have e4 : upd H3 p (.ins cB dx (putF "duties" (.ref ld) (putF "strings" (.ref lk) []))) lk = some (.lst (z1.map V.str)) := by rw [upd_ne (ne_of e2 p3 (by intro z; cases z))]; exact e2
  have e5 : upd H3 p (.ins cB dx (putF "duties" (.ref ld) (putF "strings" (.ref lk) []))) ld = some (.lst (z2.map V.str)) := by rw [upd_ne (ne_of e3 p3 (by intro z; cases z))]; exact e3
  generalize upd H3 p (.ins cB dx (putF "duties" (.ref ld) (putF "strings" (.ref lk) []))) = H4 at S4 p4 e4 e5 ⊢
  have f1 : (putF "duties" (.ref ld) (putF "strings" (.ref lk) [])).lookup ("strings" : Str) = some (.ref lk) := by repeat (first | rw [Aj,if_pos rfl] | rw [Aj,if_neg (by decide +kernel)])
  have f2 : (putF "duties" (.ref ld) (putF "strings" (.ref lk) [])).lookup ("duties" : Str) = some (.ref ld) := by repeat (first | rw [Aj,if_pos rfl] | rw [Aj,if_neg (by decide +kernel)])
  refine ⟨_,rfl,_,rfl,p,cB,dx,_,_,rfl,p4,c.cl,c.strings,f1,_,rfl,p,cB,dx,_,_,rfl,p4,c.cl,c.duties,f2,lz,lk,ld,ys,rs,_,_,rfl,qz.same S4,e4,e5,(fun r hr => by rw [List.length_map,List.length_map]; exact h6 r hr),hL.same S4,nd,h12,fun dk ob H5 s5 e6 => ?_⟩
  refine ⟨_,rfl,p,cB,dx,_,rfl,s5 _ _ p4,c.cl,c.by_key,(Nat.lt_of_le_of_lt (Bb _ _ (Bb _ _ (n := 0) (Nat.le_refl _))) (by decide)),?_⟩
  have p5 := s5 _ _ p4
  have S6 := up (fs := bF lk ld dk) (S4.trans s5)
  have nlk : H0 lk = none := s0.free hlk
  have nld : H0 ld = none := S2.free hld
  refine q _ S6 fun H'' kp => ⟨⟨dx,lk,ld,dk,ob,kp _ _ Ad (.inr fun _ z => by cases z),kp _ _ (by rw [upd_ne (ne_of (s5 _ _ e4) p5 (by intro z; cases z))]; exact s5 _ _ e4) (.inl nlk),kp _ _ (by rw [upd_ne (ne_of (s5 _ _ e5) p5 (by intro z; cases z))]; exact s5 _ _ e5) (.inl nld),kp _ _ (by rw [upd_ne (ne_of e6 p5 (by intro z; cases z))]; exact e6) (.inr fun _ z => by cases z)⟩,(hL.same S6).keeps kp,nd,h12⟩
end
def spSN (cL cB : Addr) : Sp := fun vs H Q _ => ∃ (p : Addr) (z1 z2 : List Str) (ys : List Addr) (rs : List Row),vs = [.ref p] ∧ Ck cL cB H p z1 z2 ys rs ∧ ∀ (l : Addr) (H' : Hp),Same H H' → H l = none → H' l = some (.lst (z1.map V.str)) → Q (.ref l) H'
def spDN (cL cB : Addr) : Sp := fun vs H Q _ => ∃ (p : Addr) (z1 z2 : List Str) (ys : List Addr) (rs : List Row),vs = [.ref p] ∧ Ck cL cB H p z1 z2 ys rs ∧ ∀ (l : Addr) (H' : Hp),Same H H' → H l = none → H' l = some (.lst (z2.map V.str)) → Q (.ref l) H'
def KeysOf (H : Hp) (ps : List Addr) (L : List Row) : Prop := ps.length = L.length ∧ ∀ (i : Nat) (p : Addr) (r : Row),ps[i]? = some p → L[i]? = some r → H p = some (.tup r.keyV)
theorem KeysOf.same {H H' : Hp} {ps : List Addr} {L : List Row} (h : KeysOf H ps L) (s : Same H H') : KeysOf H' ps L := ⟨h.1,fun i p r h1 h2 => s _ _ (h.2 i p r h1 h2)⟩
def spAK (cL cB : Addr) : Sp := fun vs H Q _ => ∃ (p : Addr) (z1 z2 : List Str) (ys : List Addr) (rs : List Row),vs = [.ref p] ∧ Ck cL cB H p z1 z2 ys rs ∧ ∀ (l : Addr) (ps : List Addr) (H' : Hp),Same H H' → H l = none → H' l = some (.lst (ps.map V.ref)) → KeysOf H' ps rs → Q (.ref l) H'
def Asked (K : PySem.W.Frag) (H : Hp) (x : V) : Prop := Arg K H x ∧ ∀ a xs,x = .ref a → H a = some (.tup xs) → ∀ y ∈ xs,Arg K H y ∧ Short y
def Hit (H : Hp) (x : V) (ys : List Addr) (rs : List Row) (i : Nat) (y : Addr) (r : Row) : Prop := ys[i]? = some y ∧ rs[i]? = some r ∧ ∃ a,x = .ref a ∧ H a = some (.tup r.keyV)
def spLM (K : PySem.W.Frag) (cL cB : Addr) : Sp := fun vs H Q _ => ∃ (p : Addr) (x : V) (z1 z2 : List Str) (ys : List Addr) (rs : List Row) (i : Nat) (y : Addr) (r : Row),vs = [.ref p,x] ∧ Ck cL cB H p z1 z2 ys rs ∧ Asked K H x ∧ Hit H x ys rs i y r ∧ ∀ H',Same H H' → Q (.ref y) H'
theorem kv_row {H : Hp} {a : Addr} {r : Row} (g : r.Good) (h : H a = some (.tup r.keyV)) : keyV H (.ref a) = true := by
 show (match H a with | some (.tup [x,y]) => wordV x && numV y | _ => false) = true
 rw [h]
 show (Ay r.w && decide ((0 : Int) ≤ (r.n : Int) ∧ (r.n : Int) ≤ 99)) = true
 rw [g.hw,Bool.true_and]
 exact decide_eq_true ⟨by omega,by have := g.hn; omega⟩
theorem dget_frz {H : Hp} {dk b : Addr} {ob : Obj} {kvs : List (List Key × V)} {k : List Key} (e : H dk = some (.frz ob (.dT kvs))) (eb : H b = some (.tup (k.map kV))) : DGet H dk (.ref b) (valV kvs k) := .inr ⟨kvs,k,b,.inr ⟨ob,e⟩,rfl,eb,rfl⟩
def DSN (cL cB : Addr) : Addr → Sp → Prop := fun C sp => C = cB ∧ sp = spSN cL cB
def DDN (cL cB : Addr) : Addr → Sp → Prop := fun C sp => C = cB ∧ sp = spDN cL cB
def DAK (cL cB : Addr) : Addr → Sp → Prop := fun C sp => C = cB ∧ sp = spAK cL cB
def DLM (K : PySem.W.Frag) (cL cB : Addr) : Addr → Sp → Prop := fun C sp => C = cB ∧ sp = spLM K cL cB
section
variable {P : Program} {w : World} {K : PySem.W.Frag} {mg : Str → Option Value} {base : Heap} {ck g cT cL cB : Addr}
abbrev sBook_sn : Stmt := Ch (top 51) 1
theorem scBook_sn : Ak ["self"] ["self"] (Ag sBook_sn) := by trivial
theorem ok_sn (T : Txt mg) (c : BCls K cB) {f : Addr} {fd : FuncData} (F : Fun K "string_names" "Book.string_names" sBook_sn f fd) : FnOk P w K mg base CX0 1 f fd ["self"] (spSN cL cB) := by
 refine F.ok scBook_sn (fun vs H Q E h => ?_) (fun cdv A outer s H vs Q E hr h => ?_)
 ·obtain ⟨p,z1,z2,ys,rs,rfl,_⟩ := h
  rfl
 ·obtain ⟨p,z1,z2,ys,rs,rfl,⟨⟨dx,ls,ld,dk,ob,h1,h2,h3,h4⟩,_⟩,q⟩ := h
  refine ⟨_,(Ae (Aq (Bh call_list_of rfl T.n_list boot_list (Aa (Bf (pv 0) rfl) Ac)))),?_⟩
  exact ⟨_,rfl,p,cB,dx,_,_,rfl,h1,c.cl,c.strings,bF_strings,ls,_,rfl,.inl (SqL.of h2),fun l hl => q l _ (Same.new hl) hl Ad⟩
abbrev sBook_dn : Stmt := Ch (top 51) 2
theorem scBook_dn : Ak ["self"] ["self"] (Ag sBook_dn) := by trivial
theorem ok_dn (T : Txt mg) (c : BCls K cB) {f : Addr} {fd : FuncData} (F : Fun K "duty_names" "Book.duty_names" sBook_dn f fd) : FnOk P w K mg base CX0 1 f fd ["self"] (spDN cL cB) := by
 refine F.ok scBook_dn (fun vs H Q E h => ?_) (fun cdv A outer s H vs Q E hr h => ?_)
 ·obtain ⟨p,z1,z2,ys,rs,rfl,_⟩ := h
  rfl
 ·obtain ⟨p,z1,z2,ys,rs,rfl,⟨⟨dx,ls,ld,dk,ob,h1,h2,h3,h4⟩,_⟩,q⟩ := h
  refine ⟨_,(Ae (Aq (Bh call_list_of rfl T.n_list boot_list (Aa (Bf (pv 0) rfl) Ac)))),?_⟩
  exact ⟨_,rfl,p,cB,dx,_,_,rfl,h1,c.cl,c.duties,bF_duties,ld,_,rfl,.inl (SqL.of h3),fun l hl => q l _ (Same.new hl) hl Ad⟩
abbrev sBook_ak : Stmt := Ch (top 51) 3
theorem scBook_ak : Ak ["self"] ["self"] (Ag sBook_ak) := by trivial
theorem ok_ak (T : Txt mg) (c : BCls K cB) {f : Addr} {fd : FuncData} (F : Fun K "all_keys" "Book.all_keys" sBook_ak f fd) : FnOk P w K mg base CX0 1 f fd ["self"] (spAK cL cB) := by
 refine F.ok scBook_ak (fun vs H Q E h => ?_) (fun cdv A outer s H vs Q E hr h => ?_)
 ·obtain ⟨p,z1,z2,ys,rs,rfl,_⟩ := h
  rfl
 ·obtain ⟨p,z1,z2,ys,rs,rfl,⟨⟨dx,ls,ld,dk,ob,h1,h2,h3,h4⟩,hL,_⟩,q⟩ := h
  refine ⟨_,(Ae (Aq (Bh (call_list_dT hr.hd) rfl T.n_list boot_list (Aa (Bf (pv 0) rfl) Ac)))),?_⟩
  refine ⟨_,rfl,p,cB,dx,_,_,rfl,h1,c.cl,c.by_key,bF_by_key,dk,ob,_,rfl,h4,fun ps l hk hl => q l ps _ (Same.new hl) hl Ad ⟨?_,fun i p' r e1 e2 => ?_⟩⟩
  ·rw [hk.1,bKvs_len hL.1]
  ·have hi : i < (bKvs ys rs).length := by rw [← hk.1]; exact (List.getElem?_eq_some_iff.mp e1).1
   have e3 := List.getElem?_eq_getElem hi
   generalize (bKvs ys rs)[i] = kv at e3
   obtain ⟨k,v⟩ := kv
   obtain ⟨y,r',f1,f2,f3,f4⟩ := bKvs_get e3
   rw [f2] at e2
   cases e2
   have := hk.2 i p' k v e1 e3
   rw [f3] at this
   exact Same.new hl _ _ this
abbrev sBook_lm : Stmt := Ch (top 51) 4
theorem scBook_lm : Ak ["self","key"] ["self","key"] (Ag sBook_lm) := by trivial
theorem ok_lm (c : BCls K cB) (F_is_key : FnAt P w K mg base "is_key" 2 ["thing"] (spKey K)) {f : Addr} {fd : FuncData} (F : Fun K "licence" "Book.licence" sBook_lm f fd) : FnOk P w K mg base CX0 3 f fd ["self","key"] (spLM K cL cB) := by
 refine F.ok scBook_lm (fun vs H Q E h => ?_) (fun cdv A outer s H vs Q E hr h => ?_)
 ·obtain ⟨p,x,z1,z2,ys,rs,i,y,r,rfl,_⟩ := h
  rfl
 ·obtain ⟨p,x,z1,z2,ys,rs,i,y,r,rfl,⟨⟨dx,ls,ld,dk,ob,h1,h2,h3,h4⟩,hL,nd,le⟩,hx,⟨hy,hr',a,rfl,ha⟩,q⟩ := h
  refine ⟨_,(Ab (A7 (PW.pt (pw_or (A9 (A8 (Ao F_is_key hr (by decide) rfl (Aa (pv 1) Ac)))) (Ej (pt_cmp (pc_dnotin (hu1 hr) (pv 1) (Bf (pv 0) rfl)))))) (Ae Ar) Ap)
   (Ae (Aq (pe_dget (hu1 hr) (Bf (pv 0) rfl) (pv 1) (fun _ _ => rfl))))),?_⟩
  refine ⟨_,rfl,.ref a,rfl,hx.1,hx.2,fun H1 s1 => ⟨_,rfl,?_⟩⟩
  obtain ⟨gr,_⟩ := hL.2 i y r hy hr'
  have va : valV (bKvs ys rs) (kk (Cy r)) = some (.ref y) := val_at nd hy hr'
  rw [kv_row gr ha]
  refine iteF ⟨_,rfl,_,rfl,p,cB,dx,_,_,rfl,s1 _ _ h1,c.cl,c.by_key,bF_by_key,dk,_,rfl,dget_frz (k := kk (Cy r)) (s1 _ _ h4) (s1 _ _ ha),_,rfl,?_⟩
  rw [va]
  refine iteF ⟨_,rfl,p,cB,dx,_,_,rfl,s1 _ _ h1,c.cl,c.by_key,bF_by_key,_,rfl,dk,.ref y,rfl,?_,q _ s1⟩
  rw [← va]
  exact dget_frz (k := kk (Cy r)) (s1 _ _ h4) (s1 _ _ ha)
end
end K15
namespace L2
open PySem PySem.Spec PyProof.Rows PySem.SeqAt
section
variable {X : Cx}
def rSameD (K : PySem.W.Frag) (b : Bool) : R2 := fun x y H Q => ∃ d,RdD K H x d ∧ RdD K H y d ∧ shaped d = true ∧ Q (.bl b) H
theorem op_neSD (hu : X.A.units + 64 < cLine) : OpR X (compareOp .NotEq) (rSameD X.K false) := by
 intro pins s σ H x y v u Q I rx ry ⟨d,hx,hy,sd,q⟩
 exact op_neD hu pins s σ H x y v u Q I rx ry ⟨d,d,hx,hy,sd,sd,by rw [PySem.SeqAt.eqv_refl d (canLay_of_shaped sd)]; exact q⟩
end
end L2
namespace K15
open PySem L2 PyProof.Rows PySem.SeqAt
abbrev psT : List Str := ["self","lets","strings","bars","reach"]
structure Makes (P : Program) (w : World) (K : PySem.W.Frag) (mg : Str → Option Value) (base : Heap) (cT cL fT fL : Addr) (dT dL : FuncData) (ds : List Value) : Prop where
 mT : mg "Terms" = some (.ref cT)
 mL : mg "Licence" = some (.ref cL)
 kT : Mk K cT fT
 kL : Mk K cL fL
 oT : FnOk P w K mg base CX0 4 fT dT psT (spTInit cT)
 oL : FnOk P w K mg base CX0 6 fL dL psL (spLInit cL)
 bT : Binds K dT psT []
 bL : Binds K dL psL []
 bD : Binds K dL psL ds
 vD : Vals [.bl false,.non,.int 0,.int 9999,.bl true] ds
theorem mk_k {H : Hp} {x dx : Addr} {o' : HO} (hx : H x = none) (hd : H dx = none) : ∀ d o,H d = some o → upd (upd H dx (.own x)) x o' d = some o := fun d o e => by
 rw [upd_ne (Ah e hx),upd_ne (Ah e hd)]; exact e
theorem mk_same {H H' : Hp} {x dx : Addr} {o' : HO} (hx : H x = none) (hd : H dx = none) (b : But x (upd (upd H dx (.own x)) x o') H') : Same H H' := fun d o e => b d o (mk_k hx hd d o e) (Ah e hx)
def spMade (cL : Addr) : Sp := fun vs H Q _ => ∃ (q : Addr) (r : Row),vs = [.ref q] ∧ r.Good ∧ Dj H q r ∧ ∀ (x : Addr) (H' : Hp),Same H H' → LAt cL H' x r → Q (.ref x) H'
section
variable {P : Program} {w : World} {K : PySem.W.Frag} {mg : Str → Option Value} {base : Heap} {cT cL fT fL : Addr} {dT dL : FuncData} {ds : List Value}
abbrev s_law_made : Stmt := top 93
theorem C2 : Ak ["_law_row","_law_key","_law_lets","_law_strings","_law_bars","_law_reach"] ["_law_row"] (Ag s_law_made) := by trivial
theorem ok_lmade (M : Makes P w K mg base cT cL fT fL dT dL ds) (F : Ai K mg "_law_made" s_law_made ["_law_row"]) : FnAt P w K mg base "_law_made" 8 ["_law_row"] (spMade cL) := by
 refine F.at C2 (fun vs H Q E h => ?_) (fun f cdv A outer s H vs Q E hr h => ?_)
 ·obtain ⟨q,r,rfl,_⟩ := h
  rfl
 ·obtain ⟨p,r,rfl,g,⟨pk,pa,hp,hk,ha⟩,q⟩ := h
  refine ⟨_,(Ab (ps_asg (Ba sl_tup (pv 0) Bm (Bd Af)) (pg_tup rfl (A6 (As (i := 1) C2.nd rfl (by trivial)) (A6 (As (i := 2) C2.nd rfl (by trivial)) (A6 (As (i := 3) C2.nd rfl (by trivial)) (A6 (As (i := 4) C2.nd rfl (by trivial)) (A6 (As (i := 5) C2.nd rfl (by trivial)) pgs_nil)))))))
   (Ae (Aq (pe_make M.kL M.oL (hr.mono (by decide)) rfl M.mL M.bL .nil En (Aa (pv 1) (Aa (pv 2) (Aa (pv 3) (Aa (pv 4) (Aa (pv 5) (Aa (Az Bt (pv 0) Af (fun _ _ => rfl)) (Aa (Az Bt (pv 0) Af (fun _ _ => rfl)) (Aa (Az Bt (pv 0) Af (fun _ _ => rfl)) (Aa (Az Bt (pv 0) Af (fun _ _ => rfl)) (Aa (Az Bt (pv 0) Af (fun _ _ => rfl)) Ac)))))))))))))),?_⟩
  refine ⟨_,rfl,_,rfl,p,_,rfl,SqT.of hp,(by show ¬ (HT.sIx 10 0 none = 0 ∧ HT.sIx 10 10 (some 5) = 10); decide),fun la hla => ?_⟩
  have s0 := Same.new (o := .tup (cutV (r.tup pk pa) none (some 5))) hla
  have e0 : upd H la (.tup (cutV (r.tup pk pa) none (some 5))) la = some (.tup [.ref pk,.int r.le,.int r.st,.int r.ba,.int r.re]) := Ad
  generalize upd H la (.tup (cutV (r.tup pk pa) none (some 5))) = H0 at s0 e0 ⊢
  refine ⟨la,_,rfl,SqT.of e0,rfl,_,_,rfl,_,_,rfl,_,_,rfl,_,_,rfl,_,_,rfl,rfl,?_⟩
  have hp0 := s0 _ _ hp
  have hk0 := s0 _ _ hk
  have ha0 := s0 _ _ ha
  have hs := SqT.of (K := K) hp0
  refine ⟨_,rfl,_,rfl,_,rfl,_,rfl,_,rfl,_,rfl,p,_,_,_,rfl,rfl,hs,rfl,_,rfl,p,_,_,_,rfl,rfl,hs,rfl,_,rfl,p,_,_,_,rfl,rfl,hs,rfl,_,rfl,p,_,_,_,rfl,rfl,hs,rfl,_,rfl,p,_,_,_,rfl,rfl,hs,rfl,?_⟩
  refine fun x dx fx fd fne => ⟨x,dx,pk,.ref pa,r,g,rfl,Ad,mk_k fx fd _ _ hk0,⟨pa,rfl,.inl (mk_k fx fd _ _ ha0)⟩,fun pa2 H2 i1 i2 b => ⟨rfl,?_⟩⟩
  have s2 : Same H0 H2 := mk_same fx fd b
  exact q x H2 (s0.trans s2) ⟨dx,pk,pa2,i1,s2 _ _ hk0,i2⟩
end
theorem word_ok {z : Str} (h : Ay z = true) : PyData.strOk z = true := by
 unfold Ay at h
 rw [Bool.and_eq_true] at h
 have h := h.2
 unfold PyData.strOk
 rw [← Array.all_toList,List.all_eq_true]
 intro c hc
 have := List.all_eq_true.mp h c hc
 unfold D3 at this
 simp only [Bool.and_eq_true,decide_eq_true_eq] at this ⊢
 omega
abbrev keyD (r : Row) : PyData := .tuple [.str r.w,.int r.n]
abbrev asksD (r : Row) : PyData := .tuple [.int r.a0,.int r.a1,.int r.a2,.int r.a3]
abbrev rowD (r : Row) : PyData := .tuple [keyD r,.int r.le,.int r.st,.int r.ba,.int r.re,.bool r.sa,asksD r,.int r.fi,.int r.la,.bool r.lg]
theorem shp {r : Row} (g : r.Good) : shaped (rowD r) = true := by
 have h := word_ok g.hw
 simp [shaped,PyData.canLay0,PyData.canLayAll0,PyData.depth,PyData.depthAll,h]
section
variable {K : PySem.W.Frag} {H : Hp} {q pk pa : Addr} {r : Row}
theorem rdK (h : H pk = some (.tup r.keyV)) : RdD K H (.ref pk) (keyD r) := .tup (SqT.of h) (.cons (.str _) (.cons (.int _) .nil))
theorem rdA (h : H pa = some (.tup r.asks)) : RdD K H (.ref pa) (asksD r) := .tup (SqT.of h) (.cons (.int _) (.cons (.int _) (.cons (.int _) (.cons (.int _) .nil))))
theorem rdR (h : H q = some (.tup (r.tup pk pa))) (hk : H pk = some (.tup r.keyV)) (ha : H pa = some (.tup r.asks)) : RdD K H (.ref q) (rowD r) :=
 .tup (SqT.of h) (.cons (rdK hk) (.cons (.int _) (.cons (.int _) (.cons (.int _) (.cons (.int _) (.cons (.bl _) (.cons (rdA ha) (.cons (.int _) (.cons (.int _) (.cons (.bl _) .nil))))))))))
end
theorem rdKeys {K : PySem.W.Frag} {H : Hp} : ∀ {ps : List Addr} {L : List Row},KeysOf H ps L → RdDs K H (ps.map V.ref) (L.map keyD)
 | [],[],_ => .nil
 | [],_ :: _,h => by have := h.1; simp at this
 | _ :: _,[],h => by have := h.1; simp at this
 | p :: ps,r :: L,h => .cons (rdK (h.2 0 p r rfl rfl)) (rdKeys ⟨by have := h.1; simpa using this,fun i p r h1 h2 => h.2 (i + 1) p r (by simpa using h1) (by simpa using h2)⟩)
theorem lay_keys : ∀ {L : List Row},(∀ r ∈ L,r.Good) → PyData.canLayAll0 (L.map keyD) = true ∧ PyData.depthAll (L.map keyD) ≤ 4
 | [],_ => ⟨by simp [PyData.canLayAll0],by simp [PyData.depthAll]⟩
 | r :: L,h => by
   obtain ⟨a,b⟩ := lay_keys fun x hx => h x (List.mem_cons_of_mem _ hx)
   have g := word_ok (h r List.mem_cons_self).hw
   refine ⟨by simp [PyData.canLayAll0,PyData.canLay0,g,a],?_⟩
   rw [List.map_cons,PyData.depthAll]
   refine Nat.max_le.mpr ⟨?_,b⟩
   simp [PyData.depth,PyData.depthAll]
theorem rdKl {K : PySem.W.Frag} {H : Hp} {l : Addr} {ps : List Addr} {L : List Row} (e : H l = some (.lst (ps.map V.ref))) (h : KeysOf H ps L) : RdD K H (.ref l) (.list (L.map keyD)) := .lst (SqL.of e) (rdKeys h)
theorem D6.good {H : Hp} {qs : List Addr} {rs : List Row} (h : D6 H qs rs) : ∀ r ∈ rs,r.Good := fun r hr => by
 obtain ⟨i,hi,rfl⟩ := List.mem_iff_getElem.mp hr
 have hq : i < qs.length := by rw [h.1]; exact hi
 exact (h.2 i qs[i] rs[i] (List.getElem?_eq_getElem hq) (List.getElem?_eq_getElem hi)).1
theorem key_asked {K : PySem.W.Frag} {H : Hp} {a : Addr} {r : Row} (g : r.Good) (h : H a = some (.tup r.keyV)) : Asked K H (.ref a) := by
 refine ⟨⟨.tup,.tup h⟩,fun b xs e hb y hy => ?_⟩
 cases e
 rw [h] at hb
 cases hb
 simp only [List.mem_cons,List.not_mem_nil,or_false] at hy
 rcases hy with rfl | rfl
 ·exact ⟨⟨.str,.str _⟩,word_short g.hw⟩
 ·exact ⟨⟨.int,.int _⟩,fun z e => by cases e⟩
section
variable {P : Program} {w : World} {K : PySem.W.Frag} {mg : Str → Option Value} {base : Heap} {ck g cT cL cB : Addr}
abbrev Ds : Stmt := Ch (top 43) 3
theorem scLicence_told : Ak ["self"] ["self"] (Ag Ds) := by trivial
theorem vt_lets {r : Row} {pk pa : Addr} : (r.l10 pk pa).lookup ("lets" : Str) = some (.int r.le) := (l10_t4 (by decide +kernel)).trans t4_lets
theorem vt_strings {r : Row} {pk pa : Addr} : (r.l10 pk pa).lookup ("strings" : Str) = some (.int r.st) := (l10_t4 (by decide +kernel)).trans t4_strings
theorem vt_bars {r : Row} {pk pa : Addr} : (r.l10 pk pa).lookup ("bars" : Str) = some (.int r.ba) := (l10_t4 (by decide +kernel)).trans t4_bars
theorem vt_reach {r : Row} {pk pa : Addr} : (r.l10 pk pa).lookup ("reach" : Str) = some (.int r.re) := (l10_t4 (by decide +kernel)).trans t4_reach
theorem ok_ltold (c : LCls K cL) {f : Addr} {fd : FuncData} (F : Fun K "told" "Licence.told" Ds f fd) : FnOk P w K mg base CX0 1 f fd ["self"] (spTL cL) := by
 refine F.ok scLicence_told (fun vs H Q E h => ?_) (fun cdv A outer s H vs Q E hr h => ?_)
 ·obtain ⟨p,dx,pk,pa,r,rfl,_⟩ := h
  rfl
 ·obtain ⟨p,dx,pk,pa,r,rfl,hp,q⟩ := h
  refine ⟨_,(Ae (Aq (pe_tup (Aa (Bf (pv 0) rfl) (Aa (Bf (pv 0) rfl) (Aa (Bf (pv 0) rfl) (Aa (Bf (pv 0) rfl) (Aa (Bf (pv 0) rfl) (Aa (Bf (pv 0) rfl) (Aa (Bf (pv 0) rfl) (Aa (Bf (pv 0) rfl) (Aa (Bf (pv 0) rfl) (Aa (Bf (pv 0) rfl) Ac))))))))))))),?_⟩
  refine ⟨_,rfl,p,cL,dx,_,_,rfl,hp,c.cl,c.key,l10_key,_,rfl,p,cL,dx,_,_,rfl,hp,c.cl,c.lets,vt_lets,_,rfl,p,cL,dx,_,_,rfl,hp,c.cl,c.strings,vt_strings,_,rfl,p,cL,dx,_,_,rfl,hp,c.cl,c.bars,vt_bars,_,rfl,p,cL,dx,_,_,rfl,hp,c.cl,c.reach,vt_reach,?_⟩
  refine ⟨_,rfl,p,cL,dx,_,_,rfl,hp,c.cl,c.same,l10_same,_,rfl,p,cL,dx,_,_,rfl,hp,c.cl,c.asks,l10_asks,_,rfl,p,cL,dx,_,_,rfl,hp,c.cl,c.first,l10_first,_,rfl,p,cL,dx,_,_,rfl,hp,c.cl,c.last,l10_last,_,rfl,p,cL,dx,_,_,rfl,hp,c.cl,c.lasting,l10_lasting,(by show 10 ≤ sizeLine; decide),fun q1 h1 => ?_⟩
  exact q q1 _ (Same.new h1) Ad
def DTL (cL : Addr) : Addr → Sp → Prop := fun C sp => C = cL ∧ sp = spTL cL
theorem lm_in {σ : L2.St} {i j : Nat} {H : Hp} {p a : Addr} {z1 z2 : List Str} {ys : List Addr} {rs : List Row} {r : Row} {Q : VK} (hB : Ck cL cB H p z1 z2 ys rs) (e : σ[i]? = some (some (.ref a))) (hr : rs[j]? = some r) (ha : H a = some (.tup r.keyV))
 (q : ∀ (y : Addr) (H' : Hp),Same H H' → LAt cL H' y r → Q (.ref y) H') :
 ∃ a' C dx fs sp,V.ref p = .ref a' ∧ H a' = some (.ins C dx fs) ∧ fs.lookup ("licence" : Str) = none ∧ DLM K cL cB C sp ∧ tCons (tVar i) tNil σ H fun vs H2 => sp (V.ref p :: vs) H2 Q E0 := by
 have hB0 := hB
 obtain ⟨⟨dx,ls,ld,dk,ob,h1,h2,h3,h4⟩,hL,nd,le⟩ := hB
 have hj : j < ys.length := by rw [hL.1]; exact (List.getElem?_eq_some_iff.mp hr).1
 have hy := List.getElem?_eq_getElem hj
 obtain ⟨gr,lr⟩ := hL.2 j _ r hy hr
 exact ⟨p,cB,dx,_,spLM K cL cB,rfl,h1,bF_no (by decide +kernel),⟨rfl,rfl⟩,_,e,p,.ref a,z1,z2,ys,rs,j,_,r,rfl,hB0,key_asked gr ha,⟨hy,hr,a,rfl,ha⟩,fun H' s' => q _ H' s' (lr.same s')⟩
end
end K15
namespace L2
open PySem PyProof.Rows
theorem pe_fn0 {X : Cx} {x : Str} {sp : Sp} {k j : Nat} {p pos : Pos} (F : FnAt X.prog X.w X.K X.mg X.base x k [] sp) (hr : Room j X.A) (hj : k ≤ j) (hg : Gl X x)
 (hdb : (x == ("__debug__" : Str)) = false := by decide) : PE X (.Call (.Name x p) [] [] pos) (tCall sp [] E0 tNil) := by
 obtain ⟨f,fd,G,hm,hk,hb⟩ := F.ex
 exact pe_call0 G (hr.mono hj) hg hm hk hb .nil En hdb
end L2
namespace K15
open PySem L2 PyProof.Rows
def nm : Nat → Str
 | 0 => "called"
 | 1 => "beside"
 | 2 => "joined"
 | _ => "changed"
structure Js where
 c0 : Addr
 c1 : Addr
 c2 : Addr
 c3 : Addr
def Js.c (J : Js) : Nat → Addr
 | 0 => J.c0
 | 1 => J.c1
 | 2 => J.c2
 | _ => J.c3
def JAt (J : Js) (H : Hp) (p : Addr) (j : Nat) : Prop := ∃ dx,H p = some (.ins (J.c j) dx [])
theorem JAt.same {J : Js} {H H' : Hp} {p : Addr} {j : Nat} (h : JAt J H p j) (s : Same H H') : JAt J H' p j := by
 obtain ⟨dx,h⟩ := h
 exact ⟨dx,s _ _ h⟩
theorem j4 {j : Nat} (h : j < 4) : j = 0 ∨ j = 1 ∨ j = 2 ∨ j = 3 := by omega
def spC (v : V) : Sp := fun vs H Q _ => (∃ a,vs = [.ref a]) ∧ Q v H
structure JHas (P : Program) (w : World) (K : PySem.W.Frag) (mg : Str → Option Value) (base : Heap) (J : Js) : Prop where
 n0 : New0 K mg "Called" J.c0
 n1 : New0 K mg "Beside" J.c1
 n2 : New0 K mg "Joined" J.c2
 n3 : New0 K mg "Changed" J.c3
 word : ∀ j,j < 4 → D7 P w K mg base CX0 1 (J.c j) "word" ["self"] (spC (.str (nm j)))
 close : ∀ j,j < 4 → D7 P w K mg base CX0 1 (J.c j) "closeness" ["self"] (spC (.int j))
def DW (J : Js) : Addr → Sp → Prop := fun C sp => ∃ j,j < 4 ∧ C = J.c j ∧ sp = spC (.str (nm j))
def DCl (J : Js) : Addr → Sp → Prop := fun C sp => ∃ j : Nat,j < 4 ∧ C = J.c j ∧ sp = spC (.int j)
section
variable {P : Program} {w : World} {K : PySem.W.Frag} {mg : Str → Option Value} {base : Heap} {J : Js}
theorem JHas.hDW (D : JHas P w K mg base J) : ∀ C sp,DW J C sp → D7 P w K mg base CX0 1 C "word" ["self"] sp := by
 rintro C sp ⟨j,hj,rfl,rfl⟩
 exact D.word j hj
theorem JHas.hDC (D : JHas P w K mg base J) : ∀ C sp,DCl J C sp → D7 P w K mg base CX0 1 C "closeness" ["self"] sp := by
 rintro C sp ⟨j,hj,rfl,rfl⟩
 exact D.close j hj
theorem new_same {H : Hp} {C x dx : Addr} (hx : H x = none) (hd : H dx = none) : Same H (upd (upd H dx (.own x)) x (.ins C dx [])) := fun b o e => by rw [upd_ne (Ah e hx),upd_ne (Ah e hd)]; exact e
abbrev Eh : Stmt := Ch (top 54) 0
theorem scCalled_word : Ak ["self"] ["self"] (Ag Eh) := by trivial
theorem ok_Called_word {f : Addr} {fd : FuncData} (F : Fun K "word" "Called.word" Eh f fd) : FnOk P w K mg base CX0 1 f fd ["self"] (spC (.str (nm 0))) := by
 refine F.ok scCalled_word (fun vs H Q E h => ?_) (fun cdv A outer s H vs Q E hr h => ?_)
 ·obtain ⟨⟨a,rfl⟩,_⟩ := h
  rfl
 ·obtain ⟨⟨a,rfl⟩,q⟩ := h
  refine ⟨_,(Ae (Aq Av)),?_⟩
  exact q
abbrev Cd : Stmt := Ch (top 54) 1
theorem scCalled_closeness : Ak ["self"] ["self"] (Ag Cd) := by trivial
theorem ok_Called_closeness {f : Addr} {fd : FuncData} (F : Fun K "closeness" "Called.closeness" Cd f fd) : FnOk P w K mg base CX0 1 f fd ["self"] (spC (.int 0)) := by
 refine F.ok scCalled_closeness (fun vs H Q E h => ?_) (fun cdv A outer s H vs Q E hr h => ?_)
 ·obtain ⟨⟨a,rfl⟩,_⟩ := h
  rfl
 ·obtain ⟨⟨a,rfl⟩,q⟩ := h
  refine ⟨_,(Ae (Aq Af)),?_⟩
  exact q
abbrev Ei : Stmt := Ch (top 55) 0
theorem scBeside_word : Ak ["self"] ["self"] (Ag Ei) := by trivial
theorem ok_Beside_word {f : Addr} {fd : FuncData} (F : Fun K "word" "Beside.word" Ei f fd) : FnOk P w K mg base CX0 1 f fd ["self"] (spC (.str (nm 1))) := by
 refine F.ok scBeside_word (fun vs H Q E h => ?_) (fun cdv A outer s H vs Q E hr h => ?_)
 ·obtain ⟨⟨a,rfl⟩,_⟩ := h
  rfl
 ·obtain ⟨⟨a,rfl⟩,q⟩ := h
  refine ⟨_,(Ae (Aq Av)),?_⟩
  exact q
abbrev Ce : Stmt := Ch (top 55) 1
theorem scBeside_closeness : Ak ["self"] ["self"] (Ag Ce) := by trivial
theorem ok_Beside_closeness {f : Addr} {fd : FuncData} (F : Fun K "closeness" "Beside.closeness" Ce f fd) : FnOk P w K mg base CX0 1 f fd ["self"] (spC (.int 1)) := by
 refine F.ok scBeside_closeness (fun vs H Q E h => ?_) (fun cdv A outer s H vs Q E hr h => ?_)
 ·obtain ⟨⟨a,rfl⟩,_⟩ := h
  rfl
 ·obtain ⟨⟨a,rfl⟩,q⟩ := h
  refine ⟨_,(Ae (Aq Af)),?_⟩
  exact q
abbrev Eg : Stmt := Ch (top 56) 0
theorem scJoined_word : Ak ["self"] ["self"] (Ag Eg) := by trivial
theorem ok_Joined_word {f : Addr} {fd : FuncData} (F : Fun K "word" "Joined.word" Eg f fd) : FnOk P w K mg base CX0 1 f fd ["self"] (spC (.str (nm 2))) := by
 refine F.ok scJoined_word (fun vs H Q E h => ?_) (fun cdv A outer s H vs Q E hr h => ?_)
 ·obtain ⟨⟨a,rfl⟩,_⟩ := h
  rfl
 ·obtain ⟨⟨a,rfl⟩,q⟩ := h
  refine ⟨_,(Ae (Aq Av)),?_⟩
  exact q
abbrev Cc : Stmt := Ch (top 56) 1
theorem scJoined_closeness : Ak ["self"] ["self"] (Ag Cc) := by trivial
theorem ok_Joined_closeness {f : Addr} {fd : FuncData} (F : Fun K "closeness" "Joined.closeness" Cc f fd) : FnOk P w K mg base CX0 1 f fd ["self"] (spC (.int 2)) := by
 refine F.ok scJoined_closeness (fun vs H Q E h => ?_) (fun cdv A outer s H vs Q E hr h => ?_)
 ·obtain ⟨⟨a,rfl⟩,_⟩ := h
  rfl
 ·obtain ⟨⟨a,rfl⟩,q⟩ := h
  refine ⟨_,(Ae (Aq Af)),?_⟩
  exact q
abbrev Dt : Stmt := Ch (top 57) 0
theorem scChanged_word : Ak ["self"] ["self"] (Ag Dt) := by trivial
theorem ok_Changed_word {f : Addr} {fd : FuncData} (F : Fun K "word" "Changed.word" Dt f fd) : FnOk P w K mg base CX0 1 f fd ["self"] (spC (.str (nm 3))) := by
 refine F.ok scChanged_word (fun vs H Q E h => ?_) (fun cdv A outer s H vs Q E hr h => ?_)
 ·obtain ⟨⟨a,rfl⟩,_⟩ := h
  rfl
 ·obtain ⟨⟨a,rfl⟩,q⟩ := h
  refine ⟨_,(Ae (Aq Av)),?_⟩
  exact q
abbrev B5 : Stmt := Ch (top 57) 1
theorem scChanged_closeness : Ak ["self"] ["self"] (Ag B5) := by trivial
theorem ok_Changed_closeness {f : Addr} {fd : FuncData} (F : Fun K "closeness" "Changed.closeness" B5 f fd) : FnOk P w K mg base CX0 1 f fd ["self"] (spC (.int 3)) := by
 refine F.ok scChanged_closeness (fun vs H Q E h => ?_) (fun cdv A outer s H vs Q E hr h => ?_)
 ·obtain ⟨⟨a,rfl⟩,_⟩ := h
  rfl
 ·obtain ⟨⟨a,rfl⟩,q⟩ := h
  refine ⟨_,(Ae (Aq Af)),?_⟩
  exact q
def spAll (J : Js) : Sp := fun vs H Q _ => vs = [] ∧ ∀ (l p0 p1 p2 p3 : Addr) (H' : Hp),Same H H' → H' l = some (.lst [.ref p0,.ref p1,.ref p2,.ref p3]) → JAt J H' p0 0 → JAt J H' p1 1 → JAt J H' p2 2 → JAt J H' p3 3 → Q (.ref l) H'
abbrev sall_joins : Stmt := top 58
theorem scall_joins : Ak [] [] (Ag sall_joins) := by trivial
theorem ok_all (D : JHas P w K mg base J) (F : Ai K mg "all_joins" sall_joins []) : FnAt P w K mg base "all_joins" 1 [] (spAll J) := by
 refine F.at scall_joins (fun vs H Q E h => ?_) (fun f cdv A outer s H vs Q E hr h => ?_)
 ·obtain ⟨rfl,_⟩ := h
  rfl
 ·obtain ⟨rfl,q⟩ := h
  refine ⟨_,(Ae (Aq (A5 (Aa (pe_new0 D.n0 rfl) (Aa (pe_new0 D.n1 rfl) (Aa (pe_new0 D.n2 rfl) (Aa (pe_new0 D.n3 rfl) Ac))))))),?_⟩
  intro p0 d0 x0 y0 _
  have s0 := new_same (C := J.c0) x0 y0
  have a0 : upd (upd H d0 (.own p0)) p0 (.ins J.c0 d0 []) p0 = some (.ins J.c0 d0 []) := Ad
  generalize upd (upd H d0 (.own p0)) p0 (.ins J.c0 d0 []) = H0 at s0 a0 ⊢
  replace a0 : JAt J H0 p0 0 := ⟨_,a0⟩
  intro p1 d1 x1 y1 _
  have s1 := new_same (C := J.c1) x1 y1
  have a1 : upd (upd H0 d1 (.own p1)) p1 (.ins J.c1 d1 []) p1 = some (.ins J.c1 d1 []) := Ad
  generalize upd (upd H0 d1 (.own p1)) p1 (.ins J.c1 d1 []) = H1 at s1 a1 ⊢
  replace a1 : JAt J H1 p1 1 := ⟨_,a1⟩
  intro p2 d2 x2 y2 _
  have s2 := new_same (C := J.c2) x2 y2
  have a2 : upd (upd H1 d2 (.own p2)) p2 (.ins J.c2 d2 []) p2 = some (.ins J.c2 d2 []) := Ad
  generalize upd (upd H1 d2 (.own p2)) p2 (.ins J.c2 d2 []) = H2 at s2 a2 ⊢
  replace a2 : JAt J H2 p2 2 := ⟨_,a2⟩
  intro p3 d3 x3 y3 _
  have s3 := new_same (C := J.c3) x3 y3
  have a3 : upd (upd H2 d3 (.own p3)) p3 (.ins J.c3 d3 []) p3 = some (.ins J.c3 d3 []) := Ad
  generalize upd (upd H2 d3 (.own p3)) p3 (.ins J.c3 d3 []) = H3 at s3 a3 ⊢
  replace a3 : JAt J H3 p3 3 := ⟨_,a3⟩
  refine ⟨(by show 4 ≤ sizeLine; decide),fun l hl => ?_⟩
  have s4 := Same.new (o := .lst [.ref p0,.ref p1,.ref p2,.ref p3]) hl
  have t3 := s3.trans s4
  have t2 := s2.trans t3
  have t1 := s1.trans t2
  exact q l p0 p1 p2 p3 _ (s0.trans t1) Ad (a0.same t1) (a1.same t2) (a2.same t3) (a3.same s4)
def JW : List Str := [nm 0,nm 1,nm 2,nm 3]
def spJW : Sp := fun vs H Q _ => vs = [] ∧ ∀ (l : Addr) (H' : Hp),Same H H' → H l = none → H' l = some (.lst (JW.map V.str)) → Q (.ref l) H'
abbrev Dy : Stmt := top 59
theorem scjoin_words : Ak [] [] (Ag Dy) := by trivial
theorem at4 {J : Js} {H1 : Hp} {p0 p1 p2 p3 : Addr} (a0 : JAt J H1 p0 0) (a1 : JAt J H1 p1 1) (a2 : JAt J H1 p2 2) (a3 : JAt J H1 p3 3) : ∀ i y,([V.ref p0,V.ref p1,V.ref p2,V.ref p3] : List V)[i]? = some y → ∃ p dx,i < 4 ∧ y = V.ref p ∧ H1 p = some (.ins (J.c i) dx []) := by
 intro i y e
 match i,e with
 | 0,e => cases e; obtain ⟨dx,h⟩ := a0; exact ⟨_,dx,by decide,rfl,h⟩
 | 1,e => cases e; obtain ⟨dx,h⟩ := a1; exact ⟨_,dx,by decide,rfl,h⟩
 | 2,e => cases e; obtain ⟨dx,h⟩ := a2; exact ⟨_,dx,by decide,rfl,h⟩
 | 3,e => cases e; obtain ⟨dx,h⟩ := a3; exact ⟨_,dx,by decide,rfl,h⟩
 | n + 4,e => simp at e
theorem ok_jw (D : JHas P w K mg base J) (F_all_joins : FnAt P w K mg base "all_joins" 1 [] (spAll J)) (F : Ai K mg "join_words" Dy []) : FnAt P w K mg base "join_words" 2 [] spJW := by
 refine F.at scjoin_words (fun vs H Q E h => ?_) (fun f cdv A outer s H vs Q E hr h => ?_)
 ·obtain ⟨rfl,_⟩ := h
  rfl
 ·obtain ⟨rfl,q⟩ := h
  refine ⟨_,(Ae (Aq (Bs (sc := Ag Dy) (N0 := []) (xs := ["join"]) (ys := []) (js := []) (by trivial) rfl (Bn (pe_fn0 F_all_joins hr (by decide) rfl)) (fun _ _ _ _ => (As (i := 0) (show (["join"] : List Str).Nodup by decide +kernel) rfl (by trivial))) (fun _ _ _ _ => Cj) (fun _ _ _ _ => (Cm (D := DW J) (pv 0) D.hDW (hr.mono (by decide)) En))))),?_⟩
  refine ⟨rfl,fun l p0 p1 p2 p3 H1 s1 el a0 a1 a2 a3 => ?_⟩
  refine ⟨l,rfl,⟨_,SqL.of el⟩,Bj (K := K) (a := l) (xs := [V.ref p0,V.ref p1,V.ref p2,V.ref p3]) (fun j us H' => us = (JW.take j).map V.str ∧ H' = H1) ⟨rfl,rfl⟩ (by show 4 ≤ sizeLine; decide) ?_ ?_ ?_ ?_⟩
  ·rintro j us H' ⟨rfl,_⟩
   rw [List.length_map,List.length_take]; omega
  ·rintro j us H' _ ⟨_,rfl⟩
   exact SqL.of el
  ·rintro j x us H' hx ⟨rfl,rfl⟩
   obtain ⟨p,dx,h4,rfl,hp⟩ := at4 a0 a1 a2 a3 j x hx
   refine ⟨_,rfl,p,J.c j,dx,[],spC (.str (nm j)),rfl,hp,rfl,⟨j,h4,rfl,rfl⟩,⟨p,rfl⟩,?_,rfl⟩
   rcases j4 h4 with rfl | rfl | rfl | rfl <;> rfl
  ·rintro us H' ⟨rfl,rfl⟩ l2 hl2
   exact q l2 _ (s1.trans (Same.new hl2)) (s1.free hl2) Ad
def spJO (J : Js) : Sp := fun vs H Q _ => ∃ j : Nat,j < 4 ∧ vs = [.str (nm j)] ∧ ∀ (p : Addr) (H' : Hp),Same H H' → JAt J H' p j → Q (.ref p) H'
abbrev sjoin_of : Stmt := top 60
theorem scjoin_of : Ak ["word","join"] ["word"] (Ag sjoin_of) := by trivial
theorem nm_eq {i j : Nat} (hi : i < 4) (hj : j < 4) : decide (V.str (nm i) = V.str (nm j)) = decide (i = j) := by
 rcases j4 hi with rfl | rfl | rfl | rfl <;> rcases j4 hj with rfl | rfl | rfl | rfl <;> decide +kernel
theorem ok_join_of (D : JHas P w K mg base J) (F_all_joins : FnAt P w K mg base "all_joins" 1 [] (spAll J)) (F : Ai K mg "join_of" sjoin_of ["word"]) : FnAt P w K mg base "join_of" 2 ["word"] (spJO J) := by
 refine F.at scjoin_of (fun vs H Q E h => ?_) (fun f cdv A outer s H vs Q E hr h => ?_)
 ·obtain ⟨j,_,rfl,_⟩ := h
  rfl
 ·obtain ⟨j,hj,rfl,q⟩ := h
  refine ⟨_,(Ab (Dg PassesOwn.never rfl (Bn (pe_fn0 F_all_joins hr (by decide) rfl)) (As (i := 1) scjoin_of.nd rfl (by trivial)) (Ae (A7 (A1 Ey (Cm (D := DW J) (pv 1) D.hDW (hr.mono (by decide)) En) (pv 0) (A0 _)) (Ae (Aq (pv 1))) Ap)))
   (Ae Ar)),?_⟩
  refine ⟨rfl,fun l p0 p1 p2 p3 H1 s1 el a0 a1 a2 a3 => ?_⟩
  refine ⟨l,rfl,⟨_,SqL.of el⟩,for_list (K := K) (a := l) (xs := [V.ref p0,V.ref p1,V.ref p2,V.ref p3]) (fun i σ H' => ∃ u : Option V,σ = [some (.str (nm j)),u] ∧ H' = H1 ∧ i ≤ j) ⟨_,rfl,rfl,Nat.zero_le _⟩ (fun i σ H' _ ⟨_,_,e,_⟩ => by rw [e]; exact SqL.of el) ?_ ?_⟩
  ·rintro i y σ H' hi ⟨u,rfl,rfl,hij⟩
   obtain ⟨p,dx,h4,rfl,hp⟩ := at4 a0 a1 a2 a3 i y hi
   refine ⟨_,rfl,p,J.c i,dx,[],spC (.str (nm i)),rfl,hp,rfl,⟨i,h4,rfl,rfl⟩,⟨p,rfl⟩,_,rfl,rfl,_,rfl,?_⟩
   show if decide (V.str (nm i) = V.str (nm j)) = true then _ else _
   rw [nm_eq h4 hj]
   refine ite2 (fun e => ?_) (fun e => ?_)
   ·have e : i = j := of_decide_eq_true e
    subst e
    exact ⟨_,rfl,q p _ s1 ⟨dx,hp⟩⟩
   ·have e : ¬ i = j := fun z => e (decide_eq_true z)
    exact ⟨_,rfl,rfl,by omega⟩
  ·rintro σ H' ⟨u,rfl,rfl,hij⟩
   have : (4 : Nat) ≤ j := hij
   omega
def maskN (ps : List Nat) : Nat := ps.foldl (fun m p => m ||| 2 ^ p) 0
theorem foldl_bit : ∀ (ps : List Nat) (m i : Nat),(ps.foldl (fun m p => m ||| 2 ^ p) m).testBit i = (m.testBit i || decide (i ∈ ps))
 | [],m,i => by simp
 | p :: ps,m,i => by
   rw [List.foldl_cons,foldl_bit ps,Nat.testBit_or,Nat.testBit_two_pow,Bool.or_assoc,← Bool.decide_or]
   congr 1
   rw [decide_eq_decide,List.mem_cons]
   exact ⟨fun h => h.imp Eq.symm id,fun h => h.imp Eq.symm id⟩
theorem maskN_bit (ps : List Nat) (i : Nat) : (maskN ps).testBit i = decide (i ∈ ps) := by
 unfold maskN
 rw [foldl_bit,Nat.zero_testBit,Bool.false_or]
theorem maskN_snoc (ps : List Nat) (p : Nat) : maskN (ps ++ [p]) = maskN ps ||| 2 ^ p := by
 unfold maskN
 rw [List.foldl_append]
 rfl
theorem maskN_lt {ps : List Nat} (h : ∀ p ∈ ps,p < 6) : maskN ps < 64 := by
 refine Nat.lt_pow_two_of_testBit (n := 6) _ fun i hi => ?_
 rw [maskN_bit]
 exact decide_eq_false fun m => by have := h i m; omega
theorem maskN_mem {ps : List Nat} {m : Nat} (h : ∀ i,i ∈ ps ↔ m.testBit i = true) : maskN ps = m := Nat.eq_of_testBit_eq fun i => by
 rw [maskN_bit,Bool.eq_iff_iff,decide_eq_true_iff]
 exact h i
def spMO (K : PySem.W.Frag) : Sp := fun vs H Q _ => ∃ (l : Addr) (ps : List Nat),vs = [.ref l] ∧ SqL K H l (ps.map fun i : Nat => V.int i) ∧ (∀ p ∈ ps,p < 6) ∧ Q (.int (maskN ps)) H
abbrev smask_of : Stmt := top 25
theorem scmask_of : Ak ["places","mask","place"] ["places"] (Ag smask_of) := by trivial
theorem ok_mask_of (F : Ai K mg "mask_of" smask_of ["places"]) : FnAt P w K mg base "mask_of" 1 ["places"] (spMO K) := by
 refine F.at scmask_of (fun vs H Q E h => ?_) (fun f cdv A outer s H vs Q E hr h => ?_)
 ·obtain ⟨l,n,rfl,_⟩ := h
  rfl
 ·obtain ⟨l,ps,rfl,hl,h6,q⟩ := h
  refine ⟨_,(Ab (Al (i := 1) scmask_of.nd rfl (by trivial) Af)
   (Ab (Dg PassesOwn.never rfl (Bn (pv 0)) (As (i := 2) scmask_of.nd rfl (by trivial)) (Ae (Al (i := 1) scmask_of.nd rfl (by trivial) (Ax op_or (pv 1) (Ax op_shl Af (pv 2))))))
   (Ae (Aq (pv 1))))),?_⟩
  refine ⟨_,rfl,l,rfl,⟨_,hl⟩,for_list (K := K) (a := l) (xs := ps.map fun i : Nat => V.int i) (fun i σ H' => ∃ v : Option V,σ = [some (.ref l),some (.int (maskN (ps.take i) : Nat)),v] ∧ H' = H) ⟨_,rfl,rfl⟩ (fun i σ H' _ ⟨_,_,e⟩ => by rw [e]; exact hl) ?_ ?_⟩
  ·rintro i y σ H' hi ⟨v,rfl,rfl⟩
   rw [List.getElem?_map] at hi
   obtain ⟨p,hp,rfl⟩ := Option.map_eq_some_iff.mp hi
   obtain ⟨hil,hpe⟩ := List.getElem?_eq_some_iff.mp hp
   have p6 := h6 p (List.mem_of_getElem? hp)
   have m64 : maskN (ps.take i) < 64 := maskN_lt fun x hx => h6 x (List.mem_of_mem_take hx)
   refine ⟨_,rfl,_,rfl,_,_,rfl,rfl,⟨by omega,by omega,by decide⟩,_,_,rfl,rfl,?_⟩
   refine ⟨some (V.int p),?_,rfl⟩
   have e : Builtin.bitOr ((maskN (ps.take i) : Nat) : Int) (1 * 2 ^ (p : Int).toNat) = ((maskN (ps.take (i + 1)) : Nat) : Int) := by
    have e2 : (1 * 2 ^ (p : Int).toNat : Int) = ((2 ^ p : Nat) : Int) := by rw [Int.one_mul,Int.toNat_natCast,Int.natCast_pow]; rfl
    rw [e2,or_nat ⟨_,m64⟩ ⟨2 ^ p,by
     have := Nat.pow_le_pow_right (n := 2) (by decide) (show p ≤ 5 by omega)
     omega⟩,List.take_succ_eq_append_getElem hil,hpe,maskN_snoc]
   show [some (V.ref l),some (V.int (Builtin.bitOr ((maskN (ps.take i) : Nat) : Int) (1 * 2 ^ (p : Int).toNat))),some (V.int p)] = _
   rw [e]
  ·rintro σ H' ⟨v,rfl,rfl⟩
   rw [List.length_map,List.take_length]
   exact ⟨_,rfl,q⟩
end
def jl (c : Nat) : List (List Nat) → List Nat
 | [] => []
 | [x] => x
 | x :: y :: r => x ++ c :: jl c (y :: r)
theorem C9 (a b : Str) : (a ++ b).cps.toList = a.cps.toList ++ b.cps.toList := by
 show (a.cps ++ b.cps).toList = _
 simp
theorem join_toList (c : Nat) : ∀ ws : List Str,(Str.join ⟨#[c]⟩ ws).cps.toList = jl c (ws.map (·.cps.toList))
 | [] => rfl
 | [x] => rfl
 | x :: y :: r => by
   show (x ++ ⟨#[c]⟩ ++ Str.join ⟨#[c]⟩ (y :: r)).cps.toList = x.cps.toList ++ c :: jl c ((y :: r).map (·.cps.toList))
   rw [C9,C9,join_toList c (y :: r)]
   simp
theorem cut_inj {c : Nat} : ∀ {x y a b : List Nat},c ∉ x → c ∉ y → x ++ c :: a = y ++ c :: b → x = y ∧ a = b
 | [],[],a,b,_,_,h => ⟨rfl,by simpa using h⟩
 | [],d :: y,a,b,_,hy,h => by
   simp only [List.nil_append,List.cons_append,List.cons.injEq] at h
   exact absurd h.1 (fun e => hy (by rw [e]; exact List.mem_cons_self))
 | d :: x,[],a,b,hx,_,h => by
   simp only [List.nil_append,List.cons_append,List.cons.injEq] at h
   exact absurd h.1 (fun e => hx (by rw [← e]; exact List.mem_cons_self))
 | d :: x,e :: y,a,b,hx,hy,h => by
   simp only [List.cons_append,List.cons.injEq] at h
   obtain ⟨h1,h2⟩ := cut_inj (fun m => hx (List.mem_cons_of_mem _ m)) (fun m => hy (List.mem_cons_of_mem _ m)) h.2
   exact ⟨by rw [h.1,h1],h2⟩
theorem jl_inj {c : Nat} : ∀ {xs ys : List (List Nat)},xs ≠ [] → ys ≠ [] → (∀ x ∈ xs,c ∉ x) → (∀ y ∈ ys,c ∉ y) → jl c xs = jl c ys → xs = ys
 | [],_,h,_,_,_,_ => absurd rfl h
 | _,[],_,h,_,_,_ => absurd rfl h
 | [x],[y],_,_,_,_,h => by rw [show x = y from h]
 | [x],y :: y' :: r,_,_,hx,_,h => by
   have h : x = y ++ c :: jl c (y' :: r) := h
   exact absurd (by rw [h]; simp) (hx x List.mem_cons_self)
 | x :: x' :: r,[y],_,_,_,hy,h => by
   have h : x ++ c :: jl c (x' :: r) = y := h
   exact absurd (by rw [← h]; simp) (hy y List.mem_cons_self)
 | x :: x' :: r,y :: y' :: r',_,_,hx,hy,h => by
   have h : x ++ c :: jl c (x' :: r) = y ++ c :: jl c (y' :: r') := h
   obtain ⟨h1,h2⟩ := cut_inj (hx x List.mem_cons_self) (hy y List.mem_cons_self) h
   rw [h1,jl_inj (by simp) (by simp) (fun z hz => hx z (List.mem_cons_of_mem _ hz)) (fun z hz => hy z (List.mem_cons_of_mem _ hz)) h2]
theorem str_inj : ∀ {a b : Str},a.cps.toList = b.cps.toList → a = b
 | ⟨a⟩,⟨b⟩,h => by rw [show a = b from Array.toList_inj.mp h]
theorem strs_inj : ∀ {a b : List Str},a.map (·.cps.toList) = b.map (·.cps.toList) → a = b
 | [],[],_ => rfl
 | [],_ :: _,h => by cases h
 | _ :: _,[],h => by cases h
 | x :: a,y :: b,h => by
   simp only [List.map_cons,List.cons.injEq] at h
   rw [str_inj h.1,strs_inj h.2]
theorem split_join {c : Nat} {ws : List Str} (hne : ws ≠ []) (hf : ∀ z ∈ ws,c ∉ z.cps.toList) : Txt.split (Txt.join ⟨#[c]⟩ ws) ⟨#[c]⟩ = ws := by
 have e : Txt.join ⟨#[c]⟩ ws = Str.join ⟨#[c]⟩ ws := StrLaws.glued_eq_join _ _
 rw [e]
 have h := StrLaws.join_split (Str.join ⟨#[c]⟩ ws) ⟨#[c]⟩
 refine strs_inj (jl_inj (c := c) ?_ ?_ ?_ ?_ ?_)
 ·intro z
  have := split_pos (Str.join ⟨#[c]⟩ ws) ⟨#[c]⟩
  rw [← List.length_map (f := fun z : Str => z.cps.toList),z] at this
  exact absurd this (by decide)
 ·intro z
  exact hne (List.map_eq_nil_iff.mp z)
 ·intro x hx
  obtain ⟨z,hz,rfl⟩ := List.mem_map.mp hx
  exact StrLaws.split_free _ _ z hz
 ·intro x hx
  obtain ⟨z,hz,rfl⟩ := List.mem_map.mp hx
  exact hf z hz
 ·rw [← join_toList,← join_toList,h]
theorem Cs (a b c : Str) : a ++ b ++ c = a ++ (b ++ c) := str_inj (by rw [C9,C9,C9,C9,List.append_assoc])
theorem join_cons (s x : Str) : ∀ {r : List Str},r ≠ [] → Str.join s (x :: r) = x ++ s ++ Str.join s r
 | [],h => absurd rfl h
 | y :: r,_ => rfl
theorem join_app (s : Str) : ∀ {xs ys : List Str},xs ≠ [] → ys ≠ [] → Str.join s (xs ++ ys) = Str.join s xs ++ s ++ Str.join s ys
 | [],_,h,_ => absurd rfl h
 | [x],ys,_,h => by rw [List.singleton_append,join_cons s x h]; rfl
 | x :: y :: r,ys,_,h => by
   rw [List.cons_append,join_cons s x (by simp),join_app s (xs := y :: r) (by simp) h,join_cons s x (r := y :: r) (by simp)]
   simp only [Cs]
theorem tjoin (s : Str) (xs : List Str) : Txt.join s xs = Str.join s xs := StrLaws.glued_eq_join _ _
def C1 : List (List Str) → List Str
 | [] => []
 | [s] => s
 | s :: t :: r => s ++ (";" : Str) :: C1 (t :: r)
theorem words_ne : ∀ {S : List (List Str)},S ≠ [] → (∀ s ∈ S,s ≠ []) → C1 S ≠ []
 | [],h,_ => absurd rfl h
 | [s],_,h => h s List.mem_cons_self
 | s :: t :: r,_,h => by
   show s ++ (";" : Str) :: C1 (t :: r) ≠ []
   simp
theorem sep3 : (" ; " : Str) = " " ++ (";" ++ " ") := str_inj (by decide +kernel)
theorem join_secs : ∀ {S : List (List Str)},(∀ s ∈ S,s ≠ []) → Txt.join " ; " (S.map (Txt.join " ")) = Txt.join " " (C1 S)
 | [],_ => rfl
 | [s],_ => by
   rw [tjoin]
   rfl
 | s :: t :: r,h => by
   have hs := h s List.mem_cons_self
   have ih := join_secs (S := t :: r) fun x hx => h x (List.mem_cons_of_mem _ hx)
   have wn := words_ne (S := t :: r) (by simp) fun x hx => h x (List.mem_cons_of_mem _ hx)
   rw [tjoin,tjoin] at ih
   rw [tjoin,tjoin,List.map_cons,join_cons _ _ (by simp),ih]
   show _ = Str.join " " (s ++ (";" : Str) :: C1 (t :: r))
   rw [join_app " " hs (by simp),join_cons " " (";" : Str) wn,tjoin,sep3]
   simp only [Cs]
def D8 (p : List (List Str) × List Str) (w : Str) : List (List Str) × List Str := if w = (";" : Str) then (p.1 ++ [p.2],[]) else (p.1,p.2 ++ [w])
def secsOf (ws : List Str) : List (List Str) := let p := ws.foldl D8 ([],[]); p.1 ++ [p.2]
theorem step_words : ∀ (s : List Str) (D : List (List Str)) (c : List Str),(∀ w ∈ s,w ≠ (";" : Str)) → s.foldl D8 (D,c) = (D,c ++ s)
 | [],D,c,_ => by simp
 | w :: s,D,c,h => by
   rw [List.foldl_cons,show D8 (D,c) w = (D,c ++ [w]) from if_neg (h w List.mem_cons_self),step_words s D (c ++ [w]) fun x hx => h x (List.mem_cons_of_mem _ hx)]
   simp
theorem secs_go : ∀ (S : List (List Str)) (s : List Str) (D : List (List Str)),(∀ x ∈ s :: S,∀ w ∈ x,w ≠ (";" : Str)) → (let p := (C1 (s :: S)).foldl D8 (D,[]); p.1 ++ [p.2]) = D ++ s :: S
 | [],s,D,h => by
   show (let p := s.foldl D8 (D,[]); p.1 ++ [p.2]) = _
   rw [step_words s D [] (h s List.mem_cons_self)]
   simp
 | t :: r,s,D,h => by
   show (let p := (s ++ (";" : Str) :: C1 (t :: r)).foldl D8 (D,[]); p.1 ++ [p.2]) = _
   rw [List.foldl_append,step_words s D [] (h s List.mem_cons_self),List.foldl_cons]
   rw [show D8 (D,[] ++ s) ";" = (D ++ [s],[]) from by unfold D8; rw [if_pos rfl]; simp]
   rw [secs_go r t (D ++ [s]) fun x hx => h x (List.mem_cons_of_mem _ hx)]
   simp
theorem secs_words {S : List (List Str)} (hne : S ≠ []) (h : ∀ s ∈ S,∀ w ∈ s,w ≠ (";" : Str)) : secsOf (C1 S) = S := by
 cases S with
 | nil => exact absurd rfl hne
 | cons s S =>
   have := secs_go S s [] h
   rw [List.nil_append] at this
   exact this
theorem mem_words : ∀ {S : List (List Str)} {w : Str},w ∈ C1 S → w = (";" : Str) ∨ ∃ s ∈ S,w ∈ s
 | [],w,h => by cases h
 | [s],w,h => .inr ⟨s,List.mem_cons_self,h⟩
 | s :: t :: r,w,h => by
   have h : w ∈ s ++ (";" : Str) :: C1 (t :: r) := h
   rcases List.mem_append.mp h with h | h
   ·exact .inr ⟨s,List.mem_cons_self,h⟩
   ·rcases List.mem_cons.mp h with h | h
    ·exact .inl h
    ·rcases mem_words h with h | ⟨x,hx,hw⟩
     ·exact .inl h
     ·exact .inr ⟨x,List.mem_cons_of_mem _ hx,hw⟩
def bitsN (m : Nat) : List Nat := (List.range 6).filter fun i => m.testBit i
theorem bits_eq : ∀ m : Fin 64,bitsL m.val = (bitsN m.val).map fun i : Nat => V.int i := by decide +kernel
theorem Cw {m i : Nat} : i ∈ bitsN m ↔ i < 6 ∧ m.testBit i = true := by
 unfold bitsN
 rw [List.mem_filter,List.mem_range]
theorem bit_lt {m n i : Nat} (h : m < 2 ^ n) (hb : m.testBit i = true) : i < n := by
 by_cases hi : i < n
 ·exact hi
 ·have : m < 2 ^ i := Nat.lt_of_lt_of_le h (Nat.pow_le_pow_right (by decide) (by omega))
  rw [Nat.testBit_lt_two_pow this] at hb
  cases hb
def pick (m : Nat) (names : List Str) : List Str := (bitsN m).map fun i => names.getD i Str.empty
theorem Er {names : List Str} {i : Nat} (h : i < names.length) : names.getD i Str.empty = names[i] := by simp [List.getD,h]
theorem pick_mem {m : Nat} {names : List Str} (h : m < 2 ^ names.length) {z : Str} (hz : z ∈ pick m names) : z ∈ names := by
 unfold pick at hz
 obtain ⟨i,hi,rfl⟩ := List.mem_map.mp hz
 have := bit_lt h (Cw.mp hi).2
 rw [Er this]
 exact List.getElem_mem this
theorem pick_nodup {m : Nat} {names : List Str} (h : m < 2 ^ names.length) (nd : names.Nodup) : (pick m names).Nodup := by
 unfold pick
 have hb : (bitsN m).Nodup := (List.nodup_range).filter _
 rw [List.Nodup,List.pairwise_map]
 refine List.Pairwise.imp_of_mem (fun {a b} ha hb' hab e => hab ?_) hb
 have la := bit_lt h (Cw.mp ha).2
 have lb := bit_lt h (Cw.mp hb').2
 rw [Er la,Er lb] at e
 exact (List.getElem_inj nd).mp e
theorem idx_at {names : List Str} (nd : names.Nodup) {i : Nat} (h : i < names.length) : names.idxOf names[i] = i := nd.idxOf_getElem i h
theorem mask_pick {m : Nat} {names ws : List Str} (h : m < 2 ^ names.length) (h6 : names.length ≤ 6) (nd : names.Nodup) (p : ws.Perm (pick m names)) : maskN (ws.map names.idxOf) = m := by
 refine maskN_mem fun i => ?_
 rw [(p.map names.idxOf).mem_iff]
 unfold pick
 rw [List.map_map,List.mem_map]
 constructor
 ·rintro ⟨j,hj,rfl⟩
  have lj := bit_lt h (Cw.mp hj).2
  show m.testBit (names.idxOf (names.getD j Str.empty)) = true
  rw [Er lj,idx_at nd lj]
  exact (Cw.mp hj).2
 ·intro hb
  have li := bit_lt h hb
  refine ⟨i,Cw.mpr ⟨by omega,hb⟩,?_⟩
  show names.idxOf (names.getD i Str.empty) = i
  rw [Er li,idx_at nd li]
end K15
namespace L2
open PySem PySem.Spec PyProof.Rows
theorem ix_seqK {X : Cx} (K : PySem.W.Frag) (hK : X.K = K := by rfl) : IxR X (rIx K) := by
 subst hK
 exact ix_seq
end L2
namespace K15
open PySem L2 PyProof.Rows
def SqS (K : PySem.W.Frag) (H : Hp) (p : Addr) (zs : List Str) : Prop := SqL K H p (zs.map V.str) ∨ SqT K H p (zs.map V.str)
theorem SqS.same {K : PySem.W.Frag} {H H' : Hp} {p : Addr} {zs : List Str} (h : SqS K H p zs) (s : Same H H') : SqS K H' p zs := h.imp s.seq s.tup
theorem SqS.of {K : PySem.W.Frag} {H : Hp} {p : Addr} {zs : List Str} (h : H p = some (.lst (zs.map V.str))) : SqS K H p zs := .inl (SqL.of h)
structure Few (zs : List Str) : Prop where
 n6 : zs.length ≤ 6
 sh : ∀ z ∈ zs,z.length ≤ 100
theorem sum_le : ∀ {zs : List Str} {k : Nat},(∀ z ∈ zs,z.length ≤ k) → (zs.map (·.length)).sum ≤ zs.length * k
 | [],k,_ => by simp
 | z :: zs,k,h => by
   rw [List.map_cons,List.sum_cons,List.length_cons]
   have := sum_le (zs := zs) fun x hx => h x (List.mem_cons_of_mem _ hx)
   have := h z List.mem_cons_self
   rw [Nat.add_mul]
   omega
theorem join_ok {zs : List Str} {s : Str} {k n : Nat} (h : ∀ z ∈ zs,z.length ≤ k) (hn : zs.length ≤ n) (hs : n * k + n * s.length ≤ 16777216) : (zs.map (·.length)).sum + zs.length * s.length ≤ 16777216 := by
 have h1 := sum_le h
 have h2 := Nat.mul_le_mul_right k hn
 have h3 := Nat.mul_le_mul_right s.length hn
 omega
theorem C7 (s : Str) (zs : List Str) : (Txt.join s zs).length ≤ (zs.map (·.length)).sum + zs.length * s.length := by
 rw [tjoin]
 exact StrLaws.join_length_le s zs
theorem bits_len (m : Nat) : (bitsN m).length ≤ 6 := by
 unfold bitsN
 have := List.length_filter_le (fun i => m.testBit i) (List.range 6)
 rw [List.length_range] at this
 exact this
theorem pick_len (m : Nat) (zs : List Str) : (pick m zs).length ≤ 6 := by
 unfold pick
 rw [List.length_map]
 exact bits_len m
theorem pick_sh {m : Nat} {zs : List Str} (f : Few zs) : ∀ z ∈ pick m zs,z.length ≤ 100 := fun z hz => by
 unfold pick at hz
 obtain ⟨i,_,rfl⟩ := List.mem_map.mp hz
 by_cases h : i < zs.length
 ·rw [Er h]
  exact f.sh _ (List.getElem_mem h)
 ·rw [show zs.getD i Str.empty = Str.empty by simp [List.getD,List.getElem?_eq_none (Nat.not_lt.mp h)]]
  exact Nat.zero_le _
theorem pick_get {m j i : Nat} {zs : List Str} (hi : (bitsN m)[j]? = some i) : (pick m zs)[j]? = some (zs.getD i Str.empty) := by
 unfold pick
 rw [List.getElem?_map,hi]
 rfl
def secT (hd : Str) (m : Nat) (zs : List Str) : Str := Txt.join " " (hd :: pick m zs)
theorem secT_len {hd : Str} {m : Nat} {zs : List Str} (f : Few zs) (h : hd.length ≤ 100) : (secT hd m zs).length ≤ 800 := by
 have h1 := C7 " " (hd :: pick m zs)
 have h2 := sum_le (zs := hd :: pick m zs) (k := 100) fun z hz => (List.mem_cons.mp hz).elim (fun e => e ▸ h) (pick_sh f z)
 have h3 := pick_len m zs
 have h4 : (" " : Str).length = 1 := rfl
 rw [List.length_cons,h4] at h1
 rw [List.length_cons] at h2
 have h5 : ((pick m zs).length + 1) * 100 ≤ 700 := by omega
 unfold secT
 omega
def spNS (K : PySem.W.Frag) : Sp := fun vs H Q _ => ∃ (hd : Str) (m : Nat) (p : Addr) (zs : List Str),vs = [.str hd,.int m,.ref p] ∧ hd.length ≤ 100 ∧ m < 64 ∧ m < 2 ^ zs.length ∧ Few zs ∧ SqS K H p zs ∧ ∀ H',Same H H' → Q (.str (secT hd m zs)) H'
section
variable {P : Program} {w : World} {K : PySem.W.Frag} {mg : Str → Option Value} {base : Heap} {cT cL cB : Addr} {J : Js}
abbrev Ci : Stmt := top 66
theorem scnamed_section : Ak ["head","mask","names"] ["head","mask","names"] (Ag Ci) := by trivial
theorem ok_ns (F_bits_of : FnAt P w K mg base "bits_of" 1 ["mask"] spBits) (F : Ai K mg "named_section" Ci ["head","mask","names"]) : FnAt P w K mg base "named_section" 2 ["head","mask","names"] (spNS K) := by
 refine F.at scnamed_section (fun vs H Q E h => ?_) (fun f cdv A outer s H vs Q E hr h => ?_)
 ·obtain ⟨hd,m,p,zs,rfl,_⟩ := h
  rfl
 ·obtain ⟨hd,m,p,zs,rfl,h1,h64,hm,few,hp,q⟩ := h
  refine ⟨_,(Ae (Aq (Bl PySem.F.plainAttrs_str PySem.F.slot_str_join PySem.F.type_str_join D2 Av (Aa (Ax op_cat (A5 (Aa (pv 0) Ac)) (Bs (sc := Ag Ci) (N0 := ["head","mask","names"]) (xs := ["place"]) (ys := ["names"]) (js := [2]) (by trivial) rfl (Bn (Ao F_bits_of hr (by decide) rfl (Aa (pv 1) Ac))) (fun _ _ _ _ => (As (i := 0) (show (["place","names"] : List Str).Nodup by decide +kernel) rfl (by trivial))) (fun _ _ _ _ => Cj) (fun _ _ _ _ => (Az (ix_seqK K) (pv 1) (pv 0) (fun _ _ => rfl))))) Ac)))),?_⟩
  refine ⟨rfl,_,rfl,(by show 1 ≤ sizeLine; decide),fun l0 hl0 => ?_⟩
  have s0 := Same.new (o := .lst [.str hd]) hl0
  have e0 : upd H l0 (.lst [.str hd]) l0 = some (.lst [.str hd]) := Ad
  generalize upd H l0 (.lst [.str hd]) = H0 at s0 e0 ⊢
  refine ⟨_,rfl,m,h64,rfl,fun l1 H1 s1 e1 => ?_⟩
  rw [bits_eq ⟨m,h64⟩] at e1
  have S1 := s0.trans s1
  refine ⟨l1,rfl,⟨_,SqL.of e1⟩,Bj (K := K) (a := l1) (xs := (bitsN m).map fun i : Nat => V.int i) (fun j us H' => us = ((pick m zs).take j).map V.str ∧ H' = H1) ⟨rfl,rfl⟩ (by rw [List.length_map,sizeLine_eq]; have := bits_len m; omega) ?_ ?_ ?_ ?_⟩
  ·rintro j us H' ⟨rfl,_⟩
   rw [List.length_map,List.length_take]; omega
  ·rintro j us H' _ ⟨_,rfl⟩
   exact SqL.of e1
  ·rintro j x us H' hx ⟨rfl,rfl⟩
   rw [List.getElem?_map] at hx
   obtain ⟨i,hi,rfl⟩ := Option.map_eq_some_iff.mp hx
   have hil := bit_lt hm (Cw.mp (List.mem_of_getElem? hi)).2
   have ha : atI (zs.map V.str) (i : Int) = some (V.str zs[i]) := atI_nat (by rw [List.getElem?_map,List.getElem?_eq_getElem hil]; rfl)
   have fin : ((pick m zs).take j).map V.str ++ [V.str zs[i]] = ((pick m zs).take (j + 1)).map V.str := by
    obtain ⟨hj,hje⟩ := List.getElem?_eq_some_iff.mp (pick_get (zs := zs) hi)
    rw [List.take_succ_eq_append_getElem hj,List.map_append,hje,Er hil]
    rfl
   have hp1 := hp.same S1
   refine ⟨_,rfl,_,rfl,?_⟩
   rcases hp1 with h | h
   ·exact .inl ⟨p,_,_,_,rfl,rfl,h,ha,fin,rfl⟩
   ·exact .inr (.inl ⟨p,_,_,_,rfl,rfl,h,ha,fin,rfl⟩)
  ·rintro us H' ⟨rfl,rfl⟩ l2 hl2
   have hlen : (bitsN m).length = (pick m zs).length := by unfold pick; rw [List.length_map]
   rw [List.length_map,hlen,List.take_length]
   have s2 := Same.new (o := .lst ((pick m zs).map V.str)) hl2
   have e2 : upd H' l2 (.lst ((pick m zs).map V.str)) l2 = some (.lst ((pick m zs).map V.str)) := Ad
   generalize upd H' l2 (.lst ((pick m zs).map V.str)) = H2 at s2 e2 ⊢
   have pl := pick_len m zs
   refine ⟨l0,l2,_,_,rfl,rfl,s2 _ _ (s1 _ _ e0),e2,(by rw [List.length_map,sizeLine_eq]; show 1 + _ ≤ _; omega),fun l3 hl3 => ?_⟩
   have e3 : upd H2 l3 (.lst ([V.str hd] ++ (pick m zs).map V.str)) l3 = some (.lst ((hd :: pick m zs).map V.str)) := Ad
   have s3 := Same.new (o := .lst ([V.str hd] ++ (pick m zs).map V.str)) hl3
   generalize upd H2 l3 (.lst ([V.str hd] ++ (pick m zs).map V.str)) = H3 at s3 e3 ⊢
   refine ⟨" ",l3,hd :: pick m zs,rfl,rfl,SqL.of e3,join_ok (k := 100) (n := 7) (fun z hz => (List.mem_cons.mp hz).elim (fun e => e ▸ h1) (pick_sh few z)) (by rw [List.length_cons]; omega) (by decide),q _ ((S1.trans s2).trans s3)⟩
end
end K15
namespace L2
open PySem PySem.Spec PyProof.Rows
theorem for_zipG {K : PySem.W.Frag} {b1 b2 : Bool} {a b : Addr} {xs ys : List V} {g : TG} {tb : TS} {D : Ends} {σ : St} {H : Hp} (Pv : Nat → St → Hp → Prop) (h0 : Pv 0 σ H) (hxy : xs.length = ys.length) (hl : ∀ i σ H,i ≤ xs.length → Pv i σ H → SqB K H b1 a xs ∧ SqB K H b2 b ys)
 (hs : ∀ i x y p σ H,xs[i]? = some x → ys[i]? = some y → Pv i σ H → H p = none → g (.ref p) σ (upd H p (.tup [x,y])) fun σ2 H2 => tb { D with nx := Pv (i + 1),ct := Pv (i + 1),bk := D.nx } σ2 H2) (hd : ∀ σ H,Pv xs.length σ H → D.nx σ H) :
 ∃ W : Nat → Nat → St → Hp → Prop,(∃ m,W 0 m σ H) ∧ ∀ i m σ H,W i m σ H →
  ((Itg K b1 b2 a b).stop i H ∧ D.nx σ H) ∨ ((Itg K b1 b2 a b).go i H ∧ ∃ N : St → Hp → Prop,(∀ σ' H',N σ' H' → ∃ m',m' < m ∧ W (i + 1) m' σ' H') ∧ ∀ x H',(Itg K b1 b2 a b).yld i H x H' → g x σ H' fun σ2 H2 => tb { D with nx := N,ct := N,bk := D.nx } σ2 H2) := by
 refine ⟨fun i m σ H => m = xs.length - i ∧ i ≤ xs.length ∧ Pv i σ H,⟨xs.length,by simp,Nat.zero_le _,h0⟩,?_⟩
 rintro i m σ H ⟨rfl,hi,p⟩
 obtain ⟨q1,q2⟩ := hl i σ H hi p
 by_cases hlt : i < xs.length
 ·have hlt2 : i < ys.length := by omega
  refine .inr ⟨⟨xs,ys,xs[i],ys[i],q1,q2,by simp [hlt],by simp [hlt2]⟩,Pv (i + 1),fun σ' H' p' => ⟨xs.length - (i + 1),by omega,rfl,hlt,p'⟩,fun v H' y => ?_⟩
  obtain ⟨c,x,y,rfl,hn,ex,ey,rfl⟩ := y
  exact hs i x y c σ _ (ex xs q1) (ey ys q2) p hn
 ·have e : i = xs.length := by omega
  subst e
  exact .inl ⟨⟨xs,ys,q1,q2,.inl (Nat.le_refl _)⟩,hd σ H p⟩
end L2
namespace K15
open PySem L2 PyProof.Rows
def deeds : List Str := ["use","give","join","change","sell"]
theorem few_deeds : Few deeds := ⟨by decide,by decide +kernel⟩
def FrzT (K : PySem.W.Frag) (p : Addr) : Prop := ∃ o,K.lookup p = some o ∧ o.cls = .type "tuple" ∧ o.dict = none
structure DeedK (K : PySem.W.Frag) (mg : Str → Option Value) (ad : Addr) : Prop where
 m : mg "DEED_WORDS" = some (.ref ad)
 t : ∀ H,SqT K H ad (deeds.map V.str)
 z : FrzT K ad
theorem word_len {z : Str} (h : Ay z = true) : z.length ≤ 8 := by
 unfold Ay at h
 simp only [Bool.and_eq_true,decide_eq_true_eq] at h
 omega
theorem few_words {zs : List Str} (h : ∀ z ∈ zs,Ay z = true) (h6 : zs.length ≤ 6) : Few zs := ⟨h6,fun z hz => by have := word_len (h z hz); omega⟩
def less (a b : Nat) : Nat := a &&& (63 ^^^ b)
theorem less_eq : ∀ a b : Fin 64,Builtin.bitAnd (a.val : Int) (Builtin.bitNot (b.val : Int)) = ((less a.val b.val : Nat) : Int) := by decide +kernel
theorem less_lt {a b n : Nat} (h : a < 2 ^ n) : less a b < 2 ^ n := Nat.lt_of_le_of_lt Nat.and_le_left h
theorem bey_le : ∀ a b : Fin 64,Bu a.val b.val = .non → a.val ≤ b.val := by decide +kernel
def terT (r : Row) (z1 : List Str) : List Str := [secT "lets" r.le deeds,secT "strings" r.st z1,secT "bars" r.ba z1,"reach " ++ nm r.re]
def askT (r : Row) (z2 : List Str) : List Str := [secT (nm 0) (less r.a0 0) z2,secT (nm 1) (less r.a1 r.a0) z2,secT (nm 2) (less r.a2 r.a1) z2,secT (nm 3) (less r.a3 r.a2) z2]
def spTS (cL cB : Addr) : Sp := fun vs H Q _ => ∃ (pb pl : Addr) (z1 z2 : List Str) (ys : List Addr) (rs : List Row) (r : Row),vs = [.ref pb,.ref pl] ∧ Ck cL cB H pb z1 z2 ys rs ∧ LAt cL H pl r ∧ r.Good ∧ r.Fits z1.length z2.length ∧ Few z1 ∧ ∀ (l : Addr) (H' : Hp),Same H H' → H l = none → H' l = some (.lst ((terT r z1).map V.str)) → Q (.ref l) H'
def spAS (cL cB : Addr) : Sp := fun vs H Q _ => ∃ (pb pa : Addr) (z1 z2 : List Str) (ys : List Addr) (rs : List Row) (r : Row),vs = [.ref pb,.ref pa] ∧ Ck cL cB H pb z1 z2 ys rs ∧ H pa = some (.tup r.asks) ∧ r.Good ∧ r.Fits z1.length z2.length ∧ Few z2 ∧ ∀ (l : Addr) (H' : Hp),Same H H' → H l = none → H' l = some (.lst ((askT r z2).map V.str)) → Q (.ref l) H'
section
variable {P : Program} {w : World} {K : PySem.W.Frag} {mg : Str → Option Value} {base : Heap} {cT cL cB ad : Addr} {J : Js}
theorem sn_in {H : Hp} {p : Addr} {z1 z2 : List Str} {ys : List Addr} {rs : List Row} {Q : VK} (hB : Ck cL cB H p z1 z2 ys rs) (q : ∀ (l : Addr) (H' : Hp),Same H H' → H l = none → H' l = some (.lst (z1.map V.str)) → Q (.ref l) H') :
 ∃ a C dx fs sp,V.ref p = .ref a ∧ H a = some (.ins C dx fs) ∧ fs.lookup ("string_names" : Str) = none ∧ DSN cL cB C sp ∧ sp [V.ref p] H Q E0 := by
 have hB0 := hB
 obtain ⟨⟨dx,ls,ld,dk,ob,h1,h2,h3,h4⟩,hL,nd,le⟩ := hB
 exact ⟨p,cB,dx,_,spSN cL cB,rfl,h1,bF_no (by decide +kernel),⟨rfl,rfl⟩,p,z1,z2,ys,rs,rfl,hB0,q⟩
theorem dn_in {H : Hp} {p : Addr} {z1 z2 : List Str} {ys : List Addr} {rs : List Row} {Q : VK} (hB : Ck cL cB H p z1 z2 ys rs) (q : ∀ (l : Addr) (H' : Hp),Same H H' → H l = none → H' l = some (.lst (z2.map V.str)) → Q (.ref l) H') :
 ∃ a C dx fs sp,V.ref p = .ref a ∧ H a = some (.ins C dx fs) ∧ fs.lookup ("duty_names" : Str) = none ∧ DDN cL cB C sp ∧ sp [V.ref p] H Q E0 := by
 have hB0 := hB
 obtain ⟨⟨dx,ls,ld,dk,ob,h1,h2,h3,h4⟩,hL,nd,le⟩ := hB
 exact ⟨p,cB,dx,_,spDN cL cB,rfl,h1,bF_no (by decide +kernel),⟨rfl,rfl⟩,p,z1,z2,ys,rs,rfl,hB0,q⟩
theorem ak_in {H : Hp} {p : Addr} {z1 z2 : List Str} {ys : List Addr} {rs : List Row} {Q : VK} (hB : Ck cL cB H p z1 z2 ys rs) (q : ∀ (l : Addr) (ps : List Addr) (H' : Hp),Same H H' → H l = none → H' l = some (.lst (ps.map V.ref)) → KeysOf H' ps rs → Q (.ref l) H') :
 ∃ a C dx fs sp,V.ref p = .ref a ∧ H a = some (.ins C dx fs) ∧ fs.lookup ("all_keys" : Str) = none ∧ DAK cL cB C sp ∧ sp [V.ref p] H Q E0 := by
 have hB0 := hB
 obtain ⟨⟨dx,ls,ld,dk,ob,h1,h2,h3,h4⟩,hL,nd,le⟩ := hB
 exact ⟨p,cB,dx,_,spAK cL cB,rfl,h1,bF_no (by decide +kernel),⟨rfl,rfl⟩,p,z1,z2,ys,rs,rfl,hB0,q⟩
abbrev Ct : Stmt := top 67
theorem Dk : Ak ["book","terms","strings","reach"] ["book","terms"] (Ag Ct) := by trivial
theorem ok_ts (D : DeedK K mg ad) (lc : LCls K cL) (F_ns : FnAt P w K mg base "named_section" 2 ["head","mask","names"] (spNS K)) (F_jw : FnAt P w K mg base "join_words" 2 [] spJW) (MSN : ∀ C sp,DSN cL cB C sp → D7 P w K mg base CX0 1 C "string_names" ["self"] sp) (F : Ai K mg "terms_sections" Ct ["book","terms"]) :
 FnAt P w K mg base "terms_sections" 3 ["book","terms"] (spTS cL cB) := by
 refine F.at Dk (fun vs H Q E h => ?_) (fun f cdv A outer s H vs Q E hr h => ?_)
 ·obtain ⟨pb,pl,z1,z2,ys,rs,r,rfl,_⟩ := h
  rfl
 ·obtain ⟨pb,pl,z1,z2,ys,rs,r,rfl,hB,⟨dx,pk,pa,hp,hk,ha⟩,g,ft,few,q⟩ := h
  refine ⟨_,(Ab (Al (i := 2) Dk.nd rfl (by trivial) (Cm (D := DSN cL cB) (pv 0) MSN (hr.mono (by decide)) En))
   (Ab (Al (i := 3) Dk.nd rfl (by trivial) (Az At (pe_fn0 F_jw hr (by decide) rfl) (Bf (pv 1) rfl) (fun _ _ => rfl)))
   (Ae (Aq (A5 (Aa (Ao F_ns hr (by decide) rfl (Aa Av (Aa (Bf (pv 1) rfl) (Aa (pe_glob (v := .ref ad) rfl D.m rfl) Ac)))) (Aa (Ao F_ns hr (by decide) rfl (Aa Av (Aa (Bf (pv 1) rfl) (Aa (pv 2) Ac)))) (Aa (Ao F_ns hr (by decide) rfl (Aa Av (Aa (Bf (pv 1) rfl) (Aa (pv 2) Ac)))) (Aa (pe_f1 (pv 3)) Ac))))))))),?_⟩
  have g4 := g.h4
  refine ⟨_,rfl,sn_in hB fun l0 H0 s0 _ e0 => ?_⟩
  refine ⟨rfl,fun l1 H1 s1 _ e1 => ?_⟩
  have S1 := s0.trans s1
  have e0 := s1 _ _ e0
  have hre : r.re < 4 := Nat.lt_succ_of_le g4.hre
  have hat : atI (JW.map V.str) (r.re : Int) = some (V.str (nm r.re)) := by
   rcases j4 hre with e | e | e | e <;> rw [e] <;> rfl
  refine ⟨_,rfl,pl,cL,dx,_,_,rfl,S1 _ _ hp,lc.cl,lc.reach,vt_reach,l1,_,_,V.str (nm r.re),rfl,rfl,SqL.of e1,hat,?_⟩
  refine ⟨_,rfl,pl,cL,dx,_,_,rfl,S1 _ _ hp,lc.cl,lc.lets,vt_lets,"lets",r.le,ad,deeds,rfl,(by decide),(by have := g4.hle; omega),g4.hle,few_deeds,.inr (D.t _),fun H2 s2 => ?_⟩
  have S2 := S1.trans s2
  refine ⟨_,rfl,pl,cL,dx,_,_,rfl,S2 _ _ hp,lc.cl,lc.strings,vt_strings,_,rfl,"strings",r.st,l0,z1,rfl,(by decide),g4.hst,ft.st,few,.of (s2 _ _ e0),fun H3 s3 => ?_⟩
  have S3 := S2.trans s3
  refine ⟨_,rfl,pl,cL,dx,_,_,rfl,S3 _ _ hp,lc.cl,lc.bars,vt_bars,_,rfl,"bars",r.ba,l0,z1,rfl,(by decide),g4.hba,ft.ba,few,.of (s3 _ _ (s2 _ _ e0)),fun H4 s4 => ?_⟩
  have hnl : ("reach " ++ nm r.re : Str).length ≤ sizeLine := by
   rcases j4 hre with e | e | e | e <;> rw [e] <;> decide +kernel
  refine ⟨(by decide),_,rfl,nm r.re,rfl,hnl,(by show 4 ≤ sizeLine; decide),fun l5 hl5 => ?_⟩
  have S4 := S3.trans s4
  exact q l5 _ (S4.trans (Same.new hl5)) (S4.free hl5) Ad
abbrev Db : Stmt := top 68
theorem Br : Ak ["book","asks","sections","asked","word","mask"] ["book","asks"] (Ag Db) := by trivial
def Row.a (r : Row) : Nat → Nat
 | 0 => r.a0
 | 1 => r.a1
 | 2 => r.a2
 | _ => r.a3
def Row.aP (r : Row) : Nat → Nat
 | 0 => 0
 | n + 1 => r.a n
theorem a_le {r : Row} (h : Asks r.a0 r.a1 r.a2 r.a3) (i : Nat) : r.a i ≤ r.a3 := by
 have h01 : r.a0 ≤ r.a1 := bey_le ⟨_,h.l0⟩ ⟨_,h.l1⟩ h.b0
 have h12 : r.a1 ≤ r.a2 := bey_le ⟨_,h.l1⟩ ⟨_,h.l2⟩ h.b1
 have h23 : r.a2 ≤ r.a3 := bey_le ⟨_,h.l2⟩ ⟨_,h.l3⟩ h.b2
 match i with
 | 0 => show r.a0 ≤ r.a3; omega
 | 1 => show r.a1 ≤ r.a3; omega
 | 2 => exact h23
 | _ + 3 => exact Nat.le_refl _
theorem ok_as (T : Txt mg) (F_ns : FnAt P w K mg base "named_section" 2 ["head","mask","names"] (spNS K)) (F_jw : FnAt P w K mg base "join_words" 2 [] spJW) (MDN : ∀ C sp,DDN cL cB C sp → D7 P w K mg base CX0 1 C "duty_names" ["self"] sp) (F : Ai K mg "asks_sections" Db ["book","asks"]) :
 FnAt P w K mg base "asks_sections" 3 ["book","asks"] (spAS cL cB) := by
 refine F.at Br (fun vs H Q E h => ?_) (fun f cdv A outer s H vs Q E hr h => ?_)
 ·obtain ⟨pb,pa,z1,z2,ys,rs,r,rfl,_⟩ := h
  rfl
 ·obtain ⟨pb,pa,z1,z2,ys,rs,r,rfl,hB,ha,g,ft,few,q⟩ := h
  refine ⟨_,(Ab (Al (i := 2) Br.nd rfl (by trivial) (A5 Ac))
   (Ab (Al (i := 3) Br.nd rfl (by trivial) Af)
   (Ab (Dg PassesOwn.never rfl (pi_zipG rfl T.n_zip (Aa (pe_fn0 F_jw hr (by decide) rfl) (Aa (pv 1) Ac))) (pg_tup rfl (A6 (As (i := 4) Br.nd rfl (by trivial)) (A6 (As (i := 5) Br.nd rfl (by trivial)) pgs_nil)))
     (Ab (A3 (Bl PySem.F.plainAttrs_list PySem.F.slot_list_append PySem.F.type_list_append A2 (pv 2) (Aa (Ao F_ns hr (by decide) rfl (Aa (pv 4) (Aa (Ax op_and (pv 5) (pe_un un_inv (pv 3))) (Aa (Cm (D := DDN cL cB) (pv 0) MDN (hr.mono (by decide)) En) Ac)))) Ac)))
     (Ae (Al (i := 3) Br.nd rfl (by trivial) (pv 5)))))
   (Ae (Aq (pv 2)))))),?_⟩
  refine ⟨(by show 0 ≤ sizeLine; decide),fun l0 hl0 => ?_⟩
  have s0 := Same.new (o := .lst []) hl0
  have e0 : upd H l0 (.lst []) l0 = some (.lst []) := Ad
  generalize upd H l0 (.lst []) = H0 at s0 e0 ⊢
  refine ⟨rfl,fun l1 H1 s1 hl1 e1 => ?_⟩
  have S1 := s0.trans s1
  have e01 := s1 _ _ e0
  have n01 : l0 ≠ l1 := Ah e0 hl1
  have n0a : pa ≠ l0 := Ah ha hl0
  have hA : ∀ i v,r.asks[i]? = some v → i < 4 ∧ v = V.int (r.a i : Nat) := fun i v e => by
   match i,e with
   | 0,e => cases e; exact ⟨by decide,rfl⟩
   | 1,e => cases e; exact ⟨by decide,rfl⟩
   | 2,e => cases e; exact ⟨by decide,rfl⟩
   | 3,e => cases e; exact ⟨by decide,rfl⟩
   | n + 4,e => simp at e
  have l64 : ∀ i,r.a i < 64 := fun i => by
   have := g.ha.l0
   have := g.ha.l1
   have := g.ha.l2
   have := g.ha.l3
   match i with
   | 0 => exact g.ha.l0
   | 1 => exact g.ha.l1
   | 2 => exact g.ha.l2
   | _ + 3 => exact g.ha.l3
  refine ⟨_,rfl,false,true,l1,pa,rfl,⟨_,SqL.of e1⟩,⟨_,SqT.of (S1 _ _ ha)⟩,for_zipG (K := K) (b1 := false) (b2 := true) (a := l1) (b := pa) (xs := JW.map V.str) (ys := r.asks) (fun i σ H' => ∃ v4 v5 : Option V,σ = [some (.ref pb),some (.ref pa),some (.ref l0),some (.int (r.aP i : Nat)),v4,v5] ∧ Same H H' ∧ H' l1 = some (.lst (JW.map V.str)) ∧ H' l0 = some (.lst (((askT r z2).take i).map V.str)))
   ⟨_,_,rfl,S1,e1,e01⟩ rfl (fun i σ H' _ h => ?_) ?_ ?_⟩
  ·obtain ⟨_,_,_,s',e1',_⟩ := h
   exact ⟨SqL.of e1',SqT.of (s' _ _ ha)⟩
  ·rintro i x y p σ H' hx hy ⟨v4,v5,rfl,s',e1',e0'⟩ hp
   obtain ⟨h4,rfl⟩ := hA i y hy
   have hx' : x = V.str (nm i) := by
    rcases j4 h4 with e | e | e | e <;> (subst e; cases hx; rfl)
   subst hx'
   refine ⟨p,_,rfl,SqT.of Ad,rfl,_,_,rfl,_,_,rfl,rfl,?_⟩
   have sp' := Same.new (o := .tup [.str (nm i),.int (r.a i : Nat)]) hp
   have t2 := s'.trans sp'
   have e1' := sp' _ _ e1'
   have e0' := sp' _ _ e0'
   generalize upd H' p (.tup [.str (nm i),.int (r.a i : Nat)]) = H2 at sp' t2 e1' e0' ⊢
   have p64 : r.aP i < 64 := by
    cases i with
    | zero => show 0 < 64; decide
    | succ n => exact l64 n
   refine ⟨_,rfl,.inl ⟨rfl,_,SqL.of e0'⟩,_,rfl,_,rfl,_,rfl,_,rfl,_,_,rfl,rfl,_,rfl,dn_in (hB.same t2) fun l3 H3 s3 hl3 e3 => ?_⟩
   have hai : r.a i < 2 ^ z2.length := Nat.lt_of_le_of_lt (a_le g.ha i) ft.a3
   refine ⟨nm i,less (r.a i) (r.aP i),l3,z2,?_,?_,?_,less_lt hai,few,.of e3,fun H4 s4 => ?_⟩
   ·show [V.str (nm i),V.int (Builtin.bitAnd ((r.a i : Nat) : Int) (Builtin.bitNot ((r.aP i : Nat) : Int))),V.ref l3] = _
    rw [less_eq ⟨r.a i,l64 i⟩ ⟨r.aP i,p64⟩]
   ·rcases j4 h4 with e | e | e | e <;> rw [e] <;> decide +kernel
   ·exact less_lt (n := 6) (l64 i)
   ·have S4 := (t2.trans s3).trans s4
    have e04 := s4 _ _ (s3 _ _ e0')
    have e14 := s4 _ _ (s3 _ _ e1')
    have hlt : ((askT r z2).take i).length < 5 := by
     rw [List.length_take]
     show min i 4 < 5
     omega
    refine ⟨l0,_,_,rfl,rfl,e04,(by rw [List.length_map,sizeLine_eq]; omega),_,rfl,?_⟩
    refine ⟨some (V.str (nm i)),some (V.int (r.a i : Nat)),rfl,?_,?_,?_⟩
    ·intro b o e
     rw [upd_ne (Ah e hl0)]
     exact S4 _ _ e
    ·rw [upd_ne n01.symm]
     exact e14
    ·rw [Ad]
     rcases j4 h4 with e | e | e | e <;> (subst e; rfl)
  ·rintro σ H' ⟨v4,v5,rfl,s',e1',e0'⟩
   exact ⟨_,rfl,q l0 _ s' hl0 e0'⟩
end
def isFig (c : Nat) : Bool := decide (48 ≤ c ∧ c ≤ 57)
def nT (n : Nat) : Str := Str.ofString (toString (n : Int))
def figOk (n : Nat) : Bool := decide (1 ≤ (nT n).length ∧ (nT n).length ≤ 4) && !(decide ((nT n).cps.getD 0 0 = 48) && decide (1 < (nT n).length)) && (nT n).cps.toList.all isFig
theorem fig_all : ∀ a b : Fin 100,figOk (100 * a.val + b.val) = true := by decide +kernel
theorem fig_ok {n : Nat} (h : n < 10000) : figOk n = true := by
 have := fig_all ⟨n / 100,by omega⟩ ⟨n % 100,by omega⟩
 have e : 100 * (n / 100) + n % 100 = n := by omega
 simp only [e] at this
 exact this
theorem fig_len {n : Nat} (h : n < 10000) : (nT n).length ≤ 4 := by
 have := fig_ok h
 unfold figOk at this
 simp only [Bool.and_eq_true,decide_eq_true_eq] at this
 exact this.1.1.2
def Bp (a : Str) (n : Int) : Str := a ++ Str.ofString "." ++ Str.ofString (toString n)
theorem small_text : ∀ n : Fin 100,(Str.ofString (toString (n.val : Int))).length ≤ 2 := by decide +kernel
theorem text_len {a : Str} {n : Int} (ha : Ay a = true) (h0 : 0 ≤ n) (h1 : n < 100) : (Bp a n).length ≤ 11 := by
 unfold Bp
 rw [B9,B9]
 have e : (Str.ofString ".").length = 1 := by decide +kernel
 have := small_text ⟨n.toNat,by omega⟩
 have e2 : ((n.toNat : Nat) : Int) = n := by omega
 simp only [e2] at this
 unfold Ay at ha
 simp only [Bool.and_eq_true,decide_eq_true_eq] at ha
 omega
theorem Ez {n : Int} (h0 : 0 ≤ n) (h1 : n < 10000) : n.natAbs.log2 < 1920 := by
 have : n.natAbs < 2 ^ 14 := by omega
 by_cases hz : n.natAbs = 0
 ·rw [hz]; decide
 ·have := (Nat.log2_lt hz).mpr this
  omega
section
variable {P : Program} {w : World} {K : PySem.W.Frag} {mg : Str → Option Value} {base : Heap} {cT cL cB ad : Addr} {J : Js}
abbrev skey_text : Stmt := top 26
theorem sckey_text : Ak ["key","word","number"] ["key"] (Ag skey_text) := by trivial
def spKeyText (K : PySem.W.Frag) : Sp := fun vs H Q _ => ∃ t a n,vs = [.ref t] ∧ SqT K H t [.str a,.int n] ∧ Ay a = true ∧ 0 ≤ n ∧ n < 100 ∧ Q (.str (Bp a n)) H
theorem ok_key_text (F : Ai K mg "key_text" skey_text ["key"]) : FnAt P w K mg base "key_text" 1 ["key"] (spKeyText K) := by
 refine F.at sckey_text (fun vs H Q E h => ?_) (fun f cdv A outer s H vs Q E hr h => ?_)
 ·obtain ⟨t,a,n,rfl,_⟩ := h
  rfl
 ·obtain ⟨t,a,n,rfl,ht,ha,h0,h1,q⟩ := h
  refine ⟨_,(Ab (Al (i := 1) sckey_text.nd rfl (by trivial) (Az Bt (pv 0) Af (fun _ _ => rfl)))
   (Ab (Al (i := 2) sckey_text.nd rfl (by trivial) (Az Bt (pv 0) Af (fun _ _ => rfl)))
   (Ae (Aq (pe_f3 (pv 1) (pv 2)))))),?_⟩
  have hs : sizeLine = 16777216 := sizeLine_eq
  have tl := text_len ha h0 h1
  have al : a.length ≤ 8 := by
   unfold Ay at ha
   simp only [Bool.and_eq_true,decide_eq_true_eq] at ha
   exact ha.1.2
  refine ⟨_,rfl,t,_,_,V.str a,rfl,rfl,ht,rfl,?_⟩
  refine ⟨_,rfl,t,_,_,V.int n,rfl,rfl,ht,rfl,?_⟩
  exact ⟨_,rfl,a,rfl,(by have e : (Str.ofString ".").length = 1 := by decide +kernel
                         omega),_,rfl,n,rfl,Ez h0 (by omega),(by show (Bp a n).length ≤ _; omega),q⟩
def Cp (b : Bool) : Str := if b then "same" else "free"
def lastT (b : Bool) : Str := if b then "lasting" else "ends"
def daysT (r : Row) : Str := "from " ++ nT r.fi ++ " to " ++ nT r.la
def rowT (r : Row) (z1 z2 : List Str) : List Str := ["licence " ++ Bp r.w r.n] ++ terT r z1 ++ [Cp r.sa] ++ askT r z2 ++ [daysT r] ++ [lastT r.lg]
def spLR (cL cB : Addr) : Sp := fun vs H Q _ => ∃ (pb pl : Addr) (z1 z2 : List Str) (ys : List Addr) (rs : List Row) (r : Row),vs = [.ref pb,.ref pl] ∧ Ck cL cB H pb z1 z2 ys rs ∧ LAt cL H pl r ∧ r.Good ∧ r.Fits z1.length z2.length ∧ Few z1 ∧ Few z2 ∧ ∀ H' : Hp,Same H H' → Q (.str (Txt.join " ; " (rowT r z1 z2))) H'
theorem row_len {r : Row} {z1 z2 : List Str} (g : r.Good) (f1 : Few z1) (f2 : Few z2) : ∀ z ∈ rowT r z1 z2,z.length ≤ 800 := by
 have hn : ∀ j,(nm j).length ≤ 100 := fun j => by
  match j with
  | 0 => decide +kernel
  | 1 => decide +kernel
  | 2 => decide +kernel
  | n + 3 => show ("changed" : Str).length ≤ 100; decide +kernel
 have ht := text_len g.hw (n := r.n) (by omega) (by have := g.hn; omega)
 have hf := fig_len (n := r.fi) (by have := g.hf; have := g.hl; omega)
 have hl := fig_len (n := r.la) (by have := g.hl; omega)
 have s1 : (Cp r.sa).length ≤ 800 := by cases r.sa <;> decide +kernel
 have s2 : (lastT r.lg).length ≤ 800 := by cases r.lg <;> decide +kernel
 have s3 : (daysT r).length ≤ 800 := by
  unfold daysT
  have e1 : ("from " : Str).length = 5 := by decide +kernel
  have e2 : (" to " : Str).length = 4 := by decide +kernel
  rw [B9,B9,B9]
  omega
 have s4 : ("licence " ++ Bp r.w r.n : Str).length ≤ 800 := by
  have e1 : ("licence " : Str).length = 8 := by decide +kernel
  rw [B9]
  omega
 have s5 : ("reach " ++ nm r.re : Str).length ≤ 800 := by
  have e1 : ("reach " : Str).length = 6 := by decide +kernel
  have := hn r.re
  rw [B9]
  omega
 intro z hz
 unfold rowT terT askT at hz
 simp only [List.cons_append,List.nil_append,List.mem_cons,List.not_mem_nil,or_false] at hz
 rcases hz with rfl | rfl | rfl | rfl | rfl | rfl | rfl | rfl | rfl | rfl | rfl | rfl
 ·exact s4
 ·exact secT_len few_deeds (by decide +kernel)
 ·exact secT_len f1 (by decide +kernel)
 ·exact secT_len f1 (by decide +kernel)
 ·exact s5
 ·exact s1
 ·exact secT_len f2 (hn 0)
 ·exact secT_len f2 (hn 1)
 ·exact secT_len f2 (hn 2)
 ·exact secT_len f2 (hn 3)
 ·exact s3
 ·exact s2
theorem iteStr {b : Bool} {x y : Str} {σ : L2.St} {Q : VK} {H : Hp} (h : Q (.str (if b then x else y)) H) : if b = true then tC (.str x) σ H Q else tC (.str y) σ H Q := by cases b <;> exact h
abbrev Eb : Stmt := top 69
theorem Cu : Ak ["book","licence","key","first","last","sections"] ["book","licence"] (Ag Eb) := by trivial
theorem ok_lr (lc : LCls K cL) (F_kt : FnAt P w K mg base "key_text" 1 ["key"] (spKeyText K)) (F_ts : FnAt P w K mg base "terms_sections" 3 ["book","terms"] (spTS cL cB)) (F_as : FnAt P w K mg base "asks_sections" 3 ["book","asks"] (spAS cL cB)) (F : Ai K mg "licence_row" Eb ["book","licence"]) :
 FnAt P w K mg base "licence_row" 4 ["book","licence"] (spLR cL cB) := by
 refine F.at Cu (fun vs H Q E h => ?_) (fun f cdv A outer s H vs Q E hr h => ?_)
 ·obtain ⟨pb,pl,z1,z2,ys,rs,r,rfl,_⟩ := h
  rfl
 ·obtain ⟨pb,pl,z1,z2,ys,rs,r,rfl,hB,hL,g,ft,f1,f2,q⟩ := h
  have hL0 := hL
  obtain ⟨dx,pk,pa,hp,hk,ha⟩ := hL
  refine ⟨_,(Ab (Al (i := 2) Cu.nd rfl (by trivial) (Ao F_kt hr (by decide) rfl (Aa (Bf (pv 1) rfl) Ac)))
   (Ab (Al (i := 3) Cu.nd rfl (by trivial) (Bf (pv 1) rfl))
   (Ab (Al (i := 4) Cu.nd rfl (by trivial) (Bf (pv 1) rfl))
   (Ab (Al (i := 5) Cu.nd rfl (by trivial) (Ax op_cat (A5 (Aa (pe_f1 (pv 2)) Ac)) (Ao F_ts hr (by decide) rfl (Aa (pv 0) (Aa (pv 1) Ac)))))
   (Ab (A3 (Bl PySem.F.plainAttrs_list PySem.F.slot_list_append PySem.F.type_list_append A2 (pv 5) (Aa (pe_ifExp (A8 (Bf (pv 1) rfl)) Av Av) Ac)))
   (Ab (A3 (Bl PySem.F.plainAttrs_list PySem.F.slot_list_extend PySem.F.type_list_extend mt_extend (pv 5) (Aa (Ao F_as hr (by decide) rfl (Aa (pv 0) (Aa (Bf (pv 1) rfl) Ac))) Ac)))
   (Ab (A3 (Bl PySem.F.plainAttrs_list PySem.F.slot_list_append PySem.F.type_list_append A2 (pv 5) (Aa (pe_f4 (pv 3) (pv 4)) Ac)))
   (Ab (A3 (Bl PySem.F.plainAttrs_list PySem.F.slot_list_append PySem.F.type_list_append A2 (pv 5) (Aa (pe_ifExp (A8 (Bf (pv 1) rfl)) Av Av) Ac)))
   (Ae (Aq (Bl PySem.F.plainAttrs_str PySem.F.slot_str_join PySem.F.type_str_join D2 Av (Aa (pv 5) Ac)))))))))))),?_⟩
  have hs : sizeLine = 16777216 := sizeLine_eq
  have rl := row_len g f1 f2
  have tl := text_len g.hw (n := r.n) (by omega) (by have := g.hn; omega)
  have hf : r.fi < 10000 := by have := g.hf; have := g.hl; omega
  have hl : r.la < 10000 := by have := g.hl; omega
  refine ⟨_,rfl,pl,cL,dx,_,_,rfl,hp,lc.cl,lc.key,l10_key,pk,r.w,r.n,rfl,SqT.of hk,g.hw,(by omega),(by have := g.hn; omega),?_⟩
  refine ⟨_,rfl,pl,cL,dx,_,_,rfl,hp,lc.cl,lc.first,l10_first,?_⟩
  refine ⟨_,rfl,pl,cL,dx,_,_,rfl,hp,lc.cl,lc.last,l10_last,?_⟩
  have ll : ("licence " : Str).length = 8 := by decide +kernel
  refine ⟨(by rw [hs,ll]; decide),_,rfl,_,rfl,(by rw [B9,hs,ll]; omega),(by show 1 ≤ sizeLine; decide),fun l0 hl0 => ?_⟩
  have s0 := Same.new (o := .lst [.str ("licence " ++ Bp r.w r.n)]) hl0
  have e0 : upd H l0 (.lst [.str ("licence " ++ Bp r.w r.n)]) l0 = some (.lst [.str ("licence " ++ Bp r.w r.n)]) := Ad
  generalize upd H l0 (.lst [.str ("licence " ++ Bp r.w r.n)]) = H0 at s0 e0 ⊢
  refine ⟨_,rfl,_,rfl,pb,pl,z1,z2,ys,rs,r,rfl,hB.same s0,hL0.same s0,g,ft,f1,fun l1 H1 s1 _ e1 => ?_⟩
  have S1 := s0.trans s1
  refine ⟨l0,l1,_,_,rfl,rfl,s1 _ _ e0,e1,(by show 1 + 4 ≤ sizeLine; decide),fun l2 hl2 => ?_⟩
  have n2 : H l2 = none := S1.free hl2
  have s2 := Same.new (o := .lst ([V.str ("licence " ++ Bp r.w r.n)] ++ (terT r z1).map V.str)) hl2
  have e2 : upd H1 l2 (.lst ([V.str ("licence " ++ Bp r.w r.n)] ++ (terT r z1).map V.str)) l2 = some (.lst ((["licence " ++ Bp r.w r.n] ++ terT r z1).map V.str)) := Ad
  generalize upd H1 l2 (.lst ([V.str ("licence " ++ Bp r.w r.n)] ++ (terT r z1).map V.str)) = H2 at s2 e2 ⊢
  have S2 := S1.trans s2
  have ch : ∀ {H' : Hp} {o : HO},Same H H' → Same H (upd H' l2 o) := fun s' b o e => by rw [upd_ne (Ah e n2)]; exact s' b o e
  have dl : (daysT r).length ≤ 800 := rl _ (by unfold rowT; simp)
  have dl' : daysT r = "from " ++ nT r.fi ++ " to " ++ nT r.la := rfl
  have dl2 := dl
  rw [dl',B9] at dl2
  have fl : ("from " : Str).length = 5 := by decide +kernel
  refine ⟨_,rfl,.inl ⟨rfl,_,SqL.of e2⟩,_,rfl,pl,cL,dx,_,_,rfl,S2 _ _ hp,lc.cl,lc.same,l10_same,_,rfl,iteStr ?_⟩
  refine ⟨l2,_,_,rfl,rfl,e2,(by show 5 < sizeLine; decide),?_⟩
  have t3 := ch (o := .lst ((["licence " ++ Bp r.w r.n] ++ terT r z1).map V.str ++ [V.str (if r.sa then "same" else "free")])) S2
  have e3 : upd H2 l2 (.lst ((["licence " ++ Bp r.w r.n] ++ terT r z1).map V.str ++ [V.str (if r.sa then "same" else "free")])) l2 = some (.lst ((["licence " ++ Bp r.w r.n] ++ terT r z1 ++ [Cp r.sa]).map V.str)) := Ad
  generalize upd H2 l2 (.lst ((["licence " ++ Bp r.w r.n] ++ terT r z1).map V.str ++ [V.str (if r.sa then "same" else "free")])) = H3 at t3 e3 ⊢
  refine ⟨_,rfl,.inl ⟨rfl,_,SqL.of e3⟩,_,rfl,_,rfl,pl,cL,dx,_,_,rfl,t3 _ _ hp,lc.cl,lc.asks,l10_asks,pb,pa,z1,z2,ys,rs,r,rfl,hB.same t3,t3 _ _ ha,g,ft,f2,fun l4 H4 s4 hl4 e4 => ?_⟩
  have t4 := t3.trans s4
  have e34 := s4 _ _ e3
  refine ⟨l2,l4,_,_,rfl,rfl,e34,e4,(by show 6 + 4 ≤ sizeLine; decide),?_⟩
  have t5 := ch (o := .lst ((["licence " ++ Bp r.w r.n] ++ terT r z1 ++ [Cp r.sa]).map V.str ++ (askT r z2).map V.str)) t4
  have e5 : upd H4 l2 (.lst ((["licence " ++ Bp r.w r.n] ++ terT r z1 ++ [Cp r.sa]).map V.str ++ (askT r z2).map V.str)) l2 = some (.lst ((["licence " ++ Bp r.w r.n] ++ terT r z1 ++ [Cp r.sa] ++ askT r z2).map V.str)) := Ad
  generalize upd H4 l2 (.lst ((["licence " ++ Bp r.w r.n] ++ terT r z1 ++ [Cp r.sa]).map V.str ++ (askT r z2).map V.str)) = H5 at t5 e5 ⊢
  refine ⟨_,rfl,.inl ⟨rfl,_,SqL.of e5⟩,(by rw [hs,fl]; decide),_,rfl,r.fi,rfl,Ez (by omega) (by omega),(by
   show ("from " ++ nT r.fi ++ " to " : Str).length ≤ sizeLine
   omega),_,rfl,r.la,rfl,Ez (by omega) (by omega),(by
   show (daysT r).length ≤ sizeLine
   omega),?_⟩
  refine ⟨l2,_,_,rfl,rfl,e5,(by show 10 < sizeLine; decide),?_⟩
  have t6 := ch (o := .lst ((["licence " ++ Bp r.w r.n] ++ terT r z1 ++ [Cp r.sa] ++ askT r z2).map V.str ++ [V.str (daysT r)])) t5
  have e6 : upd H5 l2 (.lst ((["licence " ++ Bp r.w r.n] ++ terT r z1 ++ [Cp r.sa] ++ askT r z2).map V.str ++ [V.str (daysT r)])) l2 = some (.lst ((["licence " ++ Bp r.w r.n] ++ terT r z1 ++ [Cp r.sa] ++ askT r z2 ++ [daysT r]).map V.str)) := Ad
  generalize hH6 : upd H5 l2 (.lst ((["licence " ++ Bp r.w r.n] ++ terT r z1 ++ [Cp r.sa] ++ askT r z2).map V.str ++ [V.str (daysT r)])) = H6 at t6 e6
  have hH6' : upd H5 l2 (.lst ((["licence " ++ Bp r.w r.n] ++ terT r z1 ++ [Cp r.sa] ++ askT r z2).map V.str ++ [V.str ("from " ++ Str.ofString (toString (r.fi : Int)) ++ " to " ++ Str.ofString (toString (r.la : Int)))])) = H6 := hH6
  rw [hH6']
  refine ⟨_,rfl,.inl ⟨rfl,_,SqL.of e6⟩,_,rfl,pl,cL,dx,_,_,rfl,t6 _ _ hp,lc.cl,lc.lasting,l10_lasting,_,rfl,iteStr ?_⟩
  refine ⟨l2,_,_,rfl,rfl,e6,(by show 11 < sizeLine; decide),?_⟩
  have t7 := ch (o := .lst ((["licence " ++ Bp r.w r.n] ++ terT r z1 ++ [Cp r.sa] ++ askT r z2 ++ [daysT r]).map V.str ++ [V.str (if r.lg then "lasting" else "ends")])) t6
  have e7 : upd H6 l2 (.lst ((["licence " ++ Bp r.w r.n] ++ terT r z1 ++ [Cp r.sa] ++ askT r z2 ++ [daysT r]).map V.str ++ [V.str (if r.lg then "lasting" else "ends")])) l2 = some (.lst ((rowT r z1 z2).map V.str)) := Ad
  generalize upd H6 l2 (.lst ((["licence " ++ Bp r.w r.n] ++ terT r z1 ++ [Cp r.sa] ++ askT r z2 ++ [daysT r]).map V.str ++ [V.str (if r.lg then "lasting" else "ends")])) = H7 at t7 e7 ⊢
  exact ⟨rfl,_,rfl," ; ",l2,rowT r z1 z2,rfl,rfl,SqL.of e7,join_ok (k := 800) (n := 12) rl (Nat.le_refl 12) (by decide +kernel),q _ t7⟩
end
def lineT (r : Row) (z1 z2 : List Str) : Str := Txt.join " ; " (rowT r z1 z2)
def bookL (z1 z2 : List Str) (rs : List Row) : List Str := [Txt.join " " (("strings" : Str) :: z1),Txt.join " " (("duties" : Str) :: z2)] ++ rs.map fun r => lineT r z1 z2
def bookT (z1 z2 : List Str) (rs : List Row) : Str := Txt.join "\n" (bookL z1 z2 rs)
structure BFit (z1 z2 : List Str) (rs : List Row) : Prop where
 f1 : Few z1
 f2 : Few z2
 ft : ∀ r ∈ rs,r.Fits z1.length z2.length
theorem line_len {r : Row} {z1 z2 : List Str} (g : r.Good) (f1 : Few z1) (f2 : Few z2) : (lineT r z1 z2).length ≤ 10000 := by
 have h1 := C7 " ; " (rowT r z1 z2)
 have h2 := sum_le (row_len g f1 f2)
 have e1 : (rowT r z1 z2).length = 12 := rfl
 have e2 : (" ; " : Str).length = 3 := by decide +kernel
 rw [e1] at h2
 rw [e1,e2] at h1
 unfold lineT
 omega
theorem head_len {hd : Str} {zs : List Str} (h : hd.length ≤ 100) (f : Few zs) : (Txt.join " " (hd :: zs)).length ≤ 10000 ∧ ((hd :: zs).map (·.length)).sum + (hd :: zs).length * (" " : Str).length ≤ 16777216 := by
 have hk : ∀ z ∈ hd :: zs,z.length ≤ 100 := fun z hz => (List.mem_cons.mp hz).elim (fun e => e ▸ h) (f.sh z)
 have hn : (hd :: zs).length ≤ 7 := by rw [List.length_cons]; have := f.n6; omega
 have h1 := C7 " " (hd :: zs)
 have h2 := sum_le hk
 have e2 : (" " : Str).length = 1 := rfl
 have h3 := Nat.mul_le_mul_right 100 hn
 refine ⟨?_,join_ok (k := 100) (n := 7) hk hn (by decide +kernel)⟩
 rw [e2] at h1
 omega
theorem book_sh {z1 z2 : List Str} {rs : List Row} (f : BFit z1 z2 rs) (g : ∀ r ∈ rs,r.Good) : ∀ z ∈ bookL z1 z2 rs,z.length ≤ 10000 := fun z hz => by
 unfold bookL at hz
 rcases List.mem_append.mp hz with h | h
 ·simp only [List.mem_cons,List.not_mem_nil,or_false] at h
  rcases h with rfl | rfl
  ·exact (head_len (by decide +kernel) f.f1).1
  ·exact (head_len (by decide +kernel) f.f2).1
 ·obtain ⟨r,hr,rfl⟩ := List.mem_map.mp h
  exact line_len (g r hr) f.f1 f.f2
def spSB (cL cB : Addr) : Sp := fun vs H Q _ => ∃ (pb : Addr) (z1 z2 : List Str) (ys : List Addr) (rs : List Row),vs = [.ref pb] ∧ Ck cL cB H pb z1 z2 ys rs ∧ BFit z1 z2 rs ∧ ∀ H' : Hp,Same H H' → Q (.str (bookT z1 z2 rs)) H'
theorem Ck.good {cL cB : Addr} {H : Hp} {p : Addr} {z1 z2 : List Str} {ys : List Addr} {rs : List Row} (h : Ck cL cB H p z1 z2 ys rs) : ∀ r ∈ rs,r.Good := fun r hr => by
 obtain ⟨i,hi,rfl⟩ := List.mem_iff_getElem.mp hr
 have hq : i < ys.length := by rw [h.lics.1]; exact hi
 exact (h.lics.2 i ys[i] rs[i] (List.getElem?_eq_getElem hq) (List.getElem?_eq_getElem hi)).1
section
variable {P : Program} {w : World} {K : PySem.W.Frag} {mg : Str → Option Value} {base : Heap} {cT cL cB ad : Addr} {J : Js}
abbrev Es : Stmt := top 70
theorem scshow_book : Ak ["book","rows"] ["book"] (Ag Es) := by trivial
theorem ok_sb (F_lr : FnAt P w K mg base "licence_row" 4 ["book","licence"] (spLR cL cB)) (MSN : ∀ C sp,DSN cL cB C sp → D7 P w K mg base CX0 1 C "string_names" ["self"] sp) (MDN : ∀ C sp,DDN cL cB C sp → D7 P w K mg base CX0 1 C "duty_names" ["self"] sp) (MAK : ∀ C sp,DAK cL cB C sp → D7 P w K mg base CX0 1 C "all_keys" ["self"] sp) (MLM : ∀ C sp,DLM K cL cB C sp → D7 P w K mg base CX0 3 C "licence" ["self","key"] sp)
 (F : Ai K mg "show_book" Es ["book"]) : FnAt P w K mg base "show_book" 5 ["book"] (spSB cL cB) := by
 refine F.at scshow_book (fun vs H Q E h => ?_) (fun f cdv A outer s H vs Q E hr h => ?_)
 ·obtain ⟨pb,z1,z2,ys,rs,rfl,_⟩ := h
  rfl
 ·obtain ⟨pb,z1,z2,ys,rs,rfl,hB,bf,q⟩ := h
  refine ⟨_,(Ab (Al (i := 1) scshow_book.nd rfl (by trivial) (A5 (Aa (Bl PySem.F.plainAttrs_str PySem.F.slot_str_join PySem.F.type_str_join D2 Av (Aa (Ax op_cat (A5 (Aa Av Ac)) (Cm (D := DSN cL cB) (pv 0) MSN (hr.mono (by decide)) En)) Ac)) (Aa (Bl PySem.F.plainAttrs_str PySem.F.slot_str_join PySem.F.type_str_join D2 Av (Aa (Ax op_cat (A5 (Aa Av Ac)) (Cm (D := DDN cL cB) (pv 0) MDN (hr.mono (by decide)) En)) Ac)) Ac))))
   (Ab (A3 (Bl PySem.F.plainAttrs_list PySem.F.slot_list_extend PySem.F.type_list_extend mt_extend (pv 1) (Aa (Bs (sc := Ag Es) (N0 := ["book","rows"]) (xs := ["key"]) (ys := ["book"]) (js := [0]) (by trivial) rfl (Bn (Cm (D := DAK cL cB) (pv 0) MAK (hr.mono (by decide)) En)) (fun _ _ _ _ => (As (i := 0) (show (["key","book"] : List Str).Nodup by decide +kernel) rfl (by trivial))) (fun _ _ _ _ => Cj) (fun _ _ _ _ => (Ao F_lr hr (by decide) rfl (Aa (pv 1) (Aa (pe_methA (D := DLM K cL cB) (pv 1) MLM (hr.mono (by decide)) En (Aa (pv 0) Ac)) Ac))))) Ac)))
   (Ae (Aq (Bl PySem.F.plainAttrs_str PySem.F.slot_str_join PySem.F.type_str_join D2 Av (Aa (pv 1) Ac)))))),?_⟩
  have hs : sizeLine = 16777216 := sizeLine_eq
  have gd := hB.good
  have n1 := bf.f1.n6
  have n2 := bf.f2.n6
  have h12 : rs.length ≤ 12 := by have := hB.lics.1; have := hB.le; omega
  refine ⟨rfl,(by show 1 ≤ sizeLine; decide),fun l0 hl0 => ?_⟩
  have s0 := Same.new (o := .lst [.str "strings"]) hl0
  have e0 : upd H l0 (.lst [.str "strings"]) l0 = some (.lst [.str "strings"]) := Ad
  generalize upd H l0 (.lst [.str "strings"]) = H0 at s0 e0 ⊢
  refine ⟨_,rfl,sn_in (hB.same s0) fun l1 H1 s1 _ e1 => ?_⟩
  refine ⟨l0,l1,_,_,rfl,rfl,s1 _ _ e0,e1,(by rw [List.length_map,hs]; show 1 + _ ≤ _; omega),fun l2 hl2 => ?_⟩
  have e2 : upd H1 l2 (.lst ([V.str "strings"] ++ z1.map V.str)) l2 = some (.lst ((("strings" : Str) :: z1).map V.str)) := Ad
  have s2 := Same.new (o := .lst ([V.str "strings"] ++ z1.map V.str)) hl2
  generalize upd H1 l2 (.lst ([V.str "strings"] ++ z1.map V.str)) = H2 at s2 e2 ⊢
  have S2 := (s0.trans s1).trans s2
  refine ⟨" ",l2,("strings" : Str) :: z1,rfl,rfl,SqL.of e2,(head_len (by decide +kernel) bf.f1).2,?_⟩
  refine ⟨rfl,(by show 1 ≤ sizeLine; decide),fun l3 hl3 => ?_⟩
  have s3 := Same.new (o := .lst [.str "duties"]) hl3
  have e3 : upd H2 l3 (.lst [.str "duties"]) l3 = some (.lst [.str "duties"]) := Ad
  generalize upd H2 l3 (.lst [.str "duties"]) = H3 at s3 e3 ⊢
  refine ⟨_,rfl,dn_in (hB.same (S2.trans s3)) fun l4 H4 s4 _ e4 => ?_⟩
  refine ⟨l3,l4,_,_,rfl,rfl,s4 _ _ e3,e4,(by rw [List.length_map,hs]; show 1 + _ ≤ _; omega),fun l5 hl5 => ?_⟩
  have e5 : upd H4 l5 (.lst ([V.str "duties"] ++ z2.map V.str)) l5 = some (.lst ((("duties" : Str) :: z2).map V.str)) := Ad
  have s5 := Same.new (o := .lst ([V.str "duties"] ++ z2.map V.str)) hl5
  generalize upd H4 l5 (.lst ([V.str "duties"] ++ z2.map V.str)) = H5 at s5 e5 ⊢
  have S5 := ((S2.trans s3).trans s4).trans s5
  refine ⟨" ",l5,("duties" : Str) :: z2,rfl,rfl,SqL.of e5,(head_len (by decide +kernel) bf.f2).2,(by show 2 ≤ sizeLine; decide),fun l6 hl6 => ?_⟩
  have n6 : H l6 = none := S5.free hl6
  have s6 := Same.new (o := .lst [.str (Txt.join " " (("strings" : Str) :: z1)),.str (Txt.join " " (("duties" : Str) :: z2))]) hl6
  have e6 : upd H5 l6 (.lst [.str (Txt.join " " (("strings" : Str) :: z1)),.str (Txt.join " " (("duties" : Str) :: z2))]) l6 = some (.lst ([Txt.join " " (("strings" : Str) :: z1),Txt.join " " (("duties" : Str) :: z2)].map V.str)) := Ad
  generalize upd H5 l6 (.lst [.str (Txt.join " " (("strings" : Str) :: z1)),.str (Txt.join " " (("duties" : Str) :: z2))]) = H6 at s6 e6 ⊢
  have S6 := S5.trans s6
  refine ⟨_,rfl,.inl ⟨rfl,_,SqL.of e6⟩,_,rfl,ak_in (hB.same S6) fun l7 ps H7 s7 _ e7 k7 => ?_⟩
  have S7 := S6.trans s7
  have hpl : ps.length = rs.length := k7.1
  refine ⟨l7,rfl,⟨_,SqL.of e7⟩,Bj (K := K) (a := l7) (xs := ps.map V.ref) (fun j us H' => us = ((rs.take j).map fun r => lineT r z1 z2).map V.str ∧ Same H7 H') ⟨rfl,Same.refl _⟩ (by rw [List.length_map,hs]; omega) ?_ ?_ ?_ ?_⟩
  ·rintro j us H' ⟨rfl,_⟩
   rw [List.length_map,List.length_map,List.length_take]; omega
  ·rintro j us H' _ ⟨_,s'⟩
   exact SqL.of (s' _ _ e7)
  ·rintro j x us H' hx ⟨rfl,s'⟩
   rw [List.getElem?_map] at hx
   obtain ⟨p,hp,rfl⟩ := Option.map_eq_some_iff.mp hx
   have hj : j < rs.length := by rw [← hpl]; exact (List.getElem?_eq_some_iff.mp hp).1
   have hrj := List.getElem?_eq_getElem hj
   have htk := List.take_succ_eq_append_getElem hj
   generalize rs[j] = r at hrj htk
   have S8 := S7.trans s'
   refine ⟨_,rfl,_,rfl,lm_in (hB.same S8) rfl hrj (s' _ _ (k7.2 j p r hp hrj)) fun y H9 s9 ly => ?_⟩
   refine ⟨pb,y,z1,z2,ys,rs,r,rfl,hB.same (S8.trans s9),ly,gd r (List.mem_of_getElem? hrj),bf.ft r (List.mem_of_getElem? hrj),bf.f1,bf.f2,fun H10 s10 => ⟨?_,(s'.trans s9).trans s10⟩⟩
   rw [htk,List.map_append,List.map_append]
   rfl
  ·rintro us H' ⟨rfl,s'⟩ l8 hl8
   rw [List.length_map,hpl,List.take_length]
   have s8 := Same.new (o := .lst ((rs.map fun r => lineT r z1 z2).map V.str)) hl8
   have e8 : upd H' l8 (.lst ((rs.map fun r => lineT r z1 z2).map V.str)) l8 = some (.lst ((rs.map fun r => lineT r z1 z2).map V.str)) := Ad
   generalize upd H' l8 (.lst ((rs.map fun r => lineT r z1 z2).map V.str)) = H8 at s8 e8 ⊢
   have S8 := (S7.trans s').trans s8
   refine ⟨l6,l8,_,_,rfl,rfl,s8 _ _ (s' _ _ (s7 _ _ e6)),e8,(by rw [List.length_map (f := V.str),List.length_map (f := V.str),List.length_map,hs]; show 2 + _ ≤ _; omega),?_⟩
   have e9 : upd H8 l6 (.lst ([Txt.join " " (("strings" : Str) :: z1),Txt.join " " (("duties" : Str) :: z2)].map V.str ++ (rs.map fun r => lineT r z1 z2).map V.str)) l6 = some (.lst ((bookL z1 z2 rs).map V.str)) := by
    rw [Ad]
    unfold bookL
    rw [List.map_append]
   have S9 : Same H (upd H8 l6 (.lst ([Txt.join " " (("strings" : Str) :: z1),Txt.join " " (("duties" : Str) :: z2)].map V.str ++ (rs.map fun r => lineT r z1 z2).map V.str))) := fun b o e => by rw [upd_ne (Ah e n6)]; exact S8 b o e
   generalize upd H8 l6 (.lst ([Txt.join " " (("strings" : Str) :: z1),Txt.join " " (("duties" : Str) :: z2)].map V.str ++ (rs.map fun r => lineT r z1 z2).map V.str)) = H9 at e9 S9 ⊢
   exact ⟨rfl,_,rfl,"\n",l6,bookL z1 z2 rs,rfl,rfl,SqL.of e9,join_ok (k := 10000) (n := 14) (book_sh bf gd) (by unfold bookL; rw [List.length_append,List.length_map]; show 2 + _ ≤ 14; omega) (by decide +kernel),q _ S9⟩
end
def TxAt (H : Hp) (ps : List Addr) (S : List (List Str)) : Prop := ps.length = S.length ∧ ∀ (i : Nat) (p : Addr) (s : List Str),ps[i]? = some p → S[i]? = some s → H p = some (.lst (s.map V.str))
theorem TxAt.same {H H' : Hp} {ps : List Addr} {S : List (List Str)} (h : TxAt H ps S) (s : Same H H') : TxAt H' ps S := ⟨h.1,fun i p t a b => s _ _ (h.2 i p t a b)⟩
theorem TxAt.mem {H : Hp} {ps : List Addr} {S : List (List Str)} (h : TxAt H ps S) {p : Addr} (hp : p ∈ ps) : ∃ s : List Str,H p = some (.lst (s.map V.str)) := by
 obtain ⟨i,hi,rfl⟩ := List.mem_iff_getElem.mp hp
 have h2 : i < S.length := by rw [← h.1]; exact hi
 exact ⟨S[i],h.2 i _ _ (List.getElem?_eq_getElem hi) (List.getElem?_eq_getElem h2)⟩
theorem TxAt.snoc {H : Hp} {ps : List Addr} {S : List (List Str)} {p : Addr} {s : List Str} (h : TxAt H ps S) (hp : H p = some (.lst (s.map V.str))) : TxAt H (ps ++ [p]) (S ++ [s]) := by
 refine ⟨by rw [List.length_append,List.length_append,h.1]; rfl,fun i q t a b => ?_⟩
 by_cases hi : i < ps.length
 ·rw [List.getElem?_append_left hi] at a
  rw [List.getElem?_append_left (by rw [← h.1]; exact hi)] at b
  exact h.2 i q t a b
 ·have hi := Nat.not_lt.mp hi
  rw [List.getElem?_append_right hi] at a
  rw [List.getElem?_append_right (by rw [← h.1]; exact hi),← h.1] at b
  have h0 : i - ps.length = 0 := by
   have := (List.getElem?_eq_some_iff.mp a).1
   rw [List.length_singleton] at this
   omega
  rw [h0] at a b
  cases a
  cases b
  exact hp
theorem TxAt.upd {H : Hp} {ps : List Addr} {S : List (List Str)} {a : Addr} {o : HO} (h : TxAt H ps S) (ha : a ∉ ps) : TxAt (upd H a o) ps S := ⟨h.1,fun i p t e b => by
 rw [upd_ne (fun z : p = a => ha (by rw [← z]; exact List.mem_of_getElem? e))]
 exact h.2 i p t e b⟩
def SAt (H : Hp) (l : Addr) (S : List (List Str)) : Prop := ∃ ps : List Addr,H l = some (.lst (ps.map V.ref)) ∧ TxAt H ps S
theorem SAt.same {H H' : Hp} {l : Addr} {S : List (List Str)} (h : SAt H l S) (s : Same H H') : SAt H' l S := by
 obtain ⟨ps,h1,h2⟩ := h
 exact ⟨ps,s _ _ h1,h2.same s⟩
theorem SAt.ix {H : Hp} {l : Addr} {S : List (List Str)} (h : SAt H l S) {i : Nat} {s : List Str} (e : S[i]? = some s) : ∃ (ps : List Addr) (p : Addr),H l = some (.lst (ps.map V.ref)) ∧ atI (ps.map V.ref) (i : Int) = some (V.ref p) ∧ H p = some (.lst (s.map V.str)) := by
 obtain ⟨ps,h1,h2,h3⟩ := h
 have hi : i < ps.length := by rw [h2]; exact (List.getElem?_eq_some_iff.mp e).1
 refine ⟨ps,ps[i],h1,atI_nat (by rw [List.getElem?_map,List.getElem?_eq_getElem hi]; rfl),h3 i _ s (List.getElem?_eq_getElem hi) e⟩
def spSO : Sp := fun vs H Q _ => ∃ (a : Addr) (ws : List Str),vs = [.ref a] ∧ H a = some (.lst (ws.map V.str)) ∧ ws.length ≤ 10000 ∧ ∀ (l : Addr) (H' : Hp),Same H H' → H l = none → SAt H' l (secsOf ws) → Q (.ref l) H'
theorem fold_len : ∀ (ws : List Str) (p : List (List Str) × List Str),(ws.foldl D8 p).1.length ≤ p.1.length + ws.length ∧ (ws.foldl D8 p).2.length ≤ p.2.length + ws.length
 | [],p => ⟨Nat.le_refl _,Nat.le_refl _⟩
 | w :: ws,p => by
   have := fold_len ws (D8 p w)
   rw [List.foldl_cons]
   have h1 : (D8 p w).1.length ≤ p.1.length + 1 ∧ (D8 p w).2.length ≤ p.2.length + 1 := by
    unfold D8
    split
    ·exact ⟨by rw [List.length_append]; exact Nat.le_refl _,by show 0 ≤ _; omega⟩
    ·exact ⟨by show p.1.length ≤ _; omega,by rw [List.length_append]; exact Nat.le_refl _⟩
   rw [List.length_cons]
   omega
section
variable {P : Program} {w : World} {K : PySem.W.Frag} {mg : Str → Option Value} {base : Heap} {cT cL cB ad : Addr} {J : Js}
abbrev D9 : Stmt := top 71
theorem scsections_of : Ak ["words","sections","word"] ["words"] (Ag D9) := by trivial
theorem ok_so (F : Ai K mg "sections_of" D9 ["words"]) : FnAt P w K mg base "sections_of" 1 ["words"] spSO := by
 refine F.at scsections_of (fun vs H Q E h => ?_) (fun f cdv A outer s H vs Q E hr h => ?_)
 ·obtain ⟨a,ws,rfl,_⟩ := h
  rfl
 ·obtain ⟨a,ws,rfl,ha,hn,q⟩ := h
  refine ⟨_,(Ab (Al (i := 1) scsections_of.nd rfl (by trivial) (A5 (Aa (A5 Ac) Ac)))
   (Ab (Dg PassesOwn.never rfl (Bn (pv 0)) (As (i := 2) scsections_of.nd rfl (by trivial)) (Ae (A7 (A1 Ey (pv 2) Av (A0 _)) (Ae (A3 (Bl PySem.F.plainAttrs_list PySem.F.slot_list_append PySem.F.type_list_append A2 (pv 1) (Aa (A5 Ac) Ac)))) (Ae (A3 (Bl PySem.F.plainAttrs_list PySem.F.slot_list_append PySem.F.type_list_append A2 (Az At (pv 1) (pe_un un_neg Af) (fun _ _ => rfl)) (Aa (pv 2) Ac)))))))
   (Ae (Aq (pv 1))))),?_⟩
  have hs : sizeLine = 16777216 := sizeLine_eq
  refine ⟨(by show 0 ≤ sizeLine; decide),fun p0 hp0 => ?_⟩
  have s0 := Same.new (o := .lst []) hp0
  have e0 : upd H p0 (.lst []) p0 = some (.lst []) := Ad
  generalize upd H p0 (.lst []) = H0 at s0 e0 ⊢
  refine ⟨(by show 1 ≤ sizeLine; decide),fun l hl => ?_⟩
  have s1 := Same.new (o := .lst [.ref p0]) hl
  have e1 : upd H0 l (.lst [.ref p0]) l = some (.lst [.ref p0]) := Ad
  have n0 : p0 ≠ l := Ah e0 hl
  have hlH : H l = none := s0.free hl
  have e01 := s1 _ _ e0
  generalize upd H0 l (.lst [.ref p0]) = H1 at s1 e1 e01 ⊢
  refine ⟨_,rfl,a,rfl,⟨_,SqL.of ((s0.trans s1) _ _ ha)⟩,for_list (K := K) (a := a) (xs := ws.map V.str) (fun i σ H' => ∃ (v : Option V) (ps : List Addr) (p : Addr),σ = [some (.ref a),some (.ref l),v] ∧ Same H H' ∧ H' l = some (.lst ((ps ++ [p]).map V.ref)) ∧ H' p = some (.lst ((((ws.take i).foldl D8 ([],[])).2).map V.str)) ∧ TxAt H' ps ((ws.take i).foldl D8 ([],[])).1 ∧ p ∉ ps ∧ l ∉ ps ∧ p ≠ l ∧ H p = none)
   ⟨_,[],p0,rfl,s0.trans s1,e1,e01,⟨rfl,fun i p s e => by cases e⟩,List.not_mem_nil,List.not_mem_nil,n0,hp0⟩ (fun i σ H' _ h => ?_) ?_ ?_⟩
  ·obtain ⟨_,_,_,_,s',_⟩ := h
   exact SqL.of (s' _ _ ha)
  ·rintro i x σ H' hx ⟨v,ps,p,rfl,s',el,ep,tx,np,nl,npl,hpH⟩
   rw [List.getElem?_map] at hx
   obtain ⟨z,hz,rfl⟩ := Option.map_eq_some_iff.mp hx
   obtain ⟨hil,hze⟩ := List.getElem?_eq_some_iff.mp hz
   have fl := fold_len (ws.take i) ([],[])
   have hti : (ws.take i).length ≤ 10000 := by rw [List.length_take]; omega
   have nxt : (ws.take (i + 1)).foldl D8 ([],[]) = D8 ((ws.take i).foldl D8 ([],[])) z := by
    rw [List.take_succ_eq_append_getElem hil,List.foldl_append,hze]
    rfl
   rw [nxt]
   generalize (ws.take i).foldl D8 ([],[]) = st at ep tx fl
   have f1 : st.1.length ≤ 10000 := by have := fl.1; rw [List.length_nil] at this; omega
   have f2 : st.2.length ≤ 10000 := by have := fl.2; rw [List.length_nil] at this; omega
   refine ⟨_,rfl,rfl,_,rfl,ite2 (fun e => ?_) (fun e => ?_)⟩
   ·have e : z = (";" : Str) := by
     have := of_decide_eq_true e
     cases this
     rfl
    refine ⟨_,rfl,.inl ⟨rfl,_,SqL.of el⟩,(by show 0 ≤ sizeLine; decide),fun c hc => ?_⟩
    have s2 := Same.new (o := .lst []) hc
    have ec : upd H' c (.lst []) c = some (.lst []) := Ad
    have S2 := s'.trans s2
    have nc : c ≠ l := fun z => by rw [z,el] at hc; cases hc
    have ncp : c ≠ p := fun z => by rw [z,ep] at hc; cases hc
    have ncs : c ∉ ps := fun z => by
     obtain ⟨s,es⟩ := tx.mem z
     rw [es] at hc
     cases hc
    have el2 := s2 _ _ el
    have ep2 := s2 _ _ ep
    have tx2 := tx.same s2
    have hcH : H c = none := s'.free hc
    generalize upd H' c (.lst []) = H2 at s2 ec S2 el2 ep2 tx2 ⊢
    refine ⟨l,_,_,rfl,rfl,el2,(by rw [List.length_map,List.length_append,tx2.1,List.length_singleton,hs]; omega),?_⟩
    rw [show D8 st z = (st.1 ++ [st.2],[]) from if_pos e]
    refine ⟨_,ps ++ [p],c,rfl,?_,?_,?_,?_,?_,?_,nc,hcH⟩
    ·intro b o e
     rw [upd_ne (Ah e hlH)]
     exact S2 _ _ e
    ·rw [Ad,List.map_append (l₂ := [c])]
     rfl
    ·rw [upd_ne nc]
     exact ec
    ·refine (tx2.snoc ep2).upd ?_
     rw [List.mem_append,List.mem_singleton]
     rintro (h | h)
     ·exact nl h
     ·exact npl h.symm
    ·rw [List.mem_append,List.mem_singleton]
     rintro (h | h)
     ·exact ncs h
     ·exact ncp h
    ·rw [List.mem_append,List.mem_singleton]
     rintro (h | h)
     ·exact nl h
     ·exact npl h.symm
   ·have e : ¬ z = (";" : Str) := fun y => e (decide_eq_true (by rw [y]))
    refine ⟨_,rfl,_,rfl,l,_,_,V.ref p,rfl,rfl,SqL.of el,(by rw [List.map_append]; exact atI_last _ _),.inl ⟨rfl,_,SqL.of ep⟩,_,rfl,p,_,_,rfl,rfl,ep,(by rw [List.length_map,hs]; omega),?_⟩
    rw [show D8 st z = (st.1,st.2 ++ [z]) from if_neg e]
    refine ⟨_,ps,p,rfl,?_,?_,?_,tx.upd np,np,nl,npl,hpH⟩
    ·intro b o e
     rw [upd_ne (Ah e hpH)]
     exact s' _ _ e
    ·rw [upd_ne npl.symm]
     exact el
    ·rw [Ad,List.map_append]
     rfl
  ·rintro σ H' ⟨v,ps,p,rfl,s',el,ep,tx,np,nl,npl,hpH⟩
   rw [List.length_map,List.take_length] at ep tx
   exact ⟨_,rfl,q l _ s' hlH ⟨ps ++ [p],el,tx.snoc ep⟩⟩
end
end K15
namespace L2
open PySem PySem.Spec PyProof.Rows
theorem op_inK {X : Cx} (K : PySem.W.Frag) (hK : X.K = K := by rfl) : OpR X (compareOp .In) (rIn K false) := by
 subst hK
 exact op_in_seq
end L2
namespace K15
open PySem L2 PyProof.Rows PySem.SeqAt
theorem cut1 (x : V) (xs : List V) : cutV (x :: xs) (some 1) none = xs := by
 have e : HT.sIx (x :: xs).length 0 (some 1) = 1 := by
  rw [show (1 : Int) = ((1 : Nat) : Int) from rfl,HT.sIx_nat,List.length_cons]
  omega
 unfold cutV
 rw [e,HT.sIx_none,List.drop_one,List.tail_cons]
 exact List.take_of_length_le (by rw [List.length_cons]; omega)
theorem cut0 (x : V) (xs : List V) : cutV (x :: xs) none (some 1) = [x] := by
 have e : HT.sIx (x :: xs).length (x :: xs).length (some 1) = 1 := by
  rw [show (1 : Int) = ((1 : Nat) : Int) from rfl,HT.sIx_nat,List.length_cons]
  omega
 unfold cutV
 rw [e,HT.sIx_none]
 rfl
theorem in_strs {z : Str} {zs : List Str} (h : z ∈ zs) : inV (V.str z) (zs.map V.str) = true := by
 unfold inV
 rw [List.any_eq_true]
 exact ⟨V.str z,List.mem_map.mpr ⟨z,h,rfl⟩,by simp [eqV]⟩
theorem sh1 {z : Str} (h : PyData.strOk z = true) : shaped (.list [.str z]) = true := by
 simp [shaped,PyData.canLay0,PyData.canLayAll0,PyData.depth,PyData.depthAll,h]
theorem rd1 {K : PySem.W.Frag} {H : Hp} {l : Addr} {z : Str} (h : H l = some (.lst [.str z])) : RdD K H (.ref l) (.list [.str z]) := .lst (SqL.of h) (.cons (.str _) .nil)
theorem all_rep (n : Nat) : (List.replicate n true).all id = true := by
 rw [List.all_eq_true]
 intro x hx
 rw [List.mem_replicate] at hx
 rw [hx.2]
 rfl
def spINS (K : PySem.W.Frag) : Sp := fun vs H Q _ => ∃ (s p : Addr) (hd : Str) (ws zs : List Str),vs = [.ref s,.str hd,.ref p] ∧ H s = some (.lst ((hd :: ws).map V.str)) ∧ PyData.strOk hd = true ∧ SqS K H p zs ∧ (∀ z ∈ ws,z ∈ zs) ∧ ws.Nodup ∧ ws.length ≤ 1000 ∧ ∀ H',Same H H' → Q (.bl true) H'
structure Tx2 (mg : Str → Option Value) : Prop where
 n_set : mg "set" = none
 g_FIGURES : ∃ t,mg "FIGURES" = some (.str "0123456789" t)
 g_SECTION_COUNT : ∃ t,mg "SECTION_COUNT" = some (.int 12 t)
 g_FIRST_LICENCE_ROW : ∃ t,mg "FIRST_LICENCE_ROW" = some (.int 2 t)
 g_LONGEST_DAY : ∃ t,mg "LONGEST_DAY" = some (.int 4 t)
section
variable {P : Program} {w : World} {K : PySem.W.Frag} {mg : Str → Option Value} {base : Heap} {cT cL cB ad : Addr} {J : Js}
abbrev Bq : Stmt := top 72
theorem Ee : Ak ["section","head","known","names"] ["section","head","known"] (Ag Bq) := by trivial
theorem ok_ins (T : Txt mg) (N : Tx2 mg) (F : Ai K mg "is_named_section" Bq ["section","head","known"]) : FnAt P w K mg base "is_named_section" 1 ["section","head","known"] (spINS K) := by
 refine F.at Ee (fun vs H Q E h => ?_) (fun f cdv A outer s H vs Q E hr h => ?_)
 ·obtain ⟨s,p,hd,ws,zs,rfl,_⟩ := h
  rfl
 ·obtain ⟨s,p,hd,ws,zs,rfl,hs,sk,hp,hw,nd,hn,q⟩ := h
  refine ⟨_,(Ab (A7 (A1 (op_neSD hr.units) (Ba Cn (pv 0) Bm (Bd Af)) (A5 (Aa (pv 1) Ac)) (A0 _)) (Ae Ar) Ap)
   (Ab (Al (i := 3) Ee.nd rfl (by trivial) (Ba Cn (pv 0) (Bd Af) Bm))
   (Ae (Aq (Dl (An (Di rfl) rfl T.n_all boot_all (Aa (Bs (sc := Ag Bq) (N0 := ["section","head","known","names"]) (xs := ["name"]) (ys := ["known"]) (js := [2]) (by trivial) rfl (Bn (pv 3)) (fun _ _ _ _ => (As (i := 0) (show (["name","known"] : List Str).Nodup by decide +kernel) rfl (by trivial))) (fun _ _ _ _ => Cj) (fun _ _ _ _ => (Bo (op_inK K) (pv 0) (pv 1) (by with_unfolding_all rfl)))) Ac)) (Ex (Bo Ey (pe_lenS hr.hd rfl T.n_len rfl N.n_set (pv 3)) (An A4 rfl T.n_len boot_len (Aa (pv 3) Ac)) (A0 _)))))))),?_⟩
  have hz : sizeLine = 16777216 := sizeLine_eq
  refine ⟨_,rfl,_,rfl,s,_,rfl,SqL.of hs,fun c0 hc0 => ?_⟩
  rw [List.map_cons,cut0]
  have s0 := Same.new (o := .lst [.str hd]) hc0
  have e0 : upd H c0 (.lst [.str hd]) c0 = some (.lst [.str hd]) := Ad
  generalize upd H c0 (.lst [.str hd]) = H0 at s0 e0 ⊢
  refine ⟨_,rfl,(by show 1 ≤ sizeLine; decide),fun c1 hc1 => ?_⟩
  have s1 := Same.new (o := .lst [.str hd]) hc1
  have e1 : upd H0 c1 (.lst [.str hd]) c1 = some (.lst [.str hd]) := Ad
  generalize upd H0 c1 (.lst [.str hd]) = H1 at s1 e1 ⊢
  have S1 := s0.trans s1
  refine ⟨_,rd1 (s1 _ _ e0),rd1 e1,sh1 sk,_,rfl,iteF ?_⟩
  refine ⟨_,rfl,_,rfl,s,_,rfl,SqL.of (S1 _ _ hs),fun c2 hc2 => ?_⟩
  rw [List.map_cons,cut1]
  have s2 := Same.new (o := .lst (ws.map V.str)) hc2
  have e2 : upd H1 c2 (.lst (ws.map V.str)) c2 = some (.lst (ws.map V.str)) := Ad
  generalize upd H1 c2 (.lst (ws.map V.str)) = H2 at s2 e2 ⊢
  have S2 := S1.trans s2
  refine ⟨_,rfl,c2,rfl,⟨_,SqL.of e2⟩,Bj (K := K) (a := c2) (xs := ws.map V.str) (fun j us H' => us = (List.replicate j true).map V.bl ∧ H' = H2) ⟨rfl,rfl⟩ (by rw [List.length_map,hz]; omega) ?_ ?_ ?_ ?_⟩
  ·rintro j us H' ⟨rfl,_⟩
   rw [List.length_map,List.length_replicate]; exact Nat.le_refl _
  ·rintro j us H' _ ⟨_,rfl⟩
   exact SqL.of e2
  ·rintro j x us H' hx ⟨rfl,rfl⟩
   rw [List.getElem?_map] at hx
   obtain ⟨z,hz,rfl⟩ := Option.map_eq_some_iff.mp hx
   refine ⟨_,rfl,_,rfl,p,_,rfl,hp.same S2,rfl,flat_strs zs,?_⟩
   rw [in_strs (hw z (List.mem_of_getElem? hz))]
   exact ⟨by rw [List.replicate_succ',List.map_append]; rfl,rfl⟩
  ·rintro us H' ⟨rfl,rfl⟩ l3 hl3
   have s3 := Same.new (o := .lst ((List.replicate (ws.map V.str).length true).map V.bl)) hl3
   have e3 : upd H' l3 (.lst ((List.replicate (ws.map V.str).length true).map V.bl)) l3 = some (.lst ((List.replicate (ws.map V.str).length true).map V.bl)) := Ad
   generalize upd H' l3 (.lst ((List.replicate (ws.map V.str).length true).map V.bl)) = H3 at s3 e3 ⊢
   refine ⟨l3,_,rfl,SqL.of e3,?_⟩
   rw [all_rep]
   refine ⟨_,rfl,?_⟩
   refine ⟨_,rfl,c2,ws,rfl,SqL.of (s3 _ _ e2),nd,hn,_,rfl,_,_,rfl,.inl ⟨_,SqL.of (s3 _ _ e2),rfl⟩,?_⟩
   rw [List.length_map]
   refine ⟨rfl,?_⟩
   have : decide (V.int (ws.length : Nat) = V.int (ws.length : Nat)) = true := decide_eq_true rfl
   show Q (.bl (decide (V.int (ws.length : Nat) = V.int (ws.length : Nat)))) H3
   rw [this]
   exact q _ (S2.trans s3)
end
end K15
namespace L2
open PySem PySem.Spec PyProof.Rows
theorem call_intT {X : Cx} : CallR X (.type "int") (fun xs H Q => ∃ z n,xs = [.str z] ∧ PySem.intText? z = some n ∧ z.length ≤ 640 ∧ Q (.int n) H) := by
 intro pins s σ H xs us Q I r h
 obtain ⟨z,n,rfl,hn,hl,q⟩ := h
 obtain ⟨u,rfl,ru⟩ := vals1 r
 obtain ⟨t,rfl⟩ := ru
 exact PySem.W.KIN.call_text hn hl ⟨.int n,H,I.tok _,⟨_,rfl⟩,q⟩
end L2
namespace K15
open PySem L2 PyProof.Rows
theorem mp_rest2 {C R G : Prop} (r : C → R) (h : (C → R) → G) : G := h r
theorem fig_in (c : Nat) : (!(Builtin.Str.occurrences (Str.ofString "0123456789") ⟨#[c]⟩ 0 (Str.ofString "0123456789").length 1).isEmpty) = isFig c := by
 rw [PySem.StrLaws.found_one]
 have e : (Str.ofString "0123456789").cps.toList = [48,49,50,51,52,53,54,55,56,57] := by decide +kernel
 rw [e,Bool.eq_iff_iff]
 have h1 : ∀ c ∈ ([48,49,50,51,52,53,54,55,56,57] : List Nat),isFig c = true := by decide +kernel
 have h2 : ∀ i : Fin 10,48 + i.val ∈ ([48,49,50,51,52,53,54,55,56,57] : List Nat) := by decide +kernel
 refine ⟨fun h => h1 c (of_decide_eq_true h),fun h => decide_eq_true ?_⟩
 unfold isFig at h
 have h := of_decide_eq_true h
 obtain ⟨d,rfl⟩ := Nat.exists_eq_add_of_le h.1
 exact h2 ⟨d,by omega⟩
structure NumT (z : Str) (L : Nat) : Prop where
 h1 : 1 ≤ z.length
 h2 : z.length ≤ L
 h3 : ¬ (z.cps.getD 0 0 = 48 ∧ 1 < z.length)
 h4 : z.cps.toList.all isFig = true
theorem num4 {n : Nat} (h : n < 10000) : NumT (nT n) 4 := by
 have := fig_ok h
 unfold figOk at this
 simp only [Bool.and_eq_true,decide_eq_true_eq,Bool.not_eq_true',Bool.and_eq_false_iff,decide_eq_false_iff_not] at this
 obtain ⟨⟨⟨a,b⟩,c⟩,d⟩ := this
 exact ⟨a,b,fun ⟨x,y⟩ => c.elim (fun f => f x) (fun f => f y),d⟩
theorem num2 {n : Nat} (h : n < 100) : NumT (nT n) 2 := by
 obtain ⟨a,b,c,d⟩ := num4 (n := n) (by omega)
 exact ⟨a,small_text ⟨n,h⟩,c,d⟩
def spNum : Sp := fun vs H Q _ => ∃ (z : Str) (L : Nat),vs = [.str z,.int L] ∧ NumT z L ∧ L ≤ 4 ∧ ∀ H',Same H H' → Q (.bl true) H'
section
variable {P : Program} {w : World} {K : PySem.W.Frag} {mg : Str → Option Value} {base : Heap} {cT cL cB ad : Addr} {J : Js}
abbrev B7 : Stmt := top 27
theorem scis_number_text : Ak ["text","longest"] ["text","longest"] (Ag B7) := by trivial
theorem ok_num (T : Txt mg) (N : Tx2 mg) (F : Ai K mg "is_number_text" B7 ["text","longest"]) : FnAt P w K mg base "is_number_text" 1 ["text","longest"] spNum := by
 refine F.at scis_number_text (fun vs H Q E h => ?_) (fun f cdv A outer s H vs Q E hr h => ?_)
 ·obtain ⟨z,L,rfl,_⟩ := h
  rfl
 ·obtain ⟨z,L,rfl,⟨h1,h2,h3,h4⟩,hL,q⟩ := h
  refine ⟨_,(Ab (A7 (A9 (pt_chain op_le op_le Af (An A4 rfl T.n_len boot_len (Aa (pv 0) Ac)) (pv 1))) (Ae Ar) Ap)
   (Ab (A7 (PW.pt (pw_and (A1 Ey (Az ix_str (pv 0) Af (fun _ _ => rfl)) Av (A0 _)) (pw_and1 (A1 op_gt (An A4 rfl T.n_len boot_len (Aa (pv 0) Ac)) Af (A0 _))))) (Ae Ar) Ap)
   (Ae (Aq (An (Di rfl) rfl T.n_all boot_all (Aa (Bs (sc := Ag B7) (N0 := ["text","longest"]) (xs := ["sign"]) (ys := []) (js := []) (by trivial) rfl (pi_str (pv 0)) (fun _ _ _ _ => (As (i := 0) (show (["sign"] : List Str).Nodup by decide +kernel) rfl (by trivial))) (fun _ _ _ _ => Cj) (fun _ _ _ _ => (Bo op_in_str (pv 0) (pe_globS rfl N.g_FIGURES) (by with_unfolding_all rfl)))) Ac)))))),?_⟩
  have hs : sizeLine = 16777216 := sizeLine_eq
  refine ⟨_,rfl,_,_,rfl,⟨by omega,rfl⟩,_,_,rfl,rfl,_,rfl,?_⟩
  refine ite2 (fun g1 => ?_) (fun g1 => absurd (decide_eq_true (show (1 : Int) ≤ (z.length : Int) by omega)) g1)
  refine ⟨_,rfl,_,_,rfl,rfl,_,rfl,?_⟩
  refine ite2 (fun g2 => absurd g2 (by rw [decide_eq_true (show (z.length : Int) ≤ (L : Int) by omega)]; decide)) (fun g2 => ?_)
  have hsz : z.cps.size = z.length := rfl
  have h0 : 0 < z.cps.size := by omega
  refine' mp_rest2 (C := True) ?r ?b
  case b =>
   intro r
   refine ⟨_,rfl,z,0,z.cps.getD 0 0,rfl,rfl,(by omega),atI_nat (j := 0) (by rw [Array.getD_eq_getD_getElem?,Array.getElem?_eq_getElem h0]; simp [h0]),rfl,_,rfl,?_⟩
   refine ite2 (fun g3 => ?_) (fun g3 => iteF (r trivial))
   refine ⟨_,rfl,_,_,rfl,⟨by omega,rfl⟩,_,_,rfl,rfl,_,rfl,?_⟩
   refine ite2 (fun g4 => ?_) (fun g4 => r trivial)
   have g4 : (1 : Int) < (z.length : Int) := of_decide_eq_true g4
   have g3 : (⟨#[z.cps.getD 0 0]⟩ : Str) = Str.ofString "0" := V.str.inj (of_decide_eq_true g3)
   have h5 : z.cps.getD 0 0 = 48 := by
    have e : Str.ofString "0" = ⟨#[48]⟩ := by decide +kernel
    rw [e] at g3
    have := congrArg (fun x : Str => x.cps.getD 0 0) g3
    simpa using this
   exact absurd ⟨h5,by omega⟩ h3
  case r =>
   intro _
   refine ⟨_,rfl,z,rfl,comp_str (fun i ys H' => H' = H ∧ ys = (z.cps.toList.take i).map fun c => V.bl (isFig c)) ⟨rfl,rfl⟩ (by show z.length ≤ sizeLine; omega) ?_ ?_ ?_⟩
   ·rintro i ys H' ⟨rfl,rfl⟩
    simp; omega
   ·rintro i ys H' hi ⟨rfl,rfl⟩
    refine ⟨_,rfl,_,_,rfl,rfl,rfl,?_⟩
    have e3 : (!(Builtin.Str.occurrences (Str.ofString "0123456789") (sgn z i) 0 (Str.ofString "0123456789").length 1).isEmpty) = isFig (z.cps.getD i 0) := fig_in _
    rw [e3]
    exact take_map_snoc z hi fun c => V.bl (isFig c)
   ·rintro ys H' ⟨rfl,rfl⟩ p hp
    refine ⟨p,z.cps.toList.map isFig,rfl,SqL.of (by rw [Ad,List.take_of_length_le (by simp),List.map_map]; rfl),?_⟩
    have := q _ (Same.new (o := .lst ((z.cps.toList.take z.cps.size).map fun c => V.bl (isFig c))) hp)
    rw [show (z.cps.toList.map isFig).all id = true by rw [List.all_map]; exact h4]
    exact this
theorem dot1 : ("." : Str) = ⟨#[46]⟩ := by decide +kernel
theorem word_no {z : Str} (h : Ay z = true) {c : Nat} (hc : ¬ (97 ≤ c ∧ c ≤ 122)) : c ∉ z.cps.toList := fun m => by
 unfold Ay at h
 rw [Bool.and_eq_true] at h
 have := List.all_eq_true.mp h.2 c m
 unfold D3 at this
 exact hc (of_decide_eq_true this)
theorem fig_no {z : Str} {L : Nat} (h : NumT z L) {c : Nat} (hc : ¬ (48 ≤ c ∧ c ≤ 57)) : c ∉ z.cps.toList := fun m => by
 have := List.all_eq_true.mp h.h4 c m
 unfold isFig at this
 exact hc (of_decide_eq_true this)
theorem split_key {a : Str} {n : Nat} (ha : Ay a = true) (hn : n < 100) : Txt.split (Bp a n) "." = [a,nT n] := by
 have e : Bp a n = Txt.join ⟨#[46]⟩ [a,nT n] := by
  rw [tjoin]
  show a ++ ("." : Str) ++ nT n = a ++ ⟨#[46]⟩ ++ nT n
  rw [dot1]
 rw [e,dot1]
 refine split_join (by simp) fun z hz => ?_
 simp only [List.mem_cons,List.not_mem_nil,or_false] at hz
 rcases hz with rfl | rfl
 ·exact word_no ha (by decide)
 ·exact fig_no (num2 hn) (by decide)
def spIKT : Sp := fun vs H Q _ => ∃ (a : Str) (n : Nat),vs = [.str (Bp a n)] ∧ Ay a = true ∧ n < 100 ∧ ∀ H',Same H H' → Q (.bl true) H'
abbrev Ed : Stmt := top 28
theorem scis_key_text : Ak ["text","halves"] ["text"] (Ag Ed) := by trivial
theorem ok_ikt (T : Txt mg) (F_is_word : FnAt P w K mg base "is_word" 1 ["thing"] (spWord K)) (F_is_number_text : FnAt P w K mg base "is_number_text" 1 ["text","longest"] spNum) (F : Ai K mg "is_key_text" Ed ["text"]) :
 FnAt P w K mg base "is_key_text" 2 ["text"] spIKT := by
 refine F.at scis_key_text (fun vs H Q E h => ?_) (fun f cdv A outer s H vs Q E hr h => ?_)
 ·obtain ⟨a,n,rfl,_⟩ := h
  rfl
 ·obtain ⟨a,n,rfl,ha,hn,q⟩ := h
  refine ⟨_,(Ab (Al (i := 1) scis_key_text.nd rfl (by trivial) (Bl PySem.F.plainAttrs_str PySem.F.slot_str_split PySem.F.type_str_split mt_split (pv 0) (Aa Av Ac)))
   (Ae (Aq (Dl (Bo Ey (An A4 rfl T.n_len boot_len (Aa (pv 1) Ac)) Af (A0 _)) (Dl (Ao F_is_word hr (by decide) rfl (Aa (Az At (pv 1) Af (fun _ _ => rfl)) Ac)) (Ex (Ao F_is_number_text hr (by decide) rfl (Aa (Az At (pv 1) Af (fun _ _ => rfl)) (Aa Af Ac))))))))),?_⟩
  have hs : sizeLine = 16777216 := sizeLine_eq
  have tl := text_len ha (n := (n : Int)) (by omega) (by omega)
  refine ⟨_,rfl,rfl,Bp a n,".",rfl,rfl,(by decide +kernel),(by omega),fun p hp => ?_⟩
  rw [split_key ha hn]
  have s1 := Same.new (o := .lst (([a,nT n] : List Str).map V.str)) hp
  have l1 : upd H p (.lst (([a,nT n] : List Str).map V.str)) p = some (.lst [.str a,.str (nT n)]) := Ad
  generalize upd H p (.lst (([a,nT n] : List Str).map V.str)) = H1 at s1 l1 ⊢
  refine ⟨_,rfl,_,_,rfl,.inl ⟨_,SqL.of l1,rfl⟩,rfl,_,rfl,iteT ?_⟩
  refine ⟨_,rfl,p,_,_,V.str a,rfl,rfl,SqL.of l1,rfl,.str a,rfl,⟨.str,TyOf.str a⟩,(fun z' e => by cases e; have := word_len ha; omega),fun H2 s2 => ⟨_,rfl,?_⟩⟩
  have l2 := s2 _ _ l1
  show if Ay a = true then _ else _
  rw [ha]
  refine iteT ⟨_,rfl,p,_,_,V.str (nT n),rfl,rfl,SqL.of l2,rfl,nT n,2,rfl,num2 hn,(by decide),fun H3 s3 => q H3 ((s1.trans s2).trans s3)⟩
def spKO : Sp := fun vs H Q _ => ∃ (a : Str) (n : Nat),vs = [.str (Bp a n)] ∧ Ay a = true ∧ n < 100 ∧ ∀ (p : Addr) (H' : Hp),Same H H' → H' p = some (.tup [.str a,.int n]) → Q (.ref p) H'
abbrev skey_of : Stmt := top 29
theorem sckey_of : Ak ["text","halves"] ["text"] (Ag skey_of) := by trivial
theorem ok_ko (T : Txt mg) (F_is_key_text : FnAt P w K mg base "is_key_text" 2 ["text"] spIKT) (F : Ai K mg "key_of" skey_of ["text"]) :
 FnAt P w K mg base "key_of" 3 ["text"] spKO := by
 refine F.at sckey_of (fun vs H Q E h => ?_) (fun f cdv A outer s H vs Q E hr h => ?_)
 ·obtain ⟨a,n,rfl,_⟩ := h
  rfl
 ·obtain ⟨a,n,rfl,ha,hn,q⟩ := h
  refine ⟨_,(Ab (A7 (PW.pt (pw_or (A9 (A8 (An (D5 .str (by simp)) rfl T.n_isinstance boot_isinstance (Aa (pv 0) (Aa (Bx (v := .ty "str") rfl T.n_str boot_str rfl) Ac))))) (Ej (A9 (A8 (Ao F_is_key_text hr (by decide) rfl (Aa (pv 0) Ac))))))) (Ae Ar) Ap)
   (Ab (Al (i := 1) sckey_of.nd rfl (by trivial) (Bl PySem.F.plainAttrs_str PySem.F.slot_str_split PySem.F.type_str_split mt_split (pv 0) (Aa Av Ac)))
   (Ae (Aq (pe_tup (Aa (Az At (pv 1) Af (fun _ _ => rfl)) (Aa (Bh call_intT rfl T.n_int boot_int (Aa (Az At (pv 1) Af (fun _ _ => rfl)) Ac)) Ac))))))),?_⟩
  have hs : sizeLine = 16777216 := sizeLine_eq
  have tl := text_len ha (n := (n : Int)) (by omega) (by omega)
  refine ⟨_,rfl,_,.str,rfl,TyOf.str _,_,rfl,iteF ?_⟩
  refine ⟨_,rfl,a,n,rfl,ha,hn,fun H0 s0 => ⟨_,rfl,iteF ?_⟩⟩
  refine ⟨_,rfl,rfl,Bp a n,".",rfl,rfl,(by decide +kernel),(by omega),fun p hp => ?_⟩
  rw [split_key ha hn]
  have s1 := Same.new (o := .lst (([a,nT n] : List Str).map V.str)) hp
  have l1 : upd H0 p (.lst (([a,nT n] : List Str).map V.str)) p = some (.lst [.str a,.str (nT n)]) := Ad
  generalize upd H0 p (.lst (([a,nT n] : List Str).map V.str)) = H1 at s1 l1 ⊢
  have il : PySem.intText? (nT n) = some (n : Int) := PySem.W.KIN.num_reads (by omega) (by omega)
  have nl := (num2 hn).h2
  refine ⟨_,rfl,p,_,_,V.str a,rfl,rfl,SqL.of l1,rfl,_,rfl,p,_,_,V.str (nT n),rfl,rfl,SqL.of l1,rfl,nT n,n,rfl,il,(by omega),(by show 2 ≤ sizeLine; decide),fun p2 hp2 => ?_⟩
  exact q p2 _ ((s0.trans s1).trans (Same.new hp2)) Ad
end
open PySem L2 PyProof.Rows PySem.SeqAt
structure Nm (ws zs : List Str) : Prop where
 sub : ∀ z ∈ ws,z ∈ zs
 nd : ws.Nodup
 le : ws.length ≤ 100
theorem SAt.four {H : Hp} {l : Addr} {s0 s1 s2 s3 : List Str} (h : SAt H l [s0,s1,s2,s3]) : ∃ p0 p1 p2 p3,H l = some (.lst [.ref p0,.ref p1,.ref p2,.ref p3]) ∧ H p0 = some (.lst (s0.map V.str)) ∧ H p1 = some (.lst (s1.map V.str)) ∧ H p2 = some (.lst (s2.map V.str)) ∧ H p3 = some (.lst (s3.map V.str)) := by
 obtain ⟨ps,h1,h2,h3⟩ := h
 match ps,h1,h2,h3 with
 | [p0,p1,p2,p3],h1,_,h3 => exact ⟨p0,p1,p2,p3,h1,h3 0 _ _ rfl rfl,h3 1 _ _ rfl rfl,h3 2 _ _ rfl rfl,h3 3 _ _ rfl rfl⟩
theorem txt4 {H : Hp} {p0 p1 p2 p3 : Addr} {s0 s1 s2 s3 : List Str} (a0 : H p0 = some (.lst (s0.map V.str))) (a1 : H p1 = some (.lst (s1.map V.str))) (a2 : H p2 = some (.lst (s2.map V.str))) (a3 : H p3 = some (.lst (s3.map V.str))) : TxAt H [p0,p1,p2,p3] [s0,s1,s2,s3] := by
 refine ⟨rfl,fun i p s e1 e2 => ?_⟩
 match i,e1,e2 with
 | 0,e1,e2 => cases e1; cases e2; exact a0
 | 1,e1,e2 => cases e1; cases e2; exact a1
 | 2,e1,e2 => cases e1; cases e2; exact a2
 | 3,e1,e2 => cases e1; cases e2; exact a3
 | n + 4,e1,_ => simp at e1
theorem nm_ok {j : Nat} (h : j < 4) : PyData.strOk (nm j) = true := by
 rcases j4 h with e | e | e | e <;> rw [e] <;> decide +kernel
theorem nm_in {j : Nat} (h : j < 4) : nm j ∈ JW := by
 rcases j4 h with e | e | e | e <;> rw [e] <;> simp [JW]
def spATS (K : PySem.W.Frag) : Sp := fun vs H Q _ => ∃ (l p : Addr) (z1 w1 w2 w3 : List Str) (j : Nat),vs = [.ref l,.ref p] ∧ SAt H l [("lets" : Str) :: w1,("strings" : Str) :: w2,("bars" : Str) :: w3,[("reach" : Str),nm j]] ∧ j < 4 ∧ SqS K H p z1 ∧ Nm w1 deeds ∧ Nm w2 z1 ∧ Nm w3 z1 ∧ ∀ H',Same H H' → Q (.bl true) H'
def spAAS (K : PySem.W.Frag) : Sp := fun vs H Q _ => ∃ (l p : Addr) (z2 b0 b1 b2 b3 : List Str),vs = [.ref l,.ref p] ∧ SAt H l [nm 0 :: b0,nm 1 :: b1,nm 2 :: b2,nm 3 :: b3] ∧ SqS K H p z2 ∧ (∀ b ∈ [b0,b1,b2,b3],Nm b z2) ∧ ([b0,b1,b2,b3].flatten).Nodup ∧ ∀ H',Same H H' → Q (.bl true) H'
def spDS : Sp := fun vs H Q _ => ∃ (p : Addr) (a b : Nat),vs = [.ref p] ∧ a < 10000 ∧ b < 10000 ∧ H p = some (.lst (([("from" : Str),nT a,("to" : Str),nT b]).map V.str)) ∧ ∀ H',Same H H' → Q (.bl true) H'
section
variable {P : Program} {w : World} {K : PySem.W.Frag} {mg : Str → Option Value} {base : Heap} {cT cL cB ad : Addr} {J : Js}
abbrev Bw : Stmt := top 73
theorem scare_terms_sections : Ak ["sections","strings"] ["sections","strings"] (Ag Bw) := by trivial
theorem ok_ats (T : Txt mg) (D : DeedK K mg ad) (F_ins : FnAt P w K mg base "is_named_section" 1 ["section","head","known"] (spINS K)) (F_jw : FnAt P w K mg base "join_words" 2 [] spJW) (F : Ai K mg "are_terms_sections" Bw ["sections","strings"]) : FnAt P w K mg base "are_terms_sections" 3 ["sections","strings"] (spATS K) := by
 refine F.at scare_terms_sections (fun vs H Q E h => ?_) (fun f cdv A outer s H vs Q E hr h => ?_)
 ·obtain ⟨l,p,z1,w1,w2,w3,j,rfl,_⟩ := h
  rfl
 ·obtain ⟨l,p,z1,w1,w2,w3,j,rfl,hl,hj,hp,n1,n2,n3,q⟩ := h
  obtain ⟨p0,p1,p2,p3,hl,h0,h1,h2,h3⟩ := hl.four
  refine ⟨_,(Ab (A7 (A9 (A8 (Ao F_ins hr (by decide) rfl (Aa (Az At (pv 0) Af (fun _ _ => rfl)) (Aa Av (Aa (pe_glob (v := .ref ad) rfl D.m rfl) Ac)))))) (Ae Ar) Ap)
   (Ab (A7 (PW.pt (pw_or (A9 (A8 (Ao F_ins hr (by decide) rfl (Aa (Az At (pv 0) Af (fun _ _ => rfl)) (Aa Av (Aa (pv 1) Ac)))))) (Ej (A9 (A8 (Ao F_ins hr (by decide) rfl (Aa (Az At (pv 0) Af (fun _ _ => rfl)) (Aa Av (Aa (pv 1) Ac))))))))) (Ae Ar) Ap)
   (Ae (Aq (Dl (Bo Ey (An A4 rfl T.n_len boot_len (Aa (Az At (pv 0) Af (fun _ _ => rfl)) Ac)) Af (A0 _)) (Dl (Bo Ey (Az At (Az At (pv 0) Af (fun _ _ => rfl)) Af (fun _ _ => rfl)) Av (A0 _)) (Ex (Bo op_in_seq (Az At (Az At (pv 0) Af (fun _ _ => rfl)) Af (fun _ _ => rfl)) (pe_fn0 F_jw hr (by decide) rfl) (by with_unfolding_all rfl))))))))),?_⟩
  refine ⟨_,rfl,l,_,_,V.ref p0,rfl,rfl,SqL.of hl,rfl,p0,ad,"lets",w1,deeds,rfl,h0,(by decide +kernel),.inr (D.t _),n1.sub,n1.nd,(by have := n1.le; omega),fun H1 s1 => ⟨_,rfl,iteF ?_⟩⟩
  refine ⟨_,rfl,l,_,_,V.ref p1,rfl,rfl,SqL.of (s1 _ _ hl),rfl,_,rfl,p1,p,"strings",w2,z1,rfl,s1 _ _ h1,(by decide +kernel),hp.same s1,n2.sub,n2.nd,(by have := n2.le; omega),fun H2 s2 => ⟨_,rfl,iteF ?_⟩⟩
  have S2 := s1.trans s2
  refine ⟨_,rfl,l,_,_,V.ref p2,rfl,rfl,SqL.of (S2 _ _ hl),rfl,_,rfl,p2,p,"bars",w3,z1,rfl,S2 _ _ h2,(by decide +kernel),hp.same S2,n3.sub,n3.nd,(by have := n3.le; omega),fun H3 s3 => ⟨_,rfl,iteF ?_⟩⟩
  have S3 := S2.trans s3
  have l3 := SqL.of (K := K) (S3 _ _ hl)
  have e3 := SqL.of (K := K) (S3 _ _ h3)
  refine ⟨_,rfl,l,_,_,V.ref p3,rfl,rfl,l3,rfl,_,_,rfl,.inl ⟨_,e3,rfl⟩,rfl,_,rfl,iteT ?_⟩
  refine ⟨_,rfl,l,_,_,V.ref p3,rfl,rfl,l3,rfl,p3,_,_,V.str "reach",rfl,rfl,e3,rfl,rfl,_,rfl,iteT ?_⟩
  refine ⟨_,rfl,l,_,_,V.ref p3,rfl,rfl,l3,rfl,p3,_,_,V.str (nm j),rfl,rfl,e3,rfl,rfl,fun l4 H4 s4 _ e4 => ⟨l4,_,rfl,.inl (SqL.of e4),rfl,flat_strs _,?_⟩⟩
  rw [in_strs (nm_in hj)]
  exact q _ (S3.trans s4)
abbrev B4 : Stmt := top 74
theorem Bv : Ak ["sections","duties","named","word","section"] ["sections","duties"] (Ag B4) := by trivial
theorem ok_aas (T : Txt mg) (N : Tx2 mg) (F_ins : FnAt P w K mg base "is_named_section" 1 ["section","head","known"] (spINS K)) (F_jw : FnAt P w K mg base "join_words" 2 [] spJW) (F : Ai K mg "are_asks_sections" B4 ["sections","duties"]) : FnAt P w K mg base "are_asks_sections" 3 ["sections","duties"] (spAAS K) := by
 refine F.at Bv (fun vs H Q E h => ?_) (fun f cdv A outer s H vs Q E hr h => ?_)
 ·obtain ⟨l,p,z2,b0,b1,b2,b3,rfl,_⟩ := h
  rfl
 ·obtain ⟨l,p,z2,b0,b1,b2,b3,rfl,hl,hp,hN,nd,q⟩ := h
  obtain ⟨p0,p1,p2,p3,hl,h0,h1,h2,h3⟩ := hl.four
  refine ⟨_,(Ab (Al (i := 2) Bv.nd rfl (by trivial) (A5 Ac))
   (Ab (Dg PassesOwn.never rfl (pi_zipG rfl T.n_zip (Aa (pe_fn0 F_jw hr (by decide) rfl) (Aa (pv 0) Ac))) (pg_tup rfl (A6 (As (i := 3) Bv.nd rfl (by trivial)) (A6 (As (i := 4) Bv.nd rfl (by trivial)) pgs_nil))) (Ab (A7 (A9 (A8 (Ao F_ins hr (by decide) rfl (Aa (pv 4) (Aa (pv 3) (Aa (pv 1) Ac)))))) (Ae Ar) Ap)
   (Ae (A3 (Bl PySem.F.plainAttrs_list PySem.F.slot_list_extend PySem.F.type_list_extend mt_extend (pv 2) (Aa (Ba Cn (pv 4) (Bd Af) Bm) Ac))))))
   (Ae (Aq (Bo Ey (pe_lenS hr.hd rfl T.n_len rfl N.n_set (pv 2)) (An A4 rfl T.n_len boot_len (Aa (pv 2) Ac)) (A0 _)))))),?_⟩
  have hz : sizeLine = 16777216 := sizeLine_eq
  generalize hbs : [b0,b1,b2,b3] = bs at hN nd
  have at4' : ∀ i x y,(JW.map V.str)[i]? = some x → ([V.ref p0,V.ref p1,V.ref p2,V.ref p3] : List V)[i]? = some y → ∃ pp b,i < 4 ∧ x = V.str (nm i) ∧ y = V.ref pp ∧ H pp = some (.lst ((nm i :: b).map V.str)) ∧ bs[i]? = some b := fun i x y e1 e2 => by
   subst hbs
   match i,e1,e2 with
   | 0,e1,e2 => cases e1; cases e2; exact ⟨_,_,by decide,rfl,rfl,h0,rfl⟩
   | 1,e1,e2 => cases e1; cases e2; exact ⟨_,_,by decide,rfl,rfl,h1,rfl⟩
   | 2,e1,e2 => cases e1; cases e2; exact ⟨_,_,by decide,rfl,rfl,h2,rfl⟩
   | 3,e1,e2 => cases e1; cases e2; exact ⟨_,_,by decide,rfl,rfl,h3,rfl⟩
   | n + 4,_,e2 => simp at e2
  have bl : bs.length = 4 := by rw [← hbs]; rfl
  have flen : bs.flatten.length ≤ 400 := by
   rw [← hbs]
   have := (hN b0 (by rw [← hbs]; simp)).le
   have := (hN b1 (by rw [← hbs]; simp)).le
   have := (hN b2 (by rw [← hbs]; simp)).le
   have := (hN b3 (by rw [← hbs]; simp)).le
   simp only [List.flatten_cons,List.flatten_nil,List.length_append,List.length_nil]
   omega
  have tlen : ∀ i,(bs.take i).flatten.length ≤ 400 := fun i => by
   have h : bs.flatten = (bs.take i).flatten ++ (bs.drop i).flatten := by rw [← List.flatten_append,List.take_append_drop]
   have := congrArg List.length h
   rw [List.length_append] at this
   omega
  refine ⟨(by show 0 ≤ sizeLine; decide),fun l0 hl0 => ?_⟩
  have s0 := Same.new (o := .lst []) hl0
  have e0 : upd H l0 (.lst []) l0 = some (.lst []) := Ad
  generalize upd H l0 (.lst []) = H0 at s0 e0 ⊢
  refine ⟨rfl,fun l1 H1 s1 hl1 e1 => ?_⟩
  have S1 := s0.trans s1
  have e01 := s1 _ _ e0
  have n01 : l0 ≠ l1 := Ah e0 hl1
  refine ⟨_,rfl,false,false,l1,l,rfl,⟨_,SqL.of e1⟩,⟨_,SqL.of (S1 _ _ hl)⟩,for_zipG (K := K) (b1 := false) (b2 := false) (a := l1) (b := l) (xs := JW.map V.str) (ys := [V.ref p0,V.ref p1,V.ref p2,V.ref p3]) (fun i σ H' => ∃ v3 v4 : Option V,σ = [some (.ref l),some (.ref p),some (.ref l0),v3,v4] ∧ Same H H' ∧ H' l1 = some (.lst (JW.map V.str)) ∧ H' l0 = some (.lst ((bs.take i).flatten.map V.str)))
   ⟨_,_,rfl,S1,e1,e01⟩ rfl (fun i σ H' _ h => ?_) ?_ ?_⟩
  ·obtain ⟨_,_,_,s',e1',_⟩ := h
   exact ⟨SqL.of e1',SqL.of (s' _ _ hl)⟩
  ·rintro i x y t σ H' hx hy ⟨v3,v4,rfl,s',e1',e0'⟩ ht
   obtain ⟨pp,b,h4,rfl,rfl,hpp,hb⟩ := at4' i x y hx hy
   refine ⟨t,_,rfl,SqT.of Ad,rfl,_,_,rfl,_,_,rfl,rfl,?_⟩
   have sp' := Same.new (o := .tup [.str (nm i),.ref pp]) ht
   have t2 := s'.trans sp'
   have e1' := sp' _ _ e1'
   have e0' := sp' _ _ e0'
   generalize upd H' t (.tup [.str (nm i),.ref pp]) = H2 at sp' t2 e1' e0' ⊢
   have nb := hN b (List.mem_of_getElem? hb)
   refine ⟨_,rfl,_,rfl,_,rfl,pp,p,nm i,b,z2,rfl,t2 _ _ hpp,nm_ok h4,hp.same t2,nb.sub,nb.nd,(by have := nb.le; omega),fun H3 s3 => ⟨_,rfl,iteF ?_⟩⟩
   have t3 := t2.trans s3
   refine ⟨_,rfl,.inl ⟨rfl,_,SqL.of (s3 _ _ e0')⟩,_,rfl,_,rfl,pp,_,rfl,SqL.of (t3 _ _ hpp),fun c hc => ?_⟩
   rw [List.map_cons,cut1]
   have s4 := Same.new (o := .lst (b.map V.str)) hc
   have e4 : upd H3 c (.lst (b.map V.str)) c = some (.lst (b.map V.str)) := Ad
   have e04 := s4 _ _ (s3 _ _ e0')
   have e14 := s4 _ _ (s3 _ _ e1')
   have t4 := t3.trans s4
   generalize upd H3 c (.lst (b.map V.str)) = H4 at s4 e4 e04 e14 t4 ⊢
   have := tlen i
   have := nb.le
   refine ⟨l0,c,_,_,rfl,rfl,e04,e4,(by rw [List.length_map,List.length_map,hz]; omega),?_⟩
   refine ⟨_,_,rfl,?_,?_,?_⟩
   ·intro d o e
    rw [upd_ne (Ah e hl0)]
    exact t4 _ _ e
   ·rw [upd_ne n01.symm]
    exact e14
   ·obtain ⟨hil,hbe⟩ := List.getElem?_eq_some_iff.mp hb
    rw [Ad,List.take_succ_eq_append_getElem hil,List.flatten_append,List.map_append,hbe]
    simp
  ·rintro σ H' ⟨v3,v4,rfl,s',e1',e0'⟩
   have e0' : H' l0 = some (.lst (bs.flatten.map V.str)) := by
    rw [e0',List.take_of_length_le (by rw [bl]; decide)]
   refine ⟨_,rfl,l0,bs.flatten,rfl,SqL.of e0',nd,(by omega),_,rfl,_,_,rfl,.inl ⟨_,SqL.of e0',rfl⟩,?_⟩
   rw [List.length_map]
   refine ⟨rfl,?_⟩
   have : decide (V.int (bs.flatten.length : Nat) = V.int (bs.flatten.length : Nat)) = true := decide_eq_true rfl
   show Q (.bl (decide (V.int (bs.flatten.length : Nat) = V.int (bs.flatten.length : Nat)))) H'
   rw [this]
   exact q _ s'
abbrev Cl : Stmt := top 75
theorem scis_days_section : Ak ["section"] ["section"] (Ag Cl) := by trivial
theorem ok_ds (T : Txt mg) (N : Tx2 mg) (F_num : FnAt P w K mg base "is_number_text" 1 ["text","longest"] spNum) (F : Ai K mg "is_days_section" Cl ["section"]) : FnAt P w K mg base "is_days_section" 2 ["section"] spDS := by
 refine F.at scis_days_section (fun vs H Q E h => ?_) (fun f cdv A outer s H vs Q E hr h => ?_)
 ·obtain ⟨p,a,b,rfl,_⟩ := h
  rfl
 ·obtain ⟨p,a,b,rfl,ha,hb,hp,q⟩ := h
  refine ⟨_,(Ab (A7 (PW.pt (pw_or (A1 op_ne (An A4 rfl T.n_len boot_len (Aa (pv 0) Ac)) Af (A0 _)) (pw_or (A1 op_ne (Az At (pv 0) Af (fun _ _ => rfl)) Av (A0 _)) (Ej (A1 op_ne (Az At (pv 0) Af (fun _ _ => rfl)) Av (A0 _)))))) (Ae Ar) Ap)
   (Ae (Aq (Dl (Ao F_num hr (by decide) rfl (Aa (Az At (pv 0) Af (fun _ _ => rfl)) (Aa (Bi rfl N.g_LONGEST_DAY) Ac))) (Ex (Ao F_num hr (by decide) rfl (Aa (Az At (pv 0) Af (fun _ _ => rfl)) (Aa (Bi rfl N.g_LONGEST_DAY) Ac)))))))),?_⟩
  have e := SqL.of (K := K) hp
  refine ⟨_,rfl,_,_,rfl,.inl ⟨_,e,rfl⟩,rfl,_,rfl,iteF ?_⟩
  refine ⟨_,rfl,p,_,_,V.str "from",rfl,rfl,e,rfl,rfl,_,rfl,iteF ?_⟩
  refine ⟨_,rfl,p,_,_,V.str "to",rfl,rfl,e,rfl,rfl,_,rfl,iteF ?_⟩
  refine ⟨_,rfl,p,_,_,V.str (nT a),rfl,rfl,e,rfl,nT a,4,rfl,num4 ha,(by decide),fun H1 s1 => ⟨_,rfl,iteT ?_⟩⟩
  exact ⟨_,rfl,p,_,_,V.str (nT b),rfl,rfl,SqL.of (s1 _ _ hp),rfl,nT b,4,rfl,num4 hb,(by decide),fun H2 s2 => q _ (s1.trans s2)⟩
end
structure Ord where
 w1 : List Str
 w2 : List Str
 w3 : List Str
 b0 : List Str
 b1 : List Str
 b2 : List Str
 b3 : List Str
structure Ord.Ok (o : Ord) (r : Row) (z1 z2 : List Str) : Prop where
 p1 : o.w1.Perm (pick r.le deeds)
 p2 : o.w2.Perm (pick r.st z1)
 p3 : o.w3.Perm (pick r.ba z1)
 q0 : o.b0.Perm (pick (less r.a0 0) z2)
 q1 : o.b1.Perm (pick (less r.a1 r.a0) z2)
 q2 : o.b2.Perm (pick (less r.a2 r.a1) z2)
 q3 : o.b3.Perm (pick (less r.a3 r.a2) z2)
def secs (r : Row) (o : Ord) : List (List Str) := [[("licence" : Str),Bp r.w r.n],("lets" : Str) :: o.w1,("strings" : Str) :: o.w2,("bars" : Str) :: o.w3,[("reach" : Str),nm r.re],[Cp r.sa],nm 0 :: o.b0,nm 1 :: o.b1,nm 2 :: o.b2,nm 3 :: o.b3,[("from" : Str),nT r.fi,("to" : Str),nT r.la],[lastT r.lg]]
structure Nms (zs : List Str) : Prop where
 wd : ∀ z ∈ zs,Ay z = true
 nd : zs.Nodup
 n6 : zs.length ≤ 6
theorem Nms.few {zs : List Str} (h : Nms zs) : Few zs := few_words h.wd h.n6
theorem Eo {ws zs : List Str} {m : Nat} (p : ws.Perm (pick m zs)) (hm : m < 2 ^ zs.length) (nd : zs.Nodup) : Nm ws zs :=
 ⟨fun z hz => pick_mem hm (p.mem_iff.mp hz),p.nodup_iff.mpr (pick_nodup hm nd),by rw [p.length_eq]; have := pick_len m zs; omega⟩
theorem deeds_nd : deeds.Nodup := by decide +kernel
def SubM (a b : Nat) : Prop := ∀ k,a.testBit k = true → b.testBit k = true
theorem bey_and : ∀ a b : Fin 64,Bu a.val b.val = .non → a.val &&& b.val = a.val := by decide +kernel
theorem sub_of {a b : Nat} (ha : a < 64) (hb : b < 64) (h : Bu a b = .non) : SubM a b := fun k hk => by
 have e := bey_and ⟨a,ha⟩ ⟨b,hb⟩ h
 dsimp only at e
 rw [← e,Nat.testBit_and,Bool.and_eq_true] at hk
 exact hk.2
theorem less_in {a b k : Nat} (h : (less a b).testBit k = true) : a.testBit k = true := by
 unfold less at h
 rw [Nat.testBit_and,Bool.and_eq_true] at h
 exact h.1
theorem less_out {a b k : Nat} (ha : a < 64) (h : (less a b).testBit k = true) : b.testBit k = false := by
 have hk : k < 6 := bit_lt (n := 6) ha (less_in h)
 unfold less at h
 rw [Nat.testBit_and,Bool.and_eq_true,Nat.testBit_xor] at h
 have e : (63 : Nat).testBit k = true := by
  have : k = 0 ∨ k = 1 ∨ k = 2 ∨ k = 3 ∨ k = 4 ∨ k = 5 := by omega
  rcases this with rfl | rfl | rfl | rfl | rfl | rfl <;> decide
 rw [e] at h
 cases hb : b.testBit k with
 | false => rfl
 | true => rw [hb] at h; exact absurd h.2 (by decide)
theorem pick_dis {m m' : Nat} {zs ws ws' : List Str} (nd : zs.Nodup) (hm : m < 2 ^ zs.length) (hm' : m' < 2 ^ zs.length) (p : ws.Perm (pick m zs)) (p' : ws'.Perm (pick m' zs)) (h : ∀ k,m.testBit k = true → m'.testBit k = true → False) : ∀ x ∈ ws,∀ y ∈ ws',x ≠ y := by
 intro x hx y hy e
 subst e
 have hx := p.mem_iff.mp hx
 have hy := p'.mem_iff.mp hy
 unfold pick at hx hy
 obtain ⟨i,hi,rfl⟩ := List.mem_map.mp hx
 obtain ⟨j,hj,e⟩ := List.mem_map.mp hy
 have li := bit_lt hm (Cw.mp hi).2
 have lj := bit_lt hm' (Cw.mp hj).2
 rw [Er li,Er lj] at e
 have e := (List.getElem_inj nd).mp e
 subst e
 exact h j (Cw.mp hi).2 (Cw.mp hj).2
theorem ord_flat {o : Ord} {r : Row} {z1 z2 : List Str} (ok : o.Ok r z1 z2) (g : r.Good) (ft : r.a3 < 2 ^ z2.length) (nd : z2.Nodup) : (∀ b ∈ [o.b0,o.b1,o.b2,o.b3],Nm b z2) ∧ ([o.b0,o.b1,o.b2,o.b3].flatten).Nodup := by
 have t := g.ha
 have l : ∀ i,r.a i < 2 ^ z2.length := fun i => Nat.lt_of_le_of_lt (a_le g.ha i) ft
 have l0 : less r.a0 0 < 2 ^ z2.length := less_lt (l 0)
 have l1 : less r.a1 r.a0 < 2 ^ z2.length := less_lt (l 1)
 have l2 : less r.a2 r.a1 < 2 ^ z2.length := less_lt (l 2)
 have l3 : less r.a3 r.a2 < 2 ^ z2.length := less_lt (l 3)
 have s01 := sub_of t.l0 t.l1 t.b0
 have s12 := sub_of t.l1 t.l2 t.b1
 have n0 := Eo ok.q0 l0 nd
 have n1 := Eo ok.q1 l1 nd
 have n2 := Eo ok.q2 l2 nd
 have n3 := Eo ok.q3 l3 nd
 refine ⟨fun b hb => ?_,?_⟩
 ·simp only [List.mem_cons,List.not_mem_nil,or_false] at hb
  rcases hb with rfl | rfl | rfl | rfl
  ·exact n0
  ·exact n1
  ·exact n2
  ·exact n3
 ·unfold List.Nodup
  rw [List.pairwise_flatten]
  refine ⟨fun b hb => ?_,?_⟩
  ·simp only [List.mem_cons,List.not_mem_nil,or_false] at hb
   rcases hb with rfl | rfl | rfl | rfl
   ·exact n0.nd
   ·exact n1.nd
   ·exact n2.nd
   ·exact n3.nd
  ·have d01 := pick_dis nd l0 l1 ok.q0 ok.q1 fun k h h' => by
    have := less_out t.l1 h'
    rw [less_in h] at this
    cases this
   have d02 := pick_dis nd l0 l2 ok.q0 ok.q2 fun k h h' => by
    have := less_out t.l2 h'
    rw [s01 k (less_in h)] at this
    cases this
   have d03 := pick_dis nd l0 l3 ok.q0 ok.q3 fun k h h' => by
    have := less_out t.l3 h'
    rw [s12 k (s01 k (less_in h))] at this
    cases this
   have d12 := pick_dis nd l1 l2 ok.q1 ok.q2 fun k h h' => by
    have := less_out t.l2 h'
    rw [less_in h] at this
    cases this
   have d13 := pick_dis nd l1 l3 ok.q1 ok.q3 fun k h h' => by
    have := less_out t.l3 h'
    rw [s12 k (less_in h)] at this
    cases this
   have d23 := pick_dis nd l2 l3 ok.q2 ok.q3 fun k h h' => by
    have := less_out t.l3 h'
    rw [less_in h] at this
    cases this
   refine .cons (fun b hb => ?_) (.cons (fun b hb => ?_) (.cons (fun b hb => ?_) (.cons (fun b hb => ?_) .nil)))
   ·simp only [List.mem_cons,List.not_mem_nil,or_false] at hb
    rcases hb with rfl | rfl | rfl
    ·exact d01
    ·exact d02
    ·exact d03
   ·simp only [List.mem_cons,List.not_mem_nil,or_false] at hb
    rcases hb with rfl | rfl
    ·exact d12
    ·exact d13
   ·simp only [List.mem_cons,List.not_mem_nil,or_false] at hb
    subst hb
    exact d23
   ·cases hb
theorem SAt.twelve {H : Hp} {l : Addr} {s0 s1 s2 s3 s4 s5 s6 s7 s8 s9 s10 s11 : List Str} (h : SAt H l [s0,s1,s2,s3,s4,s5,s6,s7,s8,s9,s10,s11]) :
 ∃ p0 p1 p2 p3 p4 p5 p6 p7 p8 p9 p10 p11,H l = some (.lst [.ref p0,.ref p1,.ref p2,.ref p3,.ref p4,.ref p5,.ref p6,.ref p7,.ref p8,.ref p9,.ref p10,.ref p11]) ∧ (H p0 = some (.lst (s0.map V.str)) ∧ H p1 = some (.lst (s1.map V.str)) ∧ H p2 = some (.lst (s2.map V.str)) ∧ H p3 = some (.lst (s3.map V.str)) ∧ H p4 = some (.lst (s4.map V.str)) ∧ H p5 = some (.lst (s5.map V.str))) ∧ (H p6 = some (.lst (s6.map V.str)) ∧ H p7 = some (.lst (s7.map V.str)) ∧ H p8 = some (.lst (s8.map V.str)) ∧ H p9 = some (.lst (s9.map V.str)) ∧ H p10 = some (.lst (s10.map V.str)) ∧ H p11 = some (.lst (s11.map V.str))) := by
 obtain ⟨ps,h1,h2,h3⟩ := h
 match ps,h1,h2,h3 with
 | [p0,p1,p2,p3,p4,p5,p6,p7,p8,p9,p10,p11],h1,_,h3 => exact ⟨p0,p1,p2,p3,p4,p5,p6,p7,p8,p9,p10,p11,h1,⟨h3 0 _ _ rfl rfl,h3 1 _ _ rfl rfl,h3 2 _ _ rfl rfl,h3 3 _ _ rfl rfl,h3 4 _ _ rfl rfl,h3 5 _ _ rfl rfl⟩,h3 6 _ _ rfl rfl,h3 7 _ _ rfl rfl,h3 8 _ _ rfl rfl,h3 9 _ _ rfl rfl,h3 10 _ _ rfl rfl,h3 11 _ _ rfl rfl⟩
theorem same_ok (b : Bool) : PyData.strOk (Cp b) = true := by cases b <;> decide +kernel
theorem last_ok (b : Bool) : PyData.strOk (lastT b) = true := by cases b <;> decide +kernel
def rEq1 (K : PySem.W.Frag) (neg : Bool) : R2 := fun x y H Q => ∃ (a b : Addr) (u v : Str),x = .ref a ∧ y = .ref b ∧ H a = some (.lst [.str u]) ∧ H b = some (.lst [.str v]) ∧ PyData.strOk u = true ∧ PyData.strOk v = true ∧ Q (.bl (if neg then !decide (u = v) else decide (u = v))) H
theorem eqv1 {u v : Str} (hu : PyData.strOk u = true) (hv : PyData.strOk v = true) : PyData.eqv (.list [.str u]) (.list [.str v]) = decide (u = v) := by
 have e : PyData.eqv (.list [.str u]) (.list [.str v]) = (u == v) := by
  simp [PyData.eqv,PyData.eqvAll]
 rw [e,Bool.eq_iff_iff,beq_iff_eq,decide_eq_true_iff]
theorem op_eq1 {X : Cx} (hu : X.A.units + 64 < cLine) : OpR X (compareOp .Eq) (rEq1 X.K false) := by
 intro pins s σ H x y v u Q I rx ry ⟨a,b,z,z',e1,e2,h1,h2,k1,k2,q⟩
 subst e1 e2
 exact op_eqD hu pins s σ H _ _ v u Q I rx ry ⟨_,_,rd1 h1,rd1 h2,sh1 k1,sh1 k2,by rw [eqv1 k1 k2]; exact q⟩
theorem op_ne1 {X : Cx} (hu : X.A.units + 64 < cLine) : OpR X (compareOp .NotEq) (rEq1 X.K true) := by
 intro pins s σ H x y v u Q I rx ry ⟨a,b,z,z',e1,e2,h1,h2,k1,k2,q⟩
 subst e1 e2
 exact op_neD hu pins s σ H _ _ v u Q I rx ry ⟨_,_,rd1 h1,rd1 h2,sh1 k1,sh1 k2,by rw [eqv1 k1 k2]; exact q⟩
def spALS (K : PySem.W.Frag) : Sp := fun vs H Q _ => ∃ (l p1 p2 : Addr) (z1 z2 : List Str) (r : Row) (o : Ord),vs = [.ref l,.ref p1,.ref p2] ∧ SAt H l (secs r o) ∧ SqS K H p1 z1 ∧ SqS K H p2 z2 ∧ r.Good ∧ r.Fits z1.length z2.length ∧ o.Ok r z1 z2 ∧ z1.Nodup ∧ z2.Nodup ∧ ∀ H',Same H H' → Q (.bl true) H'
theorem same_one (b : Bool) (h1 : (!decide (Cp b = ("same" : Str))) = true) (h2 : (!decide (Cp b = ("free" : Str))) = true) : False := by
 revert h1 h2
 cases b <;> decide +kernel
section
variable {P : Program} {w : World} {K : PySem.W.Frag} {mg : Str → Option Value} {base : Heap} {cT cL cB ad : Addr} {J : Js}
abbrev Bk : Stmt := top 76
theorem scare_licence_sections : Ak ["sections","strings","duties"] ["sections","strings","duties"] (Ag Bk) := by trivial
theorem ok_als (T : Txt mg) (N : Tx2 mg) (F_ikt : FnAt P w K mg base "is_key_text" 2 ["text"] spIKT) (F_ats : FnAt P w K mg base "are_terms_sections" 3 ["sections","strings"] (spATS K)) (F_aas : FnAt P w K mg base "are_asks_sections" 3 ["sections","duties"] (spAAS K)) (F_ds : FnAt P w K mg base "is_days_section" 2 ["section"] spDS)
 (F : Ai K mg "are_licence_sections" Bk ["sections","strings","duties"]) : FnAt P w K mg base "are_licence_sections" 4 ["sections","strings","duties"] (spALS K) := by
 refine F.at scare_licence_sections (fun vs H Q E h => ?_) (fun f cdv A outer s H vs Q E hr h => ?_)
 ·obtain ⟨l,q1,q2,z1,z2,r,o,rfl,_⟩ := h
  rfl
 ·obtain ⟨l,q1,q2,z1,z2,r,o,rfl,hl,h1,h2,g,ft,ok,nd1,nd2,q⟩ := h
  obtain ⟨p0,p1,p2,p3,p4,p5,p6,p7,p8,p9,p10,p11,hl,⟨e0,e1,e2,e3,e4,e5⟩,e6,e7,e8,e9,e10,e11⟩ := hl.twelve
  refine ⟨_,(Ab (A7 (A1 op_ne (An A4 rfl T.n_len boot_len (Aa (pv 0) Ac)) (Bi rfl N.g_SECTION_COUNT) (A0 _)) (Ae Ar) Ap)
   (Ab (A7 (PW.pt (pw_or (A1 op_ne (An A4 rfl T.n_len boot_len (Aa (Az At (pv 0) Af (fun _ _ => rfl)) Ac)) Af (A0 _)) (pw_or (A1 op_ne (Az At (Az At (pv 0) Af (fun _ _ => rfl)) Af (fun _ _ => rfl)) Av (A0 _)) (Ej (A9 (A8 (Ao F_ikt hr (by decide) rfl (Aa (Az At (Az At (pv 0) Af (fun _ _ => rfl)) Af (fun _ _ => rfl)) Ac)))))))) (Ae Ar) Ap)
   (Ab (A7 (PW.pt (pw_or (A9 (A8 (Ao F_ats hr (by decide) rfl (Aa (Ba Cn (pv 0) (Bd Af) (Bd Af)) (Aa (pv 1) Ac))))) (Ej (A9 (A8 (Ao F_aas hr (by decide) rfl (Aa (Ba Cn (pv 0) (Bd Af) (Bd Af)) (Aa (pv 2) Ac)))))))) (Ae Ar) Ap)
   (Ab (ps_mid (A7 (PW.pt (pw_and (A1 (op_ne1 hr.units) (Az At (pv 0) Af (fun _ _ => rfl)) (A5 (Aa Av Ac)) (A0 _)) (pw_and1 (A1 (op_ne1 hr.units) (Az At (pv 0) Af (fun _ _ => rfl)) (A5 (Aa Av Ac)) (A0 _))))) (Ae Ar) Ap))
   (Ae (Aq (Dl (Ao F_ds hr (by decide) rfl (Aa (Az At (pv 0) Af (fun _ _ => rfl)) Ac)) (Ex (pe_or (Bo (op_eq1 hr.units) (Az At (pv 0) Af (fun _ _ => rfl)) (A5 (Aa Av Ac)) (A0 _)) (Ex (Bo (op_eq1 hr.units) (Az At (pv 0) Af (fun _ _ => rfl)) (A5 (Aa Av Ac)) (A0 _)))))))))))),?_⟩
  have g4 := g.h4
  have L := SqL.of (K := K) hl
  have E0 := SqL.of (K := K) e0
  refine ⟨_,rfl,_,_,rfl,.inl ⟨_,L,rfl⟩,rfl,_,rfl,iteF ?_⟩
  refine ⟨_,rfl,l,_,_,V.ref p0,rfl,rfl,L,rfl,_,_,rfl,.inl ⟨_,E0,rfl⟩,rfl,_,rfl,iteF ?_⟩
  refine ⟨_,rfl,l,_,_,V.ref p0,rfl,rfl,L,rfl,p0,_,_,V.str "licence",rfl,rfl,E0,rfl,rfl,_,rfl,iteF ?_⟩
  refine ⟨_,rfl,l,_,_,V.ref p0,rfl,rfl,L,rfl,p0,_,_,V.str (Bp r.w r.n),rfl,rfl,E0,rfl,r.w,r.n,rfl,g.hw,(by have := g.hn; omega),fun H1 s1 => ⟨_,rfl,iteF ?_⟩⟩
  refine ⟨_,rfl,_,rfl,_,rfl,l,_,rfl,SqL.of (s1 _ _ hl),fun c1 hc1 => ?_⟩
  have s2 := Same.new (o := .lst (cutV [.ref p0,.ref p1,.ref p2,.ref p3,.ref p4,.ref p5,.ref p6,.ref p7,.ref p8,.ref p9,.ref p10,.ref p11] (some 1) (some 5))) hc1
  have f2 : upd H1 c1 (.lst (cutV [.ref p0,.ref p1,.ref p2,.ref p3,.ref p4,.ref p5,.ref p6,.ref p7,.ref p8,.ref p9,.ref p10,.ref p11] (some 1) (some 5))) c1 = some (.lst [.ref p1,.ref p2,.ref p3,.ref p4]) := Ad
  generalize upd H1 c1 (.lst (cutV [.ref p0,.ref p1,.ref p2,.ref p3,.ref p4,.ref p5,.ref p6,.ref p7,.ref p8,.ref p9,.ref p10,.ref p11] (some 1) (some 5))) = H2 at s2 f2 ⊢
  have S2 := s1.trans s2
  refine ⟨_,rfl,c1,q1,z1,o.w1,o.w2,o.w3,r.re,rfl,⟨[p1,p2,p3,p4],f2,txt4 (S2 _ _ e1) (S2 _ _ e2) (S2 _ _ e3) (S2 _ _ e4)⟩,Nat.lt_succ_of_le g4.hre,h1.same S2,Eo ok.p1 g4.hle deeds_nd,Eo ok.p2 ft.st nd1,Eo ok.p3 ft.ba nd1,fun H3 s3 => ⟨_,rfl,iteF ?_⟩⟩
  have S3 := S2.trans s3
  refine ⟨_,rfl,_,rfl,_,rfl,l,_,rfl,SqL.of (S3 _ _ hl),fun c4 hc4 => ?_⟩
  have s4 := Same.new (o := .lst (cutV [.ref p0,.ref p1,.ref p2,.ref p3,.ref p4,.ref p5,.ref p6,.ref p7,.ref p8,.ref p9,.ref p10,.ref p11] (some 6) (some 10))) hc4
  have f4 : upd H3 c4 (.lst (cutV [.ref p0,.ref p1,.ref p2,.ref p3,.ref p4,.ref p5,.ref p6,.ref p7,.ref p8,.ref p9,.ref p10,.ref p11] (some 6) (some 10))) c4 = some (.lst [.ref p6,.ref p7,.ref p8,.ref p9]) := Ad
  generalize upd H3 c4 (.lst (cutV [.ref p0,.ref p1,.ref p2,.ref p3,.ref p4,.ref p5,.ref p6,.ref p7,.ref p8,.ref p9,.ref p10,.ref p11] (some 6) (some 10))) = H4 at s4 f4 ⊢
  have S4 := S3.trans s4
  obtain ⟨on,of⟩ := ord_flat ok g ft.a3 nd2
  refine ⟨_,rfl,c4,q2,z2,o.b0,o.b1,o.b2,o.b3,rfl,⟨[p6,p7,p8,p9],f4,txt4 (S4 _ _ e6) (S4 _ _ e7) (S4 _ _ e8) (S4 _ _ e9)⟩,h2.same S4,on,of,fun H5 s5 => ⟨_,rfl,iteF ?_⟩⟩
  have S5 := S4.trans s5
  refine ⟨fun σ' H' => σ' = [some (.ref l),some (.ref q1),some (.ref q2)] ∧ Same H H',?_,?_⟩
  ·refine ⟨_,rfl,l,_,_,V.ref p5,rfl,rfl,SqL.of (S5 _ _ hl),rfl,(by show 1 ≤ sizeLine; decide),fun c6 hc6 => ?_⟩
   have s6 := Same.new (o := .lst [.str "same"]) hc6
   have f6 : upd H5 c6 (.lst [.str "same"]) c6 = some (.lst [.str "same"]) := Ad
   generalize upd H5 c6 (.lst [.str "same"]) = H6 at s6 f6 ⊢
   have S6 := S5.trans s6
   refine ⟨p5,c6,Cp r.sa,"same",rfl,rfl,S6 _ _ e5,f6,same_ok _,(by decide +kernel),_,rfl,?_⟩
   refine ite2 (fun n1 => ?_) (fun _ => iteF ⟨rfl,S6⟩)
   refine ⟨_,rfl,l,_,_,V.ref p5,rfl,rfl,SqL.of (S6 _ _ hl),rfl,(by show 1 ≤ sizeLine; decide),fun c7 hc7 => ?_⟩
   have s7 := Same.new (o := .lst [.str "free"]) hc7
   have f7 : upd H6 c7 (.lst [.str "free"]) c7 = some (.lst [.str "free"]) := Ad
   generalize upd H6 c7 (.lst [.str "free"]) = H7 at s7 f7 ⊢
   have S7 := S6.trans s7
   refine ⟨p5,c7,Cp r.sa,"free",rfl,rfl,S7 _ _ e5,f7,same_ok _,(by decide +kernel),_,rfl,?_⟩
   exact ite2 (fun n2 => (same_one r.sa n1 n2).elim) (fun _ => ⟨rfl,S7⟩)
  ·rintro σ' H6 ⟨rfl,S6⟩
   refine ⟨_,rfl,l,_,_,V.ref p10,rfl,rfl,SqL.of (S6 _ _ hl),rfl,p10,r.fi,r.la,rfl,(by have := g.hf; have := g.hl; omega),(by have := g.hl; omega),S6 _ _ e10,fun H7 s7 => ⟨_,rfl,iteT ?_⟩⟩
   have S7 := S6.trans s7
   refine ⟨_,rfl,l,_,_,V.ref p11,rfl,rfl,SqL.of (S7 _ _ hl),rfl,(by show 1 ≤ sizeLine; decide),fun c8 hc8 => ?_⟩
   have s8 := Same.new (o := .lst [.str "lasting"]) hc8
   have f8 : upd H7 c8 (.lst [.str "lasting"]) c8 = some (.lst [.str "lasting"]) := Ad
   generalize upd H7 c8 (.lst [.str "lasting"]) = H8 at s8 f8 ⊢
   have S8 := S7.trans s8
   refine ⟨p11,c8,lastT r.lg,"lasting",rfl,rfl,S8 _ _ e11,f8,last_ok _,(by decide +kernel),_,rfl,?_⟩
   cases hlg : r.lg with
   | true => exact iteT (q _ S8)
   | false =>
     refine iteF ?_
     refine ⟨_,rfl,l,_,_,V.ref p11,rfl,rfl,SqL.of (S8 _ _ hl),rfl,(by show 1 ≤ sizeLine; decide),fun c9 hc9 => ?_⟩
     have s9 := Same.new (o := .lst [.str "ends"]) hc9
     have f9 : upd H8 c9 (.lst [.str "ends"]) c9 = some (.lst [.str "ends"]) := Ad
     generalize upd H8 c9 (.lst [.str "ends"]) = H9 at s9 f9 ⊢
     have S9 := S8.trans s9
     have e11' := S9 _ _ e11
     rw [hlg] at e11'
     exact ⟨p11,c9,lastT false,"ends",rfl,rfl,e11',f9,last_ok _,(by decide +kernel),q _ S9⟩
end
end K15
namespace L2
open PySem PySem.Spec PyProof.Rows
theorem mt_indexK {X : Cx} (K : PySem.W.Frag) (hK : X.K = K := by rfl) : MtR X "list.index" (fun x xs H Q => ∃ (p : Addr) (zs : List Str) (z : Str) (j : Nat),x = .ref p ∧ xs = [.str z] ∧ SqL K H p (zs.map V.str) ∧ zs[j]? = some z ∧ (∀ i,i < j → zs[i]? ≠ some z) ∧ Q (.int (j : Nat)) H) := by
 subst hK
 exact mt_index
theorem mt_indexTK {X : Cx} (K : PySem.W.Frag) (hK : X.K = K := by rfl) : MtR X "tuple.index" (fun x xs H Q => ∃ (p : Addr) (zs : List Str) (z : Str) (j : Nat),x = .ref p ∧ xs = [.str z] ∧ SqT K H p (zs.map V.str) ∧ zs[j]? = some z ∧ (∀ i,i < j → zs[i]? ≠ some z) ∧ Q (.int (j : Nat)) H) := by
 subst hK
 exact mt_indexT
theorem pe_bmK {X : Cx} {o e : Expr} {es : List Expr} {to : TE} {t : TA} {name : Str} {apos cpos : Pos} {T id : String} {r : V → List V → Hp → VK → Prop} (K : PySem.W.Frag) (pa : PlainAttrs T) (slot : Slot T name id) (hty : typeOf (.builtin id) = pure (.type "method_descriptor")) (hm : MtR X id r) (ho : PE X o to) (ha : PA X (e :: es) t) (hK : X.K = K := by rfl)
 (hbase : attributeBase o name X.env (eval o X.env) = eval o X.env := by rfl)
 (hfew : ((backTo cpos (starEach (e :: es) X.env)).all (fun x => !x.1) && (backToKw cpos (keywordEach [] X.env)).all (fun x => x.1.isSome)
   && decide ((e :: es).length + ([] : List Keyword).length + (if ([] : List Keyword).isEmpty then 0 else 1) < 30)) = true := by rfl)
 (hline : (apos.endLine == cpos.line) = true := by rfl) (hs : starEach (e :: es) X.env = (false,eval e X.env) :: starEach es X.env := by rfl) (hplain : (backTo cpos (starEach es X.env)).any (·.1) = false := by rfl) :
 PE X (.Call (.Attribute o name apos) (e :: es) [] cpos) (tBM K T r to t) := by
 subst hK
 exact Bl pa slot hty hm ho ha hbase hfew hline hs hplain
end L2
namespace K15
open PySem L2 PyProof.Rows PySem.SeqAt
def spSM (K : PySem.W.Frag) : Sp := fun vs H Q _ => ∃ (s p : Addr) (hd : Str) (ws zs : List Str) (m : Nat),vs = [.ref s,.ref p] ∧ H s = some (.lst ((hd :: ws).map V.str)) ∧ (SqL K H p (zs.map V.str) ∨ (SqT K H p (zs.map V.str) ∧ FrzT K p)) ∧ zs.Nodup ∧ zs.length ≤ 6 ∧ m < 2 ^ zs.length ∧ ws.Perm (pick m zs) ∧ ∀ H',Same H H' → Q (.int (m : Nat)) H'
theorem idx_get {zs : List Str} {z : Str} (h : z ∈ zs) : zs[zs.idxOf z]? = some z := by
 have hl := List.idxOf_lt_length_of_mem h
 rw [List.getElem?_eq_getElem hl,List.getElem_idxOf hl]
theorem idx_first {zs : List Str} (nd : zs.Nodup) {z : Str} (h : z ∈ zs) : ∀ i,i < zs.idxOf z → zs[i]? ≠ some z := fun i hi e => by
 have hl := List.idxOf_lt_length_of_mem h
 obtain ⟨hil,he⟩ := List.getElem?_eq_some_iff.mp e
 have := idx_at nd hil
 rw [he] at this
 omega
section
variable {P : Program} {w : World} {K : PySem.W.Frag} {mg : Str → Option Value} {base : Heap} {cT cL cB ad : Addr} {J : Js}
abbrev Ca : Stmt := top 77
theorem scsection_mask : Ak ["section","known"] ["section","known"] (Ag Ca) := by trivial
theorem ok_sm (F_mask_of : FnAt P w K mg base "mask_of" 1 ["places"] (spMO K)) (F : Ai K mg "section_mask" Ca ["section","known"]) : FnAt P w K mg base "section_mask" 2 ["section","known"] (spSM K) := by
 refine F.at scsection_mask (fun vs H Q E h => ?_) (fun f cdv A outer s H vs Q E hr h => ?_)
 ·obtain ⟨s,p,hd,ws,zs,m,rfl,_⟩ := h
  rfl
 ·obtain ⟨s,p,hd,ws,zs,m,rfl,hs,hp,nd,n6,hm,pm,q⟩ := h
  have hz : sizeLine = 16777216 := sizeLine_eq
  have wl : ws.length ≤ 6 := by rw [pm.length_eq]; exact pick_len m zs
  have win : ∀ z ∈ ws,z ∈ zs := fun z hz => pick_mem hm (pm.mem_iff.mp hz)
  have fin : ∀ (c0 : Addr) (H1 : Hp),Same H H1 → ∀ l : Addr,H1 l = some (.lst ((ws.map zs.idxOf).map fun i : Nat => V.int i)) → spMO K [.ref l] H1 Q E := fun c0 H1 s1 l e => by
   refine ⟨l,ws.map zs.idxOf,rfl,SqL.of e,fun i hi => ?_,?_⟩
   ·obtain ⟨z,hz,rfl⟩ := List.mem_map.mp hi
    have := List.idxOf_lt_length_of_mem (win z hz)
    omega
   ·rw [mask_pick hm n6 nd pm]
    exact q _ s1
  have stp : ∀ j z,ws[j]? = some z → ((ws.map zs.idxOf).take j).map (fun i : Nat => V.int i) ++ [V.int (zs.idxOf z : Nat)] = ((ws.map zs.idxOf).take (j + 1)).map fun i : Nat => V.int i := fun j z e => by
   have e2 : (ws.map zs.idxOf)[j]? = some (zs.idxOf z) := by rw [List.getElem?_map,e]; rfl
   obtain ⟨hj,hje⟩ := List.getElem?_eq_some_iff.mp e2
   rw [List.take_succ_eq_append_getElem hj,List.map_append,hje]
   rfl
  rcases hp with hp | ⟨hp,fz⟩
  ·refine ⟨_,(Ae (Aq (Ao F_mask_of hr (by decide) rfl (Aa (Bs (sc := Ag Ca) (N0 := ["section","known"]) (xs := ["name"]) (ys := ["known"]) (js := [1]) (by trivial) rfl (Bn (Ba Cn (pv 0) (Bd Af) Bm)) (fun _ _ _ _ => (As (i := 0) (show (["name","known"] : List Str).Nodup by decide +kernel) rfl (by trivial))) (fun _ _ _ _ => Cj) (fun _ _ _ _ => (pe_bmK K PySem.F.plainAttrs_list PySem.F.slot_list_index PySem.F.type_list_index (mt_indexK K) (pv 1) (Aa (pv 0) Ac)))) Ac)))),?_⟩
   refine ⟨_,rfl,_,rfl,s,_,rfl,SqL.of hs,fun c0 hc0 => ?_⟩
   rw [List.map_cons,cut1]
   have s0 := Same.new (o := .lst (ws.map V.str)) hc0
   have e0 : upd H c0 (.lst (ws.map V.str)) c0 = some (.lst (ws.map V.str)) := Ad
   generalize upd H c0 (.lst (ws.map V.str)) = H0 at s0 e0 ⊢
   refine ⟨c0,rfl,⟨_,SqL.of e0⟩,Bj (K := K) (a := c0) (xs := ws.map V.str) (fun j us H' => us = ((ws.map zs.idxOf).take j).map (fun i : Nat => V.int i) ∧ H' = H0) ⟨rfl,rfl⟩ (by rw [List.length_map,hz]; omega) ?_ ?_ ?_ ?_⟩
   ·rintro j us H' ⟨rfl,_⟩
    rw [List.length_map,List.length_take]; omega
   ·rintro j us H' _ ⟨_,rfl⟩
    exact SqL.of e0
   ·rintro j x us H' hx ⟨rfl,rfl⟩
    rw [List.getElem?_map] at hx
    obtain ⟨z,hz,rfl⟩ := Option.map_eq_some_iff.mp hx
    have zin := win z (List.mem_of_getElem? hz)
    exact ⟨_,rfl,.inl ⟨rfl,_,s0.seq hp⟩,_,rfl,p,zs,z,zs.idxOf z,rfl,rfl,s0.seq hp,idx_get zin,idx_first nd zin,stp j z hz,rfl⟩
   ·rintro us H' ⟨rfl,rfl⟩ l3 hl3
    rw [List.length_map,← List.length_map (f := zs.idxOf),List.take_length]
    exact fin c0 _ (s0.trans (Same.new hl3)) l3 Ad
  ·refine ⟨_,(Ae (Aq (Ao F_mask_of hr (by decide) rfl (Aa (Bs (sc := Ag Ca) (N0 := ["section","known"]) (xs := ["name"]) (ys := ["known"]) (js := [1]) (by trivial) rfl (Bn (Ba Cn (pv 0) (Bd Af) Bm)) (fun _ _ _ _ => (As (i := 0) (show (["name","known"] : List Str).Nodup by decide +kernel) rfl (by trivial))) (fun _ _ _ _ => Cj) (fun _ _ _ _ => (pe_bmK K PySem.F.plainAttrs_tuple PySem.F.slot_tuple_index PySem.F.type_tuple_index (mt_indexTK K) (pv 1) (Aa (pv 0) Ac)))) Ac)))),?_⟩
   refine ⟨_,rfl,_,rfl,s,_,rfl,SqL.of hs,fun c0 hc0 => ?_⟩
   rw [List.map_cons,cut1]
   have s0 := Same.new (o := .lst (ws.map V.str)) hc0
   have e0 : upd H c0 (.lst (ws.map V.str)) c0 = some (.lst (ws.map V.str)) := Ad
   generalize upd H c0 (.lst (ws.map V.str)) = H0 at s0 e0 ⊢
   refine ⟨c0,rfl,⟨_,SqL.of e0⟩,Bj (K := K) (a := c0) (xs := ws.map V.str) (fun j us H' => us = ((ws.map zs.idxOf).take j).map (fun i : Nat => V.int i) ∧ H' = H0) ⟨rfl,rfl⟩ (by rw [List.length_map,hz]; omega) ?_ ?_ ?_ ?_⟩
   ·rintro j us H' ⟨rfl,_⟩
    rw [List.length_map,List.length_take]; omega
   ·rintro j us H' _ ⟨_,rfl⟩
    exact SqL.of e0
   ·rintro j x us H' hx ⟨rfl,rfl⟩
    rw [List.getElem?_map] at hx
    obtain ⟨z,hz,rfl⟩ := Option.map_eq_some_iff.mp hx
    have zin := win z (List.mem_of_getElem? hz)
    exact ⟨_,rfl,.inr (.inl ⟨rfl,fz⟩),_,rfl,p,zs,z,zs.idxOf z,rfl,rfl,s0.tup hp,idx_get zin,idx_first nd zin,stp j z hz,rfl⟩
   ·rintro us H' ⟨rfl,rfl⟩ l3 hl3
    rw [List.length_map,← List.length_map (f := zs.idxOf),List.take_length]
    exact fin c0 _ (s0.trans (Same.new hl3)) l3 Ad
theorem or_less : ∀ a b : Fin 64,Bu b.val a.val = .non → Builtin.bitOr (b.val : Int) ((less a.val b.val : Nat) : Int) = (a.val : Int) := by decide +kernel
theorem bey0 : ∀ a : Fin 64,Bu 0 a.val = .non := by decide +kernel
def spAO (K : PySem.W.Frag) : Sp := fun vs H Q _ => ∃ (l p : Addr) (z1 z2 : List Str) (r : Row) (o : Ord),vs = [.ref l,.ref p] ∧ SAt H l [nm 0 :: o.b0,nm 1 :: o.b1,nm 2 :: o.b2,nm 3 :: o.b3] ∧ SqL K H p (z2.map V.str) ∧ z2.Nodup ∧ z2.length ≤ 6 ∧ o.Ok r z1 z2 ∧ r.Good ∧ r.a3 < 2 ^ z2.length ∧ ∀ (a : Addr) (H' : Hp),Same H H' → H' a = some (.lst r.asks) → Q (.ref a) H'
abbrev sasks_of : Stmt := top 78
theorem scasks_of : Ak ["sections","duties","asks","asked","section"] ["sections","duties"] (Ag sasks_of) := by trivial
theorem ok_ao (F_sm : FnAt P w K mg base "section_mask" 2 ["section","known"] (spSM K)) (F : Ai K mg "asks_of" sasks_of ["sections","duties"]) : FnAt P w K mg base "asks_of" 3 ["sections","duties"] (spAO K) := by
 refine F.at scasks_of (fun vs H Q E h => ?_) (fun f cdv A outer s H vs Q E hr h => ?_)
 ·obtain ⟨l,p,z1,z2,r,o,rfl,_⟩ := h
  rfl
 ·obtain ⟨l,p,z1,z2,r,o,rfl,hl,hp,nd,n6,ok,g,h3,q⟩ := h
  obtain ⟨p0,p1,p2,p3,hl,e0,e1,e2,e3⟩ := hl.four
  refine ⟨_,(Ab (Al (i := 2) scasks_of.nd rfl (by trivial) (A5 Ac))
   (Ab (Al (i := 3) scasks_of.nd rfl (by trivial) Af)
   (Ab (Dg PassesOwn.never rfl (Bn (pv 0)) (As (i := 4) scasks_of.nd rfl (by trivial)) (Ab (Al (i := 3) scasks_of.nd rfl (by trivial) (Ax op_or (pv 3) (Ao F_sm hr (by decide) rfl (Aa (pv 4) (Aa (pv 1) Ac)))))
   (Ae (A3 (Bl PySem.F.plainAttrs_list PySem.F.slot_list_append PySem.F.type_list_append A2 (pv 2) (Aa (pv 3) Ac))))))
   (Ae (Aq (pv 2)))))),?_⟩
  have t := g.ha
  have at4' : ∀ i y,([V.ref p0,V.ref p1,V.ref p2,V.ref p3] : List V)[i]? = some y → ∃ pp b,i < 4 ∧ y = V.ref pp ∧ H pp = some (.lst ((nm i :: b).map V.str)) ∧ b.Perm (pick (less (r.a i) (r.aP i)) z2) ∧ r.a i < 64 ∧ r.aP i < 64 ∧ Bu (r.aP i) (r.a i) = .non := fun i y e => by
   match i,e with
   | 0,e => cases e; exact ⟨_,_,by decide,rfl,e0,ok.q0,t.l0,(by show 0 < 64; decide),bey0 ⟨r.a0,t.l0⟩⟩
   | 1,e => cases e; exact ⟨_,_,by decide,rfl,e1,ok.q1,t.l1,t.l0,t.b0⟩
   | 2,e => cases e; exact ⟨_,_,by decide,rfl,e2,ok.q2,t.l2,t.l1,t.b1⟩
   | 3,e => cases e; exact ⟨_,_,by decide,rfl,e3,ok.q3,t.l3,t.l2,t.b2⟩
   | n + 4,e => simp at e
  refine ⟨(by show 0 ≤ sizeLine; decide),fun la hla => ?_⟩
  have s0 := Same.new (o := .lst []) hla
  have ea : upd H la (.lst []) la = some (.lst []) := Ad
  generalize upd H la (.lst []) = H0 at s0 ea ⊢
  refine ⟨_,rfl,l,rfl,⟨_,SqL.of (s0 _ _ hl)⟩,for_list (K := K) (a := l) (xs := [V.ref p0,V.ref p1,V.ref p2,V.ref p3]) (fun i σ H' => ∃ v : Option V,σ = [some (.ref l),some (.ref p),some (.ref la),some (.int (r.aP i : Nat)),v] ∧ Same H H' ∧ H' la = some (.lst (r.asks.take i)))
   ⟨_,rfl,s0,ea⟩ (fun i σ H' _ h => ?_) ?_ ?_⟩
  ·obtain ⟨_,_,s',_⟩ := h
   exact SqL.of (s' _ _ hl)
  ·rintro i y σ H' hy ⟨v,rfl,s',ea'⟩
   obtain ⟨pp,b,h4,rfl,hpp,pm,l64,p64,bn⟩ := at4' i y hy
   have hai : r.a i < 2 ^ z2.length := Nat.lt_of_le_of_lt (a_le g.ha i) h3
   refine ⟨_,rfl,_,rfl,_,rfl,pp,p,nm i,b,z2,less (r.a i) (r.aP i),rfl,s' _ _ hpp,.inl (s'.seq hp),nd,n6,less_lt hai,pm,fun H2 s2 => ?_⟩
   refine ⟨_,_,rfl,rfl,?_⟩
   have eo : Builtin.bitOr ((r.aP i : Nat) : Int) ((less (r.a i) (r.aP i) : Nat) : Int) = ((r.a i : Nat) : Int) := or_less ⟨r.a i,l64⟩ ⟨r.aP i,p64⟩ bn
   have S2 := s'.trans s2
   have ea2 := s2 _ _ ea'
   have hlt : (r.asks.take i).length < 5 := by
    rw [List.length_take]
    show min i 4 < 5
    omega
   refine ⟨_,rfl,.inl ⟨rfl,_,SqL.of ea2⟩,_,rfl,la,_,_,rfl,rfl,ea2,(by rw [sizeLine_eq]; omega),?_⟩
   refine ⟨some (V.ref pp),?_,?_,?_⟩
   ·show [some (V.ref l),some (V.ref p),some (V.ref la),some (V.int (Builtin.bitOr ((r.aP i : Nat) : Int) ((less (r.a i) (r.aP i) : Nat) : Int))),some (V.ref pp)] = _
    rw [eo]
    rfl
   ·intro d o' e
    rw [upd_ne (Ah e hla)]
    exact S2 _ _ e
   ·rw [Ad]
    show some (HO.lst (r.asks.take i ++ [V.int (Builtin.bitOr ((r.aP i : Nat) : Int) ((less (r.a i) (r.aP i) : Nat) : Int))])) = _
    rw [eo]
    rcases j4 h4 with e | e | e | e <;> (subst e; rfl)
  ·rintro σ H' ⟨v,rfl,s',ea'⟩
   exact ⟨_,rfl,q la _ s' ea'⟩
end
theorem same_dec (b : Bool) : decide (Cp b = ("same" : Str)) = b := by cases b <;> decide +kernel
theorem last_dec (b : Bool) : decide (lastT b = ("lasting" : Str)) = b := by cases b <;> decide +kernel
structure SecsAt (K : PySem.W.Frag) (H : Hp) (l p1 p2 : Addr) (z1 z2 : List Str) (r : Row) (o : Ord) : Prop where
 sa : SAt H l (secs r o)
 h1 : SqL K H p1 (z1.map V.str)
 h2 : SqL K H p2 (z2.map V.str)
 g : r.Good
 ft : r.Fits z1.length z2.length
 ok : o.Ok r z1 z2
 n1 : Nms z1
 n2 : Nms z2
def spLO (K : PySem.W.Frag) (cL : Addr) : Sp := fun vs H Q _ => ∃ (l p1 p2 : Addr) (z1 z2 : List Str) (r : Row) (o : Ord),vs = [.ref l,.ref p1,.ref p2] ∧ SecsAt K H l p1 p2 z1 z2 r o ∧ ∀ (x : Addr) (H' : Hp),Same H H' → LAt cL H' x r → Q (.ref x) H'
section
variable {P : Program} {w : World} {K : PySem.W.Frag} {mg : Str → Option Value} {base : Heap} {cT cL cB ad fT fL : Addr} {dT dL : FuncData} {ds : List Value} {J : Js}
abbrev slicence_of : Stmt := top 79
abbrev nLO : List Str := ["sections","strings","duties","lets","laid","bars","reach","days"]
theorem Cr : Ak nLO ["sections","strings","duties"] (Ag slicence_of) := by trivial
theorem ok_lo (T : Txt mg) (D : DeedK K mg ad) (JD : JHas P w K mg base J) (M : Makes P w K mg base cT cL fT fL dT dL ds) (F_sm : FnAt P w K mg base "section_mask" 2 ["section","known"] (spSM K)) (F_jo : FnAt P w K mg base "join_of" 2 ["word"] (spJO J)) (F_ko : FnAt P w K mg base "key_of" 3 ["text"] spKO) (F_ao : FnAt P w K mg base "asks_of" 3 ["sections","duties"] (spAO K))
 (F : Ai K mg "licence_of" slicence_of ["sections","strings","duties"]) : FnAt P w K mg base "licence_of" 8 ["sections","strings","duties"] (spLO K cL) := by
 refine F.at Cr (fun vs H Q E h => ?_) (fun f cdv A outer s H vs Q E hr h => ?_)
 ·obtain ⟨l,q1,q2,z1,z2,r,o,rfl,_⟩ := h
  rfl
 ·obtain ⟨l,q1,q2,z1,z2,r,o,rfl,⟨hl,h1,h2,g,ft,ok,n1,n2⟩,q⟩ := h
  obtain ⟨p0,p1,p2,p3,p4,p5,p6,p7,p8,p9,p10,p11,hl,⟨e0,e1,e2,e3,e4,e5⟩,e6,e7,e8,e9,e10,e11⟩ := hl.twelve
  refine ⟨_,(Ab (Al (i := 3) Cr.nd rfl (by trivial) (Ao F_sm hr (by decide) rfl (Aa (Az At (pv 0) Af (fun _ _ => rfl)) (Aa (pe_glob (v := .ref ad) rfl D.m rfl) Ac))))
   (Ab (Al (i := 4) Cr.nd rfl (by trivial) (Ao F_sm hr (by decide) rfl (Aa (Az At (pv 0) Af (fun _ _ => rfl)) (Aa (pv 1) Ac))))
   (Ab (Al (i := 5) Cr.nd rfl (by trivial) (Ao F_sm hr (by decide) rfl (Aa (Az At (pv 0) Af (fun _ _ => rfl)) (Aa (pv 1) Ac))))
   (Ab (Al (i := 6) Cr.nd rfl (by trivial) (Cm (D := DCl J) (Ao F_jo hr (by decide) rfl (Aa (Az At (Az At (pv 0) Af (fun _ _ => rfl)) Af (fun _ _ => rfl)) Ac)) JD.hDC (hr.mono (by decide)) En))
   (Ab (Al (i := 7) Cr.nd rfl (by trivial) (Az At (pv 0) Af (fun _ _ => rfl)))
   (Ae (Aq (pe_make M.kL M.oL (hr.mono (by decide)) rfl M.mL M.bL .nil En (Aa (Ao F_ko hr (by decide) rfl (Aa (Az At (Az At (pv 0) Af (fun _ _ => rfl)) Af (fun _ _ => rfl)) Ac)) (Aa (pv 3) (Aa (pv 4) (Aa (pv 5) (Aa (pv 6) (Aa (Bo (op_eq1 hr.units) (Az At (pv 0) Af (fun _ _ => rfl)) (A5 (Aa Av Ac)) (A0 _)) (Aa (Ao F_ao hr (by decide) rfl (Aa (Ba Cn (pv 0) (Bd Af) (Bd Af)) (Aa (pv 2) Ac))) (Aa (Bh call_intT rfl T.n_int boot_int (Aa (Az At (pv 7) Af (fun _ _ => rfl)) Ac)) (Aa (Bh call_intT rfl T.n_int boot_int (Aa (Az At (pv 7) Af (fun _ _ => rfl)) Ac)) (Aa (Bo (op_eq1 hr.units) (Az At (pv 0) Af (fun _ _ => rfl)) (A5 (Aa Av Ac)) (A0 _)) Ac)))))))))))))))))),?_⟩
  have g4 := g.h4
  have hre : r.re < 4 := Nat.lt_succ_of_le g4.hre
  have hfl := g.hf
  have hla := g.hl
  refine ⟨_,rfl,l,_,_,V.ref p1,rfl,rfl,SqL.of hl,rfl,p1,ad,"lets",o.w1,deeds,r.le,rfl,e1,.inr ⟨D.t _,D.z⟩,deeds_nd,(by decide),g4.hle,ok.p1,fun H1 s1 => ?_⟩
  refine ⟨_,rfl,l,_,_,V.ref p2,rfl,rfl,SqL.of (s1 _ _ hl),rfl,_,rfl,p2,q1,"strings",o.w2,z1,r.st,rfl,s1 _ _ e2,.inl (s1.seq h1),n1.nd,n1.n6,ft.st,ok.p2,fun H2 s2 => ?_⟩
  have S2 := s1.trans s2
  refine ⟨_,rfl,l,_,_,V.ref p3,rfl,rfl,SqL.of (S2 _ _ hl),rfl,_,rfl,p3,q1,"bars",o.w3,z1,r.ba,rfl,S2 _ _ e3,.inl (S2.seq h1),n1.nd,n1.n6,ft.ba,ok.p3,fun H3 s3 => ?_⟩
  have S3 := S2.trans s3
  refine ⟨_,rfl,l,_,_,V.ref p4,rfl,rfl,SqL.of (S3 _ _ hl),rfl,p4,_,_,V.str (nm r.re),rfl,rfl,SqL.of (S3 _ _ e4),rfl,r.re,hre,rfl,fun pj H4 s4 ⟨dj,hj⟩ => ?_⟩
  have S4 := S3.trans s4
  refine ⟨pj,J.c r.re,dj,[],spC (.int r.re),rfl,hj,rfl,⟨r.re,hre,rfl,rfl⟩,⟨pj,rfl⟩,?_⟩
  have L4 := SqL.of (K := K) (S4 _ _ hl)
  refine ⟨_,rfl,l,_,_,V.ref p10,rfl,rfl,L4,rfl,?_⟩
  refine ⟨_,rfl,l,_,_,V.ref p0,rfl,rfl,L4,rfl,p0,_,_,V.str (Bp r.w r.n),rfl,rfl,SqL.of (S4 _ _ e0),rfl,r.w,r.n,rfl,g.hw,(by have := g.hn; omega),fun pk H5 s5 hk => ?_⟩
  have S5 := S4.trans s5
  refine ⟨_,rfl,_,rfl,_,rfl,_,rfl,_,rfl,l,_,_,V.ref p5,rfl,rfl,SqL.of (S5 _ _ hl),rfl,(by show 1 ≤ sizeLine; decide),fun c6 hc6 => ?_⟩
  have s6 := Same.new (o := .lst [.str "same"]) hc6
  have f6 : upd H5 c6 (.lst [.str "same"]) c6 = some (.lst [.str "same"]) := Ad
  generalize upd H5 c6 (.lst [.str "same"]) = H6 at s6 f6 ⊢
  have S6 := S5.trans s6
  refine ⟨p5,c6,Cp r.sa,"same",rfl,rfl,S6 _ _ e5,f6,same_ok _,(by decide +kernel),?_⟩
  refine ⟨_,rfl,_,rfl,_,rfl,l,_,rfl,SqL.of (S6 _ _ hl),fun c7 hc7 => ?_⟩
  have s7 := Same.new (o := .lst (cutV [.ref p0,.ref p1,.ref p2,.ref p3,.ref p4,.ref p5,.ref p6,.ref p7,.ref p8,.ref p9,.ref p10,.ref p11] (some 6) (some 10))) hc7
  have f7 : upd H6 c7 (.lst (cutV [.ref p0,.ref p1,.ref p2,.ref p3,.ref p4,.ref p5,.ref p6,.ref p7,.ref p8,.ref p9,.ref p10,.ref p11] (some 6) (some 10))) c7 = some (.lst [.ref p6,.ref p7,.ref p8,.ref p9]) := Ad
  generalize upd H6 c7 (.lst (cutV [.ref p0,.ref p1,.ref p2,.ref p3,.ref p4,.ref p5,.ref p6,.ref p7,.ref p8,.ref p9,.ref p10,.ref p11] (some 6) (some 10))) = H7 at s7 f7 ⊢
  have S7 := S6.trans s7
  refine ⟨_,rfl,c7,q2,z1,z2,r,o,rfl,⟨[p6,p7,p8,p9],f7,txt4 (S7 _ _ e6) (S7 _ _ e7) (S7 _ _ e8) (S7 _ _ e9)⟩,S7.seq h2,n2.nd,n2.n6,ok,g,ft.a3,fun la H8 s8 f8 => ?_⟩
  have S8 := S7.trans s8
  have E10 := SqL.of (K := K) (S8 _ _ e10)
  refine ⟨_,rfl,p10,_,_,V.str (nT r.fi),rfl,rfl,E10,rfl,nT r.fi,r.fi,rfl,PySem.W.KIN.num_reads (by omega) (by omega),(by have := fig_len (n := r.fi) (by omega); omega),?_⟩
  refine ⟨_,rfl,p10,_,_,V.str (nT r.la),rfl,rfl,E10,rfl,nT r.la,r.la,rfl,PySem.W.KIN.num_reads (by omega) (by omega),(by have := fig_len (n := r.la) (by omega); omega),?_⟩
  refine ⟨_,rfl,l,_,_,V.ref p11,rfl,rfl,SqL.of (S8 _ _ hl),rfl,(by show 1 ≤ sizeLine; decide),fun c9 hc9 => ?_⟩
  have s9 := Same.new (o := .lst [.str "lasting"]) hc9
  have f9 : upd H8 c9 (.lst [.str "lasting"]) c9 = some (.lst [.str "lasting"]) := Ad
  generalize upd H8 c9 (.lst [.str "lasting"]) = H9 at s9 f9 ⊢
  have S9 := S8.trans s9
  refine ⟨p11,c9,lastT r.lg,"lasting",rfl,rfl,S9 _ _ e11,f9,last_ok _,(by decide +kernel),?_⟩
  have hk9 := ((s6.trans s7).trans (s8.trans s9)) _ _ hk
  have f89 := s9 _ _ f8
  refine fun x dx fx fd fne => ⟨x,dx,pk,.ref la,r,g,?_,Ad,mk_k fx fd _ _ hk9,⟨la,rfl,.inr (mk_k fx fd _ _ f89)⟩,fun pa2 H10 i1 i2 b => ⟨rfl,?_⟩⟩
  ·show [V.ref x,V.ref pk,V.int r.le,V.int r.st,V.int r.ba,V.int r.re,V.bl (decide (Cp r.sa = ("same" : Str))),V.ref la,V.int r.fi,V.int r.la,V.bl (decide (lastT r.lg = ("lasting" : Str)))] = _
   rw [same_dec,last_dec]
  ·have s10 : Same H9 H10 := mk_same fx fd b
   exact q x H10 (S9.trans s10) ⟨dx,pk,pa2,i1,s10 _ _ hk9,i2⟩
end
def Clean (z : Str) : Prop := ∀ c ∈ z.cps.toList,46 ≤ c ∧ c ≠ 59 ∧ c ≤ 122
theorem Dh {z : Str} (h : z.cps.toList.all (fun c => decide (46 ≤ c ∧ c ≠ 59 ∧ c ≤ 122)) = true) : Clean z := fun c hc => of_decide_eq_true (List.all_eq_true.mp h c hc)
theorem clean_word {z : Str} (h : Ay z = true) : Clean z := fun c hc => by
 unfold Ay at h
 rw [Bool.and_eq_true] at h
 have := List.all_eq_true.mp h.2 c hc
 unfold D3 at this
 have := of_decide_eq_true this
 omega
theorem clean_num {z : Str} {L : Nat} (h : NumT z L) : Clean z := fun c hc => by
 have := List.all_eq_true.mp h.h4 c hc
 unfold isFig at this
 have := of_decide_eq_true this
 omega
theorem clean_app {a b : Str} (ha : Clean a) (hb : Clean b) : Clean (a ++ b) := fun c hc => by
 rw [C9] at hc
 exact (List.mem_append.mp hc).elim (ha c) (hb c)
theorem clean_nm {j : Nat} (h : j < 4) : Clean (nm j) := by
 rcases j4 h with e | e | e | e <;> (subst e; exact Dh (by decide +kernel))
theorem clean_key {r : Row} (g : r.Good) : Clean (Bp r.w r.n) := by
 have hn := g.hn
 exact clean_app (clean_app (clean_word g.hw) (Dh (by decide +kernel))) (clean_num (num4 (n := r.n) (by omega)))
theorem clean_same (b : Bool) : Clean (Cp b) := by cases b <;> exact Dh (by decide +kernel)
theorem clean_last (b : Bool) : Clean (lastT b) := by cases b <;> exact Dh (by decide +kernel)
theorem clean_deeds : ∀ z ∈ deeds,Clean z := fun z hz => by
 simp only [deeds,List.mem_cons,List.not_mem_nil,or_false] at hz
 rcases hz with rfl | rfl | rfl | rfl | rfl <;> exact Dh (by decide +kernel)
structure Wd (z : Str) : Prop where
 cl : Clean z
 le : z.length ≤ 100
theorem wd_word {z : Str} (h : Ay z = true) : Wd z := ⟨clean_word h,by have := word_len h; omega⟩
theorem wd_sub {ws zs : List Str} (n : Nm ws zs) (h : ∀ z ∈ zs,Wd z) : ∀ z ∈ ws,Wd z := fun z hz => h z (n.sub z hz)
theorem wd_deeds : ∀ z ∈ deeds,Wd z := fun z hz => ⟨clean_deeds z hz,few_deeds.sh z hz⟩
theorem wd_nm {j : Nat} (h : j < 4) : Wd (nm j) := ⟨clean_nm h,by rcases j4 h with e | e | e | e <;> (subst e; decide +kernel)⟩
structure RoOk (z1 z2 : List Str) (r : Row) (o : Ord) : Prop where
 g : r.Good
 ft : r.Fits z1.length z2.length
 ok : o.Ok r z1 z2
theorem B2 {z : Str} {zs : List Str} (h : Wd z) (hs : ∀ x ∈ zs,Wd x) : ∀ x ∈ z :: zs,Wd x := fun x hx => (List.mem_cons.mp hx).elim (fun e => e ▸ h) (hs x)
theorem secs_wd {z1 z2 : List Str} {r : Row} {o : Ord} (k : RoOk z1 z2 r o) (n1 : Nms z1) (n2 : Nms z2) : ∀ s ∈ secs r o,(∀ z ∈ s,Wd z) ∧ s.length ≤ 101 := by
 obtain ⟨g,ft,ok⟩ := k
 obtain ⟨nb,_⟩ := ord_flat ok g ft.a3 n2.nd
 have m1 := Eo ok.p1 g.h4.hle deeds_nd
 have m2 := Eo ok.p2 ft.st n1.nd
 have m3 := Eo ok.p3 ft.ba n1.nd
 have x0 := nb o.b0 (by simp)
 have x1 := nb o.b1 (by simp)
 have x2 := nb o.b2 (by simp)
 have x3 := nb o.b3 (by simp)
 have w1 : ∀ z ∈ z1,Wd z := fun z hz => wd_word (n1.wd z hz)
 have w2 : ∀ z ∈ z2,Wd z := fun z hz => wd_word (n2.wd z hz)
 have hf := g.hf
 have hl := g.hl
 have hn := g.hn
 have nil : ∀ x ∈ ([] : List Str),Wd x := fun x hx => by cases hx
 have lit : ∀ {z : Str},z.cps.toList.all (fun c => decide (46 ≤ c ∧ c ≠ 59 ∧ c ≤ 122)) = true → z.length ≤ 100 → Wd z := fun a b => ⟨Dh a,b⟩
 have L : ∀ {ws : List Str} {z : Str} {zs : List Str},Nm ws zs → (z :: ws).length ≤ 101 := fun n => by rw [List.length_cons]; have := n.le; omega
 intro s hs
 unfold secs at hs
 simp only [List.mem_cons,List.not_mem_nil,or_false] at hs
 rcases hs with rfl | rfl | rfl | rfl | rfl | rfl | rfl | rfl | rfl | rfl | rfl | rfl
 ·exact ⟨B2 (lit (by decide +kernel) (by decide +kernel)) (B2 ⟨clean_key g,by have := text_len g.hw (n := (r.n : Int)) (by omega) (by omega); omega⟩ nil),by show 2 ≤ 101; decide⟩
 ·exact ⟨B2 (lit (by decide +kernel) (by decide +kernel)) (wd_sub m1 wd_deeds),L m1⟩
 ·exact ⟨B2 (lit (by decide +kernel) (by decide +kernel)) (wd_sub m2 w1),L m2⟩
 ·exact ⟨B2 (lit (by decide +kernel) (by decide +kernel)) (wd_sub m3 w1),L m3⟩
 ·exact ⟨B2 (lit (by decide +kernel) (by decide +kernel)) (B2 (wd_nm (Nat.lt_succ_of_le g.h4.hre)) nil),by show 2 ≤ 101; decide⟩
 ·exact ⟨B2 ⟨clean_same _,by cases r.sa <;> decide +kernel⟩ nil,by show 1 ≤ 101; decide⟩
 ·exact ⟨B2 (wd_nm (by decide)) (wd_sub x0 w2),L x0⟩
 ·exact ⟨B2 (wd_nm (by decide)) (wd_sub x1 w2),L x1⟩
 ·exact ⟨B2 (wd_nm (by decide)) (wd_sub x2 w2),L x2⟩
 ·exact ⟨B2 (wd_nm (by decide)) (wd_sub x3 w2),L x3⟩
 ·have f1 := num4 (n := r.fi) (by omega)
  have f2 := num4 (n := r.la) (by omega)
  have := f1.h2
  have := f2.h2
  exact ⟨B2 (lit (by decide +kernel) (by decide +kernel)) (B2 ⟨clean_num f1,by omega⟩ (B2 (lit (by decide +kernel) (by decide +kernel)) (B2 ⟨clean_num f2,by omega⟩ nil))),by show 4 ≤ 101; decide⟩
 ·exact ⟨B2 ⟨clean_last _,by cases r.lg <;> decide +kernel⟩ nil,by show 1 ≤ 101; decide⟩
theorem words_len : ∀ {S : List (List Str)} {k : Nat},(∀ s ∈ S,s.length ≤ k) → (C1 S).length ≤ S.length * (k + 1)
 | [],k,_ => by show 0 ≤ _; omega
 | [s],k,h => by
   have := h s List.mem_cons_self
   show s.length ≤ 1 * (k + 1)
   omega
 | s :: t :: r,k,h => by
   have h1 := h s List.mem_cons_self
   have h2 := words_len (S := t :: r) fun x hx => h x (List.mem_cons_of_mem _ hx)
   show (s ++ (";" : Str) :: C1 (t :: r)).length ≤ (t :: r).length.succ * (k + 1)
   rw [List.length_append,List.length_cons,Nat.succ_mul]
   omega
theorem clean_ne {z : Str} (h : Clean z) : z ≠ (";" : Str) := fun e => by
 have : (59 : Nat) ∈ z.cps.toList := by rw [e]; decide +kernel
 exact (h 59 this).2.1 rfl
def Ep (r : Row) (o : Ord) : List Str := C1 (secs r o)
theorem line_secs {z1 z2 : List Str} {r : Row} {o : Ord} (k : RoOk z1 z2 r o) (n1 : Nms z1) (n2 : Nms z2) : secsOf (Ep r o) = secs r o :=
 secs_words (by unfold secs; simp) fun s hs w hw => clean_ne ((secs_wd k n1 n2 s hs).1 w hw).cl
theorem line_many {z1 z2 : List Str} {r : Row} {o : Ord} (k : RoOk z1 z2 r o) (n1 : Nms z1) (n2 : Nms z2) : (Ep r o).length ≤ 5000 := by
 have := words_len (S := secs r o) (k := 101) fun s hs => (secs_wd k n1 n2 s hs).2
 have e : (secs r o).length = 12 := rfl
 rw [e] at this
 unfold Ep
 omega
def spNA : Sp := fun vs H Q _ => ∃ (l : Addr) (S : List (List Str)) (pl : Nat) (hd : Str) (zs : List Str),vs = [.ref l,.int pl,.str hd] ∧ SAt H l S ∧ S[pl]? = some (hd :: zs) ∧ (∀ z ∈ zs,Ay z = true) ∧ zs.length ≤ 1000 ∧ ∀ (c : Addr) (H' : Hp),Same H H' → H' c = some (.lst (zs.map V.str)) → Q (.ref c) H'
section
variable {P : Program} {w : World} {K : PySem.W.Frag} {mg : Str → Option Value} {base : Heap} {cT cL cB ad fT fL : Addr} {dT dL : FuncData} {ds : List Value} {J : Js}
abbrev snames_at : Stmt := top 80
theorem scnames_at : Ak ["rows","place","head","names"] ["rows","place","head"] (Ag snames_at) := by trivial
theorem ok_na (T : Txt mg) (F_is_word : FnAt P w K mg base "is_word" 1 ["thing"] (spWord K)) (F : Ai K mg "names_at" snames_at ["rows","place","head"]) : FnAt P w K mg base "names_at" 2 ["rows","place","head"] spNA := by
 refine F.at scnames_at (fun vs H Q E h => ?_) (fun f cdv A outer s H vs Q E hr h => ?_)
 ·obtain ⟨l,S,pl,hd,zs,rfl,_⟩ := h
  rfl
 ·obtain ⟨l,S,pl,hd,zs,rfl,hl,hS,hw,hn,q⟩ := h
  refine ⟨_,(Ab (A7 (PW.pt (pw_or (A1 op_ge (pv 1) (An A4 rfl T.n_len boot_len (Aa (pv 0) Ac)) (A0 _)) (Ej (A1 op_ne (Az At (Az At (pv 0) (pv 1) (fun _ _ => rfl)) Af (fun _ _ => rfl)) (pv 2) (A0 _))))) (Ae Ar) Ap)
   (Ab (Al (i := 3) scnames_at.nd rfl (by trivial) (Ba Cn (Az At (pv 0) (pv 1) (fun _ _ => rfl)) (Bd Af) Bm))
   (Ab (A7 (A9 (A8 (An (Di rfl) rfl T.n_all boot_all (Aa (Bs (sc := Ag snames_at) (N0 := ["rows","place","head","names"]) (xs := ["name"]) (ys := []) (js := []) (by trivial) rfl (Bn (pv 3)) (fun _ _ _ _ => (As (i := 0) (show (["name"] : List Str).Nodup by decide +kernel) rfl (by trivial))) (fun _ _ _ _ => Cj) (fun _ _ _ _ => (Ao F_is_word hr (by decide) rfl (Aa (pv 0) Ac)))) Ac)))) (Ae Ar) Ap)
   (Ae (Aq (pv 3)))))),?_⟩
  have hz : sizeLine = 16777216 := sizeLine_eq
  have hpl : pl < S.length := (List.getElem?_eq_some_iff.mp hS).1
  obtain ⟨ps,p,e1,e2,e3⟩ := hl.ix hS
  have elen : ps.length = S.length := by
   obtain ⟨ps',a,b,_⟩ := hl
   rw [e1] at a
   simp only [Option.some.injEq,HO.lst.injEq] at a
   have := congrArg List.length a
   rw [List.length_map,List.length_map] at this
   omega
  have L := SqL.of (K := K) e1
  refine ⟨_,rfl,_,rfl,_,_,rfl,.inl ⟨_,L,rfl⟩,_,_,rfl,rfl,_,rfl,?_⟩
  refine ite2 (fun e => ?_) (fun _ => ?_)
  ·exfalso
   have e := of_decide_eq_true e
   rw [List.length_map] at e
   have e : ((ps.length : Nat) : Int) ≤ (pl : Int) := e
   omega
  refine ⟨_,rfl,_,rfl,l,_,_,V.ref p,rfl,rfl,L,e2,p,_,_,V.str hd,rfl,rfl,SqL.of e3,(atI_nat (j := 0) rfl),_,rfl,rfl,_,rfl,?_⟩
  refine ite2 (fun e => ?_) (fun _ => ?_)
  ·exfalso
   have : decide (V.str hd = V.str hd) = true := decide_eq_true rfl
   revert e
   simp
  refine ⟨_,rfl,_,rfl,l,_,_,V.ref p,rfl,rfl,L,e2,_,rfl,p,_,rfl,SqL.of e3,fun c2 hc2 => ?_⟩
  rw [List.map_cons,cut1]
  have s2 := Same.new (o := .lst (zs.map V.str)) hc2
  have f2 : upd H c2 (.lst (zs.map V.str)) c2 = some (.lst (zs.map V.str)) := Ad
  generalize upd H c2 (.lst (zs.map V.str)) = H2 at s2 f2 ⊢
  refine ⟨_,rfl,c2,rfl,⟨_,SqL.of f2⟩,Bj (K := K) (a := c2) (xs := zs.map V.str) (fun j us H' => us = (List.replicate j true).map V.bl ∧ Same H2 H') ⟨rfl,Same.refl _⟩ (by rw [List.length_map,hz]; omega) ?_ ?_ ?_ ?_⟩
  ·rintro j us H' ⟨rfl,_⟩
   rw [List.length_map,List.length_replicate]; exact Nat.le_refl _
  ·rintro j us H' _ ⟨_,s'⟩
   exact SqL.of (s' _ _ f2)
  ·rintro j x us H' hx ⟨rfl,s'⟩
   rw [List.getElem?_map] at hx
   obtain ⟨z,hz,rfl⟩ := Option.map_eq_some_iff.mp hx
   have wz := hw z (List.mem_of_getElem? hz)
   refine ⟨_,rfl,.str z,rfl,⟨.str,TyOf.str z⟩,(fun z' e => by cases e; have := word_len wz; omega),fun H3 s3 => ⟨?_,s'.trans s3⟩⟩
   rw [show wordV (.str z) = true from wz,List.replicate_succ',List.map_append]
   rfl
  ·rintro us H' ⟨rfl,s'⟩ l3 hl3
   have s3 := Same.new (o := .lst ((List.replicate (zs.map V.str).length true).map V.bl)) hl3
   have f3 : upd H' l3 (.lst ((List.replicate (zs.map V.str).length true).map V.bl)) l3 = some (.lst ((List.replicate (zs.map V.str).length true).map V.bl)) := Ad
   generalize upd H' l3 (.lst ((List.replicate (zs.map V.str).length true).map V.bl)) = H3 at s3 f3 ⊢
   refine ⟨l3,_,rfl,SqL.of f3,?_⟩
   rw [all_rep]
   have t3 := s'.trans s3
   exact ⟨_,rfl,iteF ⟨_,rfl,q c2 _ (s2.trans t3) (t3 _ _ f2)⟩⟩
end
abbrev Ro := Row × Ord
def Found (H : Hp) (fs : List Addr) (ros : List Ro) : Prop := fs.length = ros.length ∧ ∀ (i : Nat) (f : Addr) (ro : Ro),fs[i]? = some f → ros[i]? = some ro → SAt H f (secs ro.1 ro.2)
theorem Found.same {H H' : Hp} {fs : List Addr} {ros : List Ro} (h : Found H fs ros) (s : Same H H') : Found H' fs ros := ⟨h.1,fun i f ro a b => (h.2 i f ro a b).same s⟩
theorem Found.snoc {H : Hp} {fs : List Addr} {ros : List Ro} {f : Addr} {ro : Ro} (h : Found H fs ros) (hf : SAt H f (secs ro.1 ro.2)) : Found H (fs ++ [f]) (ros ++ [ro]) := by
 refine ⟨by rw [List.length_append,List.length_append,h.1]; rfl,fun i q t a b => ?_⟩
 by_cases hi : i < fs.length
 ·rw [List.getElem?_append_left hi] at a
  rw [List.getElem?_append_left (by rw [← h.1]; exact hi)] at b
  exact h.2 i q t a b
 ·have hi := Nat.not_lt.mp hi
  rw [List.getElem?_append_right hi] at a
  rw [List.getElem?_append_right (by rw [← h.1]; exact hi),← h.1] at b
  have h0 : i - fs.length = 0 := by
   have := (List.getElem?_eq_some_iff.mp a).1
   rw [List.length_singleton] at this
   omega
  rw [h0] at a b
  cases a
  cases b
  exact hf
theorem SAt.keep {H : Hp} {f c : Addr} {S : List (List Str)} {fs : List Addr} {o : HO} (h : SAt H f S) (hS : ∀ s ∈ S,s ≠ []) (hc : H c = some (.lst (fs.map V.ref))) (ne : f ≠ c) : SAt (upd H c o) f S := by
 obtain ⟨ps,a,b⟩ := h
 refine ⟨ps,by rw [upd_ne ne]; exact a,b.upd fun hm => ?_⟩
 obtain ⟨i,hi,e⟩ := List.mem_iff_getElem.mp hm
 have h2 : i < S.length := by rw [← b.1]; exact hi
 have h3 := b.2 i c S[i] (by rw [List.getElem?_eq_getElem hi,e]) (List.getElem?_eq_getElem h2)
 have h4 := hS S[i] (List.getElem_mem h2)
 rw [hc] at h3
 generalize S[i] = s at h3 h4
 match fs,s,h3,h4 with
 | _,[],_,h4 => exact h4 rfl
 | [],_ :: _,h3,_ => cases h3
 | _ :: _,_ :: _,h3,_ => simp at h3
theorem secs_ne (r : Row) (o : Ord) : ∀ s ∈ secs r o,s ≠ [] := by
 intro s hs
 unfold secs at hs
 simp only [List.mem_cons,List.not_mem_nil,or_false] at hs
 rcases hs with rfl | rfl | rfl | rfl | rfl | rfl | rfl | rfl | rfl | rfl | rfl | rfl <;> exact List.cons_ne_nil _ _
structure BkOk (z1 z2 : List Str) (ros : List Ro) : Prop where
 n1 : Nms z1
 n2 : Nms z2
 ro : ∀ x ∈ ros,RoOk z1 z2 x.1 x.2
 le : ros.length ≤ 12
abbrev lines (ros : List Ro) : List (List Str) := ros.map fun x => Ep x.1 x.2
def spLA (K : PySem.W.Frag) : Sp := fun vs H Q _ => ∃ (l p1 p2 : Addr) (z1 z2 t0 t1 : List Str) (ros : List Ro),vs = [.ref l,.ref p1,.ref p2] ∧ SAt H l (t0 :: t1 :: lines ros) ∧ SqL K H p1 (z1.map V.str) ∧ SqL K H p2 (z2.map V.str) ∧ BkOk z1 z2 ros ∧ ∀ (c : Addr) (fs : List Addr) (H' : Hp),Same H H' → H' c = some (.lst (fs.map V.ref)) → Found H' fs ros → Q (.ref c) H'
section
variable {P : Program} {w : World} {K : PySem.W.Frag} {mg : Str → Option Value} {base : Heap} {cT cL cB ad fT fL : Addr} {dT dL : FuncData} {ds : List Value} {J : Js}
abbrev Ea : Stmt := top 81
theorem Dp : Ak ["rows","strings","duties","found","place","sections"] ["rows","strings","duties"] (Ag Ea) := by trivial
theorem ok_la (T : Txt mg) (N : Tx2 mg) (F_so : FnAt P w K mg base "sections_of" 1 ["words"] spSO) (F_als : FnAt P w K mg base "are_licence_sections" 4 ["sections","strings","duties"] (spALS K)) (F : Ai K mg "licences_at" Ea ["rows","strings","duties"]) : FnAt P w K mg base "licences_at" 5 ["rows","strings","duties"] (spLA K) := by
 refine F.at Dp (fun vs H Q E h => ?_) (fun f cdv A outer s H vs Q E hr h => ?_)
 ·obtain ⟨l,p1,p2,z1,z2,t0,t1,ros,rfl,_⟩ := h
  rfl
 ·obtain ⟨l,p1,p2,z1,z2,t0,t1,ros,rfl,hl,h1,h2,bk,q⟩ := h
  refine ⟨_,(Ab (Al (i := 3) Dp.nd rfl (by trivial) (A5 Ac))
   (Ab (Dg PassesOwn.never rfl (pi_range2 rfl T.n_range (Aa (Bi rfl N.g_FIRST_LICENCE_ROW) (Aa (An A4 rfl T.n_len boot_len (Aa (pv 0) Ac)) Ac))) (As (i := 4) Dp.nd rfl (by trivial)) (Ab (Al (i := 5) Dp.nd rfl (by trivial) (Ao F_so hr (by decide) rfl (Aa (Az At (pv 0) (pv 4) (fun _ _ => rfl)) Ac)))
   (Ab (A7 (A9 (A8 (Ao F_als hr (by decide) rfl (Aa (pv 5) (Aa (pv 1) (Aa (pv 2) Ac)))))) (Ae Ar) Ap)
   (Ae (A3 (Bl PySem.F.plainAttrs_list PySem.F.slot_list_append PySem.F.type_list_append A2 (pv 3) (Aa (pv 5) Ac)))))))
   (Ae (Aq (pv 3))))),?_⟩
  have hz : sizeLine = 16777216 := sizeLine_eq
  have h12 := bk.le
  obtain ⟨ps,e1,t1',t2'⟩ := hl
  have elen : ps.length = 2 + ros.length := by
   rw [t1']
   show (ros.map fun x : Ro => Ep x.1 x.2).length + 1 + 1 = _
   rw [List.length_map]
   omega
  have hrow : ∀ (i : Nat) (ro : Ro),ros[i]? = some ro → ∃ p,atI (ps.map V.ref) (2 + (i : Int)) = some (V.ref p) ∧ H p = some (.lst ((Ep ro.1 ro.2).map V.str)) := fun i ro hi => by
   have hil := (List.getElem?_eq_some_iff.mp hi).1
   have hp : i + 2 < ps.length := by omega
   refine ⟨ps[i + 2],?_,t2' (i + 2) _ _ (List.getElem?_eq_getElem hp) ?_⟩
   ·have : (2 + (i : Int)) = ((i + 2 : Nat) : Int) := by omega
    rw [this]
    exact atI_nat (by rw [List.getElem?_map,List.getElem?_eq_getElem hp]; rfl)
   ·show (ros.map fun x : Ro => Ep x.1 x.2)[i]? = _
    rw [List.getElem?_map,hi]
    rfl
  refine ⟨(by show 0 ≤ sizeLine; decide),fun c hc => ?_⟩
  have s0 := Same.new (o := .lst []) hc
  have f0 : upd H c (.lst []) c = some (.lst []) := Ad
  generalize upd H c (.lst []) = H0 at s0 f0 ⊢
  have hn : (((ps.map V.ref).length : Int) - 2).toNat = ros.length := by rw [List.length_map,elen]; omega
  refine ⟨_,rfl,_,_,rfl,.inl ⟨_,SqL.of (s0 _ _ e1),rfl⟩,_,_,rfl,⟨by decide,by decide,?_,?_⟩,E2 (n := _) (fun i σ H' => ∃ (v4 v5 : Option V) (fs : List Addr),σ = [some (.ref l),some (.ref p1),some (.ref p2),some (.ref c),v4,v5] ∧ Same H H' ∧ H' c = some (.lst (fs.map V.ref)) ∧ Found H' fs (ros.take i) ∧ c ∉ fs) ⟨_,_,[],rfl,s0,f0,⟨rfl,fun i f ro h => by cases h⟩,List.not_mem_nil⟩ ?_ ?_⟩
  ·rw [List.length_map,elen]; omega
  ·rw [List.length_map,elen]; omega
  ·rintro i σ H' hi ⟨v4,v5,fs,rfl,s',fc,fd,nc⟩
   have hi : i < ros.length := by omega
   have hro := List.getElem?_eq_getElem hi
   have htk := List.take_succ_eq_append_getElem hi
   generalize ros[i] = ro at hro htk
   obtain ⟨p,ha,hp⟩ := hrow i ro hro
   have rk := bk.ro ro (List.mem_of_getElem? hro)
   refine ⟨_,rfl,_,rfl,l,_,_,V.ref p,rfl,rfl,SqL.of (s' _ _ e1),ha,p,Ep ro.1 ro.2,rfl,s' _ _ hp,(by have := line_many rk bk.n1 bk.n2; omega),fun l2 H2 s2 nl2 sa2 => ?_⟩
   rw [line_secs rk bk.n1 bk.n2] at sa2
   have S2 := s'.trans s2
   refine ⟨_,rfl,_,rfl,_,rfl,l2,p1,p2,z1,z2,ro.1,ro.2,rfl,sa2,.inl (S2.seq h1),.inl (S2.seq h2),rk.g,rk.ft,rk.ok,bk.n1.nd,bk.n2.nd,fun H3 s3 => ⟨_,rfl,iteF ?_⟩⟩
   have S3 := S2.trans s3
   have fc3 := s3 _ _ (s2 _ _ fc)
   have flen : fs.length ≤ 12 := by
    rw [fd.1,List.length_take]
    omega
   refine ⟨_,rfl,.inl ⟨rfl,_,SqL.of fc3⟩,_,rfl,c,_,_,rfl,rfl,fc3,(by rw [List.length_map,hz]; omega),?_⟩
   have nl : l2 ≠ c := fun z => by rw [z,fc] at nl2; cases nl2
   have fd3 := (fd.same (s2.trans s3)).snoc (sa2.same s3)
   refine ⟨_,_,fs ++ [l2],rfl,?_,?_,?_,?_⟩
   ·intro b o e
    rw [upd_ne (Ah e hc)]
    exact S3 _ _ e
   ·rw [Ad,List.map_append]
    rfl
   ·rw [htk]
    refine ⟨fd3.1,fun j g x a b => (fd3.2 j g x a b).keep (secs_ne _ _) fc3 fun z => ?_⟩
    have hm := List.mem_of_getElem? a
    rw [z] at hm
    exact (List.mem_append.mp hm).elim nc fun z => nl (List.mem_singleton.mp z).symm
   ·exact fun hm => (List.mem_append.mp hm).elim nc fun z => nl (List.mem_singleton.mp z).symm
  ·rintro σ H' ⟨v4,v5,fs,rfl,s',fc,fd,_⟩
   rw [hn,List.take_length] at fd
   exact ⟨_,rfl,q c fs _ s' fc fd⟩
end
def bookW (z1 z2 : List Str) (ros : List Ro) : List (List Str) := (("strings" : Str) :: z1) :: (("duties" : Str) :: z2) :: lines ros
def textB (z1 z2 : List Str) (ros : List Ro) : Str := Txt.join "\n" ((bookW z1 z2 ros).map (Txt.join " "))
theorem mem_jl {c d : Nat} : ∀ {xs : List (List Nat)},c ∈ jl d xs → c = d ∨ ∃ x ∈ xs,c ∈ x
 | [],h => by cases h
 | [x],h => .inr ⟨x,List.mem_cons_self,h⟩
 | x :: y :: r,h => by
   have h : c ∈ x ++ d :: jl d (y :: r) := h
   rcases List.mem_append.mp h with h | h
   ·exact .inr ⟨x,List.mem_cons_self,h⟩
   ·rcases List.mem_cons.mp h with h | h
    ·exact .inl h
    ·rcases mem_jl h with h | ⟨z,hz,h⟩
     ·exact .inl h
     ·exact .inr ⟨z,List.mem_cons_of_mem _ hz,h⟩
theorem blank1 : (" " : Str) = ⟨#[32]⟩ := by decide +kernel
theorem feed1 : ("\n" : Str) = ⟨#[10]⟩ := by decide +kernel
theorem no_join {c : Nat} (hc : c ≠ 32) {ws : List Str} (h : ∀ z ∈ ws,c ∉ z.cps.toList) : c ∉ (Txt.join " " ws).cps.toList := fun m => by
 rw [tjoin,blank1,join_toList] at m
 rcases mem_jl m with e | ⟨x,hx,hm⟩
 ·exact hc e
 ·obtain ⟨z,hz,rfl⟩ := List.mem_map.mp hx
  exact h z hz hm
structure LnOk (ws : List Str) : Prop where
 ne : ws ≠ []
 wd : ∀ z ∈ ws,32 ∉ z.cps.toList ∧ 10 ∉ z.cps.toList ∧ z.length ≤ 100
 le : ws.length ≤ 1224
theorem LnOk.split {ws : List Str} (h : LnOk ws) : Txt.split (Txt.join " " ws) " " = ws := by
 rw [blank1]
 exact split_join h.ne fun z hz => (h.wd z hz).1
theorem LnOk.len {ws : List Str} (h : LnOk ws) : (Txt.join " " ws).length ≤ 125000 := by
 have h1 := C7 " " ws
 have h2 := sum_le (zs := ws) (k := 100) fun z hz => (h.wd z hz).2.2
 have h3 := h.le
 have h4 : (" " : Str).length = 1 := rfl
 rw [h4] at h1
 omega
theorem wd_no {z : Str} (h : Wd z) : 32 ∉ z.cps.toList ∧ 10 ∉ z.cps.toList ∧ z.length ≤ 100 := ⟨fun m => by have := h.cl 32 m; omega,fun m => by have := h.cl 10 m; omega,h.le⟩
theorem semi_no : 32 ∉ (";" : Str).cps.toList ∧ 10 ∉ (";" : Str).cps.toList ∧ (";" : Str).length ≤ 100 := by decide +kernel
theorem ln_names {hd : Str} {zs : List Str} (h : Wd hd) (n : Nms zs) : LnOk (hd :: zs) :=
 ⟨List.cons_ne_nil _ _,fun z hz => wd_no (B2 h (fun x hx => wd_word (n.wd x hx)) z hz),by rw [List.length_cons]; have := n.n6; omega⟩
theorem ln_row {z1 z2 : List Str} {r : Row} {o : Ord} (k : RoOk z1 z2 r o) (n1 : Nms z1) (n2 : Nms z2) : LnOk (Ep r o) := by
 have sw := secs_wd k n1 n2
 refine ⟨words_ne (by unfold secs; simp) (secs_ne r o),fun z hz => ?_,?_⟩
 ·rcases mem_words hz with rfl | ⟨s,hs,hzs⟩
  ·exact semi_no
  ·exact wd_no ((sw s hs).1 z hzs)
 ·have := words_len (S := secs r o) (k := 101) fun s hs => (sw s hs).2
  have e : (secs r o).length = 12 := rfl
  rw [e] at this
  exact this
theorem ln_book {z1 z2 : List Str} {ros : List Ro} (bk : BkOk z1 z2 ros) : ∀ ws ∈ bookW z1 z2 ros,LnOk ws := by
 intro ws hws
 unfold bookW at hws
 rcases List.mem_cons.mp hws with rfl | h
 ·exact ln_names ⟨Dh (by decide +kernel),by decide +kernel⟩ bk.n1
 ·rcases List.mem_cons.mp h with rfl | h
  ·exact ln_names ⟨Dh (by decide +kernel),by decide +kernel⟩ bk.n2
  ·obtain ⟨x,hx,rfl⟩ := List.mem_map.mp h
   exact ln_row (bk.ro x hx) bk.n1 bk.n2
theorem split_book {z1 z2 : List Str} {ros : List Ro} (bk : BkOk z1 z2 ros) : Txt.split (textB z1 z2 ros) "\n" = (bookW z1 z2 ros).map (Txt.join " ") := by
 unfold textB
 rw [feed1]
 refine split_join (by unfold bookW; simp) fun z hz => ?_
 obtain ⟨ws,hws,rfl⟩ := List.mem_map.mp hz
 exact no_join (by decide) fun z hz => ((ln_book bk ws hws).wd z hz).2.1
theorem book_many {z1 z2 : List Str} {ros : List Ro} (bk : BkOk z1 z2 ros) : (bookW z1 z2 ros).length ≤ 14 := by
 have := bk.le
 unfold bookW
 rw [List.length_cons,List.length_cons,List.length_map]
 omega
theorem book_len {z1 z2 : List Str} {ros : List Ro} (bk : BkOk z1 z2 ros) : (textB z1 z2 ros).length ≤ 2000000 := by
 have h0 := book_many bk
 have h1 := C7 "\n" ((bookW z1 z2 ros).map (Txt.join " "))
 have h2 := sum_le (zs := (bookW z1 z2 ros).map (Txt.join " ")) (k := 125000) fun z hz => by
  obtain ⟨ws,hws,rfl⟩ := List.mem_map.mp hz
  exact (ln_book bk ws hws).len
 have h4 : ("\n" : Str).length = 1 := rfl
 rw [h4,List.length_map (f := Txt.join " ")] at h1
 rw [List.length_map (f := Txt.join " ")] at h2
 unfold textB
 omega
theorem lics_snoc {cL : Addr} {H : Hp} {ys : List Addr} {rs : List Row} {y : Addr} {r : Row} (h : E3 cL H ys rs) (g : r.Good) (l : LAt cL H y r) : E3 cL H (ys ++ [y]) (rs ++ [r]) := by
 refine ⟨by rw [List.length_append,List.length_append,h.1]; rfl,fun i z s hy hs => ?_⟩
 by_cases hlt : i < ys.length
 ·rw [List.getElem?_append_left hlt] at hy
  rw [List.getElem?_append_left (by rw [← h.1]; exact hlt)] at hs
  exact h.2 i z s hy hs
 ·have hi : i = ys.length := by
   have := (List.getElem?_eq_some_iff.mp hy).1
   rw [List.length_append,List.length_singleton] at this
   omega
  subst hi
  rw [List.getElem?_concat_length] at hy
  rw [h.1,List.getElem?_concat_length] at hs
  cases hy
  cases hs
  exact ⟨g,l⟩
structure BMk (P : Program) (w : World) (K : PySem.W.Frag) (mg : Str → Option Value) (base : Heap) (cL cB fB : Addr) (dB : FuncData) : Prop where
 mB : mg "Book" = some (.ref cB)
 kB : Mk K cB fB
 oB : FnOk P w K mg base CX0 5 fB dB psB (spBInit cL cB)
 bB : Binds K dB psB []
abbrev rows (ros : List Ro) : List Row := ros.map fun x => x.1
def spRB (cL cB : Addr) : Sp := fun vs H Q _ => ∃ (z1 z2 : List Str) (ros : List Ro),vs = [.str (textB z1 z2 ros)] ∧ BkOk z1 z2 ros ∧ ((rows ros).map Cy).Nodup ∧ ∀ (pb : Addr) (ys : List Addr) (H' : Hp),Same H H' → Ck cL cB H' pb z1 z2 ys (rows ros) → Q (.ref pb) H'
section
variable {P : Program} {w : World} {K : PySem.W.Frag} {mg : Str → Option Value} {base : Heap} {cT cL cB ad fT fL fB : Addr} {dT dL dB : FuncData} {ds : List Value} {J : Js}
abbrev Dv : Stmt := top 82
abbrev nRB : List Str := ["text","rows","strings","duties","found"]
theorem Dz : Ak nRB ["text"] (Ag Dv) := by trivial
theorem ok_rb (T : Txt mg) (BM : BMk P w K mg base cL cB fB dB) (F_na : FnAt P w K mg base "names_at" 2 ["rows","place","head"] spNA) (F_la : FnAt P w K mg base "licences_at" 5 ["rows","strings","duties"] (spLA K)) (F_s : FnAt P w K mg base "kept_strings" 3 ["names"] spNam6) (F_d : FnAt P w K mg base "kept_duties" 3 ["names"] spNam6) (F_lo : FnAt P w K mg base "licence_of" 8 ["sections","strings","duties"] (spLO K cL))
 (F : Ai K mg "read_book" Dv ["text"]) : FnAt P w K mg base "read_book" 10 ["text"] (spRB cL cB) := by
 refine F.at Dz (fun vs H Q E h => ?_) (fun f cdv A outer s H vs Q E hr h => ?_)
 ·obtain ⟨z1,z2,ros,rfl,_⟩ := h
  rfl
 ·obtain ⟨z1,z2,ros,rfl,bk,nd,q⟩ := h
  refine ⟨_,(Ab (A7 (A9 (A8 (An (D5 .str (by simp)) rfl T.n_isinstance boot_isinstance (Aa (pv 0) (Aa (Bx (v := .ty "str") rfl T.n_str boot_str rfl) Ac))))) (Ae Ar) Ap)
   (Ab (ps_setComp (i := 1) (sc := Ag Dv) (N0 := nRB) (xs := ["row"]) (ys := []) (js := []) (by trivial) rfl Dz.nd rfl rfl (Bn (Bl PySem.F.plainAttrs_str PySem.F.slot_str_split PySem.F.type_str_split mt_split (pv 0) (Aa Av Ac))) (fun _ _ _ _ => (As (i := 0) (show (["row"] : List Str).Nodup by decide +kernel) rfl (by trivial))) (fun _ _ _ _ => Cj) (fun _ _ _ _ => (pe_bmK K PySem.F.plainAttrs_str PySem.F.slot_str_split PySem.F.type_str_split mt_split (pv 0) (Aa Av Ac))))
   (Ab (Al (i := 2) Dz.nd rfl (by trivial) (Ao F_na hr (by decide) rfl (Aa (pv 1) (Aa Af (Aa Av Ac)))))
   (Ab (Al (i := 3) Dz.nd rfl (by trivial) (Ao F_na hr (by decide) rfl (Aa (pv 1) (Aa Af (Aa Av Ac)))))
   (Ab (Al (i := 4) Dz.nd rfl (by trivial) (Ao F_la hr (by decide) rfl (Aa (pv 1) (Aa (pv 2) (Aa (pv 3) Ac)))))
   (Ab (A3 (Ao F_s hr (by decide) rfl (Aa (pv 2) Ac)))
   (Ab (A3 (Ao F_d hr (by decide) rfl (Aa (pv 3) Ac)))
   (Ae (Aq (pe_make BM.kB BM.oB (hr.mono (by decide)) rfl BM.mB BM.bB .nil En (Aa (pv 2) (Aa (pv 3) (Aa (Bs (sc := Ag Dv) (N0 := nRB) (xs := ["sections"]) (ys := ["strings","duties"]) (js := [2,3]) (by trivial) rfl (Bn (pv 4)) (fun _ _ _ _ => (As (i := 0) (show (["sections","strings","duties"] : List Str).Nodup by decide +kernel) rfl (by trivial))) (fun _ _ _ _ => Cj) (fun _ _ _ _ => (Ao F_lo hr (by decide) rfl (Aa (pv 0) (Aa (pv 1) (Aa (pv 2) Ac)))))) Ac))))))))))))),?_⟩
  have hz : sizeLine = 16777216 := sizeLine_eq
  have tl := book_len bk
  have bm := book_many bk
  have h12 := bk.le
  refine ⟨_,rfl,_,.str,rfl,TyOf.str _,_,rfl,iteF ?_⟩
  refine ⟨_,rfl,rfl,_,"\n",rfl,rfl,(by decide +kernel),(by omega),fun la hla => ?_⟩
  rw [split_book bk]
  have ln := ln_book bk
  have hB : bookW z1 z2 ros = (("strings" : Str) :: z1) :: (("duties" : Str) :: z2) :: lines ros := rfl
  generalize bookW z1 z2 ros = B at bm ln hB
  have s0 := Same.new (o := .lst ((B.map (Txt.join " ")).map V.str)) hla
  have e0 : upd H la (.lst ((B.map (Txt.join " ")).map V.str)) la = some (.lst ((B.map (Txt.join " ")).map V.str)) := Ad
  generalize upd H la (.lst ((B.map (Txt.join " ")).map V.str)) = H0 at s0 e0 ⊢
  refine ⟨la,rfl,⟨_,SqL.of e0⟩,Bj (K := K) (a := la) (xs := (B.map (Txt.join " ")).map V.str) (fun j us H' => ∃ ps : List Addr,us = ps.map V.ref ∧ TxAt H' ps (B.take j) ∧ Same H0 H') ⟨[],rfl,⟨rfl,fun i p s h => by cases h⟩,Same.refl _⟩ (by rw [List.length_map,List.length_map,hz]; omega) ?_ ?_ ?_ ?_⟩
  ·rintro j us H' ⟨ps,rfl,tx,_⟩
   rw [List.length_map,tx.1,List.length_take]; omega
  ·rintro j us H' _ ⟨ps,_,_,s'⟩
   exact SqL.of (s' _ _ e0)
  ·rintro j x us H' hx ⟨ps,rfl,tx,s'⟩
   rw [List.getElem?_map] at hx
   obtain ⟨z,hzz,rfl⟩ := Option.map_eq_some_iff.mp hx
   rw [List.getElem?_map] at hzz
   obtain ⟨ws,hws,rfl⟩ := Option.map_eq_some_iff.mp hzz
   obtain ⟨hj,hje⟩ := List.getElem?_eq_some_iff.mp hws
   have lw := ln ws (List.mem_of_getElem? hws)
   have := lw.len
   refine ⟨_,rfl,rfl,_," ",rfl,rfl,(by decide +kernel),(by omega),fun p hp => ?_⟩
   rw [lw.split]
   have sn := Same.new (o := .lst (ws.map V.str)) hp
   refine ⟨ps ++ [p],by rw [List.map_append]; rfl,?_,s'.trans sn⟩
   rw [List.take_succ_eq_append_getElem hj,hje]
   exact (tx.same sn).snoc Ad
  rintro us H1 ⟨ps,rfl,tx,s1⟩ lr hlr
  rw [List.length_map,List.length_map,List.take_length] at tx
  have s2 := Same.new (o := .lst (ps.map V.ref)) hlr
  have e2 : upd H1 lr (.lst (ps.map V.ref)) lr = some (.lst (ps.map V.ref)) := Ad
  generalize upd H1 lr (.lst (ps.map V.ref)) = H2 at s2 e2 ⊢
  have sa2 : SAt H2 lr B := ⟨ps,e2,tx.same s2⟩
  have S2 := (s0.trans s1).trans s2
  have n61 := bk.n1.n6
  have n62 := bk.n2.n6
  refine ⟨_,rfl,lr,B,0,"strings",z1,rfl,sa2,by rw [hB]; rfl,bk.n1.wd,(by omega),fun c1 H3 s3 e3 => ?_⟩
  refine ⟨_,rfl,lr,B,1,"duties",z2,rfl,sa2.same s3,by rw [hB]; rfl,bk.n2.wd,(by omega),fun c2 H4 s4 e4 => ?_⟩
  have e34 := s4 _ _ e3
  have S4 := (S2.trans s3).trans s4
  have sa4 := sa2.same (s3.trans s4)
  rw [hB] at sa4
  refine ⟨_,rfl,_,rfl,_,rfl,lr,c1,c2,z1,z2,_,_,ros,rfl,sa4,SqL.of e34,SqL.of e4,bk,fun cf fs H5 s5 e5 fd => ?_⟩
  have S5 := S4.trans s5
  refine ⟨_,rfl,c1,z1,rfl,.inl (s5 _ _ e34),bk.n1.wd,bk.n1.nd,n61,fun d1 H6 s6 _ _ => ?_⟩
  refine ⟨_,rfl,c2,z2,rfl,.inl (s6 _ _ (s5 _ _ e4)),bk.n2.wd,bk.n2.nd,n62,fun d2 H7 s7 _ _ => ?_⟩
  have t7 := s5.trans (s6.trans s7)
  have e37 := t7 _ _ e34
  have e47 := t7 _ _ e4
  have e57 := (s6.trans s7) _ _ e5
  have fd7 := fd.same (s6.trans s7)
  have S7 := S4.trans t7
  refine ⟨_,rfl,_,rfl,_,rfl,cf,rfl,⟨_,SqL.of e57⟩,Bj (K := K) (a := cf) (xs := fs.map V.ref) (fun j us H' => ∃ ys : List Addr,us = ys.map V.ref ∧ ys.length = j ∧ Same H7 H' ∧ E3 cL H' ys ((rows ros).take j)) ⟨[],rfl,rfl,Same.refl _,rfl,fun i p r h => by simp at h⟩ (by rw [List.length_map,hz,fd7.1]; omega) ?_ ?_ ?_ ?_⟩
  ·rintro j us H' ⟨ys,rfl,e,_⟩
   rw [List.length_map]; exact Nat.le_of_eq e
  ·rintro j us H' _ ⟨ys,_,_,s',_⟩
   exact SqL.of (s' _ _ e57)
  ·rintro j x us H' hx ⟨ys,rfl,ej,s',lc⟩
   rw [List.getElem?_map] at hx
   obtain ⟨f,hf,rfl⟩ := Option.map_eq_some_iff.mp hx
   have hj : j < ros.length := by rw [← fd7.1]; exact (List.getElem?_eq_some_iff.mp hf).1
   have hro := List.getElem?_eq_getElem hj
   have hj2 : j < (rows ros).length := by rw [List.length_map]; exact hj
   have htk := List.take_succ_eq_append_getElem hj2
   have he : (rows ros)[j] = ros[j].1 := List.getElem_map _
   rw [he] at htk
   generalize ros[j] = ro at hro htk
   have rk := bk.ro ro (List.mem_of_getElem? hro)
   refine ⟨_,rfl,_,rfl,_,rfl,f,c1,c2,z1,z2,ro.1,ro.2,rfl,⟨(fd7.2 j f ro hf hro).same s',SqL.of (s' _ _ e37),SqL.of (s' _ _ e47),rk.g,rk.ft,rk.ok,bk.n1,bk.n2⟩,fun x H8 s8 lx => ⟨ys ++ [x],by rw [List.map_append]; rfl,by rw [List.length_append,ej]; rfl,s'.trans s8,?_⟩⟩
   rw [htk]
   exact lics_snoc (lc.same s8) rk.g lx
  rintro us H8 ⟨ys,rfl,ely,s8,lc⟩ x2 h2
  rw [List.length_map] at ely lc
  have hrl : fs.length = (rows ros).length := by rw [List.length_map]; exact fd7.1
  rw [hrl,List.take_length] at lc
  have s9 := Same.new (o := .lst (ys.map V.ref)) h2
  have e9 : upd H8 x2 (.lst (ys.map V.ref)) x2 = some (.lst (ys.map V.ref)) := Ad
  generalize upd H8 x2 (.lst (ys.map V.ref)) = H9 at s9 e9 ⊢
  have t9 := s8.trans s9
  have S9 := S7.trans t9
  refine fun pb dx fx fd' _ => ⟨pb,dx,c1,c2,x2,z1,z2,ys,rows ros,H9,rfl,Ad,fx,mk_k fx fd',.inl (t9 _ _ e37),.inl (t9 _ _ e47),.inl e9,bk.n1.wd,bk.n1.nd,n61,bk.n2.wd,bk.n2.nd,n62,lc.same s9,nd,(by rw [ely,fd7.1]; exact h12),(fun r hr => ?_),fun H10 s10 kc => ⟨rfl,?_⟩⟩
  ·obtain ⟨x,hx,rfl⟩ := List.mem_map.mp hr
   exact (bk.ro x hx).ft
  ·exact q pb ys H10 (S9.trans s10) (kc H10 fun b o e _ => e)
end
end K15
namespace L2
open PySem PySem.Spec PyProof.Rows
theorem comp_enum {k : Nat} {js : List Nat} {g : TG} {tc : TT} {te : TE} {σ : St} {fin : List V → Hp → Prop} {H : Hp} {K : PySem.W.Frag} {a : Addr} {xs : List V} (Pv : Nat → List V → Hp → Prop) (h0 : Pv 0 [] H) (hn : xs.length ≤ sizeLine) (hl : ∀ i us H,Pv i us H → us.length ≤ i)
 (hq : ∀ i us H,i ≤ xs.length → Pv i us H → SqL K H a xs)
 (hs : ∀ i x p us H,xs[i]? = some x → Pv i us H → H p = none → g (.ref p) (sigC k js σ) (upd H p (.tup [.int i,x])) fun σ2 H3 => tc σ2 H3 fun c H4 => if c = true then te σ2 H4 fun u H5 => Pv (i + 1) (us ++ [u]) H5 else Pv (i + 1) us H4)
 (hd : ∀ us H,Pv xs.length us H → fin us H) : compW k js g tc te σ (Ite K a) H fin := by
 refine ⟨fun i m us H => m = xs.length - i ∧ i ≤ xs.length ∧ Pv i us H,⟨xs.length,by simp,Nat.zero_le _,h0⟩,?_⟩
 rintro i m us H ⟨rfl,hi,p⟩
 have hy := hl i us H p
 have q1 := hq i us H hi p
 by_cases hlt : i < xs.length
 ·refine .inr ⟨⟨xs,xs[i],q1,by simp [hlt]⟩,by omega,Pv (i + 1),fun us' H' p' => ⟨xs.length - (i + 1),by omega,rfl,hlt,p'⟩,fun v H' y => ?_⟩
  obtain ⟨c,x,rfl,hn,ex,rfl⟩ := y
  exact hs i x c us _ (ex xs q1) p hn
 ·have e : i = xs.length := by omega
  subst e
  exact .inl ⟨⟨xs,q1,Nat.le_refl _⟩,by omega,hd us H p⟩
end L2
namespace K15
open PySem L2 PyProof.Rows PySem.SeqAt
def Kp : Option Addr → Hp → Hp → Prop
 | none => Same
 | some b => Oth b
def BxV : Option Addr → V
 | none => .non
 | some b => .ref b
def BxOk (H : Hp) : Option Addr → Prop
 | none => True
 | some b => Box H b
theorem Kp.refl : ∀ {bx : Option Addr} {H : Hp},BxOk H bx → Kp bx H H
 | none,H,_ => Same.refl H
 | some b,H,h => Oth.refl h
theorem Kp.trans : ∀ {bx : Option Addr} {H H1 H2 : Hp},Kp bx H H1 → Kp bx H1 H2 → Kp bx H H2
 | none,_,_,_,a,b => Same.trans a b
 | some _,_,_,_,a,b => Oth.trans a b
theorem Kp.same : ∀ {bx : Option Addr} {H H1 H2 : Hp},Kp bx H H1 → Same H1 H2 → Kp bx H H2
 | none,_,_,_,a,b => Same.trans a b
 | some _,_,_,_,a,b => Oth.same a b
theorem Kp.ok : ∀ {bx : Option Addr} {H H' : Hp},Kp bx H H' → BxOk H' bx
 | none,_,_,_ => trivial
 | some _,_,_,a => a.box
theorem Kp.get : ∀ {bx : Option Addr} {H H' : Hp} {c : Addr} {o : HO},Kp bx H H' → H c = some o → (∀ b,bx = some b → c ≠ b) → H' c = some o
 | none,_,_,c,o,a,e,_ => a c o e
 | some b,_,_,c,o,a,e,n => a.oth c o e (n b rfl)
theorem BxOk.same : ∀ {bx : Option Addr} {H H' : Hp},BxOk H bx → Same H H' → BxOk H' bx
 | none,_,_,_,_ => trivial
 | some _,_,_,⟨x,y,z,h⟩,s => ⟨x,y,z,s _ _ h⟩
theorem BxOk.ne : ∀ {bx : Option Addr} {H : Hp} {c : Addr},BxOk H bx → (∀ x y z : Int,H c ≠ some (.lst [.int x,.int y,.int z])) → ∀ b,bx = some b → c ≠ b
 | some a,_,c,⟨x,y,z,h⟩,n,b,e1,e => n x y z (by cases e1; rw [e]; exact h)
theorem Kp.put : ∀ {bx : Option Addr} {H H' : Hp} {c : Addr} {o : HO},Kp bx H H' → H c = none → (∀ b,bx = some b → c ≠ b) → Kp bx H (upd H' c o)
 | none,_,_,_,_,a,hc,_ => fun b o e => by rw [upd_ne (Ah e hc)]; exact a b o e
 | some b,_,_,c,_,a,hc,n => by
   refine ⟨?_,fun d u e hd => ?_⟩
   ·obtain ⟨x,y,z,h⟩ := a.box
    exact ⟨x,y,z,by rw [upd_ne (Ne.symm (n b rfl))]; exact h⟩
   ·rw [upd_ne (Ah e hc)]
    exact a.oth d u e hd
theorem strs_box {zs : List Str} {x y z : Int} : (some (HO.lst (zs.map V.str)) : Option HO) ≠ some (.lst [.int x,.int y,.int z]) := fun e => by
 cases zs with
 | nil => cases e
 | cons a b => simp at e
theorem map_erase : ∀ (l : List Str) (k : Nat),(l.map V.str).eraseIdx k = (l.eraseIdx k).map V.str
 | [],k => by simp
 | a :: l,0 => rfl
 | a :: l,k + 1 => by rw [List.map_cons,List.eraseIdx_cons_succ,List.eraseIdx_cons_succ,List.map_cons,map_erase l k]
theorem perm_erase : ∀ {l : List Str} {k : Nat} {y : Str},l[k]? = some y → l.Perm (y :: l.eraseIdx k)
 | a :: l,0,y,h => by cases h; exact .refl _
 | a :: l,k + 1,y,h => by
   have := perm_erase (l := l) (k := k) (y := y) (by simpa using h)
   rw [List.eraseIdx_cons_succ]
   exact (this.cons a).trans (.swap y a _)
def pickTo (m : Nat) (zs : List Str) (j : Nat) : List Str := ((List.range j).filter fun i => m.testBit i).map fun i => zs.getD i Str.empty
theorem pickTo_succ (m : Nat) (zs : List Str) (j : Nat) : pickTo m zs (j + 1) = pickTo m zs j ++ (if m.testBit j then [zs.getD j Str.empty] else []) := by
 unfold pickTo
 rw [List.range_succ,List.filter_append,List.map_append]
 congr 1
 cases h : m.testBit j <;> simp [h]
theorem pickTo_all {m : Nat} {zs : List Str} (hm : m < 2 ^ zs.length) (n6 : zs.length ≤ 6) : pickTo m zs zs.length = pick m zs := by
 unfold pickTo pick bitsN
 congr 1
 obtain ⟨d,hd⟩ : ∃ d,6 = zs.length + d := ⟨6 - zs.length,by omega⟩
 rw [hd,List.range_add,List.filter_append]
 have : ((List.range d).map fun x => zs.length + x).filter (fun i => m.testBit i) = [] := by
  rw [List.filter_eq_nil_iff]
  intro i hi hb
  obtain ⟨x,_,rfl⟩ := List.mem_map.mp hi
  have := bit_lt hm hb
  omega
 rw [this,List.append_nil]
theorem bit_of : ∀ (m : Fin 64) (k : Fin 6),Builtin.bitAnd ((m.val : Int) / 2 ^ ((k.val : Int)).toNat) 1 = if m.val.testBit k.val then 1 else 0 := by decide +kernel
def spLN : Sp := fun vs H Q _ => ∃ (hd : Str) (m : Nat) (p : Addr) (zs : List Str) (bx : Option Addr),vs = [.str hd,.int m,.ref p,BxV bx] ∧ hd.length ≤ 100 ∧ m < 64 ∧ m < 2 ^ zs.length ∧ Few zs ∧ H p = some (.lst (zs.map V.str)) ∧ BxOk H bx ∧ ∀ (ws : List Str) (H' : Hp),Kp bx H H' → ws.Perm (pick m zs) → (bx = none → ws = pick m zs) → Q (.str (Txt.join " " (hd :: ws))) H'
section
variable {P : Program} {w : World} {K : PySem.W.Frag} {mg : Str → Option Value} {base : Heap}
abbrev D1 : Stmt := top 94
abbrev nLN : List Str := ["_law_word","_law_mask","_law_names","_law_box_here","_law_some","_law_found","_law_at"]
theorem De : Ak nLN ["_law_word","_law_mask","_law_names","_law_box_here"] (Ag D1) := by trivial
theorem ok_ln (T : Txt mg) (F__law_take : FnAt P w K mg base "_law_take" 2 ["_law_box_here","_law_many"] spTake) (F : Ai K mg "_law_named" D1 ["_law_word","_law_mask","_law_names","_law_box_here"]) : FnAt P w K mg base "_law_named" 3 ["_law_word","_law_mask","_law_names","_law_box_here"] spLN := by
 refine F.at De (fun vs H Q E h => ?_) (fun f cdv A outer s H vs Q E hr h => ?_)
 ·obtain ⟨hd,m,p,zs,bx,rfl,_⟩ := h
  rfl
 ·obtain ⟨hd,m,p,zs,bx,rfl,hhd,m64,hm,few,hp,hb,q⟩ := h
  refine ⟨_,(Ab (ps_setComp (i := 4) (sc := Ag D1) (N0 := nLN) (xs := ["_law_k","_law_name"]) (ys := ["_law_mask"]) (js := [1]) (by trivial) rfl De.nd rfl rfl (pi_enum rfl T.n_enumerate (Aa (pv 2) Ac)) (fun _ _ _ _ => (pg_tupK (n := 2) K rfl (A6 (As (i := 0) (show (["_law_k","_law_name","_law_mask"] : List Str).Nodup by decide +kernel) rfl (by trivial)) (A6 (As (i := 1) (show (["_law_k","_law_name","_law_mask"] : List Str).Nodup by decide +kernel) rfl (by trivial)) pgs_nil)))) (fun _ _ _ _ => pq_one (A1 Ey (Ax op_and (Ax op_shr (pv 2) (pv 0)) Af) Af (A0 _))) (fun _ _ _ _ => (pv 1)))
   (Ab (Al (i := 5) De.nd rfl (by trivial) (A5 (Aa (pv 0) Ac)))
   (Ab (ps_while PassesOwn.never (A1 (op_neNil hr.units0) (pv 4) (A5 Ac) (A0 _)) (Ab (Al (i := 6) De.nd rfl (by trivial) Af)
   (Ab (ps_mid (A7 (pt_cmp (pc_notN (pv 3))) (Ae (Al (i := 6) De.nd rfl (by trivial) (Ao F__law_take hr (by decide) rfl (Aa (pv 3) (Aa (An A4 rfl T.n_len boot_len (Aa (pv 4) Ac)) Ac))))) Ap))
   (Ae (A3 (Bl PySem.F.plainAttrs_list PySem.F.slot_list_append PySem.F.type_list_append A2 (pv 5) (Aa (Bl PySem.F.plainAttrs_list PySem.F.slot_list_pop PySem.F.type_list_pop mt_popAt (pv 4) (Aa (pv 6) Ac)) Ac)))))))
   (Ae (Aq (Bl PySem.F.plainAttrs_str PySem.F.slot_str_join PySem.F.type_str_join D2 Av (Aa (pv 5) Ac))))))),?_⟩
  have hz : sizeLine = 16777216 := sizeLine_eq
  have n6 := few.n6
  refine ⟨_,rfl,p,rfl,⟨_,SqL.of hp⟩,comp_enum (K := K) (a := p) (xs := zs.map V.str) (fun j us H' => us = (pickTo m zs j).map V.str ∧ (pickTo m zs j).length ≤ j ∧ Same H H') ⟨rfl,Nat.le_refl _,Same.refl _⟩ (by rw [List.length_map,hz]; omega) ?_ ?_ ?_ ?_⟩
  ·rintro j us H' ⟨rfl,h,_⟩
   rw [List.length_map]; exact h
  ·rintro j us H' _ ⟨_,_,s'⟩
   exact SqL.of (s' _ _ hp)
  ·rintro j x t us H' hx ⟨rfl,hl,s'⟩ ht
   rw [List.getElem?_map] at hx
   obtain ⟨z,hzz,rfl⟩ := Option.map_eq_some_iff.mp hx
   obtain ⟨hj,hje⟩ := List.getElem?_eq_some_iff.mp hzz
   have st := Same.new (o := .tup [.int j,.str z]) ht
   refine ⟨t,_,rfl,SqT.of Ad,rfl,_,_,rfl,_,_,rfl,rfl,?_⟩
   have ev := bit_of ⟨m,m64⟩ ⟨j,by omega⟩
   dsimp only at ev
   have ps := pickTo_succ m zs j
   refine ⟨_,rfl,_,rfl,_,_,rfl,rfl,(by show (0 : Int) ≤ (j : Int); omega),_,_,rfl,rfl,rfl,_,rfl,?_⟩
   refine ite2 (fun e => ?_) (fun e => ?_)
   ·have e := V.int.inj (of_decide_eq_true e)
    have e : Builtin.bitAnd ((m : Int) / 2 ^ ((j : Int)).toNat) 1 = 1 := e
    have tb : m.testBit j = true := by
     cases tb : m.testBit j with
     | true => rfl
     | false => rw [ev,tb] at e; exact absurd e (by decide)
    rw [tb,if_pos rfl,Er hj,hje] at ps
    refine ⟨_,rfl,?_,?_,s'.trans st⟩
    ·rw [ps,List.map_append]; rfl
    ·rw [ps,List.length_append,List.length_singleton]; omega
   ·have tb : m.testBit j = false := by
     cases tb : m.testBit j with
     | false => rfl
     | true =>
       refine absurd ?_ e
       rw [tb] at ev
       exact decide_eq_true (congrArg V.int ev)
    rw [tb,if_neg (by decide),List.append_nil] at ps
    refine ⟨?_,?_,s'.trans st⟩
    ·rw [ps]
    ·rw [ps]; omega
  rintro us H1 ⟨rfl,_,s1⟩ ls hls
  rw [List.length_map,pickTo_all hm n6]
  have s2 := Same.new (o := .lst ((pick m zs).map V.str)) hls
  have es : upd H1 ls (.lst ((pick m zs).map V.str)) ls = some (.lst ((pick m zs).map V.str)) := Ad
  have nls : H ls = none := s1.free hls
  generalize upd H1 ls (.lst ((pick m zs).map V.str)) = H2 at s2 es ⊢
  refine ⟨_,rfl,(by show 1 ≤ sizeLine; decide),fun lf hlf => ?_⟩
  have s3 := Same.new (o := .lst [.str hd]) hlf
  have ef : upd H2 lf (.lst [.str hd]) lf = some (.lst [.str hd]) := Ad
  have nsf : ls ≠ lf := Ah es hlf
  have es := s3 _ _ es
  have nlf : H lf = none := (s1.trans s2).free hlf
  generalize upd H2 lf (.lst [.str hd]) = H3 at s3 ef es ⊢
  have S3 := (s1.trans s2).trans s3
  have bs : ∀ b,bx = some b → ls ≠ b := hb.ne fun x y z e => by rw [nls] at e; cases e
  have bf : ∀ b,bx = some b → lf ≠ b := hb.ne fun x y z e => by rw [nlf] at e; cases e
  have pl := pick_len m zs
  have pwl : ∀ {dn rest : List Str},(dn ++ rest).Perm (pick m zs) → dn.length ≤ 6 ∧ rest.length ≤ 6 ∧ ∀ z ∈ dn,z.length ≤ 100 := fun {dn rest} p => by
   have := p.length_eq
   rw [List.length_append] at this
   exact ⟨by omega,by omega,fun z hz => pick_sh few z (p.mem_iff.mp (List.mem_append_left _ hz))⟩
  refine ⟨fun k σ H' => ∃ (v6 : Option V) (dn rest : List Str),σ = [some (.str hd),some (.int m),some (.ref p),some (BxV bx),some (.ref ls),some (.ref lf),v6] ∧ Kp bx H H' ∧ H' ls = some (.lst (rest.map V.str)) ∧ H' lf = some (.lst ((hd :: dn).map V.str)) ∧ rest.length = k ∧ (dn ++ rest).Perm (pick m zs) ∧ (bx = none → dn ++ rest = pick m zs),⟨_,none,[],pick m zs,rfl,(Kp.refl hb).same S3,es,ef,rfl,.refl _,fun _ => rfl⟩,?_⟩
  rintro k σ H4 ⟨v6,dn,rest,rfl,k4,es4,ef4,hk,pm,pn⟩
  obtain ⟨d6,r6,dsh⟩ := pwl pm
  refine ⟨_,rfl,(by show 0 ≤ sizeLine; decide),fun c hc => ?_⟩
  have s5 := Same.new (o := .lst []) hc
  have ec : upd H4 c (.lst []) c = some (.lst []) := Ad
  generalize upd H4 c (.lst []) = H5 at s5 ec ⊢
  have k5 := k4.same s5
  have es5 := s5 _ _ es4
  have ef5 := s5 _ _ ef4
  refine ⟨ls,c,_,rfl,rfl,SqL.of es5,SqL.of ec,_,rfl,?_⟩
  refine ite2 (fun e => ?_) (fun e => ?_)
  ·have hpos : 0 < rest.length := by
    cases rest with
    | nil => cases e
    | cons a b => exact Nat.succ_pos _
   refine ⟨fun σ' H' => ∃ (v6 : Option V) (dn rest : List Str),σ' = [some (.str hd),some (.int m),some (.ref p),some (BxV bx),some (.ref ls),some (.ref lf),v6] ∧ Kp bx H H' ∧ H' ls = some (.lst (rest.map V.str)) ∧ H' lf = some (.lst ((hd :: dn).map V.str)) ∧ rest.length = k - 1 ∧ (dn ++ rest).Perm (pick m zs) ∧ (bx = none → dn ++ rest = pick m zs),fun σ' H' h => ⟨k - 1,by omega,h⟩,?_⟩
   refine ⟨fun σ' H' => ∃ a : Nat,σ' = [some (.str hd),some (.int m),some (.ref p),some (BxV bx),some (.ref ls),some (.ref lf),some (.int a)] ∧ Kp bx H H' ∧ H' ls = some (.lst (rest.map V.str)) ∧ H' lf = some (.lst ((hd :: dn).map V.str)) ∧ a < rest.length ∧ (bx = none → a = 0),?_,?_⟩
   ·cases bx with
    | none => exact ⟨_,rfl,_,rfl,iteF ⟨0,rfl,k5,es5,ef5,hpos,fun _ => rfl⟩⟩
    | some b =>
      refine ⟨_,rfl,_,rfl,iteT ⟨_,rfl,_,rfl,_,_,rfl,.inl ⟨_,SqL.of es5,rfl⟩,b,_,rfl,k5.box,(by rw [List.length_map]; omega),(by rw [List.length_map]; show ((rest.length : Nat) : Int) < 10000000000000000000000000000000000000000; omega),fun r H6 r0 r1 o6 => ?_⟩⟩
      rw [List.length_map] at r1
      obtain ⟨a,rfl⟩ : ∃ a : Nat,r = (a : Int) := ⟨r.toNat,by omega⟩
      exact ⟨a,rfl,k5.trans o6,o6.oth _ _ es5 (bs b rfl),o6.oth _ _ ef5 (bf b rfl),by omega,fun z => by cases z⟩
   ·rintro σ' H6 ⟨a,rfl,k6,es6,ef6,ha,an⟩
    have hy := List.getElem?_eq_getElem ha
    have pe := perm_erase hy
    generalize rest[a] = y at hy pe
    have hyv : (rest.map V.str)[a]? = some (V.str y) := by rw [List.getElem?_map,hy]; rfl
    have hix : seqIndex? (a : Int) (rest.map V.str).length = some a := by
     rw [List.length_map]
     exact PySem.StrLaws.seqIndex_nonneg (by omega) (by omega)
    refine ⟨_,rfl,.inl ⟨rfl,_,SqL.of ef6⟩,_,rfl,.inl ⟨rfl,_,SqL.of es6⟩,_,rfl,ls,_,_,a,V.str y,rfl,rfl,es6,(by omega),(by omega),hix,hyv,?_⟩
    have es7 : upd H6 ls (.lst ((rest.map V.str).eraseIdx a)) ls = some (.lst ((rest.eraseIdx a).map V.str)) := by
     rw [Ad,map_erase]
    have ef7 : upd H6 ls (.lst ((rest.map V.str).eraseIdx a)) lf = some (.lst ((hd :: dn).map V.str)) := by
     rw [upd_ne nsf.symm]
     exact ef6
    have k7 : Kp bx H (upd H6 ls (.lst ((rest.map V.str).eraseIdx a))) := k6.put nls bs
    generalize upd H6 ls (.lst ((rest.map V.str).eraseIdx a)) = H7 at es7 ef7 k7 ⊢
    refine ⟨lf,_,_,rfl,rfl,ef7,(by rw [List.length_map,List.length_cons,hz]; omega),?_⟩
    have le := List.length_eraseIdx_of_lt ha
    refine ⟨_,dn ++ [y],rest.eraseIdx a,rfl,k7.put nlf bf,?_,?_,?_,?_,?_⟩
    ·rw [upd_ne nsf]
     exact es7
    ·rw [Ad]
     show some (HO.lst ((hd :: dn).map V.str ++ [V.str y])) = _
     rw [← List.cons_append,List.map_append]
     rfl
    ·omega
    ·rw [List.append_assoc]
     exact (List.Perm.append_left dn pe.symm).trans pm
    ·intro z
     have := an z
     subst this
     rw [← pn z]
     cases rest with
     | nil => simp at hpos
     | cons u v =>
       cases hy
       simp
  ·have hr0 : rest = [] := by
    cases rest with
    | nil => rfl
    | cons a b => exact absurd rfl e
   subst hr0
   rw [List.append_nil] at pm pn
   refine ⟨rfl,_,rfl," ",lf,hd :: dn,rfl,rfl,SqL.of ef5,join_ok (k := 100) (n := 7) (fun z hz => (List.mem_cons.mp hz).elim (fun e => e ▸ hhd) (dsh z)) (by rw [List.length_cons]; omega) (by decide),q dn _ k5 pm pn⟩
end
theorem Kp.tup {bx : Option Addr} {H H' : Hp} {c : Addr} {xs : List V} (k : Kp bx H H') (hb : BxOk H bx) (e : H c = some (.tup xs)) : H' c = some (.tup xs) := k.get e (hb.ne fun x y z h => by rw [e] at h; cases h)
theorem Kp.strs {bx : Option Addr} {H H' : Hp} {c : Addr} {zs : List Str} (k : Kp bx H H') (hb : BxOk H bx) (e : H c = some (.lst (zs.map V.str))) : H' c = some (.lst (zs.map V.str)) := k.get e (hb.ne fun x y z h => by rw [e] at h; exact strs_box h)
def dOrd (r : Row) (z1 z2 : List Str) : Ord := ⟨pick r.le deeds,pick r.st z1,pick r.ba z1,pick (less r.a0 0) z2,pick (less r.a1 r.a0) z2,pick (less r.a2 r.a1) z2,pick (less r.a3 r.a2) z2⟩
theorem xor_less : ∀ a b : Fin 64,Bu b.val a.val = .non → Builtin.bitXor (a.val : Int) (b.val : Int) = ((less a.val b.val : Nat) : Int) := by decide +kernel
theorem j2 (a b : Str) : Txt.join " " [a,b] = a ++ (" " ++ b) := by
 rw [tjoin]
 show a ++ " " ++ b = _
 rw [Cs]
theorem j4' (a b c d : Str) : Txt.join " " [a,b,c,d] = a ++ (" " ++ (b ++ (" " ++ (c ++ (" " ++ d))))) := by
 rw [tjoin]
 show a ++ " " ++ (b ++ " " ++ (c ++ " " ++ d)) = _
 simp only [Cs]
theorem j1 (a : Str) : Txt.join " " [a] = a := by
 rw [tjoin]
 rfl
theorem lit_lic : ("licence " : Str) = "licence" ++ " " := str_inj (by decide +kernel)
theorem lit_rea : ("reach " : Str) = "reach" ++ " " := str_inj (by decide +kernel)
theorem lit_fro : ("from " : Str) = "from" ++ " " := str_inj (by decide +kernel)
theorem lit_to : (" to " : Str) = " " ++ ("to" ++ " ") := str_inj (by decide +kernel)
theorem t_lic (r : Row) : ("licence " ++ r.w ++ "." ++ nT r.n : Str) = Txt.join " " [("licence" : Str),Bp r.w r.n] := by
 rw [j2,lit_lic]
 show _ = "licence" ++ (" " ++ (r.w ++ "." ++ nT r.n))
 simp only [Cs]
theorem t_rea (j : Nat) : ("reach " ++ nm j : Str) = Txt.join " " [("reach" : Str),nm j] := by
 rw [j2,lit_rea,Cs]
theorem t_day (r : Row) : ("from " ++ nT r.fi ++ " to " ++ nT r.la : Str) = Txt.join " " [("from" : Str),nT r.fi,("to" : Str),nT r.la] := by
 rw [j4',lit_fro,lit_to]
 simp only [Cs]
def secJ (j : Nat) (b : List Str) : Str := Txt.join " " (nm j :: b)
theorem parts_eq (r : Row) (o : Ord) : (secs r o).map (Txt.join " ") = [("licence " ++ r.w ++ "." ++ nT r.n : Str),Txt.join " " (("lets" : Str) :: o.w1),Txt.join " " (("strings" : Str) :: o.w2),Txt.join " " (("bars" : Str) :: o.w3),"reach " ++ nm r.re,Cp r.sa] ++ [o.b0,o.b1,o.b2,o.b3].mapIdx secJ ++ ["from " ++ nT r.fi ++ " to " ++ nT r.la,lastT r.lg] := by
 rw [t_lic,t_rea,t_day,← j1 (Cp r.sa),← j1 (lastT r.lg)]
 simp only [j1]
 rfl
theorem line_text (r : Row) (o : Ord) : Txt.join " ; " ((secs r o).map (Txt.join " ")) = Txt.join " " (Ep r o) := join_secs (secs_ne r o)
def spRT : Sp := fun vs H Q _ => ∃ (q p1 p2 : Addr) (z1 z2 : List Str) (r : Row) (bx : Option Addr),vs = [.ref q,.ref p1,.ref p2,BxV bx] ∧ r.Good ∧ Dj H q r ∧ r.Fits z1.length z2.length ∧ H p1 = some (.lst (z1.map V.str)) ∧ H p2 = some (.lst (z2.map V.str)) ∧ Nms z1 ∧ Nms z2 ∧ BxOk H bx ∧ ∀ (o : Ord) (H' : Hp),Kp bx H H' → o.Ok r z1 z2 → (bx = none → o = dOrd r z1 z2) → Q (.str (Txt.join " " (Ep r o))) H'
theorem row_a {r : Row} (g : r.Good) {i : Nat} (h : i < 4) : r.a i < 64 ∧ r.aP i < 64 ∧ Bu (r.aP i) (r.a i) = .non := by
 have t := g.ha
 match i,h with
 | 0,_ => exact ⟨t.l0,(by show 0 < 64; decide),bey0 ⟨r.a0,t.l0⟩⟩
 | 1,_ => exact ⟨t.l1,t.l0,t.b0⟩
 | 2,_ => exact ⟨t.l2,t.l1,t.b1⟩
 | 3,_ => exact ⟨t.l3,t.l2,t.b2⟩
theorem part_len {z1 z2 : List Str} {r : Row} {o : Ord} (k : RoOk z1 z2 r o) (n1 : Nms z1) (n2 : Nms z2) : ∀ z ∈ (secs r o).map (Txt.join " "),z.length ≤ 10300 := fun z hz => by
 obtain ⟨s,hs,rfl⟩ := List.mem_map.mp hz
 obtain ⟨a,b⟩ := secs_wd k n1 n2 s hs
 have h1 := C7 " " s
 have h2 := sum_le (zs := s) (k := 100) fun z hz => (a z hz).le
 have h4 : (" " : Str).length = 1 := rfl
 rw [h4] at h1
 omega
section
variable {P : Program} {w : World} {K : PySem.W.Frag} {mg : Str → Option Value} {base : Heap}
abbrev Dc : Stmt := top 95
abbrev nRT : List Str := ["_law_row","_law_strings","_law_duties","_law_box_here","_law_key","_law_lets","_law_laid","_law_bars","_law_reach","_law_same","_law_asks","_law_first","_law_last","_law_lasting","_law_joins","_law_parts","_law_ahead","_law_join","_law_mask"]
theorem Au : Ak nRT ["_law_row","_law_strings","_law_duties","_law_box_here"] (Ag Dc) := by trivial
theorem ok_rt (T : Txt mg) (F_ln : FnAt P w K mg base "_law_named" 3 ["_law_word","_law_mask","_law_names","_law_box_here"] spLN) (F : Ai K mg "_law_row_text" Dc ["_law_row","_law_strings","_law_duties","_law_box_here"]) : FnAt P w K mg base "_law_row_text" 4 ["_law_row","_law_strings","_law_duties","_law_box_here"] spRT := by
 refine F.at Au (fun vs H Q E h => ?_) (fun f cdv A outer s H vs Q E hr h => ?_)
 ·obtain ⟨q,p1,p2,z1,z2,r,bx,rfl,_⟩ := h
  rfl
 ·obtain ⟨pq,p1,p2,z1,z2,r,bx,rfl,g,⟨pk,pa,hq,hk,ha⟩,ft,h1,h2,n1,n2,hb,q⟩ := h
  refine ⟨_,(Ab (ps_asg (Ba sl_tup (pv 0) Bm (Bd Af)) (pg_tup rfl (A6 (As (i := 4) Au.nd rfl (by trivial)) (A6 (As (i := 5) Au.nd rfl (by trivial)) (A6 (As (i := 6) Au.nd rfl (by trivial)) (A6 (As (i := 7) Au.nd rfl (by trivial)) (A6 (As (i := 8) Au.nd rfl (by trivial)) pgs_nil)))))))
   (Ab (ps_asg (Ba sl_tup (pv 0) (Bd Af) Bm) (pg_tup rfl (A6 (As (i := 9) Au.nd rfl (by trivial)) (A6 (As (i := 10) Au.nd rfl (by trivial)) (A6 (As (i := 11) Au.nd rfl (by trivial)) (A6 (As (i := 12) Au.nd rfl (by trivial)) (A6 (As (i := 13) Au.nd rfl (by trivial)) pgs_nil)))))))
   (Ab (ps_mid (Al (i := 14) Au.nd rfl (by trivial) (A5 (Aa Av (Aa Av (Aa Av (Aa Av Ac)))))))
   (Ab (Al (i := 15) Au.nd rfl (by trivial) (A5 (Aa (Ax B1 (Ax B1 (Ax B1 Av (Az Bt (pv 4) Af (fun _ _ => rfl))) Av) (Bh call_str_int rfl T.n_str boot_str (Aa (Az Bt (pv 4) Af (fun _ _ => rfl)) Ac))) Ac)))
   (Ab (A3 (Bl PySem.F.plainAttrs_list PySem.F.slot_list_append PySem.F.type_list_append A2 (pv 15) (Aa (Ao F_ln hr (by decide) rfl (Aa Av (Aa (pv 5) (Aa (A5 (Aa Av (Aa Av (Aa Av (Aa Av (Aa Av Ac)))))) (Aa (pv 3) Ac))))) Ac)))
   (Ab (A3 (Bl PySem.F.plainAttrs_list PySem.F.slot_list_append PySem.F.type_list_append A2 (pv 15) (Aa (Ao F_ln hr (by decide) rfl (Aa Av (Aa (pv 6) (Aa (pv 1) (Aa (pv 3) Ac))))) Ac)))
   (Ab (A3 (Bl PySem.F.plainAttrs_list PySem.F.slot_list_append PySem.F.type_list_append A2 (pv 15) (Aa (Ao F_ln hr (by decide) rfl (Aa Av (Aa (pv 7) (Aa (pv 1) (Aa (pv 3) Ac))))) Ac)))
   (Ab (A3 (Bl PySem.F.plainAttrs_list PySem.F.slot_list_append PySem.F.type_list_append A2 (pv 15) (Aa (Ax B1 Av (Az At (pv 14) (pv 8) (fun _ _ => rfl))) Ac)))
   (Ab (A3 (Bl PySem.F.plainAttrs_list PySem.F.slot_list_append PySem.F.type_list_append A2 (pv 15) (Aa (Az At (A5 (Aa Av (Aa Av Ac))) (Bh call_int1 rfl T.n_int boot_int (Aa (pv 9) Ac)) (fun _ _ => rfl)) Ac)))
   (Ab (Al (i := 16) Au.nd rfl (by trivial) Af)
   (Ab (Dg PassesOwn.never rfl (pi_zipG rfl T.n_zip (Aa (pv 14) (Aa (pv 10) Ac))) (pg_tup rfl (A6 (As (i := 17) Au.nd rfl (by trivial)) (A6 (As (i := 18) Au.nd rfl (by trivial)) pgs_nil))) (Ab (A3 (Bl PySem.F.plainAttrs_list PySem.F.slot_list_append PySem.F.type_list_append A2 (pv 15) (Aa (Ao F_ln hr (by decide) rfl (Aa (pv 17) (Aa (Ax op_xor (pv 18) (pv 16)) (Aa (pv 2) (Aa (pv 3) Ac))))) Ac)))
   (Ae (Al (i := 16) Au.nd rfl (by trivial) (pv 18)))))
   (Ab (A3 (Bl PySem.F.plainAttrs_list PySem.F.slot_list_append PySem.F.type_list_append A2 (pv 15) (Aa (Ax B1 (Ax B1 (Ax B1 Av (Bh call_str_int rfl T.n_str boot_str (Aa (pv 11) Ac))) Av) (Bh call_str_int rfl T.n_str boot_str (Aa (pv 12) Ac))) Ac)))
   (Ab (A3 (Bl PySem.F.plainAttrs_list PySem.F.slot_list_append PySem.F.type_list_append A2 (pv 15) (Aa (Az At (A5 (Aa Av (Aa Av Ac))) (Bh call_int1 rfl T.n_int boot_int (Aa (pv 13) Ac)) (fun _ _ => rfl)) Ac)))
   (Ae (Aq (Bl PySem.F.plainAttrs_str PySem.F.slot_str_join PySem.F.type_str_join D2 Av (Aa (pv 15) Ac))))))))))))))))),?_⟩
  have hz : sizeLine = 16777216 := sizeLine_eq
  have g4 := g.h4
  have hre : r.re < 4 := Nat.lt_succ_of_le g4.hre
  have hf := g.hf
  have hl := g.hl
  have hn := g.hn
  have wl := word_len g.hw
  have nl := (num4 (n := r.n) (by omega)).h2
  have fil := (num4 (n := r.fi) (by omega)).h2
  have lal := (num4 (n := r.la) (by omega)).h2
  refine ⟨_,rfl,_,rfl,pq,_,rfl,SqT.of hq,(by show ¬ (HT.sIx 10 0 none = 0 ∧ HT.sIx 10 10 (some 5) = 10); decide),fun c0 hc0 => ?_⟩
  have s0 := Same.new (o := .tup (cutV (r.tup pk pa) none (some 5))) hc0
  have e0 : upd H c0 (.tup (cutV (r.tup pk pa) none (some 5))) c0 = some (.tup [.ref pk,.int r.le,.int r.st,.int r.ba,.int r.re]) := Ad
  generalize upd H c0 (.tup (cutV (r.tup pk pa) none (some 5))) = H0 at s0 e0 ⊢
  refine ⟨c0,_,rfl,SqT.of e0,rfl,_,_,rfl,_,_,rfl,_,_,rfl,_,_,rfl,_,_,rfl,rfl,?_⟩
  refine ⟨_,rfl,_,rfl,pq,_,rfl,SqT.of (s0 _ _ hq),(by show ¬ (HT.sIx 10 0 (some 5) = 0 ∧ HT.sIx 10 10 none = 10); decide),fun c1 hc1 => ?_⟩
  have s1 := Same.new (o := .tup (cutV (r.tup pk pa) (some 5) none)) hc1
  have e1 : upd H0 c1 (.tup (cutV (r.tup pk pa) (some 5) none)) c1 = some (.tup [.bl r.sa,.ref pa,.int r.fi,.int r.la,.bl r.lg]) := Ad
  generalize upd H0 c1 (.tup (cutV (r.tup pk pa) (some 5) none)) = H1 at s1 e1 ⊢
  refine ⟨c1,_,rfl,SqT.of e1,rfl,_,_,rfl,_,_,rfl,_,_,rfl,_,_,rfl,_,_,rfl,rfl,?_⟩
  have s01 := s0.trans s1
  clear e0 e1 hc0 hc1 s0 s1
  refine ⟨fun σ' H' => ∃ lj : Addr,σ' = [some (.ref pq),some (.ref p1),some (.ref p2),some (BxV bx),some (.ref pk),some (.int r.le),some (.int r.st),some (.int r.ba),some (.int r.re),some (.bl r.sa),some (.ref pa),some (.int r.fi),some (.int r.la),some (.bl r.lg),some (.ref lj),none,none,none,none] ∧ Same H H' ∧ H' lj = some (.lst (JW.map V.str)),⟨(by show 4 ≤ sizeLine; decide),fun lj hlj => ⟨lj,rfl,s01.trans (Same.new hlj),Ad⟩⟩,?_⟩
  clear s01
  rintro σ HB ⟨lj,rfl,SB,ej⟩
  have hbB := hb.same SB
  have hkB := SB _ _ hk
  have haB := SB _ _ ha
  have h1B := SB _ _ h1
  have h2B := SB _ _ h2
  have KB : Kp bx H HB := (Kp.refl hb).same SB
  have ll : ("licence " : Str).length ≤ 10 := by decide +kernel
  have dl : ("." : Str).length ≤ 10 := by decide +kernel
  refine ⟨_,rfl,pk,_,_,V.str r.w,rfl,rfl,SqT.of hkB,rfl,_,_,rfl,rfl,(by omega),_,_,rfl,rfl,(by rw [B9]; omega),_,rfl,pk,_,_,V.int r.n,rfl,rfl,SqT.of hkB,rfl,r.n,rfl,Ez (by omega) (by omega),_,_,rfl,rfl,?_,(by show 1 ≤ sizeLine; decide),fun lp hlp => ?_⟩
  ·show (("licence " : Str) ++ r.w ++ ".").length + (nT r.n).length ≤ sizeLine
   rw [B9,B9]
   omega
  have bp : ∀ b,bx = some b → lp ≠ b := hbB.ne fun x y z e => by rw [hlp] at e; cases e
  have step : ∀ {Hi : Hp} {ps : List Str} (x : Str),Kp bx HB Hi → Hi lp = some (.lst (ps.map V.str)) → Kp bx HB (upd Hi lp (.lst (ps.map V.str ++ [V.str x]))) ∧ upd Hi lp (.lst (ps.map V.str ++ [V.str x])) lp = some (.lst ((ps ++ [x]).map V.str)) := fun {Hi ps} x k e => ⟨k.put hlp bp,by rw [Ad,List.map_append]; rfl⟩
  have k3 : Kp bx HB (upd HB lp (.lst [.str ("licence " ++ r.w ++ "." ++ nT r.n)])) := (Kp.refl hbB).same (Same.new hlp)
  have e3 : upd HB lp (.lst [.str ("licence " ++ r.w ++ "." ++ nT r.n)]) lp = some (.lst ([("licence " ++ r.w ++ "." ++ nT r.n : Str)].map V.str)) := Ad
  have hgg : upd HB lp (.lst [.str ("licence " ++ r.w ++ "." ++ Str.ofString (toString (r.n : Int)))]) = upd HB lp (.lst [.str ("licence " ++ r.w ++ "." ++ nT r.n)]) := rfl
  rw [hgg]
  generalize upd HB lp (.lst [.str ("licence " ++ r.w ++ "." ++ nT r.n)]) = H3 at k3 e3 ⊢
  refine ⟨_,rfl,.inl ⟨rfl,_,SqL.of e3⟩,_,rfl,(by show 5 ≤ sizeLine; decide),fun ld hld => ?_⟩
  have s4 := Same.new (o := .lst [.str "use",.str "give",.str "join",.str "change",.str "sell"]) hld
  have ed : upd H3 ld (.lst [.str "use",.str "give",.str "join",.str "change",.str "sell"]) ld = some (.lst (deeds.map V.str)) := Ad
  have e3 := s4 _ _ e3
  have k3 := k3.same s4
  generalize upd H3 ld (.lst [.str "use",.str "give",.str "join",.str "change",.str "sell"]) = H4 at s4 ed e3 k3 ⊢
  refine ⟨_,rfl,"lets",r.le,ld,deeds,bx,rfl,(by decide +kernel),(by have := g4.hle; omega),g4.hle,few_deeds,ed,k3.ok,fun w1 H5 k5 pm1 pn1 => ?_⟩
  have e5 := k5.get e3 bp
  have k5 := k3.trans k5
  clear hgg hld ed s4 e3 k3
  refine ⟨lp,_,_,rfl,rfl,e5,(by rw [List.length_map,hz]; show 1 < _; omega),?_⟩
  obtain ⟨k6,e6⟩ := step (Txt.join " " (("lets" : Str) :: w1)) k5 e5
  generalize upd H5 lp _ = H6 at k6 e6 ⊢
  clear k5 e5
  refine ⟨_,rfl,.inl ⟨rfl,_,SqL.of e6⟩,_,rfl,_,rfl,_,rfl,"strings",r.st,p1,z1,bx,rfl,(by decide +kernel),g4.hst,ft.st,n1.few,k6.strs hbB h1B,k6.ok,fun w2 H7 k7 pm2 pn2 => ?_⟩
  have e7 := k7.get e6 bp
  have k7 := k6.trans k7
  refine ⟨lp,_,_,rfl,rfl,e7,(by rw [List.length_map,hz]; show 2 < _; omega),?_⟩
  obtain ⟨k8,e8⟩ := step (Txt.join " " (("strings" : Str) :: w2)) k7 e7
  generalize upd H7 lp _ = H8 at k8 e8 ⊢
  clear k6 e6 k7 e7
  refine ⟨_,rfl,.inl ⟨rfl,_,SqL.of e8⟩,_,rfl,_,rfl,_,rfl,"bars",r.ba,p1,z1,bx,rfl,(by decide +kernel),g4.hba,ft.ba,n1.few,k8.strs hbB h1B,k8.ok,fun w3 H9 k9 pm3 pn3 => ?_⟩
  have e9 := k9.get e8 bp
  have k9 := k8.trans k9
  refine ⟨lp,_,_,rfl,rfl,e9,(by rw [List.length_map,hz]; show 3 < _; omega),?_⟩
  obtain ⟨k10,e10⟩ := step (Txt.join " " (("bars" : Str) :: w3)) k9 e9
  generalize upd H9 lp _ = H10 at k10 e10 ⊢
  clear k8 e8 k9 e9
  have hat : atI (JW.map V.str) (r.re : Int) = some (V.str (nm r.re)) := by
   rcases j4 hre with e | e | e | e <;> rw [e] <;> rfl
  have hnl : ("reach " : Str).length + (nm r.re).length ≤ sizeLine := by
   rcases j4 hre with e | e | e | e <;> rw [e] <;> decide +kernel
  refine ⟨_,rfl,.inl ⟨rfl,_,SqL.of e10⟩,_,rfl,_,rfl,lj,_,_,V.str (nm r.re),rfl,rfl,SqL.of (k10.strs hbB ej),hat,_,_,rfl,rfl,hnl,lp,_,_,rfl,rfl,e10,(by rw [List.length_map,hz]; show 4 < _; omega),?_⟩
  obtain ⟨k11,e11⟩ := step ("reach " ++ nm r.re) k10 e10
  generalize upd H10 lp _ = H11 at k11 e11 ⊢
  clear k10 e10
  refine ⟨_,rfl,.inl ⟨rfl,_,SqL.of e11⟩,(by show 2 ≤ sizeLine; decide),fun c12 hc12 => ?_⟩
  have s12 := Same.new (o := .lst [.str "free",.str "same"]) hc12
  have f12 : upd H11 c12 (.lst [.str "free",.str "same"]) c12 = some (.lst [.str "free",.str "same"]) := Ad
  have e12 := s12 _ _ e11
  have k12 := k11.same s12
  generalize upd H11 c12 (.lst [.str "free",.str "same"]) = H12 at f12 e12 k12 s12 ⊢
  refine ⟨_,rfl,.inr ⟨r.sa,rfl,c12,_,_,V.str (Cp r.sa),rfl,rfl,SqL.of f12,(by cases r.sa <;> rfl),lp,_,_,rfl,rfl,e12,(by rw [List.length_map,hz]; show 5 < _; omega),?_⟩⟩
  obtain ⟨k13,e13⟩ := step (Cp r.sa) k12 e12
  generalize upd H12 lp _ = H13 at k13 e13 ⊢
  clear k11 e11 k12 e12 s12 f12 hc12
  have e13 : H13 lp = some (.lst ([("licence " ++ r.w ++ "." ++ nT r.n : Str),Txt.join " " (("lets" : Str) :: w1),Txt.join " " (("strings" : Str) :: w2),Txt.join " " (("bars" : Str) :: w3),"reach " ++ nm r.re,Cp r.sa].map V.str)) := e13
  generalize hP6 : [("licence " ++ r.w ++ "." ++ nT r.n : Str),Txt.join " " (("lets" : Str) :: w1),Txt.join " " (("strings" : Str) :: w2),Txt.join " " (("bars" : Str) :: w3),"reach " ++ nm r.re,Cp r.sa] = P6 at e13
  have l6 : P6.length = 6 := by rw [← hP6]; rfl
  have hA : ∀ i v,r.asks[i]? = some v → i < 4 ∧ v = V.int (r.a i : Nat) := fun i v e => by
   match i,e with
   | 0,e => cases e; exact ⟨by decide,rfl⟩
   | 1,e => cases e; exact ⟨by decide,rfl⟩
   | 2,e => cases e; exact ⟨by decide,rfl⟩
   | 3,e => cases e; exact ⟨by decide,rfl⟩
   | n + 4,e => simp at e
  refine ⟨_,rfl,_,rfl,false,true,lj,pa,rfl,⟨_,SqL.of (k13.strs hbB ej)⟩,⟨_,SqT.of (k13.tup hbB haB)⟩,for_zipG (K := K) (b1 := false) (b2 := true) (a := lj) (b := pa) (xs := JW.map V.str) (ys := r.asks) (fun i σ H' => ∃ (v17 v18 : Option V) (bs : List (List Str)),σ = [some (.ref pq),some (.ref p1),some (.ref p2),some (BxV bx),some (.ref pk),some (.int r.le),some (.int r.st),some (.int r.ba),some (.int r.re),some (.bl r.sa),some (.ref pa),some (.int r.fi),some (.int r.la),some (.bl r.lg),some (.ref lj),some (.ref lp),some (.int (r.aP i : Nat)),v17,v18] ∧ Kp bx HB H' ∧ H' lp = some (.lst ((P6 ++ bs.mapIdx secJ).map V.str)) ∧ bs.length = i ∧ ∀ (j : Nat) (b : List Str),bs[j]? = some b → b.Perm (pick (less (r.a j) (r.aP j)) z2) ∧ (bx = none → b = pick (less (r.a j) (r.aP j)) z2))
   ⟨_,_,[],rfl,k13,(by rw [List.mapIdx_nil,List.append_nil]; exact e13),rfl,fun j b h => by cases h⟩ rfl (fun i σ H' _ h => ?_) ?_ ?_⟩
  ·obtain ⟨_,_,_,_,k',_⟩ := h
   exact ⟨SqL.of (k'.strs hbB ej),SqT.of (k'.tup hbB haB)⟩
  ·rintro i x y t σ H' hx hy ⟨v17,v18,bs,rfl,k',ep,bl,hbs⟩ ht
   obtain ⟨h4,rfl⟩ := hA i y hy
   have hx' : x = V.str (nm i) := by
    rcases j4 h4 with e | e | e | e <;> (subst e; cases hx; rfl)
   subst hx'
   refine ⟨t,_,rfl,SqT.of Ad,rfl,_,_,rfl,_,_,rfl,rfl,?_⟩
   have st := Same.new (o := .tup [.str (nm i),.int (r.a i : Nat)]) ht
   have ep := st _ _ ep
   have k' := k'.same st
   generalize upd H' t (.tup [.str (nm i),.int (r.a i : Nat)]) = H14 at st ep k' ⊢
   obtain ⟨a64,p64,bn⟩ := row_a g h4
   have hai : r.a i < 2 ^ z2.length := Nat.lt_of_le_of_lt (a_le g.ha i) ft.a3
   have xe := xor_less ⟨r.a i,a64⟩ ⟨r.aP i,p64⟩ bn
   dsimp only at xe
   refine ⟨_,rfl,.inl ⟨rfl,_,SqL.of ep⟩,_,rfl,_,rfl,_,rfl,_,_,rfl,rfl,_,rfl,_,rfl,nm i,less (r.a i) (r.aP i),p2,z2,bx,?_,?_,less_lt (n := 6) a64,less_lt hai,n2.few,k'.strs hbB h2B,k'.ok,fun b H15 k15 pmb pnb => ?_⟩
   ·show [V.str (nm i),V.int (Builtin.bitXor ((r.a i : Nat) : Int) ((r.aP i : Nat) : Int)),V.ref p2,BxV bx] = _
    rw [xe]
   ·rcases j4 h4 with e | e | e | e <;> rw [e] <;> decide +kernel
   ·have e15 := k15.get ep bp
    have k15 := k'.trans k15
    refine ⟨lp,_,_,rfl,rfl,e15,(by rw [List.length_map,List.length_append,List.length_mapIdx,l6,bl,hz]; omega),_,rfl,?_⟩
    obtain ⟨k16,e16⟩ := step (Txt.join " " (nm i :: b)) k15 e15
    refine ⟨_,_,bs ++ [b],rfl,k16,?_,by rw [List.length_append,bl]; rfl,fun j c hc => ?_⟩
    ·rw [e16,List.mapIdx_concat,List.append_assoc,bl]
     rfl
    ·by_cases hj : j < bs.length
     ·rw [List.getElem?_append_left hj] at hc
      exact hbs j c hc
     ·have hj2 : j = bs.length := by
       have := (List.getElem?_eq_some_iff.mp hc).1
       rw [List.length_append,List.length_singleton] at this
       omega
      subst hj2
      rw [List.getElem?_concat_length] at hc
      cases hc
      rw [bl]
      exact ⟨pmb,pnb⟩
  rintro σ H17 ⟨v17,v18,bs,rfl,k17,e17,bl,hbs⟩
  obtain ⟨b0,b1,b2,b3,rfl⟩ : ∃ b0 b1 b2 b3,bs = [b0,b1,b2,b3] := by
   match bs,bl with
   | [b0,b1,b2,b3],_ => exact ⟨_,_,_,_,rfl⟩
  obtain ⟨q0,r0⟩ := hbs 0 b0 rfl
  obtain ⟨q1,r1⟩ := hbs 1 b1 rfl
  obtain ⟨q2,r2⟩ := hbs 2 b2 rfl
  obtain ⟨q3,r3⟩ := hbs 3 b3 rfl
  have ok : Ord.Ok ⟨w1,w2,w3,b0,b1,b2,b3⟩ r z1 z2 := ⟨pm1,pm2,pm3,q0,q1,q2,q3⟩
  have dn : bx = none → (⟨w1,w2,w3,b0,b1,b2,b3⟩ : Ord) = dOrd r z1 z2 := fun z => by
   rw [pn1 z,pn2 z,pn3 z,r0 z,r1 z,r2 z,r3 z]
   rfl
  have fl : ("from " : Str).length ≤ 10 := by decide +kernel
  have tl : (" to " : Str).length ≤ 10 := by decide +kernel
  refine ⟨_,rfl,.inl ⟨rfl,_,SqL.of e17⟩,_,rfl,r.fi,rfl,Ez (by omega) (by omega),_,_,rfl,rfl,?_,_,_,rfl,rfl,?_,_,rfl,r.la,rfl,Ez (by omega) (by omega),_,_,rfl,rfl,?_,lp,_,_,rfl,rfl,e17,?_,?_⟩
  ·show ("from " : Str).length + (nT r.fi).length ≤ sizeLine
   omega
  ·show ("from " ++ nT r.fi : Str).length + (" to " : Str).length ≤ sizeLine
   rw [B9]
   omega
  ·show ("from " ++ nT r.fi ++ " to " : Str).length + (nT r.la).length ≤ sizeLine
   rw [B9,B9]
   omega
  ·rw [List.length_map,List.length_append,List.length_mapIdx,l6,hz]
   show 6 + 4 < _
   omega
  obtain ⟨k18,e18⟩ := step ("from " ++ nT r.fi ++ " to " ++ nT r.la) k17 e17
  have hgg : upd H17 lp (.lst ((P6 ++ [b0,b1,b2,b3].mapIdx secJ).map V.str ++ [V.str ("from " ++ Str.ofString (toString (r.fi : Int)) ++ " to " ++ Str.ofString (toString (r.la : Int)))])) = upd H17 lp (.lst ((P6 ++ [b0,b1,b2,b3].mapIdx secJ).map V.str ++ [V.str ("from " ++ nT r.fi ++ " to " ++ nT r.la)])) := rfl
  rw [hgg]
  generalize upd H17 lp (.lst ((P6 ++ [b0,b1,b2,b3].mapIdx secJ).map V.str ++ [V.str ("from " ++ nT r.fi ++ " to " ++ nT r.la)])) = H18 at k18 e18 ⊢
  clear hgg k17 e17
  refine ⟨_,rfl,.inl ⟨rfl,_,SqL.of e18⟩,(by show 2 ≤ sizeLine; decide),fun c19 hc19 => ?_⟩
  have s19 := Same.new (o := .lst [.str "ends",.str "lasting"]) hc19
  have f19 : upd H18 c19 (.lst [.str "ends",.str "lasting"]) c19 = some (.lst [.str "ends",.str "lasting"]) := Ad
  have e19 := s19 _ _ e18
  have k19 := k18.same s19
  generalize upd H18 c19 (.lst [.str "ends",.str "lasting"]) = H19 at f19 e19 k19 s19 ⊢
  refine ⟨_,rfl,.inr ⟨r.lg,rfl,c19,_,_,V.str (lastT r.lg),rfl,rfl,SqL.of f19,(by cases r.lg <;> rfl),lp,_,_,rfl,rfl,e19,?_,?_⟩⟩
  ·rw [List.length_map,List.length_append,List.length_append,List.length_mapIdx,l6,hz]
   show 6 + 4 + 1 < _
   omega
  obtain ⟨k20,e20⟩ := step (lastT r.lg) k19 e19
  generalize upd H19 lp _ = H20 at k20 e20 ⊢
  have pe : P6 ++ [b0,b1,b2,b3].mapIdx secJ ++ ["from " ++ nT r.fi ++ " to " ++ nT r.la] ++ [lastT r.lg] = (secs r ⟨w1,w2,w3,b0,b1,b2,b3⟩).map (Txt.join " ") := by
   rw [parts_eq,← hP6,List.append_assoc (as := _ ++ _)]
   rfl
  rw [pe] at e20
  refine ⟨rfl,_,rfl," ; ",lp,_,rfl,rfl,SqL.of e20,join_ok (k := 10300) (n := 12) (part_len ⟨g,ft,ok⟩ n1 n2) (by rw [List.length_map]; exact Nat.le_refl 12) (by decide +kernel),?_⟩
  rw [line_text]
  exact q _ _ (KB.trans k20) ok dn
end
theorem refs_box {ps : List Addr} {x y z : Int} : (some (HO.lst (ps.map V.ref)) : Option HO) ≠ some (.lst [.int x,.int y,.int z]) := fun e => by
 cases ps with
 | nil => cases e
 | cons a b => simp at e
theorem Kp.refs {bx : Option Addr} {H H' : Hp} {c : Addr} {ps : List Addr} (k : Kp bx H H') (hb : BxOk H bx) (e : H c = some (.lst (ps.map V.ref))) : H' c = some (.lst (ps.map V.ref)) := k.get e (hb.ne fun x y z h => by rw [e] at h; exact refs_box h)
theorem Dj.kp {bx : Option Addr} {H H' : Hp} {q : Addr} {r : Row} (k : Kp bx H H') (hb : BxOk H bx) (h : Dj H q r) : Dj H' q r := by
 obtain ⟨pk,pa,a,b,c⟩ := h
 exact ⟨pk,pa,k.tup hb a,k.tup hb b,k.tup hb c⟩
theorem D6.kp {bx : Option Addr} {H H' : Hp} {qs : List Addr} {rs : List Row} (k : Kp bx H H') (hb : BxOk H bx) (h : D6 H qs rs) : D6 H' qs rs := ⟨h.1,fun i q r a b => ⟨(h.2 i q r a b).1,(h.2 i q r a b).2.kp k hb⟩⟩
def dRos (z1 z2 : List Str) (rs : List Row) : List Ro := rs.map fun r => (r,dOrd r z1 z2)
theorem rows_d (z1 z2 : List Str) (rs : List Row) : rows (dRos z1 z2 rs) = rs := by
 show ((rs.map fun r => (r,dOrd r z1 z2)).map fun x : Ro => x.1) = rs
 rw [List.map_map]
 show rs.map (fun r => r) = rs
 exact List.map_id' rs
def spLT : Sp := fun vs H Q _ => ∃ (lr p1 p2 : Addr) (qs : List Addr) (z1 z2 : List Str) (rs : List Row) (bx : Option Addr),vs = [.ref lr,.ref p1,.ref p2,BxV bx] ∧ H lr = some (.lst (qs.map V.ref)) ∧ D6 H qs rs ∧ (∀ r ∈ rs,r.Fits z1.length z2.length) ∧ rs.length ≤ 12 ∧ H p1 = some (.lst (z1.map V.str)) ∧ H p2 = some (.lst (z2.map V.str)) ∧ Nms z1 ∧ Nms z2 ∧ BxOk H bx ∧ ∀ (ros : List Ro) (H' : Hp),Kp bx H H' → rows ros = rs → BkOk z1 z2 ros → (bx = none → ros = dRos z1 z2 rs) → Q (.str (textB z1 z2 ros)) H'
section
variable {P : Program} {w : World} {K : PySem.W.Frag} {mg : Str → Option Value} {base : Heap}
abbrev Eu : Stmt := top 96
abbrev nLT : List Str := ["_law_rows","_law_strings","_law_duties","_law_box_here","_law_found"]
theorem sc_law_text : Ak nLT ["_law_rows","_law_strings","_law_duties","_law_box_here"] (Ag Eu) := by trivial
theorem ok_lt (F_rt : FnAt P w K mg base "_law_row_text" 4 ["_law_row","_law_strings","_law_duties","_law_box_here"] spRT) (F : Ai K mg "_law_text" Eu ["_law_rows","_law_strings","_law_duties","_law_box_here"]) : FnAt P w K mg base "_law_text" 5 ["_law_rows","_law_strings","_law_duties","_law_box_here"] spLT := by
 refine F.at sc_law_text (fun vs H Q E h => ?_) (fun f cdv A outer s H vs Q E hr h => ?_)
 ·obtain ⟨lr,p1,p2,qs,z1,z2,rs,bx,rfl,_⟩ := h
  rfl
 ·obtain ⟨lr,p1,p2,qs,z1,z2,rs,bx,rfl,hlr,rA,ft,r12,h1,h2,n1,n2,hb,q⟩ := h
  refine ⟨_,(Ab (Al (i := 4) sc_law_text.nd rfl (by trivial) (A5 (Aa (Bl PySem.F.plainAttrs_str PySem.F.slot_str_join PySem.F.type_str_join D2 Av (Aa (Ax op_cat (A5 (Aa Av Ac)) (pv 1)) Ac)) (Aa (Bl PySem.F.plainAttrs_str PySem.F.slot_str_join PySem.F.type_str_join D2 Av (Aa (Ax op_cat (A5 (Aa Av Ac)) (pv 2)) Ac)) Ac))))
   (Ae (Aq (Bl PySem.F.plainAttrs_str PySem.F.slot_str_join PySem.F.type_str_join D2 Av (Aa (Ax op_cat (pv 4) (Bs (sc := Ag Eu) (N0 := nLT) (xs := ["_law_row"]) (ys := ["_law_strings","_law_duties","_law_box_here"]) (js := [1,2,3]) (by trivial) rfl (Bn (pv 0)) (fun _ _ _ _ => (As (i := 0) (show (["_law_row","_law_strings","_law_duties","_law_box_here"] : List Str).Nodup by decide +kernel) rfl (by trivial))) (fun _ _ _ _ => Cj) (fun _ _ _ _ => (Ao F_rt hr (by decide) rfl (Aa (pv 0) (Aa (pv 1) (Aa (pv 2) (Aa (pv 3) Ac)))))))) Ac))))),?_⟩
  have hs : sizeLine = 16777216 := sizeLine_eq
  have m1 := n1.n6
  have m2 := n2.n6
  refine ⟨rfl,(by show 1 ≤ sizeLine; decide),fun l0 hl0 => ?_⟩
  have s0 := Same.new (o := .lst [.str "strings"]) hl0
  have e0 : upd H l0 (.lst [.str "strings"]) l0 = some (.lst [.str "strings"]) := Ad
  generalize upd H l0 (.lst [.str "strings"]) = H0 at s0 e0 ⊢
  refine ⟨_,rfl,l0,p1,_,_,rfl,rfl,e0,s0 _ _ h1,(by rw [List.length_map,hs]; show 1 + _ ≤ _; omega),fun l2 hl2 => ?_⟩
  have e2 : upd H0 l2 (.lst ([V.str "strings"] ++ z1.map V.str)) l2 = some (.lst ((("strings" : Str) :: z1).map V.str)) := Ad
  have s2 := Same.new (o := .lst ([V.str "strings"] ++ z1.map V.str)) hl2
  generalize upd H0 l2 (.lst ([V.str "strings"] ++ z1.map V.str)) = H2 at s2 e2 ⊢
  have S2 := s0.trans s2
  refine ⟨" ",l2,("strings" : Str) :: z1,rfl,rfl,SqL.of e2,(head_len (by decide +kernel) n1.few).2,?_⟩
  refine ⟨rfl,(by show 1 ≤ sizeLine; decide),fun l3 hl3 => ?_⟩
  have s3 := Same.new (o := .lst [.str "duties"]) hl3
  have e3 : upd H2 l3 (.lst [.str "duties"]) l3 = some (.lst [.str "duties"]) := Ad
  generalize upd H2 l3 (.lst [.str "duties"]) = H3 at s3 e3 ⊢
  refine ⟨_,rfl,l3,p2,_,_,rfl,rfl,e3,(S2.trans s3) _ _ h2,(by rw [List.length_map,hs]; show 1 + _ ≤ _; omega),fun l5 hl5 => ?_⟩
  have e5 : upd H3 l5 (.lst ([V.str "duties"] ++ z2.map V.str)) l5 = some (.lst ((("duties" : Str) :: z2).map V.str)) := Ad
  have s5 := Same.new (o := .lst ([V.str "duties"] ++ z2.map V.str)) hl5
  generalize upd H3 l5 (.lst ([V.str "duties"] ++ z2.map V.str)) = H5 at s5 e5 ⊢
  have S5 := (S2.trans s3).trans s5
  refine ⟨" ",l5,("duties" : Str) :: z2,rfl,rfl,SqL.of e5,(head_len (by decide +kernel) n2.few).2,(by show 2 ≤ sizeLine; decide),fun l6 hl6 => ?_⟩
  have s6 := Same.new (o := .lst [.str (Txt.join " " (("strings" : Str) :: z1)),.str (Txt.join " " (("duties" : Str) :: z2))]) hl6
  have e6 : upd H5 l6 (.lst [.str (Txt.join " " (("strings" : Str) :: z1)),.str (Txt.join " " (("duties" : Str) :: z2))]) l6 = some (.lst ([Txt.join " " (("strings" : Str) :: z1),Txt.join " " (("duties" : Str) :: z2)].map V.str)) := Ad
  generalize upd H5 l6 (.lst [.str (Txt.join " " (("strings" : Str) :: z1)),.str (Txt.join " " (("duties" : Str) :: z2))]) = H6 at s6 e6 ⊢
  have S6 := S5.trans s6
  have hb6 := hb.same S6
  have k6 : Kp bx H H6 := (Kp.refl hb).same S6
  have rA6 := rA.kp k6 hb
  have hlr6 := S6 _ _ hlr
  have h16 := S6 _ _ h1
  have h26 := S6 _ _ h2
  have hql : qs.length = rs.length := rA.1
  refine ⟨rfl,_,rfl,_,rfl,lr,rfl,⟨_,SqL.of hlr6⟩,Bj (K := K) (a := lr) (xs := qs.map V.ref) (fun j us H' => ∃ ros : List Ro,us = (ros.map fun x => Txt.join " " (Ep x.1 x.2)).map V.str ∧ rows ros = rs.take j ∧ Kp bx H6 H' ∧ (∀ x ∈ ros,RoOk z1 z2 x.1 x.2) ∧ (bx = none → ros = dRos z1 z2 (rs.take j))) ⟨[],rfl,rfl,Kp.refl hb6,(fun x hx => by cases hx),fun _ => rfl⟩ (by rw [List.length_map,hs]; omega) ?_ ?_ ?_ ?_⟩
  ·rintro j us H' ⟨ros,rfl,e,_⟩
   have := congrArg List.length e
   rw [List.length_map,List.length_take] at this
   rw [List.length_map,List.length_map]; omega
  ·rintro j us H' _ ⟨ros,_,_,k',_⟩
   exact SqL.of (k'.refs hb6 hlr6)
  ·rintro j x us H' hx ⟨ros,rfl,er,k',rk,rn⟩
   rw [List.getElem?_map] at hx
   obtain ⟨qj,hqj,rfl⟩ := Option.map_eq_some_iff.mp hx
   have hj : j < rs.length := by rw [← hql]; exact (List.getElem?_eq_some_iff.mp hqj).1
   have hrj : rs[j]? = some rs[j] := List.getElem?_eq_getElem hj
   have htk := List.take_succ_eq_append_getElem hj
   generalize rs[j] = r at hrj htk
   obtain ⟨gr,rj⟩ := rA6.2 j qj r hqj hrj
   have fr := ft r (List.mem_of_getElem? hrj)
   refine ⟨_,rfl,_,rfl,_,rfl,_,rfl,qj,p1,p2,z1,z2,r,bx,rfl,gr,rj.kp k' hb6,fr,k'.strs hb6 h16,k'.strs hb6 h26,n1,n2,k'.ok,fun o H7 k7 ok on => ?_⟩
   refine ⟨ros ++ [(r,o)],by rw [List.map_append,List.map_append]; rfl,?_,k'.trans k7,fun x hx => ?_,fun z => ?_⟩
   ·rw [htk,← er]
    show (ros ++ [(r,o)]).map (fun x : Ro => x.1) = _
    rw [List.map_append]
    rfl
   ·rcases List.mem_append.mp hx with h | h
    ·exact rk x h
    ·rw [List.mem_singleton] at h
     subst h
     exact ⟨gr,fr,ok⟩
   ·rw [rn z,on z,htk]
    unfold dRos
    rw [List.map_append]
    rfl
  rintro us H7 ⟨ros,rfl,er,k7,rk,rn⟩ l8 hl8
  rw [List.length_map,hql,List.take_length] at er rn
  have rl : ros.length = rs.length := by rw [← er,List.length_map]
  have bk : BkOk z1 z2 ros := ⟨n1,n2,rk,by omega⟩
  have s8 := Same.new (o := .lst ((ros.map fun x => Txt.join " " (Ep x.1 x.2)).map V.str)) hl8
  have e8 : upd H7 l8 (.lst ((ros.map fun x => Txt.join " " (Ep x.1 x.2)).map V.str)) l8 = some (.lst ((ros.map fun x => Txt.join " " (Ep x.1 x.2)).map V.str)) := Ad
  generalize upd H7 l8 (.lst ((ros.map fun x => Txt.join " " (Ep x.1 x.2)).map V.str)) = H8 at s8 e8 ⊢
  have e68 := s8 _ _ (k7.strs hb6 e6)
  refine ⟨l6,l8,_,_,rfl,rfl,e68,e8,(by rw [List.length_map (f := V.str),List.length_map (f := V.str),List.length_map,hs]; show 2 + _ ≤ _; omega),fun l9 hl9 => ?_⟩
  have be : [Txt.join " " (("strings" : Str) :: z1),Txt.join " " (("duties" : Str) :: z2)] ++ (ros.map fun x => Txt.join " " (Ep x.1 x.2)) = (bookW z1 z2 ros).map (Txt.join " ") := by
   unfold bookW
   rw [List.map_cons,List.map_cons,List.map_map]
   rfl
  have s9 := Same.new (o := .lst ([Txt.join " " (("strings" : Str) :: z1),Txt.join " " (("duties" : Str) :: z2)].map V.str ++ (ros.map fun x => Txt.join " " (Ep x.1 x.2)).map V.str)) hl9
  have e9 : upd H8 l9 (.lst ([Txt.join " " (("strings" : Str) :: z1),Txt.join " " (("duties" : Str) :: z2)].map V.str ++ (ros.map fun x => Txt.join " " (Ep x.1 x.2)).map V.str)) l9 = some (.lst (((bookW z1 z2 ros).map (Txt.join " ")).map V.str)) := by
   rw [Ad,← List.map_append,be]
  generalize upd H8 l9 (.lst ([Txt.join " " (("strings" : Str) :: z1),Txt.join " " (("duties" : Str) :: z2)].map V.str ++ (ros.map fun x => Txt.join " " (Ep x.1 x.2)).map V.str)) = H9 at s9 e9 ⊢
  have bm := book_many bk
  refine ⟨"\n",l9,_,rfl,rfl,SqL.of e9,join_ok (k := 125000) (n := 14) (fun z hz => ?_) (by rw [List.length_map]; exact bm) (by decide +kernel),q ros _ (((k6.trans k7).same s8).same s9) er bk rn⟩
  obtain ⟨ws,hws,rfl⟩ := List.mem_map.mp hz
  exact (ln_book bk ws hws).len
end
def low (n m : Nat) : Nat := m &&& (2 ^ n - 1)
def fitR (a b : Nat) (r : Row) : Row := { r with st := low a r.st,ba := low a r.ba,a0 := low b r.a0,a1 := low b r.a1,a2 := low b r.a2,a3 := low b r.a3 }
theorem kn : ∀ a : Fin 7,(1 * 2 ^ ((a.val : Int)).toNat - 1 : Int) = ((2 ^ a.val - 1 : Nat) : Int) := by decide +kernel
theorem kn64 : ∀ a : Fin 7,2 ^ a.val - 1 < 64 := by decide +kernel
theorem low_and {n m : Nat} (hn : n ≤ 6) (hm : m < 64) : Builtin.bitAnd (m : Int) (1 * 2 ^ ((n : Int)).toNat - 1) = ((low n m : Nat) : Int) := by
 have e := kn ⟨n,by omega⟩
 dsimp only at e
 rw [e]
 exact and_nat ⟨m,hm⟩ ⟨2 ^ n - 1,kn64 ⟨n,by omega⟩⟩
theorem low_le {n m : Nat} : low n m ≤ m := Nat.and_le_left
theorem low_lt {n m : Nat} : low n m < 2 ^ n := by
 have h1 : low n m ≤ 2 ^ n - 1 := Nat.and_le_right
 have h2 : 0 < 2 ^ n := Nat.two_pow_pos n
 omega
theorem bey_of : ∀ a b : Fin 64,a.val &&& b.val = a.val → Bu a.val b.val = .non := by decide +kernel
theorem dis_of : ∀ a b : Fin 64,Builtin.bitAnd (a.val : Int) (b.val : Int) = 0 ↔ a.val &&& b.val = 0 := by decide +kernel
theorem low_bey {n a b : Nat} (ha : a < 64) (hb : b < 64) (h : Bu a b = .non) : Bu (low n a) (low n b) = .non := by
 have e := bey_and ⟨a,ha⟩ ⟨b,hb⟩ h
 dsimp only at e
 refine bey_of ⟨low n a,Nat.lt_of_le_of_lt low_le ha⟩ ⟨low n b,Nat.lt_of_le_of_lt low_le hb⟩ ?_
 show (a &&& (2 ^ n - 1)) &&& (b &&& (2 ^ n - 1)) = a &&& (2 ^ n - 1)
 rw [Nat.and_assoc,← Nat.and_assoc (2 ^ n - 1),Nat.and_comm (2 ^ n - 1) b,Nat.and_assoc b,Nat.and_self,← Nat.and_assoc,e]
theorem low_dis {n a b : Nat} (ha : a < 64) (hb : b < 64) (h : Builtin.bitAnd (a : Int) (b : Int) = 0) : Builtin.bitAnd ((low n a : Nat) : Int) ((low n b : Nat) : Int) = 0 := by
 have e := (dis_of ⟨a,ha⟩ ⟨b,hb⟩).mp h
 dsimp only at e
 refine (dis_of ⟨low n a,Nat.lt_of_le_of_lt low_le ha⟩ ⟨low n b,Nat.lt_of_le_of_lt low_le hb⟩).mpr ?_
 show (a &&& (2 ^ n - 1)) &&& (b &&& (2 ^ n - 1)) = 0
 rw [Nat.and_assoc,← Nat.and_assoc (2 ^ n - 1),Nat.and_comm (2 ^ n - 1) b,Nat.and_assoc b,Nat.and_self,← Nat.and_assoc,e,Nat.zero_and]
theorem fit_good {r : Row} (g : r.Good) (a b : Nat) : (fitR a b r).Good := by
 have t := g.ha
 have h := g.h4
 refine ⟨g.hw,g.hn,⟨h.hle,Nat.lt_of_le_of_lt low_le h.hst,Nat.lt_of_le_of_lt low_le h.hba,low_dis h.hst h.hba h.hsb,h.hre⟩,⟨Nat.lt_of_le_of_lt low_le t.l0,Nat.lt_of_le_of_lt low_le t.l1,Nat.lt_of_le_of_lt low_le t.l2,Nat.lt_of_le_of_lt low_le t.l3,low_bey t.l0 t.l1 t.b0,low_bey t.l1 t.l2 t.b1,low_bey t.l2 t.l3 t.b2⟩,g.hf,g.hl⟩
theorem fit_fits (r : Row) (a b : Nat) : (fitR a b r).Fits a b := ⟨low_lt,low_lt,low_lt⟩
def spLFit : Sp := fun vs H Q _ => ∃ (q : Addr) (a b : Nat) (r : Row),vs = [.ref q,.int a,.int b] ∧ a ≤ 6 ∧ b ≤ 6 ∧ r.Good ∧ Dj H q r ∧ ∀ (q' : Addr) (H' : Hp),Same H H' → Dj H' q' (fitR a b r) → Q (.ref q') H'
section
variable {P : Program} {w : World} {K : PySem.W.Frag} {mg : Str → Option Value} {base : Heap}
abbrev Df : Stmt := top 97
abbrev nLF : List Str := ["_law_row","_law_strings","_law_duties","_law_known","_law_asked","_law_asks"]
theorem Dq : Ak nLF ["_law_row","_law_strings","_law_duties"] (Ag Df) := by trivial
theorem ok_lfit (T : Txt mg) (F : Ai K mg "_law_fitted" Df ["_law_row","_law_strings","_law_duties"]) : FnAt P w K mg base "_law_fitted" 1 ["_law_row","_law_strings","_law_duties"] spLFit := by
 refine F.at Dq (fun vs H Q E h => ?_) (fun f cdv A outer s H vs Q E hr h => ?_)
 ·obtain ⟨q,a,b,r,rfl,_⟩ := h
  rfl
 ·obtain ⟨pq,a,b,r,rfl,a6,b6,g,⟨pk,pa,hq,hk,ha⟩,q⟩ := h
  refine ⟨_,(Ab (Al (i := 3) Dq.nd rfl (by trivial) (Ax op_sub (Ax op_shl Af (pv 1)) Af))
   (Ab (Al (i := 4) Dq.nd rfl (by trivial) (Ax op_sub (Ax op_shl Af (pv 2)) Af))
   (Ab (Al (i := 5) Dq.nd rfl (by trivial) (Bh Du rfl T.n_tuple boot_tuple (Aa (Bs (sc := Ag Df) (N0 := nLF) (xs := ["_law_mask"]) (ys := ["_law_asked"]) (js := [4]) (by trivial) rfl (pi_tup (Az Bt (pv 0) Af (fun _ _ => rfl))) (fun _ _ _ _ => (As (i := 0) (show (["_law_mask","_law_asked"] : List Str).Nodup by decide +kernel) rfl (by trivial))) (fun _ _ _ _ => Cj) (fun _ _ _ _ => (Ax op_and (pv 0) (pv 1)))) Ac)))
   (Ae (Aq (Ax op_catT (pe_tup (Aa (Az Bt (pv 0) Af (fun _ _ => rfl)) (Aa (Az Bt (pv 0) Af (fun _ _ => rfl)) (Aa (Ax op_and (Az Bt (pv 0) Af (fun _ _ => rfl)) (pv 3)) (Aa (Ax op_and (Az Bt (pv 0) Af (fun _ _ => rfl)) (pv 3)) (Aa (Az Bt (pv 0) Af (fun _ _ => rfl)) (Aa (Az Bt (pv 0) Af (fun _ _ => rfl)) (Aa (pv 5) Ac)))))))) (Ba sl_tup (pv 0) (Bd Af) Bm))))))),?_⟩
  have t := g.ha
  have h4 := g.h4
  refine ⟨_,rfl,_,_,rfl,rfl,⟨by omega,by omega,by decide⟩,_,_,rfl,rfl,?_⟩
  refine ⟨_,rfl,_,_,rfl,rfl,⟨by omega,by omega,by decide⟩,_,_,rfl,rfl,?_⟩
  refine ⟨_,rfl,pq,_,_,.ref pa,rfl,rfl,SqT.of hq,rfl,pa,rfl,⟨_,SqT.of ha⟩,comp_tup (K := K) (a := pa) (xs := r.asks) (fun j us H' => us = ((fitR a b r).asks).take j ∧ H' = H) ⟨rfl,rfl⟩ (by show 4 ≤ sizeLine; decide) ?_ ?_ ?_ ?_⟩
  ·rintro j us H' ⟨rfl,_⟩
   rw [List.length_take]; omega
  ·rintro j us H' _ ⟨_,rfl⟩
   exact SqT.of ha
  ·rintro j x us H' hx ⟨rfl,rfl⟩
   have hx4 : ∃ n : Nat,n < 64 ∧ x = V.int n ∧ ((fitR a b r).asks).take j ++ [V.int ((low b n : Nat) : Int)] = ((fitR a b r).asks).take (j + 1) := by
    match j,hx with
    | 0,hx => cases hx; exact ⟨r.a0,t.l0,rfl,rfl⟩
    | 1,hx => cases hx; exact ⟨r.a1,t.l1,rfl,rfl⟩
    | 2,hx => cases hx; exact ⟨r.a2,t.l2,rfl,rfl⟩
    | 3,hx => cases hx; exact ⟨r.a3,t.l3,rfl,rfl⟩
    | n + 4,hx => simp at hx
   obtain ⟨n,hn,rfl,ht⟩ := hx4
   refine ⟨_,rfl,_,rfl,_,_,rfl,rfl,?_,rfl⟩
   rw [← ht,← low_and b6 hn]
  rintro us H1 ⟨rfl,rfl⟩ lx hlx
  have s1 := Same.new (o := .lst ((fitR a b r).asks)) hlx
  have e1 : upd H1 lx (.lst (((fitR a b r).asks).take r.asks.length)) lx = some (.lst ((fitR a b r).asks)) := Ad
  have hgg : upd H1 lx (.lst (((fitR a b r).asks).take r.asks.length)) = upd H1 lx (.lst ((fitR a b r).asks)) := rfl
  rw [hgg]
  rw [hgg] at e1
  generalize upd H1 lx (.lst ((fitR a b r).asks)) = H2 at s1 e1 ⊢
  refine ⟨lx,_,rfl,.inl ⟨SqL.of e1,fun px hpx => ?_⟩⟩
  have s2 := Same.new (o := .tup ((fitR a b r).asks)) hpx
  have e2 : upd H2 px (.tup ((fitR a b r).asks)) px = some (.tup ((fitR a b r).asks)) := Ad
  generalize upd H2 px (.tup ((fitR a b r).asks)) = H3 at s2 e2 ⊢
  have S2 := s1.trans s2
  have hs := SqT.of (K := K) (S2 _ _ hq)
  refine ⟨_,rfl,pq,_,_,.ref pk,rfl,rfl,hs,rfl,_,rfl,pq,_,_,V.int r.le,rfl,rfl,hs,rfl,_,rfl,pq,_,_,V.int r.st,rfl,rfl,hs,rfl,_,rfl,_,_,rfl,rfl,_,rfl,pq,_,_,V.int r.ba,rfl,rfl,hs,rfl,_,rfl,_,_,rfl,rfl,_,rfl,pq,_,_,V.int r.re,rfl,rfl,hs,rfl,_,rfl,pq,_,_,V.bl r.sa,rfl,rfl,hs,rfl,_,rfl,(by show 7 ≤ sizeLine; decide),fun c4 hc4 => ?_⟩
  have s4 := Same.new (o := .tup [.ref pk,.int r.le,.int ((low a r.st : Nat) : Int),.int ((low a r.ba : Nat) : Int),.int r.re,.bl r.sa,.ref px]) hc4
  have e4 : upd H3 c4 (.tup [.ref pk,.int r.le,.int ((low a r.st : Nat) : Int),.int ((low a r.ba : Nat) : Int),.int r.re,.bl r.sa,.ref px]) c4 = some (.tup [.ref pk,.int r.le,.int ((low a r.st : Nat) : Int),.int ((low a r.ba : Nat) : Int),.int r.re,.bl r.sa,.ref px]) := Ad
  have hg4 : upd H3 c4 (.tup [.ref pk,.int r.le,.int (Builtin.bitAnd (r.st : Int) (1 * 2 ^ ((a : Int)).toNat - 1)),.int (Builtin.bitAnd (r.ba : Int) (1 * 2 ^ ((a : Int)).toNat - 1)),.int r.re,.bl r.sa,.ref px]) = upd H3 c4 (.tup [.ref pk,.int r.le,.int ((low a r.st : Nat) : Int),.int ((low a r.ba : Nat) : Int),.int r.re,.bl r.sa,.ref px]) := by rw [low_and a6 h4.hst,low_and a6 h4.hba]
  generalize hH4 : upd H3 c4 (.tup [.ref pk,.int r.le,.int ((low a r.st : Nat) : Int),.int ((low a r.ba : Nat) : Int),.int r.re,.bl r.sa,.ref px]) = H4 at s4 e4 hg4
  rw [hg4]
  have S4 := S2.trans s4
  refine ⟨_,rfl,_,rfl,pq,_,rfl,SqT.of (S4 _ _ hq),(by show ¬ (HT.sIx 10 0 (some 7) = 0 ∧ HT.sIx 10 10 none = 10); decide),fun c5 hc5 => ?_⟩
  have s5 := Same.new (o := .tup (cutV (r.tup pk pa) (some 7) none)) hc5
  have e5 : upd H4 c5 (.tup (cutV (r.tup pk pa) (some 7) none)) c5 = some (.tup [.int r.fi,.int r.la,.bl r.lg]) := Ad
  generalize upd H4 c5 (.tup (cutV (r.tup pk pa) (some 7) none)) = H5 at s5 e5 ⊢
  refine ⟨c4,c5,_,_,rfl,rfl,SqT.of (s5 _ _ e4),SqT.of e5,List.cons_ne_nil _ _,(by show 7 + 3 ≤ sizeLine; decide),(fun z => by cases z),fun _ c6 hc6 => ?_⟩
  have S5 := S4.trans s5
  have s6 := Same.new (o := .tup ([.ref pk,.int r.le,.int ((low a r.st : Nat) : Int),.int ((low a r.ba : Nat) : Int),.int r.re,.bl r.sa,.ref px] ++ [.int r.fi,.int r.la,.bl r.lg])) hc6
  exact q c6 _ (S5.trans s6) ⟨pk,px,Ad,s6 _ _ (S5 _ _ hk),s6 _ _ (s5 _ _ (s4 _ _ e2))⟩
end
end K15
namespace L2
open PySem PySem.Spec PyProof.Rows
theorem op_neSDK {X : Cx} (K : PySem.W.Frag) (hu : X.A.units + 64 < cLine) (hK : X.K = K := by rfl) : OpR X (compareOp .NotEq) (rSameD K false) := by
 subst hK
 exact op_neSD hu
end L2
namespace K15
open PySem L2 PyProof.Rows PySem.SeqAt
theorem rdStr {K : PySem.W.Frag} {H : Hp} : ∀ {zs : List Str},RdDs K H (zs.map V.str) (zs.map PyData.str)
 | [] => .nil
 | z :: _ => .cons (.str z) rdStr
theorem rdNl {K : PySem.W.Frag} {H : Hp} {l : Addr} {zs : List Str} (e : H l = some (.lst (zs.map V.str))) : RdD K H (.ref l) (.list (zs.map PyData.str)) := .lst (SqL.of e) rdStr
theorem lay_strs : ∀ {zs : List Str},(∀ z ∈ zs,Ay z = true) → PyData.canLayAll0 (zs.map PyData.str) = true ∧ PyData.depthAll (zs.map PyData.str) ≤ 4
 | [],_ => ⟨by simp [PyData.canLayAll0],by simp [PyData.depthAll]⟩
 | z :: zs,h => by
   obtain ⟨a,b⟩ := lay_strs fun x hx => h x (List.mem_cons_of_mem _ hx)
   have g := word_ok (h z List.mem_cons_self)
   refine ⟨by simp [PyData.canLayAll0,PyData.canLay0,g,a],?_⟩
   rw [List.map_cons,PyData.depthAll]
   refine Nat.max_le.mpr ⟨?_,b⟩
   simp [PyData.depth]
theorem sh_told {z1 z2 : List Str} {L : List Row} (h1 : ∀ z ∈ z1,Ay z = true) (h2 : ∀ z ∈ z2,Ay z = true) (h : ∀ r ∈ L,r.Good) : shaped (.list [.list (z1.map PyData.str),.list (z2.map PyData.str),.list (L.map keyD)]) = true := by
 obtain ⟨a,b⟩ := lay_keys h
 obtain ⟨c,d⟩ := lay_strs h1
 obtain ⟨e,f⟩ := lay_strs h2
 unfold shaped
 rw [Bool.and_eq_true,decide_eq_true_eq]
 refine ⟨by simp only [PyData.canLay0,PyData.canLayAll0,a,c,e,Bool.and_self],?_⟩
 simp only [PyData.depth,PyData.depthAll]
 omega
theorem keys_snoc {H : Hp} {ps : List Addr} {L : List Row} {p : Addr} {r : Row} (h : KeysOf H ps L) (hp : H p = some (.tup r.keyV)) : KeysOf H (ps ++ [p]) (L ++ [r]) := by
 refine ⟨by rw [List.length_append,List.length_append,h.1]; rfl,fun i y s hy hs => ?_⟩
 by_cases hi : i < ps.length
 ·rw [List.getElem?_append_left hi] at hy
  rw [List.getElem?_append_left (by rw [← h.1]; exact hi)] at hs
  exact h.2 i y s hy hs
 ·have hi2 : i = ps.length := by
   have := (List.getElem?_eq_some_iff.mp hy).1
   rw [List.length_append,List.length_singleton] at this
   omega
  subst hi2
  rw [List.getElem?_concat_length] at hy
  rw [h.1,List.getElem?_concat_length] at hs
  cases hy
  cases hs
  exact hp
def spII (cL cB : Addr) : Sp := fun vs H Q _ => ∃ (pb lr p1 p2 : Addr) (qs ys : List Addr) (z1 z2 : List Str) (rs : List Row),vs = [.ref pb,.ref lr,.ref p1,.ref p2] ∧ Ck cL cB H pb z1 z2 ys rs ∧ H lr = some (.lst (qs.map V.ref)) ∧ D6 H qs rs ∧ H p1 = some (.lst (z1.map V.str)) ∧ H p2 = some (.lst (z2.map V.str)) ∧ (∀ z ∈ z1,Ay z = true) ∧ (∀ z ∈ z2,Ay z = true) ∧ rs.length ≤ 12 ∧ ∀ H',Same H H' → Q (.bl true) H'
section
variable {P : Program} {w : World} {K : PySem.W.Frag} {mg : Str → Option Value} {base : Heap} {cL cB : Addr}
abbrev C4 : Stmt := top 98
abbrev nII : List Str := ["_law_book_here","_law_rows","_law_strings","_law_duties"]
theorem sc_law_is_it : Ak nII nII (Ag C4) := by trivial
theorem ok_ii (lc : LCls K cL) (MSN : ∀ C sp,DSN cL cB C sp → D7 P w K mg base CX0 1 C "string_names" ["self"] sp) (MDN : ∀ C sp,DDN cL cB C sp → D7 P w K mg base CX0 1 C "duty_names" ["self"] sp) (MAK : ∀ C sp,DAK cL cB C sp → D7 P w K mg base CX0 1 C "all_keys" ["self"] sp) (MLM : ∀ C sp,DLM K cL cB C sp → D7 P w K mg base CX0 3 C "licence" ["self","key"] sp) (MTL : ∀ C sp,DTL cL C sp → D7 P w K mg base CX0 1 C "told" ["self"] sp)
 (F : Ai K mg "_law_is_it" C4 nII) : FnAt P w K mg base "_law_is_it" 5 nII (spII cL cB) := by
 refine F.at sc_law_is_it (fun vs H Q E h => ?_) (fun f cdv A outer s H vs Q E hr h => ?_)
 ·obtain ⟨pb,lr,p1,p2,qs,ys,z1,z2,rs,rfl,_⟩ := h
  rfl
 ·obtain ⟨pb,lr,p1,p2,qs,ys,z1,z2,rs,rfl,hB,hlr,rA,h1,h2,w1,w2,r12,q⟩ := h
  refine ⟨_,(Ab (A7 (A1 (op_neSD hr.units) (A5 (Aa (Cm (D := DSN cL cB) (pv 0) MSN (hr.mono (by decide)) En) (Aa (Cm (D := DDN cL cB) (pv 0) MDN (hr.mono (by decide)) En) (Aa (Cm (D := DAK cL cB) (pv 0) MAK (hr.mono (by decide)) En) Ac)))) (A5 (Aa (pv 2) (Aa (pv 3) (Aa (Bs (sc := Ag C4) (N0 := nII) (xs := ["_law_row"]) (ys := []) (js := []) (by trivial) rfl (Bn (pv 1)) (fun _ _ _ _ => (As (i := 0) (show (["_law_row"] : List Str).Nodup by decide +kernel) rfl (by trivial))) (fun _ _ _ _ => Cj) (fun _ _ _ _ => (Az (ix_seqK K) (pv 0) Af (fun _ _ => rfl)))) Ac)))) (A0 _)) (Ae Ar) Ap)
   (Ae (Aq (Bo (op_eqNil hr.units0) (Bs (sc := Ag C4) (N0 := nII) (xs := ["_law_row"]) (ys := ["_law_book_here"]) (js := [0]) (by trivial) rfl (Bn (pv 1)) (fun _ _ _ _ => (As (i := 0) (show (["_law_row","_law_book_here"] : List Str).Nodup by decide +kernel) rfl (by trivial))) (fun _ _ _ _ => pq_one (A1 (op_neSDK K hr.units) (Cm (D := DTL cL) (pe_methA (D := DLM K cL cB) (pv 1) MLM (hr.mono (by decide)) En (Aa (Az (ix_seqK K) (pv 0) Af (fun _ _ => rfl)) Ac)) MTL (hr.mono (by decide)) En) (pv 0) (A0 _))) (fun _ _ _ _ => (pv 0))) (A5 Ac) (A0 _))))),?_⟩
  have hz : sizeLine = 16777216 := sizeLine_eq
  have gd := hB.good
  have hql : qs.length = rs.length := rA.1
  refine ⟨_,rfl,sn_in hB fun l1 H1 s1 _ e1 => ?_⟩
  refine ⟨_,rfl,dn_in (hB.same s1) fun l2 H2 s2 _ e2 => ?_⟩
  have S2 := s1.trans s2
  refine ⟨_,rfl,ak_in (hB.same S2) fun l3 ks H3 s3 _ e3 k3 => ?_⟩
  have S3 := S2.trans s3
  refine ⟨(by show 3 ≤ sizeLine; decide),fun la hla => ?_⟩
  have s4 := Same.new (o := .lst [.ref l1,.ref l2,.ref l3]) hla
  have e4 : upd H3 la (.lst [.ref l1,.ref l2,.ref l3]) la = some (.lst [.ref l1,.ref l2,.ref l3]) := Ad
  generalize upd H3 la (.lst [.ref l1,.ref l2,.ref l3]) = H4 at s4 e4 ⊢
  have S4 := S3.trans s4
  refine ⟨_,rfl,_,rfl,_,rfl,lr,rfl,⟨_,SqL.of (S4 _ _ hlr)⟩,Bj (K := K) (a := lr) (xs := qs.map V.ref) (fun j us H' => ∃ ps : List Addr,us = ps.map V.ref ∧ KeysOf H' ps (rs.take j) ∧ H' = H4) ⟨[],rfl,⟨rfl,fun i p r h => by cases h⟩,rfl⟩ (by rw [List.length_map,hz]; omega) ?_ ?_ ?_ ?_⟩
  ·rintro j us H' ⟨ps,rfl,k,_⟩
   rw [List.length_map,k.1,List.length_take]; omega
  ·rintro j us H' _ ⟨ps,_,_,rfl⟩
   exact SqL.of (S4 _ _ hlr)
  ·rintro j x us H' hx ⟨ps,rfl,k,rfl⟩
   rw [List.getElem?_map] at hx
   obtain ⟨qj,hqj,rfl⟩ := Option.map_eq_some_iff.mp hx
   have hj : j < rs.length := by rw [← hql]; exact (List.getElem?_eq_some_iff.mp hqj).1
   have hrj : rs[j]? = some rs[j] := List.getElem?_eq_getElem hj
   have htk := List.take_succ_eq_append_getElem hj
   generalize rs[j] = r at hrj htk
   obtain ⟨_,pk,pa,b1,b2,b3⟩ := rA.2 j qj r hqj hrj
   refine ⟨_,rfl,.inr (.inl ⟨qj,_,_,.ref pk,rfl,rfl,SqT.of (S4 _ _ b1),rfl,ps ++ [pk],by rw [List.map_append]; rfl,?_,rfl⟩)⟩
   rw [htk]
   exact keys_snoc k (S4 _ _ b2)
  rintro us H5 ⟨ps,rfl,k5,rfl⟩ l5 hl5
  rw [List.length_map,hql,List.take_length] at k5
  have s5 := Same.new (o := .lst (ps.map V.ref)) hl5
  have e5 : upd H5 l5 (.lst (ps.map V.ref)) l5 = some (.lst (ps.map V.ref)) := Ad
  have k5 := k5.same s5
  generalize upd H5 l5 (.lst (ps.map V.ref)) = H6 at s5 e5 k5 ⊢
  have S6 := S4.trans s5
  refine ⟨(by show 3 ≤ sizeLine; decide),fun lb hlb => ?_⟩
  have s7 := Same.new (o := .lst [.ref p1,.ref p2,.ref l5]) hlb
  have e7 : upd H6 lb (.lst [.ref p1,.ref p2,.ref l5]) lb = some (.lst [.ref p1,.ref p2,.ref l5]) := Ad
  generalize upd H6 lb (.lst [.ref p1,.ref p2,.ref l5]) = H7 at s7 e7 ⊢
  have S7 := S6.trans s7
  have t37 := (s4.trans s5).trans s7
  refine ⟨.list [.list (z1.map PyData.str),.list (z2.map PyData.str),.list (rs.map keyD)],.lst (SqL.of (s7 _ _ (s5 _ _ e4))) (.cons (rdNl (t37 _ _ (s3 _ _ (s2 _ _ e1)))) (.cons (rdNl (t37 _ _ (s3 _ _ e2))) (.cons (rdKl (t37 _ _ e3) (k3.same t37)) .nil))),.lst (SqL.of e7) (.cons (rdNl (S7 _ _ h1)) (.cons (rdNl (S7 _ _ h2)) (.cons (rdKl (s7 _ _ e5) (k5.same s7)) .nil))),sh_told w1 w2 gd,_,rfl,iteF ?_⟩
  refine ⟨_,rfl,lr,rfl,⟨_,SqL.of (S7 _ _ hlr)⟩,Bj (K := K) (a := lr) (xs := qs.map V.ref) (fun j us H' => us = [] ∧ Same H7 H') ⟨rfl,Same.refl _⟩ (by rw [List.length_map,hz]; omega) ?_ ?_ ?_ ?_⟩
  ·rintro j us H' ⟨rfl,_⟩
   exact Nat.zero_le _
  ·rintro j us H' _ ⟨_,s'⟩
   exact SqL.of (s' _ _ (S7 _ _ hlr))
  ·rintro j x us H' hx ⟨rfl,s'⟩
   rw [List.getElem?_map] at hx
   obtain ⟨qj,hqj,rfl⟩ := Option.map_eq_some_iff.mp hx
   have hj : j < rs.length := by rw [← hql]; exact (List.getElem?_eq_some_iff.mp hqj).1
   have hrj : rs[j]? = some rs[j] := List.getElem?_eq_getElem hj
   generalize rs[j] = r at hrj
   obtain ⟨gr,rw0⟩ := rA.2 j qj r hqj hrj
   have S8 := S7.trans s'
   have hB8 := hB.same S8
   have hB9 := hB8
   obtain ⟨pk,pa,b1,b2,b3⟩ := rw0.same S8
   obtain ⟨⟨dx,ls,ld,dk,ob,g1,g2,g3,g4⟩,hL,nd,le⟩ := hB9
   have hjy : j < ys.length := by rw [hL.1]; exact hj
   have hy := List.getElem?_eq_getElem hjy
   generalize ys[j] = y at hy
   obtain ⟨_,ly⟩ := hL.2 j y r hy hrj
   refine ⟨_,rfl,pb,cB,dx,_,spLM K cL cB,rfl,g1,bF_no (by decide +kernel),⟨rfl,rfl⟩,_,rfl,.inr (.inl ⟨qj,_,_,.ref pk,rfl,rfl,SqT.of b1,rfl,pb,.ref pk,z1,z2,ys,rs,j,y,r,rfl,hB8,key_asked gr b2,⟨hy,hrj,pk,rfl,b2⟩,fun H9 s9 => ?_⟩)⟩
   obtain ⟨dy,pk2,pa2,c1,c2,c3⟩ := ly.same s9
   refine ⟨y,cL,dy,_,spTL cL,rfl,c1,?_,⟨rfl,rfl⟩,y,dy,pk2,pa2,r,rfl,c1,fun qn H10 s10 en => ?_⟩
   ·exact (l10_t4 (by decide +kernel)).trans (t4_no (by decide +kernel))
   ·exact ⟨_,rfl,rowD r,rdR en (s10 _ _ c2) (s10 _ _ c3),rdR (s10 _ _ (s9 _ _ b1)) (s10 _ _ (s9 _ _ b2)) (s10 _ _ (s9 _ _ b3)),shp gr,_,rfl,iteF ⟨rfl,(s'.trans s9).trans s10⟩⟩
  rintro us H8 ⟨rfl,s8⟩ l8 hl8
  have s9 := Same.new (o := .lst []) hl8
  have e9 : upd H8 l8 (.lst []) l8 = some (.lst []) := Ad
  generalize upd H8 l8 (.lst []) = H9 at s9 e9 ⊢
  refine ⟨(by show 0 ≤ sizeLine; decide),fun l10 hl10 => ?_⟩
  have s10 := Same.new (o := .lst []) hl10
  exact ⟨l8,l10,[],rfl,rfl,SqL.of (s10 _ _ e9),SqL.of Ad,q _ (((S7.trans s8).trans s9).trans s10)⟩
end
theorem row_secs (r : Row) (z1 z2 : List Str) : rowT r z1 z2 = (secs r (dOrd r z1 z2)).map (Txt.join " ") := by
 have e : ("licence " ++ Bp r.w r.n : Str) = "licence " ++ r.w ++ "." ++ nT r.n := by
  show "licence " ++ (r.w ++ "." ++ nT r.n) = _
  simp only [Cs]
 rw [parts_eq]
 unfold rowT
 rw [e]
 rfl
theorem book_text (z1 z2 : List Str) (rs : List Row) : bookT z1 z2 rs = textB z1 z2 (dRos z1 z2 rs) := by
 have e : bookL z1 z2 rs = (bookW z1 z2 (dRos z1 z2 rs)).map (Txt.join " ") := by
  unfold bookL bookW
  rw [List.map_cons,List.map_cons,List.map_map]
  unfold dRos
  rw [List.map_map]
  show _ :: _ :: (rs.map fun r => lineT r z1 z2) = _ :: _ :: _
  congr 2
  refine List.map_congr_left fun r _ => ?_
  show Txt.join " ; " (rowT r z1 z2) = Txt.join " " (Ep r (dOrd r z1 z2))
  rw [row_secs,line_text]
 unfold bookT textB
 rw [e]
theorem cut_sub (zs : List Str) (lo hi : Option Int) : ∃ zs' : List Str,cutV (zs.map V.str) lo hi = zs'.map V.str ∧ zs'.Sublist zs := by
 refine ⟨(zs.drop (HT.sIx (zs.map V.str).length 0 lo)).take (HT.sIx (zs.map V.str).length (zs.map V.str).length hi - HT.sIx (zs.map V.str).length 0 lo),?_,(List.take_sublist _ _).trans (List.drop_sublist _ _)⟩
 unfold cutV
 rw [List.map_take,List.map_drop]
theorem cut_le6 (xs : List V) {n : Int} (h0 : 0 ≤ n) (h6 : n ≤ 6) : (cutV xs none (some n)).length ≤ 6 := by
 obtain ⟨k,rfl⟩ : ∃ k : Nat,n = (k : Int) := ⟨n.toNat,by omega⟩
 unfold cutV
 rw [List.length_take,HT.sIx_nat,HT.sIx_none]
 omega
theorem nms_sub {zs zs' : List Str} (s : zs'.Sublist zs) (wd : ∀ z ∈ zs,Ay z = true) (nd : zs.Nodup) (h : zs'.length ≤ 6) : Nms zs' := ⟨fun z hz => wd z (s.subset hz),nd.sublist s,h⟩
theorem rows_snoc {H : Hp} {ps : List Addr} {L : List Row} {p : Addr} {r : Row} (h : D6 H ps L) (g : r.Good) (hp : Dj H p r) : D6 H (ps ++ [p]) (L ++ [r]) := by
 refine ⟨by rw [List.length_append,List.length_append,h.1]; rfl,fun i y s hy hs => ?_⟩
 by_cases hi : i < ps.length
 ·rw [List.getElem?_append_left hi] at hy
  rw [List.getElem?_append_left (by rw [← h.1]; exact hi)] at hs
  exact h.2 i y s hy hs
 ·have hi2 : i = ps.length := by
   have := (List.getElem?_eq_some_iff.mp hy).1
   rw [List.length_append,List.length_singleton] at this
   omega
  subst hi2
  rw [List.getElem?_concat_length] at hy
  rw [h.1,List.getElem?_concat_length] at hs
  cases hy
  cases hs
  exact ⟨g,hp⟩
def spGood : Sp := fun vs H Q _ => ∃ c : Int,vs = [.int c] ∧ ∀ H',Same H H' → Q (.bl true) H'
section
variable {P : Program} {w : World} {K : PySem.W.Frag} {mg : Str → Option Value} {base : Heap} {cT cL cB fB : Addr} {dB : FuncData}
abbrev Dw : Stmt := top 99
abbrev nLG : List Str := ["_law_cell_here","_law_box_here","_law_words_here","_law_strings","_law_duties","_law_rows","_law_text_here","_law_read","_law_again","_law_made_here"]
theorem Bg : Ak nLG ["_law_cell_here"] (Ag Dw) := by trivial
theorem ok_good (T : Txt mg) (BM : BMk P w K mg base cL cB fB dB) (F_box : FnAt P w K mg base "_law_box" 1 ["_law_cell_here"] spBox) (F_take : FnAt P w K mg base "_law_take" 2 ["_law_box_here","_law_many"] spTake) (F_mixed : FnAt P w K mg base "_law_mixed" 1 ["_law_cell_here","_law_k"] spMixed) (F_words : FnAt P w K mg base "_law_words" 3 ["_law_cell_here","_law_many"] spWords) (F_book : FnAt P w K mg base "_law_book" 5 ["_law_cell_here","_law_other"] spBook) (F_made : FnAt P w K mg base "_law_made" 8 ["_law_row"] (spMade cL))
 (F_fit : FnAt P w K mg base "_law_fitted" 1 ["_law_row","_law_strings","_law_duties"] spLFit) (F_lt : FnAt P w K mg base "_law_text" 5 ["_law_rows","_law_strings","_law_duties","_law_box_here"] spLT) (F_rb : FnAt P w K mg base "read_book" 10 ["text"] (spRB cL cB)) (F_sb : FnAt P w K mg base "show_book" 5 ["book"] (spSB cL cB)) (F_ii : FnAt P w K mg base "_law_is_it" 5 nII (spII cL cB))
 (F : Ai K mg "_law_good" Dw ["_law_cell_here"]) : FnAt P w K mg base "_law_good" 11 ["_law_cell_here"] spGood := by
 refine F.at Bg (fun vs H Q E h => ?_) (fun f cdv A outer s H vs Q E hr h => ?_)
 ·obtain ⟨c,rfl,_⟩ := h
  rfl
 ·obtain ⟨c,rfl,q⟩ := h
  refine ⟨_,(Ab (Al (i := 1) Bg.nd rfl (by trivial) (Ao F_box hr (by decide) rfl (Aa (pv 0) Ac)))
   (Ab (Al (i := 2) Bg.nd rfl (by trivial) (Ao F_words hr (by decide) rfl (Aa (Ao F_mixed hr (by decide) rfl (Aa (pv 0) (Aa Af Ac))) (Aa Af Ac))))
   (Ab (Al (i := 3) Bg.nd rfl (by trivial) (Ba Cn (Ba Cn (pv 2) Bm (Bd (An (call_min2 rfl) rfl T.n_min boot_min (Aa Af (Aa (Ax C0 Af (Ao F_take hr (by decide) rfl (Aa (pv 1) (Aa Af Ac)))) Ac))))) (Bd (Bh call_int1 rfl T.n_int boot_int (Aa (Bo Ey (Ao F_take hr (by decide) rfl (Aa (pv 1) (Aa Af Ac))) Af (A0 _)) Ac))) Bm))
   (Ab (Al (i := 4) Bg.nd rfl (by trivial) (Ba Cn (Ba Cn (pv 2) (Bd (Ao F_take hr (by decide) rfl (Aa (pv 1) (Aa Af Ac)))) Bm) Bm (Bd (Ao F_take hr (by decide) rfl (Aa (pv 1) (Aa Af Ac))))))
   (Ab (ps_mid (A7 (PW.pt (pw_and (A1 Ey (An A4 rfl T.n_len boot_len (Aa (pv 3) Ac)) Af (A0 _)) (pw_and1 (A1 Ey (Ao F_take hr (by decide) rfl (Aa (pv 1) (Aa Af Ac))) Af (A0 _))))) (Ae (Al (i := 3) Bg.nd rfl (by trivial) (A5 Ac))) Ap))
   (Ab (Al (i := 5) Bg.nd rfl (by trivial) (Ao F_book hr (by decide) rfl (Aa (Ax C0 (Ao F_mixed hr (by decide) rfl (Aa (pv 0) (Aa Af Ac))) (Ax op_fdivB (pv 0) (Ax op_pow Af Af))) (Aa (Ao F_mixed hr (by decide) rfl (Aa (pv 0) (Aa Af Ac))) Ac))))
   (Ab (ps_setComp (i := 5) (sc := Ag Dw) (N0 := nLG) (xs := ["_law_row"]) (ys := ["_law_strings","_law_duties"]) (js := [3,4]) (by trivial) rfl Bg.nd rfl rfl (Bn (pv 5)) (fun _ _ _ _ => (As (i := 0) (show (["_law_row","_law_strings","_law_duties"] : List Str).Nodup by decide +kernel) rfl (by trivial))) (fun _ _ _ _ => Cj) (fun _ _ _ _ => (Ao F_fit hr (by decide) rfl (Aa (pv 0) (Aa (An (call_lenK K rfl) rfl T.n_len boot_len (Aa (pv 1) Ac)) (Aa (An (call_lenK K rfl) rfl T.n_len boot_len (Aa (pv 2) Ac)) Ac))))))
   (Ab (Al (i := 6) Bg.nd rfl (by trivial) (Ao F_lt hr (by decide) rfl (Aa (pv 5) (Aa (pv 3) (Aa (pv 4) (Aa pe_non Ac))))))
   (Ab (Al (i := 7) Bg.nd rfl (by trivial) (Ao F_rb hr (by decide) rfl (Aa (Ao F_lt hr (by decide) rfl (Aa (pv 5) (Aa (pv 3) (Aa (pv 4) (Aa (pv 1) Ac))))) Ac)))
   (Ab (A7 (PW.pt (pw_or (A9 (A8 (Ao F_ii hr (by decide) rfl (Aa (pv 7) (Aa (pv 5) (Aa (pv 3) (Aa (pv 4) Ac))))))) (Ej (A1 op_ne (Ao F_sb hr (by decide) rfl (Aa (pv 7) Ac)) (pv 6) (A0 _))))) (Ae Ar) Ap)
   (Ab (Al (i := 8) Bg.nd rfl (by trivial) (Ao F_rb hr (by decide) rfl (Aa (pv 6) Ac)))
   (Ab (Al (i := 9) Bg.nd rfl (by trivial) (pe_make BM.kB BM.oB (hr.mono (by decide)) rfl BM.mB BM.bB .nil En (Aa (pv 3) (Aa (pv 4) (Aa (Bs (sc := Ag Dw) (N0 := nLG) (xs := ["_law_row"]) (ys := []) (js := []) (by trivial) rfl (Bn (pv 5)) (fun _ _ _ _ => (As (i := 0) (show (["_law_row"] : List Str).Nodup by decide +kernel) rfl (by trivial))) (fun _ _ _ _ => Cj) (fun _ _ _ _ => (Ao F_made hr (by decide) rfl (Aa (pv 0) Ac)))) Ac)))))
   (Ae (Aq (Dl (Ao F_ii hr (by decide) rfl (Aa (pv 8) (Aa (pv 5) (Aa (pv 3) (Aa (pv 4) Ac))))) (Dl (Bo Ey (Ao F_sb hr (by decide) rfl (Aa (pv 8) Ac)) (pv 6) (A0 _)) (Ex (Bo Ey (Ao F_sb hr (by decide) rfl (Aa (pv 9) Ac)) (pv 6) (A0 _))))))))))))))))))),?_⟩
  have hz : sizeLine = 16777216 := sizeLine_eq
  refine ⟨_,rfl,c,rfl,fun b x y z hb => ?_⟩
  have S0 := Same.new (o := .lst [.int x,.int y,.int z]) hb
  have B0 : Box (upd H b (.lst [.int x,.int y,.int z])) b := ⟨x,y,z,Ad⟩
  generalize upd H b (.lst [.int x,.int y,.int z]) = H0 at S0 B0 ⊢
  refine ⟨_,rfl,c,5,rfl,fun m5 => ⟨m5,12,(by decide),rfl,fun lw zs H1 s1 ew l12 wz nz hlw => ?_⟩⟩
  have O1 : Oth b H0 H1 := (Oth.refl B0).same s1
  have nlw : lw ≠ b := fun e => by obtain ⟨x,y,z,h⟩ := B0; rw [e,h] at hlw; cases hlw
  refine ⟨_,rfl,_,rfl,b,8,rfl,O1.box,(by decide),(by decide),fun t2 H2 r20 r21 o2 => ?_⟩
  have O2 := O1.trans o2
  have ew2 := o2.oth _ _ ew nlw
  refine ⟨_,_,rfl,rfl,_,_,rfl,_,rfl,lw,_,rfl,SqL.of ew2,fun c3 hc3 => ?_⟩
  obtain ⟨za,eza,sza⟩ := cut_sub zs none (some (if 1 + t2 < 6 then 1 + t2 else 6))
  have la6 : za.length ≤ 6 := by
   have := cut_le6 (zs.map V.str) (n := if 1 + t2 < 6 then 1 + t2 else 6) (by split <;> omega) (by split <;> omega)
   rw [eza,List.length_map] at this
   exact this
  rw [eza]
  have s3 := Same.new (o := .lst (za.map V.str)) hc3
  have e3 : upd H2 c3 (.lst (za.map V.str)) c3 = some (.lst (za.map V.str)) := Ad
  generalize upd H2 c3 (.lst (za.map V.str)) = H3 at s3 e3 ⊢
  have O3 := O2.same s3
  have n3 : c3 ≠ b := fun e => by obtain ⟨x,y,z,h⟩ := O2.box; rw [e,h] at hc3; cases hc3
  refine ⟨_,rfl,b,8,rfl,O3.box,(by decide),(by decide),fun t4 H4 r40 r41 o4 => ?_⟩
  have O4 := O3.trans o4
  have e34 := o4.oth _ _ e3 n3
  refine ⟨rfl,.inr ⟨_,rfl,_,rfl,c3,_,rfl,SqL.of e34,fun ls hls => ?_⟩⟩
  obtain ⟨z1,ez1,sz1⟩ := cut_sub za (some (if decide (V.int t4 = V.int 0) then 1 else 0)) none
  rw [ez1]
  have l16 : z1.length ≤ 6 := Nat.le_trans sz1.length_le la6
  have N1 : Nms z1 := nms_sub (sz1.trans sza) wz nz l16
  have s5 := Same.new (o := .lst (z1.map V.str)) hls
  have e5 : upd H4 ls (.lst (z1.map V.str)) ls = some (.lst (z1.map V.str)) := Ad
  generalize upd H4 ls (.lst (z1.map V.str)) = H5 at s5 e5 ⊢
  have O5 := O4.same s5
  have n5 : ls ≠ b := fun e => by obtain ⟨x,y,z,h⟩ := O4.box; rw [e,h] at hls; cases hls
  refine ⟨_,rfl,_,rfl,b,7,rfl,O5.box,(by decide),(by decide),fun t6 H6 r60 r61 o6 => ?_⟩
  have O6 := O5.trans o6
  have e56 := o6.oth _ _ e5 n5
  have ew6 : H6 lw = some (.lst (zs.map V.str)) := o6.oth _ _ (s5 _ _ (o4.oth _ _ (s3 _ _ ew2) nlw)) nlw
  refine ⟨_,rfl,lw,_,rfl,SqL.of ew6,fun c7 hc7 => ?_⟩
  obtain ⟨zb,ezb,szb⟩ := cut_sub zs (some t6) none
  rw [ezb]
  have s7 := Same.new (o := .lst (zb.map V.str)) hc7
  have e7 : upd H6 c7 (.lst (zb.map V.str)) c7 = some (.lst (zb.map V.str)) := Ad
  generalize upd H6 c7 (.lst (zb.map V.str)) = H7 at s7 e7 ⊢
  have O7 := O6.same s7
  have n7 : c7 ≠ b := fun e => by obtain ⟨x,y,z,h⟩ := O6.box; rw [e,h] at hc7; cases hc7
  refine ⟨_,rfl,b,7,rfl,O7.box,(by decide),(by decide),fun t8 H8 r80 r81 o8 => ?_⟩
  have O8 := O7.trans o8
  have e78 := o8.oth _ _ e7 n7
  have e58 := o8.oth _ _ (s7 _ _ e56) n5
  refine ⟨_,rfl,c7,_,rfl,SqL.of e78,fun ld hld => ?_⟩
  obtain ⟨z2,ez2,sz2⟩ := cut_sub zb none (some t8)
  have l26 : z2.length ≤ 6 := by
   have := cut_le6 (zb.map V.str) (n := t8) r80 (by omega)
   rw [ez2,List.length_map] at this
   exact this
  rw [ez2]
  have N2 : Nms z2 := nms_sub (sz2.trans szb) wz nz l26
  have s9 := Same.new (o := .lst (z2.map V.str)) hld
  have e9 : upd H8 ld (.lst (z2.map V.str)) ld = some (.lst (z2.map V.str)) := Ad
  generalize upd H8 ld (.lst (z2.map V.str)) = H9 at s9 e9 ⊢
  have O9 := O8.same s9
  have n9 : ld ≠ b := fun e => by obtain ⟨x,y,z,h⟩ := O8.box; rw [e,h] at hld; cases hld
  have e59 := s9 _ _ e58
  clear e78 e58 e7 e56 e5 e34 e3 s3 s5 s7 hc3 hc7 ew ew2 ew6
  refine ⟨fun σ' H' => ∃ (ls : Addr) (z1 : List Str),σ' = [some (.int c),some (.ref b),some (.ref lw),some (.ref ls),some (.ref ld),none,none,none,none,none] ∧ Oth b H0 H' ∧ H' ls = some (.lst (z1.map V.str)) ∧ H' ld = some (.lst (z2.map V.str)) ∧ Nms z1,?_,?_⟩
  ·refine ⟨_,rfl,_,_,rfl,.inl ⟨_,SqL.of e59,rfl⟩,rfl,_,rfl,?_⟩
   refine ite2 (fun _ => ?_) (fun _ => iteF ⟨ls,z1,rfl,O9,e59,e9,N1⟩)
   refine ⟨_,rfl,b,2,rfl,O9.box,(by decide),(by decide),fun t10 H10 _ _ o10 => ⟨rfl,_,rfl,?_⟩⟩
   refine ite2 (fun _ => ?_) (fun _ => ⟨ls,z1,rfl,O9.trans o10,o10.oth _ _ e59 n5,o10.oth _ _ e9 n9,N1⟩)
   refine ⟨(by show 0 ≤ sizeLine; decide),fun l0 hl0 => ?_⟩
   have s11 := Same.new (o := .lst []) hl0
   exact ⟨l0,[],rfl,(O9.trans o10).same s11,Ad,s11 _ _ (o10.oth _ _ e9 n9),⟨(fun z hz => by cases hz),.nil,Nat.zero_le _⟩⟩
  clear e59 e9 O9 N1 ez1 sz1 l16
  rintro σ HA ⟨ls,z1,rfl,OA,eS,eD,N1⟩
  have m1 := N1.n6
  have m2 := N2.n6
  refine ⟨_,rfl,c,6,rfl,fun m6 => ⟨_,rfl,_,_,rfl,rfl,⟨by decide,by decide,by decide⟩,_,_,rfl,rfl,⟨by decide,by decide⟩,_,_,rfl,rfl,_,rfl,c,7,rfl,fun m7 => ⟨_,m7,rfl,fun lr qs rs HB sB er lq rA nd _ => ?_⟩⟩⟩
  have hql : qs.length = rs.length := rA.1
  have eSB := sB _ _ eS
  have eDB := sB _ _ eD
  have OB := OA.same sB
  refine ⟨_,rfl,lr,rfl,⟨_,SqL.of er⟩,Bj (K := K) (a := lr) (xs := qs.map V.ref) (fun j us H' => ∃ ps : List Addr,us = ps.map V.ref ∧ Same HB H' ∧ D6 H' ps ((rs.take j).map (fitR z1.length z2.length))) ⟨[],rfl,Same.refl _,rfl,fun i p r h => by cases h⟩ (by rw [List.length_map,hz]; omega) ?_ ?_ ?_ ?_⟩
  ·rintro j us H' ⟨ps,rfl,_,k⟩
   rw [List.length_map,k.1,List.length_map,List.length_take]; omega
  ·rintro j us H' _ ⟨ps,_,s',_⟩
   exact SqL.of (s' _ _ er)
  ·rintro j x us H' hx ⟨ps,rfl,s',k⟩
   rw [List.getElem?_map] at hx
   obtain ⟨qj,hqj,rfl⟩ := Option.map_eq_some_iff.mp hx
   have hj : j < rs.length := by rw [← hql]; exact (List.getElem?_eq_some_iff.mp hqj).1
   have hrj : rs[j]? = some rs[j] := List.getElem?_eq_getElem hj
   have htk := List.take_succ_eq_append_getElem hj
   generalize rs[j] = r at hrj htk
   obtain ⟨gr,rj⟩ := rA.2 j qj r hqj hrj
   refine ⟨_,rfl,_,rfl,_,_,rfl,.inl ⟨_,SqL.of (s' _ _ eSB),rfl⟩,_,rfl,_,_,rfl,.inl ⟨_,SqL.of (s' _ _ eDB),rfl⟩,qj,z1.length,z2.length,r,(by rw [List.length_map,List.length_map]; rfl),m1,m2,gr,rj.same s',fun q' H'' s'' rq => ?_⟩
   refine ⟨ps ++ [q'],by rw [List.map_append]; rfl,s'.trans s'',?_⟩
   rw [htk,List.map_append]
   exact rows_snoc (k.same s'') (fit_good gr _ _) rq
  rintro us HC ⟨ps,rfl,sC,rC⟩ lq2 hlq2
  rw [List.length_map,hql,List.take_length] at rC
  have sD := Same.new (o := .lst (ps.map V.ref)) hlq2
  have eR : upd HC lq2 (.lst (ps.map V.ref)) lq2 = some (.lst (ps.map V.ref)) := Ad
  have rD := rC.same sD
  generalize upd HC lq2 (.lst (ps.map V.ref)) = HD at sD eR rD ⊢
  have tD := sC.trans sD
  have OD := OB.same tD
  have eSD := tD _ _ eSB
  have eDD := tD _ _ eDB
  have ftR : ∀ r ∈ rs.map (fitR z1.length z2.length),r.Fits z1.length z2.length := fun r hr => by
   obtain ⟨r0,_,rfl⟩ := List.mem_map.mp hr
   exact fit_fits r0 _ _
  have r12 : (rs.map (fitR z1.length z2.length)).length ≤ 12 := by rw [List.length_map]; omega
  have ndR : ((rs.map (fitR z1.length z2.length)).map Cy).Nodup := by
   rw [List.map_map]
   exact nd
  generalize rs.map (fitR z1.length z2.length) = ts at rD ftR r12 ndR
  clear er rA nd rC lq
  have gd := rD.good
  refine ⟨_,rfl,_,rfl,_,rfl,lq2,ls,ld,ps,z1,z2,ts,none,rfl,eR,rD,ftR,r12,eSD,eDD,N1,N2,trivial,fun ros HE kE er bk rn => ?_⟩
  have sE : Same HD HE := kE
  have rn := rn rfl
  subst rn
  have OE := OD.same sE
  have bkD : BFit z1 z2 ts := ⟨N1.few,N2.few,ftR⟩
  refine ⟨_,rfl,_,rfl,_,rfl,_,rfl,lq2,ls,ld,ps,z1,z2,ts,some b,rfl,sE _ _ eR,rD.same sE,ftR,r12,sE _ _ eSD,sE _ _ eDD,N1,N2,OE.box,fun ros2 HF kF er2 bk2 _ => ?_⟩
  have bE : BxOk HE (some b) := OE.box
  have OF : Oth b H0 HF := OE.trans kF
  have eRF := kF.refs bE (sE _ _ eR)
  have rF := (rD.same sE).kp kF bE
  have eSF := kF.strs bE (sE _ _ eSD)
  have eDF := kF.strs bE (sE _ _ eDD)
  refine ⟨z1,z2,ros2,rfl,bk2,(by rw [er2]; exact ndR),fun pb ys HG sG bG => ?_⟩
  rw [er2] at bG
  have gS := sG _ _ eSF
  have gD := sG _ _ eDF
  have gR := sG _ _ eRF
  have rG := rF.same sG
  refine ⟨_,rfl,_,rfl,_,rfl,_,rfl,pb,lq2,ls,ld,ps,ys,z1,z2,ts,rfl,bG,gR,rG,gS,gD,N1.wd,N2.wd,r12,fun HH sH => ⟨_,rfl,iteF ?_⟩⟩
  refine ⟨_,rfl,pb,z1,z2,ys,ts,rfl,bG.same sH,bkD,fun HI sI => ⟨_,rfl,rfl,_,rfl,?_⟩⟩
  have bt := book_text z1 z2 ts
  refine ite2 (fun e => ?_) (fun _ => ?_)
  ·exfalso
   rw [bt] at e
   revert e
   simp
  have tI := sH.trans sI
  refine ⟨_,rfl,z1,z2,dRos z1 z2 ts,rfl,bk,(by rw [rows_d]; exact ndR),fun pc yc HJ sJ bJ => ?_⟩
  rw [rows_d] at bJ
  have tJ := tI.trans sJ
  have jS := tJ _ _ gS
  have jD := tJ _ _ gD
  have jR := tJ _ _ gR
  have rJ := rG.same tJ
  have hpl : ps.length = ts.length := rD.1
  refine ⟨_,rfl,_,rfl,_,rfl,lq2,rfl,⟨_,SqL.of jR⟩,Bj (K := K) (a := lq2) (xs := ps.map V.ref) (fun j us H' => ∃ ys : List Addr,us = ys.map V.ref ∧ ys.length = j ∧ Same HJ H' ∧ E3 cL H' ys (ts.take j)) ⟨[],rfl,rfl,Same.refl _,rfl,fun i p r h => by simp at h⟩ (by rw [List.length_map,hz]; omega) ?_ ?_ ?_ ?_⟩
  ·rintro j us H' ⟨ys,rfl,e,_⟩
   rw [List.length_map]; exact Nat.le_of_eq e
  ·rintro j us H' _ ⟨ys,_,_,s',_⟩
   exact SqL.of (s' _ _ jR)
  ·rintro j x us H' hx ⟨ys,rfl,ej,s',lc⟩
   rw [List.getElem?_map] at hx
   obtain ⟨qj,hqj,rfl⟩ := Option.map_eq_some_iff.mp hx
   have hj : j < ts.length := by rw [← hpl]; exact (List.getElem?_eq_some_iff.mp hqj).1
   have hrj : ts[j]? = some ts[j] := List.getElem?_eq_getElem hj
   have htk := List.take_succ_eq_append_getElem hj
   generalize ts[j] = r at hrj htk
   obtain ⟨gr,rj⟩ := rJ.2 j qj r hqj hrj
   refine ⟨_,rfl,qj,r,rfl,gr,rj.same s',fun x H5 s5 lx => ⟨ys ++ [x],by rw [List.map_append]; rfl,by rw [List.length_append,ej]; rfl,s'.trans s5,?_⟩⟩
   rw [htk]
   exact lics_snoc (lc.same s5) gr lx
  rintro us HK ⟨yk,rfl,ely,sK,lc⟩ x2 hx2
  rw [List.length_map] at ely lc
  rw [hpl,List.take_length] at lc
  have sL := Same.new (o := .lst (yk.map V.ref)) hx2
  have eL : upd HK x2 (.lst (yk.map V.ref)) x2 = some (.lst (yk.map V.ref)) := Ad
  generalize upd HK x2 (.lst (yk.map V.ref)) = HL at sL eL ⊢
  have tL := sK.trans sL
  refine fun pm dx fx fd _ => ⟨pm,dx,ls,ld,x2,z1,z2,yk,ts,HL,rfl,Ad,fx,mk_k fx fd,.inl (tL _ _ jS),.inl (tL _ _ jD),.inl eL,N1.wd,N1.nd,m1,N2.wd,N2.nd,m2,lc.same sL,ndR,(by rw [ely,hpl]; exact r12),ftR,fun HM sM kc => ⟨rfl,?_⟩⟩
  have bM : Ck cL cB HM pm z1 z2 yk ts := kc HM fun b o e _ => e
  have tM := tL.trans sM
  refine ⟨_,rfl,_,rfl,_,rfl,_,rfl,pc,lq2,ls,ld,ps,yc,z1,z2,ts,rfl,bJ.same tM,tM _ _ jR,rJ.same tM,tM _ _ jS,tM _ _ jD,N1.wd,N2.wd,r12,fun HN sN => ⟨_,rfl,iteT ?_⟩⟩
  refine ⟨_,rfl,pc,z1,z2,yc,ts,rfl,bJ.same (tM.trans sN),bkD,fun HO sO => ⟨_,rfl,rfl,_,rfl,?_⟩⟩
  have eqT : decide (V.str (bookT z1 z2 ts) = V.str (textB z1 z2 (dRos z1 z2 ts))) = true := decide_eq_true (by rw [bt])
  refine ite2 (fun _ => ?_) (fun e => absurd eqT e)
  refine ⟨_,rfl,pm,z1,z2,yk,ts,rfl,bM.same (sN.trans sO),bkD,fun HP sP => ⟨_,rfl,rfl,?_⟩⟩
  show Q (.bl (decide (V.str (bookT z1 z2 ts) = V.str (textB z1 z2 (dRos z1 z2 ts))))) HP
  rw [eqT]
  refine q HP fun d o e => ?_
  have hd : d ≠ b := Ah e hb
  exact ((((((sG.trans tJ).trans tM).trans sN).trans sO).trans sP) d o (OF.oth d o (S0 d o e) hd))
end
section
variable {P : Program} {w : World} {K : PySem.W.Frag} {mg : Str → Option Value} {base : Heap}
abbrev slaw : Stmt := top 100
abbrev lawN : List Str := ["_law_script","_law_k"]
theorem sclaw : Ak lawN ["_law_script"] (Ag slaw) := by trivial
theorem law_body (T : Txt mg) (F_cell : FnAt P w K mg base "_law_cell" 1 ["_law_script","_law_k"] (spCell K)) (F_good : FnAt P w K mg base "_law_good" 11 ["_law_cell_here"] spGood)
 (f : Addr) (cdv : Value) (A : Around) (outer : List Env) (s : Shared) (H : Hp) (vs : List V) (Q : VK) (E : XK) (hr : Room 11 (A.deeper (envOfC "law" (Ag slaw) s.heap.objs.size f cdv))) (h : spLaw K vs H Q E) :
 ∃ t,PSs (cxOf CX0 P w K mg base lawN "law" (Ag slaw) f cdv A outer s H E).nox (B3 slaw) t ∧ t { nx := fun _ H' => Q .non H',rt := Q } (start lawN vs) H := by
 obtain ⟨a,ns,rfl,hS,hlen,q⟩ := h
 refine ⟨_,(Ab (Dg PassesOwn.never rfl (Ew rfl T.n_range (Aa (An (call_max2 rfl) rfl T.n_max boot_max (Aa Af (Aa (An (call_min2 rfl) rfl T.n_min boot_min (Aa (An A4 rfl T.n_len boot_len (Aa (pv 0) Ac)) (Aa Af Ac))) Ac))) Ac)) (As (i := 1) sclaw.nd rfl (by trivial)) (Ae (A7 (A9 (A8 (Ao F_good hr (by decide) rfl (Aa (Ao F_cell hr (by decide) rfl (Aa (pv 0) (Aa (pv 1) Ac))) Ac)))) (Ae Ar) Ap)))
  (Ae (Aq pe_bl))),?_⟩
 refine ⟨_,rfl,_,_,rfl,.inl ⟨_,hS,rfl⟩,_,_,rfl,_,_,rfl,_,rfl,?_,?_,E2 (n := _) (fun i σ H' => ∃ v : Option V,σ = [some (.ref a),v] ∧ Same H H') ⟨_,rfl,Same.refl _⟩ ?_ ?_⟩
 ·split <;> split <;> omega
 ·split <;> split <;> omega
 ·rintro i σ H' hi ⟨v,rfl,s'⟩
  refine ⟨_,rfl,_,rfl,a,ns,0 + i,rfl,s'.seq hS,fun c => ⟨c,rfl,fun H2 s2 => ⟨_,rfl,iteF ⟨_,rfl,s'.trans s2⟩⟩⟩⟩
 ·rintro σ H' ⟨v,rfl,s'⟩
  exact q _
end
end K15
namespace L2
open PySem PyProof.Rows
structure MTop (K : PySem.W.Frag) (C : Addr) (m qual : Str) (st : Stmt) (ps : List Str) : Prop where
 ex : ∃ (f : Addr) (fd : FuncData),Fun K m qual st f fd ∧ Meth K C m f ∧ Binds K fd ps []
theorem C6 {K : PySem.W.Frag} {h : Heap} {C f : Addr} {m qual : Str} {st : Stmt} {ps : List Str} {oc : Value} {od an : Option Addr} {osl : Array (Option Value)} {kV doc pm cdv ct : Value} (X : K.In h)
 (hb : ∀ (kV doc pm : Value) (an : Option Addr) (cdv ct : Value) (us : List Value),us.length = ps.length → bindArgs (PySem.W.fnOf m qual (C8 st) (B3 st) (Ag st) .none kV doc pm an cdv ct) ⟨us,[]⟩ = pure (ps.zip us))
 (a : PySem.W.findIn K (.ref C) m = some (some (.ref f))) (i : PySem.W.isFn K (.ref f) = true) (l : K.lookup f = some ⟨oc,od,.func (PySem.W.fnOf m qual (C8 st) (B3 st) (Ag st) .none kV doc pm an cdv ct),osl⟩)
 (c : PySem.W.codeIn K cdv qual = true) (k : PySem.W.keepIn K (.ref f) = true) : MTop (KOf X) C m qual st ps :=
 ⟨f,_,fun_mk l c k,⟨a,i,k⟩,.all fun us => hb kV doc pm an cdv ct us⟩
theorem Cf {P : Program} {w : World} {K : PySem.W.Frag} {mg : Str → Option Value} {base : Heap} {C : Addr} {m qual : Str} {st : Stmt} {ps : List Str} {k : Nat} {sp : Sp} {CX : CXT} (c : Cls K C) (h : MTop K C m qual st ps) (ok : ∀ f fd,Fun K m qual st f fd → FnOk P w K mg base CX k f fd ps sp) : D7 P w K mg base CX k C m ps sp := by
 obtain ⟨f,fd,F,hm,hb⟩ := h.ex
 exact ⟨f,fd,c,hm,ok f fd F,hb⟩
end L2
namespace K15
open PySem L2 PyProof.Rows
def tOk (K : PySem.W.Frag) (C : Addr) : Bool := PySem.W.plainGet K C Str.empty && PySem.W.hasDictIn K C && PySem.W.plainOver K C && PySem.W.findIn K (.ref C) "__setattr__" == some (some (.builtin "object.__setattr__")) && PySem.W.findIn K (.ref C) "lets" == some none && PySem.W.findIn K (.ref C) "strings" == some none && PySem.W.findIn K (.ref C) "bars" == some none && PySem.W.findIn K (.ref C) "reach" == some none
theorem tOk_of {K : PySem.W.Frag} {C : Addr} (h : tOk K C = true) : TCls K C := by
 unfold tOk at h
 simp only [Bool.and_eq_true,beq_iff_eq] at h
 obtain ⟨⟨⟨⟨⟨⟨⟨a,b⟩,c⟩,d⟩,e⟩,f⟩,g⟩,i⟩ := h
 exact ⟨⟨a,b,c,d⟩,e,f,g,i⟩
def lOk (K : PySem.W.Frag) (C : Addr) : Bool := tOk K C && PySem.W.findIn K (.ref C) "key" == some none && PySem.W.findIn K (.ref C) "same" == some none && PySem.W.findIn K (.ref C) "asks" == some none && PySem.W.findIn K (.ref C) "first" == some none && PySem.W.findIn K (.ref C) "last" == some none && PySem.W.findIn K (.ref C) "lasting" == some none
theorem lOk_of {K : PySem.W.Frag} {C : Addr} (h : lOk K C = true) : LCls K C := by
 unfold lOk at h
 simp only [Bool.and_eq_true,beq_iff_eq] at h
 obtain ⟨⟨⟨⟨⟨⟨a,b⟩,c⟩,d⟩,e⟩,f⟩,g⟩ := h
 exact { toTCls := tOk_of a,key := b,same := c,asks := d,first := e,last := f,lasting := g }
structure TTop (K : PySem.W.Frag) (C : Addr) : Prop where
 ex : ∃ (f : Addr) (fd : FuncData),Fun K "__init__" "Terms.__init__" C5 f fd ∧ Mk K C f ∧ Binds K fd psT [] ∧ PySem.W.readsIn K C (.type "type") = true ∧ PySem.W.findCls K (.ref C) (.type "type") "__init__" = some (.val (.ref f)) ∧
  PySem.W.specialIn K (.ref C) "__getattribute__" = some (some (.builtin "type.__getattribute__")) ∧ PySem.W.keepIn K (.ref f) = true
theorem ttop_of {K : PySem.W.Frag} {h : Heap} {C f : Addr} {oc : Value} {od an : Option Addr} {osl : Array (Option Value)} {kV doc pm cdv ct : Value} (X : K.In h)
 (a : PySem.W.findIn K (.ref C) "__init__" = some (some (.ref f))) (i : PySem.W.isFn K (.ref f) = true) (l : K.lookup f = some ⟨oc,od,.func (PySem.W.fnOf "__init__" "Terms.__init__" (C8 C5) (B3 C5) (Ag C5) .none kV doc pm an cdv ct),osl⟩)
 (c : PySem.W.codeIn K cdv "Terms.__init__" = true) (k : PySem.W.keepIn K (.ref f) = true) (mk : PySem.W.makesIn K C = true) (kc : PySem.W.keepIn K (.ref C) = true) (rd : PySem.W.readsIn K C (.type "type") = true) (fc : PySem.W.findCls K (.ref C) (.type "type") "__init__" = some (.val (.ref f)))
 (sp : PySem.W.specialIn K (.ref C) "__getattribute__" = some (some (.builtin "type.__getattribute__"))) : TTop (KOf X) C :=
 ⟨f,_,fun_mk l c k,⟨mk,a,i,kc⟩,.all fun us hl => (match us,hl with | [_,_,_,_,_],_ => rfl),rd,fc,sp,k⟩
structure LTop (K : PySem.W.Frag) (C : Addr) : Prop where
 ex : ∃ (f : Addr) (fd : FuncData) (ds : List Value),FunD K "__init__" "Licence.__init__" Cb f fd ∧ Mk K C f ∧ Binds K fd psL [] ∧ Binds K fd psL ds ∧ Vals [.bl false,.non,.int 0,.int 9999,.bl true] ds
theorem ltop_of {K : PySem.W.Frag} {h : Heap} {C f D : Addr} {oc oc2 : Value} {od an od2 : Option Addr} {osl osl2 : Array (Option Value)} {kV doc pm cdv ct : Value} {t1 t2 : Tok} {n2 : Nat} (X : K.In h)
 (a : PySem.W.findIn K (.ref C) "__init__" = some (some (.ref f))) (i : PySem.W.isFn K (.ref f) = true) (l : K.lookup f = some ⟨oc,od,.func (PySem.W.fnOf "__init__" "Licence.__init__" (C8 Cb) (B3 Cb) (Ag Cb) (.ref D) kV doc pm an cdv ct),osl⟩)
 (c : PySem.W.codeIn K cdv "Licence.__init__" = true) (k : PySem.W.keepIn K (.ref f) = true) (mk : PySem.W.makesIn K C = true) (kc : PySem.W.keepIn K (.ref C) = true)
 (dd : K.lookup D = some ⟨oc2,od2,.seq #[.bool false,.none,.int 0 t1,.int 9999 t2,.bool true] n2,osl2⟩) : LTop (KOf X) C :=
 ⟨f,_,[.bool false,.none,.int 0 t1,.int 9999 t2,.bool true],⟨⟨oc,od,_,kV,doc,pm,an,cdv,ct,osl,rfl,l,c⟩,k⟩,⟨mk,a,i,kc⟩,
   (fun s us hK hl => (match us,(show us.length = 11 by simpa using hl) with | [_,_,_,_,_,_,_,_,_,_,_],_ => PySem.W.binds_K hK rfl dd rfl rfl rfl)),
   (fun s us hK hl => (match us,(show us.length = 6 by simpa using hl) with | [_,_,_,_,_,_],_ => PySem.W.binds_K hK rfl dd rfl rfl rfl)),
   .cons rfl (.cons rfl (.cons ⟨_,rfl⟩ (.cons ⟨_,rfl⟩ (.cons rfl .nil))))⟩
structure BTop (K : PySem.W.Frag) (C : Addr) : Prop where
 ex : ∃ (f : Addr) (fd : FuncData),Fun K "__init__" "Book.__init__" Dx f fd ∧ Mk K C f ∧ Binds K fd psB []
theorem btop_of {K : PySem.W.Frag} {h : Heap} {C f : Addr} {oc : Value} {od an : Option Addr} {osl : Array (Option Value)} {kV doc pm cdv ct : Value} (X : K.In h)
 (a : PySem.W.findIn K (.ref C) "__init__" = some (some (.ref f))) (i : PySem.W.isFn K (.ref f) = true) (l : K.lookup f = some ⟨oc,od,.func (PySem.W.fnOf "__init__" "Book.__init__" (C8 Dx) (B3 Dx) (Ag Dx) .none kV doc pm an cdv ct),osl⟩)
 (c : PySem.W.codeIn K cdv "Book.__init__" = true) (k : PySem.W.keepIn K (.ref f) = true) (mk : PySem.W.makesIn K C = true) (kc : PySem.W.keepIn K (.ref C) = true) : BTop (KOf X) C :=
 ⟨f,_,fun_mk l c k,⟨mk,a,i,kc⟩,.all fun us hl => (match us,hl with | [_,_,_,_],_ => rfl)⟩
def bOk (K : PySem.W.Frag) (C : Addr) : Bool := PySem.W.plainGet K C Str.empty && PySem.W.hasDictIn K C && PySem.W.plainOver K C && PySem.W.findIn K (.ref C) "__setattr__" == some (some (.builtin "object.__setattr__")) && PySem.W.findIn K (.ref C) "strings" == some none && PySem.W.findIn K (.ref C) "duties" == some none && PySem.W.findIn K (.ref C) "by_key" == some none
theorem bOk_of {K : PySem.W.Frag} {C : Addr} (h : bOk K C = true) : BCls K C := by
 unfold bOk at h
 simp only [Bool.and_eq_true,beq_iff_eq] at h
 obtain ⟨⟨⟨⟨⟨⟨a,b⟩,c⟩,d⟩,e⟩,f⟩,g⟩ := h
 exact ⟨⟨a,b,c,d⟩,e,f,g⟩
def iOk (K : PySem.W.Frag) (C : Addr) : Bool := PySem.W.findIn K (.ref C) "__class__" == some (some (.builtin "object.__class__")) && PySem.W.specialIn K (.builtin "object.__class__") "__get__" == some (some (.builtin "getset_descriptor.__get__")) && PySem.W.takesIn K (.builtin "object.__class__") == some true && PySem.W.mroIn K C (.type "object") == some true && PySem.W.kitOne K (.ref C) (.ref C) == some true
theorem iOk_of {K : PySem.W.Frag} {C : Addr} (h : iOk K C = true) (c : Cls K C) : LKit K C := by
 unfold iOk at h
 simp only [Bool.and_eq_true,beq_iff_eq] at h
 obtain ⟨⟨⟨⟨e1,e2⟩,e3⟩,e4⟩,e5⟩ := h
 exact ⟨c,e1,e2,e3,e4,e5⟩
def jOk (K : PySem.W.Frag) (C : Addr) : Bool := PySem.W.plainGet K C Str.empty && PySem.W.hasDictIn K C && PySem.W.plainOver K C && PySem.W.findIn K (.ref C) "__setattr__" == some (some (.builtin "object.__setattr__")) && PySem.W.makesIn K C && PySem.W.findIn K (.ref C) "__init__" == some (some (.builtin "object.__init__")) && PySem.W.keepIn K (.ref C)
theorem jOk_of {K : PySem.W.Frag} {C : Addr} (h : jOk K C = true) : Cls K C ∧ PySem.W.makesIn K C = true ∧ PySem.W.findIn K (.ref C) "__init__" = some (some (.builtin "object.__init__")) ∧ PySem.W.keepIn K (.ref C) = true := by
 unfold jOk at h
 simp only [Bool.and_eq_true,beq_iff_eq] at h
 obtain ⟨⟨⟨⟨⟨⟨a,b⟩,c⟩,d⟩,e⟩,f⟩,g⟩ := h
 exact ⟨⟨a,b,c,d⟩,e,f,g⟩
structure DTop (K : PySem.W.Frag) (ad : Addr) : Prop where
 t : ∀ H,SqT K H ad (deeds.map V.str)
 z : FrzT K ad
theorem dtop_of {K : PySem.W.Frag} {h : Heap} {ad : Addr} {u0 u1 u2 u3 u4 : Str} {t0 t1 t2 t3 t4 : Tok} {n : Nat} {osl : Array (Option Value)} (X : K.In h) (dd : K.lookup ad = some ⟨.type "tuple",none,.seq #[.str u0 t0,.str u1 t1,.str u2 t2,.str u3 t3,.str u4 t4] n,osl⟩) (e : [u0,u1,u2,u3,u4] = deeds) : DTop (KOf X) ad := by
 refine ⟨fun H => .inr ⟨_,_,_,dd,rfl,rfl,(by show 5 ≤ sizeLine; decide),?_⟩,_,dd,rfl,rfl⟩
 rw [← e]
 exact .cons ⟨_,rfl⟩ (.cons ⟨_,rfl⟩ (.cons ⟨_,rfl⟩ (.cons ⟨_,rfl⟩ (.cons ⟨_,rfl⟩ .nil))))
structure KTop (K : PySem.W.Frag) (mg : Str → Option Value) (cT cL cB c0 c1 c2 c3 ad : Addr) : Prop where
 mT : mg "Terms" = some (.ref cT)
 mL : mg "Licence" = some (.ref cL)
 mB : mg "Book" = some (.ref cB)
 mD : mg "DEED_WORDS" = some (.ref ad)
 m0 : mg "Called" = some (.ref c0)
 m1 : mg "Beside" = some (.ref c1)
 m2 : mg "Joined" = some (.ref c2)
 m3 : mg "Changed" = some (.ref c3)
 oT : tOk K cT = true
 oL : lOk K cL = true
 oB : bOk K cB = true
 jL : iOk K cL = true
 iT : TTop K cT
 iL : LTop K cL
 iB : BTop K cB
 iD : DTop K ad
 o0 : jOk K c0 = true
 o1 : jOk K c1 = true
 o2 : jOk K c2 = true
 o3 : jOk K c3 = true
 tl : MTop K cL "told" "Licence.told" Ds ["self"]
 bsn : MTop K cB "string_names" "Book.string_names" sBook_sn ["self"]
 bdn : MTop K cB "duty_names" "Book.duty_names" sBook_dn ["self"]
 bak : MTop K cB "all_keys" "Book.all_keys" sBook_ak ["self"]
 blm : MTop K cB "licence" "Book.licence" sBook_lm ["self","key"]
 w0 : MTop K c0 "word" "Called.word" Eh ["self"]
 k0 : MTop K c0 "closeness" "Called.closeness" Cd ["self"]
 w1 : MTop K c1 "word" "Beside.word" Ei ["self"]
 k1 : MTop K c1 "closeness" "Beside.closeness" Ce ["self"]
 w2 : MTop K c2 "word" "Joined.word" Eg ["self"]
 k2 : MTop K c2 "closeness" "Joined.closeness" Cc ["self"]
 w3 : MTop K c3 "word" "Changed.word" Dt ["self"]
 k3 : MTop K c3 "closeness" "Changed.closeness" B5 ["self"]
theorem ktop_mk {K : PySem.W.Frag} {mg : Str → Option Value} {cT cL cB c0 c1 c2 c3 ad : Addr} (mT : mg "Terms" = some (.ref cT)) (mL : mg "Licence" = some (.ref cL)) (mB : mg "Book" = some (.ref cB)) (mD : mg "DEED_WORDS" = some (.ref ad)) (m0 : mg "Called" = some (.ref c0)) (m1 : mg "Beside" = some (.ref c1)) (m2 : mg "Joined" = some (.ref c2)) (m3 : mg "Changed" = some (.ref c3)) (oT : tOk K cT = true) (oL : lOk K cL = true) (oB : bOk K cB = true) (jL : iOk K cL = true) (iT : TTop K cT) (iL : LTop K cL) (iB : BTop K cB) (iD : DTop K ad) (o0 : jOk K c0 = true) (o1 : jOk K c1 = true) (o2 : jOk K c2 = true) (o3 : jOk K c3 = true) (tl : MTop K cL "told" "Licence.told" Ds ["self"]) (bsn : MTop K cB "string_names" "Book.string_names" sBook_sn ["self"]) (bdn : MTop K cB "duty_names" "Book.duty_names" sBook_dn ["self"]) (bak : MTop K cB "all_keys" "Book.all_keys" sBook_ak ["self"]) (blm : MTop K cB "licence" "Book.licence" sBook_lm ["self","key"]) (w0 : MTop K c0 "word" "Called.word" Eh ["self"]) (k0 : MTop K c0 "closeness" "Called.closeness" Cd ["self"]) (w1 : MTop K c1 "word" "Beside.word" Ei ["self"]) (k1 : MTop K c1 "closeness" "Beside.closeness" Ce ["self"]) (w2 : MTop K c2 "word" "Joined.word" Eg ["self"]) (k2 : MTop K c2 "closeness" "Joined.closeness" Cc ["self"]) (w3 : MTop K c3 "word" "Changed.word" Dt ["self"]) (k3 : MTop K c3 "closeness" "Changed.closeness" B5 ["self"]) : ∃ cT cL cB c0 c1 c2 c3 ad,KTop K mg cT cL cB c0 c1 c2 c3 ad := ⟨cT,cL,cB,c0,c1,c2,c3,ad,mT,mL,mB,mD,m0,m1,m2,m3,oT,oL,oB,jL,iT,iL,iB,iD,o0,o1,o2,o3,tl,bsn,bdn,bak,blm,w0,k0,w1,k1,w2,k2,w3,k3⟩
section
variable {P : Program} {w : World} {K : PySem.W.Frag} {mg : Str → Option Value} {base : Heap} {cT cL cB c0 c1 c2 c3 ad : Addr}
theorem jhas_of (h : KTop K mg cT cL cB c0 c1 c2 c3 ad) : JHas P w K mg base ⟨c0,c1,c2,c3⟩ := by
 have q0 := jOk_of h.o0
 have q1 := jOk_of h.o1
 have q2 := jOk_of h.o2
 have q3 := jOk_of h.o3
 refine ⟨⟨h.m0,q0.2.1,q0.2.2.1,q0.2.2.2⟩,⟨h.m1,q1.2.1,q1.2.2.1,q1.2.2.2⟩,⟨h.m2,q2.2.1,q2.2.2.1,q2.2.2.2⟩,⟨h.m3,q3.2.1,q3.2.2.1,q3.2.2.2⟩,fun j hj => ?_,fun j hj => ?_⟩
 ·rcases j4 hj with rfl | rfl | rfl | rfl
  ·exact Cf q0.1 h.w0 fun f fd F => ok_Called_word F
  ·exact Cf q1.1 h.w1 fun f fd F => ok_Beside_word F
  ·exact Cf q2.1 h.w2 fun f fd F => ok_Joined_word F
  ·exact Cf q3.1 h.w3 fun f fd F => ok_Changed_word F
 ·rcases j4 hj with rfl | rfl | rfl | rfl
  ·exact Cf q0.1 h.k0 fun f fd F => ok_Called_closeness F
  ·exact Cf q1.1 h.k1 fun f fd F => ok_Beside_closeness F
  ·exact Cf q2.1 h.k2 fun f fd F => ok_Joined_closeness F
  ·exact Cf q3.1 h.k3 fun f fd F => ok_Changed_closeness F
end
theorem law_fn2 {P : Program} {w : World} {K : PySem.W.Frag} {mg : Str → Option Value} {fa : Addr} (hfa : mg "law" = some (.ref fa)) (T : Txt mg) (N : Tx2 mg)
 (tis_whole : Ai K mg "is_whole" sis_whole ["thing"]) (tis_word : Ai K mg "is_word" sis_word ["thing"]) (tis_key : Ai K mg "is_key" sis_key ["thing"]) (tis_day : Ai K mg "is_day" sis_day ["thing"]) (tis_mask : Ai K mg "is_mask" sis_mask ["thing","many"]) (tbits_of : Ai K mg "bits_of" sbits_of ["mask"]) (tleast_bit : Ai K mg "least_bit" sleast_bit ["mask"]) (tleast_beyond : Ai K mg "least_beyond" Dm ["mask","bound"]) (tare_terms : Ai K mg "are_terms" sare_terms ["lets","strings","bars","reach"]) (tare_asks : Ai K mg "are_asks" Cv ["thing"]) (tneed_truth : Ai K mg "need_truth" sneed_truth ["thing"]) (tneed_span : Ai K mg "need_span" sneed_span ["first","last"]) (tkept_asks : Ai K mg "kept_asks" skept_asks ["asks"]) (tkept_names : Ai K mg "kept_names" skept_names ["names","most"]) (tkept_strings : Ai K mg "kept_strings" Do ["names"]) (tkept_duties : Ai K mg "kept_duties" Ec ["names"]) (tneed_named : Ai K mg "need_named" sneed_named ["licence","strings","duties"]) (tkept_licences : Ai K mg "kept_licences" Da ["licences","strings","duties"]) (tmask_of : Ai K mg "mask_of" smask_of ["places"]) (tkey_text : Ai K mg "key_text" skey_text ["key"]) (tis_number_text : Ai K mg "is_number_text" B7 ["text","longest"]) (tis_key_text : Ai K mg "is_key_text" Ed ["text"]) (tkey_of : Ai K mg "key_of" skey_of ["text"]) (tall_joins : Ai K mg "all_joins" sall_joins []) (tjoin_words : Ai K mg "join_words" Dy []) (tjoin_of : Ai K mg "join_of" sjoin_of ["word"]) (tnamed_section : Ai K mg "named_section" Ci ["head","mask","names"]) (tterms_sections : Ai K mg "terms_sections" Ct ["book","terms"]) (tasks_sections : Ai K mg "asks_sections" Db ["book","asks"]) (tlicence_row : Ai K mg "licence_row" Eb ["book","licence"]) (tshow_book : Ai K mg "show_book" Es ["book"]) (tsections_of : Ai K mg "sections_of" D9 ["words"]) (tis_named_section : Ai K mg "is_named_section" Bq ["section","head","known"]) (tare_terms_sections : Ai K mg "are_terms_sections" Bw ["sections","strings"]) (tare_asks_sections : Ai K mg "are_asks_sections" B4 ["sections","duties"]) (tis_days_section : Ai K mg "is_days_section" Cl ["section"]) (tare_licence_sections : Ai K mg "are_licence_sections" Bk ["sections","strings","duties"]) (tsection_mask : Ai K mg "section_mask" Ca ["section","known"]) (tasks_of : Ai K mg "asks_of" sasks_of ["sections","duties"]) (tlicence_of : Ai K mg "licence_of" slicence_of ["sections","strings","duties"]) (tnames_at : Ai K mg "names_at" snames_at ["rows","place","head"]) (tlicences_at : Ai K mg "licences_at" Ea ["rows","strings","duties"]) (tread_book : Ai K mg "read_book" Dv ["text"]) (t_law_cell : Ai K mg "_law_cell" s_law_cell ["_law_script","_law_k"]) (t_law_mixed : Ai K mg "_law_mixed" s_law_mixed ["_law_cell_here","_law_k"]) (t_law_box : Ai K mg "_law_box" s_law_box ["_law_cell_here"]) (t_law_take : Ai K mg "_law_take" s_law_take ["_law_box_here","_law_many"]) (t_law_words : Ai K mg "_law_words" D0 ["_law_cell_here","_law_many"]) (t_law_within : Ai K mg "_law_within" Ef ["_law_box_here","_law_mask","_law_many"]) (t_law_licence : Ai K mg "_law_licence" Dr ["_law_box_here","_law_keys_here","_law_known"]) (t_law_keys : Ai K mg "_law_keys" s_law_keys ["_law_cell_here","_law_many"]) (t_law_book : Ai K mg "_law_book" s_law_book ["_law_cell_here","_law_other"]) (t_law_made : Ai K mg "_law_made" s_law_made ["_law_row"]) (t_law_named : Ai K mg "_law_named" D1 ["_law_word","_law_mask","_law_names","_law_box_here"]) (t_law_row_text : Ai K mg "_law_row_text" Dc ["_law_row","_law_strings","_law_duties","_law_box_here"]) (t_law_text : Ai K mg "_law_text" Eu ["_law_rows","_law_strings","_law_duties","_law_box_here"]) (t_law_fitted : Ai K mg "_law_fitted" Df ["_law_row","_law_strings","_law_duties"]) (t_law_is_it : Ai K mg "_law_is_it" C4 ["_law_book_here","_law_rows","_law_strings","_law_duties"]) (t_law_good : Ai K mg "_law_good" Dw ["_law_cell_here"]) (tlaw : Ai K mg "law" slaw ["_law_script"]) (hk : ∃ cT cL cB c0 c1 c2 c3 ad,KTop K mg cT cL cB c0 c1 c2 c3 ad) :
 ∃ fd : FuncData,(∀ (s : Shared) (v : Value),BindsTo s fd ⟨[v],[]⟩ [("_law_script",v)]) ∧ ∀ base : Heap,K.In base → base.Ns mainGlobals mg → FnOk P w K mg base CX0 12 fa fd ["_law_script"] (spLaw K) := by
 obtain ⟨cT,cL,cB,c0,c1,c2,c3,ad,k⟩ := hk
 obtain ⟨fB,dB,FB,MB,BB⟩ := k.iB.ex
 have bc : BCls K cB := bOk_of k.oB
 obtain ⟨fT,dT,FT,MT,BT,rd,fc,sp,kf⟩ := k.iT.ex
 obtain ⟨fL,dL,ds,FL,ML,BL,BD,VD⟩ := k.iL.ex
 have tc : TCls K cT := tOk_of k.oT
 have lc : LCls K cL := lOk_of k.oL
 exact law_mk tlaw hfa sclaw fun base _ _ f cdv A outer s H vs Q E hr h =>
  have Fw := ok_whole T tis_whole
  have Fwo := ok_word T tis_word
  have Fm := ok_mask Fw tis_mask
  have Fbi := ok_bits tbits_of
  have Fb := ok_beyond (ok_least Fbi tleast_bit) tleast_beyond
  have Fa := ok_are_terms T Fm Fw tare_terms
  have Fkept := ok_kept T (ok_are_asks T Fm Fb tare_asks) (ok_are_asksL T Fm Fb tare_asks) tkept_asks
  have OT : FnOk P w K mg base CX0 4 fT dT psT (spTInit cT) := ok_tinit tc Fa FT
  have OTL : FnOk P w K mg base CX0 4 fT dT psT (spTInit cL) := ok_tinit lc.toTCls Fa FT
  have CT : CFn P w K mg base "Terms" "__init__" 4 psT (spTInit cL) := ⟨cT,fT,dT,OTL,k.mT,rd,fc,sp,kf,BT⟩
  have OL : FnOk P w K mg base CX0 6 fL dL psL (spLInit cL) := ok_linit lc CT (ok_key T Fwo Fw tis_key) (ok_truth T tneed_truth) Fkept (ok_span (ok_day T Fw tis_day) tneed_span) FL
  have M : Makes P w K mg base cT cL fT fL dT dL ds := ⟨k.mT,k.mL,MT,ML,OT,OL,BT,BL,BD,VD⟩
  have Fc := ok_cell T t_law_cell
  have Fx := ok_mixed t_law_mixed
  have Fbx := ok_box t_law_box
  have Ft := ok_take Fx t_law_take
  have Fwd := ok_words T Fbx Ft t_law_words
  have Fwi := ok_within Ft t_law_within
  have Fli := ok_licence T Ft Fwi t_law_licence
  have Fke := ok_keys T Fx Fwd t_law_keys
  have Fbo := ok_book T Fbx Ft Fke Fli t_law_book
  have Fma := ok_lmade M t_law_made
  have Fk := ok_key T Fwo Fw tis_key
  have kit : LKit K cL := iOk_of k.jL lc.cl
  have FN := ok_names T Fwo tkept_names
  have Fs := ok_strings T FN tkept_strings
  have Fd := ok_duties T FN tkept_duties
  have OB : FnOk P w K mg base CX0 5 fB dB psB (spBInit cL cB) := ok_binit bc Fs Fd (ok_lics T lc kit k.mL (ok_named T lc Fm tneed_named) tkept_licences) FB
  have BM : BMk P w K mg base cL cB fB dB := ⟨k.mB,MB,OB,BB⟩
  have MLM : ∀ C sp,DLM K cL cB C sp → D7 P w K mg base CX0 3 C "licence" ["self","key"] sp := fun C sp ⟨e1,e2⟩ => by
   subst e1 e2
   exact Cf bc.cl k.blm fun f fd F => ok_lm bc Fk F
  have MTL : ∀ C sp,DTL cL C sp → D7 P w K mg base CX0 1 C "told" ["self"] sp := fun C sp ⟨e1,e2⟩ => by
   subst e1 e2
   exact Cf lc.cl k.tl fun f fd F => ok_ltold lc F
  have MSN : ∀ C sp,DSN cL cB C sp → D7 P w K mg base CX0 1 C "string_names" ["self"] sp := fun C sp ⟨e1,e2⟩ => by
   subst e1 e2
   exact Cf bc.cl k.bsn fun f fd F => ok_sn T bc F
  have MDN : ∀ C sp,DDN cL cB C sp → D7 P w K mg base CX0 1 C "duty_names" ["self"] sp := fun C sp ⟨e1,e2⟩ => by
   subst e1 e2
   exact Cf bc.cl k.bdn fun f fd F => ok_dn T bc F
  have MAK : ∀ C sp,DAK cL cB C sp → D7 P w K mg base CX0 1 C "all_keys" ["self"] sp := fun C sp ⟨e1,e2⟩ => by
   subst e1 e2
   exact Cf bc.cl k.bak fun f fd F => ok_ak T bc F
  have JD : JHas P w K mg base ⟨c0,c1,c2,c3⟩ := jhas_of k
  have DK : DeedK K mg ad := ⟨k.mD,k.iD.t,k.iD.z⟩
  have Faj := ok_all JD tall_joins
  have Fjw := ok_jw JD Faj tjoin_words
  have Fjo := ok_join_of JD Faj tjoin_of
  have Fmo := ok_mask_of tmask_of
  have Fns := ok_ns Fbi tnamed_section
  have Fts := ok_ts DK lc Fns Fjw MSN tterms_sections
  have Fas := ok_as T Fns Fjw MDN tasks_sections
  have Flr := ok_lr lc (ok_key_text tkey_text) Fts Fas tlicence_row
  have Fsb := ok_sb Flr MSN MDN MAK MLM tshow_book
  have Fso := ok_so tsections_of
  have Fin := ok_ins T N tis_named_section
  have Fnum := ok_num T N tis_number_text
  have Fikt := ok_ikt T Fwo Fnum tis_key_text
  have Fko := ok_ko T Fikt tkey_of
  have Fats := ok_ats T DK Fin Fjw tare_terms_sections
  have Faas := ok_aas T N Fin Fjw tare_asks_sections
  have Fds := ok_ds T N Fnum tis_days_section
  have Fals := ok_als T N Fikt Fats Faas Fds tare_licence_sections
  have Fsm := ok_sm Fmo tsection_mask
  have Fao := ok_ao Fsm tasks_of
  have Flo := ok_lo T DK JD M Fsm Fjo Fko Fao tlicence_of
  have Fna := ok_na T Fwo tnames_at
  have Fla := ok_la T N Fso Fals tlicences_at
  have Frb := ok_rb T BM Fna Fla Fs Fd Flo tread_book
  have Fln := ok_ln T Ft t_law_named
  have Frt := ok_rt T Fln t_law_row_text
  have Flt := ok_lt Frt t_law_text
  have Ffit := ok_lfit T t_law_fitted
  have Fii := ok_ii lc MSN MDN MAK MLM MTL t_law_is_it
  have Fg := ok_good T BM Fbx Ft Fx Fwd Fbo Fma Ffit Flt Frb Fsb Fii t_law_good
  law_body T Fc Fg f cdv A outer s H vs Q E hr h
end K15
namespace PySem.W.Fast
def tw3699798967982395679:=0
def tw13980351990333069133:=0
def tw7360812101845594257:=0
def tw8760802995132627943:=0
def tw5723655013594931547:=0
def tw876437840301286833:=0
def tw17995122373946446122:=0
def tw2334377450102043396:=0
def tw14997350850710703559:=0
def tw8592598542511254460:=0
def tw16087203587681030466:=0
def tw12223562386191793680:=0
def tw5075450342235685537:=0
def tw2933008663101569853:=0
def tw1555142153197297069:=0
def tw15501454058545593394:=0
def tw14882220194140080896:=0
def tw13780527053689716981:=0
def tw14195449735869274495:=0
def tw9812819098949047751:=0
def tw9340821130734205383:=0
def tw10374090831740105956:=0
def tw15044822069611521236:=0
def tw8343292476990570073:=0
def tw12459338471275298473:=0
def tw10621104804153356741:=0
def tw12922509926993382259:=0
def tw13321068285723076113:=0
def tw994606284216291936:=0
def tw18093416814570089842:=0
def tw16809704087859403456:=0
def tw9749419596957370786:=0
def tw2653940587663096629:=0
def tw17655002292617170128:=0
def tw12901606831339729036:=0
def tw17669117813652366175:=0
def tw8861778367034865196:=0
def tw10814435705593781637:=0
def tw16442683750588687133:=0
def tw7325264318388565484:=0
def tw11351649181279973365:=0
def tw4427778411150735213:=0
def tw1617211452721626137:=0
def tw3163173892975325768:=0
def tw5444551570160771439:=0
def tw9356417628233778559:=0
def tw11840273183526642398:=0
def tw16107417950547117627:=0
def tw18315975255276673893:=0
def tw4203042565924914368:=0
def tw12793185526402754591:=0
def tw5756419731086370111:=0
def tw5912767060510290640:=0
def tw15891709152678170365:=0
def tw13271562192012660883:=0
def tw14258104060287181158:=0
def tw17213489999550736164:=0
def tw6427092963110911538:=0
def tw4146250425735318504:=0
def tw17599466920407657157:=0
def tw2005343941403331857:=0
def tw5334305847898019836:=0
def tw1511346922304796633:=0
def tw11456651544330121225:=0
def tw1929676535241798388:=0
def tw12635958377497133035:=0
def tw2875031759243826411:=0
def tw10397036625768117868:=0
def tw18077512390862331882:=0
def tw14752369777817001470:=0
def tw333586553174753651:=0
def tw15065487813238850371:=0
def tw9124453497815673116:=0
def tw290980062728321285:=0
def tw17307516428193097562:=0
def tw8133677896738918745:=0
def tw16218102440905166079:=0
def tw3811622573457075385:=0
def tw4714639984917485195:=0
def tw8192923727733720840:=0
def tw903842990292127748:=0
def tw8542693593641719324:=0
def tw4557197692290099957:=0
def tw7056860352693909541:=0
def tw16969986339529702100:=0
def tw12708621775849637582:=0
def tw13539988552799445447:=0
def tw4350424762695946469:=0
def tw5253703453974766013:=0
def tw11314137510651297804:=0
def tw1390354204107008052:=0
def tw14392564717257415175:=0
def tw2311497558993732022:=0
def tw8887819250211650379:=0
def tw11124865320252292317:=0
def tw12766405993729431127:=0
def tw7205403627733073956:=0
def tw17510883167775344037:=0
def tw2998340494593640948:=0
def tw5285793294856552064:=0
def tw7027056842925455375:=0
def tw9541579992289191944:=0
def tw14583005144225294751:=0
def tw10405055510478607748:=0
def tw6010819155486241979:=0
def tw14671531705000043689:=0
def tw12050373728711400013:=0
def tw18002993646955432234:=0
def tw16485193473348045126:=0
def tw18259150352178432377:=0
def tw15571231685378766394:=0
def tw10508087101358480915:=0
def tw7531337597828013924:=0
def tw7893228230048657888:=0
def tw4263960949502319962:=0
def tw12075837922432154333:=0
def tw7859721425304650538:=0
def tw13925324235421657745:=0
def tw1926754488495401094:=0
def tw9075304820295982859:=0
def tw7280863141483548753:=0
def tw349610994743315464:=0
def tw12873343461613396753:=0
def tw15078629363560354950:=0
def tw10903215516837890210:=0
def tw11368899450115543368:=0
def tw7385947273232973302:=0
def tw1724516525162594726:=0
def tw8496013290644353367:=0
def tw114224222434489249:=0
def tw13312208556494312208:=0
def tw15956738284832067363:=0
def tw12143092544389287571:=0
def tw11748675745763195931:=0
def tw14307119518513511848:=0
def tw3282245260643834085:=0
def tw16885405572530646605:=0
def tw18414287269180608684:=0
def tw11084276127578768682:=0
def tw9405376369955792033:=0
def tw12355530821600455681:=0
def tw1137363215236807506:=0
def tw18075923316720263272:=0
def tw18439271373208258642:=0
def tw14933849760770223760:=0
def tw8229110575479603080:=0
def tw17885483342164814347:=0
def tw9226025125369349343:=0
def tw12051322326522613669:=0
def tw17830039696673599028:=0
def tw9043660789487400067:=0
def tw14126927441550944622:=0
def tw15222947698068045729:=0
def tw13156505046224784869:=0
def tw16242250528322886795:=0
def tw17804528166710150682:=0
def tw13803800009439831515:=0
def tw7146911557927969858:=0
def tw17513001660949557738:=0
def tw6802652429927810394:=0
def tw17146474152209145804:=0
def tw2769733025936768720:=0
def tw15382482686260894570:=0
def tw5131864024223384335:=0
def tw11359872720906406430:=0
def tw6326294576862014421:=0
def tw12545705579276603900:=0
def tw5950188864410320349:=0
def tw16253104163111866720:=0
def tw13946838862995669804:=0
def tw5416293116588799929:=0
def tw11237140863102406403:=0
def tw6136370446941109786:=0
def tw11127695987734330854:=0
def tw12274616263225661419:=0
def tw16022342557929948249:=0
def tw9407904566401760848:=0
def tw18431331766409469115:=0
def tw16187587635076691717:=0
def tw766986391674022679:=0
def tw17195754832195420390:=0
def tw15058930734605702380:=0
def tw5001533842216996999:=0
def tw1938968293234443955:=0
def tw7508723808027602221:=0
def tw7112633851205456639:=0
def tw7843475187111077531:=0
def tw15678230586290678694:=0
def tw405073645828838080:=0
def tw2390011678052608113:=0
def tw11115586251489822290:=0
def tw7624744280341909763:=0
def tw16057402355952895310:=0
def tw10751927156098051882:=0
def tw3615383427376287042:=0
def tw11255939706986302545:=0
def tw16741674982335083928:=0
def tw8205111970626439892:=0
def tw15725222674582876786:=0
def tw4082242086781456967:=0
def tw9733526185780859345:=0
def tw11707850195704401292:=0
def tw2186170499262396639:=0
def tw14244741568788880932:=0
def tw4891092698461841398:=0
def tw16372771898325611058:=0
def tw8558842459539619404:=0
def tw11600166154242011504:=0
def tw17957659875633134680:=0
def tw6468841297452257092:=0
def tw3540346271880276951:=0
def tw1032336919966882128:=0
def tw5283073588974720679:=0
def tw2236925435079912403:=0
def tw7206653674452540985:=0
def tw1223346204329310350:=0
def tw7288295725777515093:=0
def tw6871221446966662043:=0
def tw2525091236396523566:=0
def tw12734646932106419341:=0
def tw10003847590247341031:=0
def tw3590664295896626805:=0
def tw2786124696180903523:=0
def tw14712698307276133338:=0
def tw11392166439765916685:=0
def tw5068776217435394130:=0
def tw17042190926420930564:=0
def tw2554873061083880058:=0
def tw15918031908442973766:=0
def tw140616942195392762:=0
def tw5394828806670582515:=0
def tw5392977668946648773:=0
def tw3535306997666358250:=0
def tw9269368084450733702:=0
def tw1346791395485057529:=0
def tw18407836512538321721:=0
def tw14923923284867493461:=0
def tw4758307878862464859:=0
def tw9850641976056529081:=0
def tw6221555888008372174:=0
def tw5345128453760441702:=0
def tw5075524141644374969:=0
def tw17475376977557553288:=0
def tw12641480297890350423:=0
def tw9022734175093323901:=0
def tw941304554163764414:=0
def tw16411490189866458395:=0
def tw5521434609397296703:=0
def tw8581919794975761491:=0
def tw4402278681340073206:=0
def tw1844542156415460660:=0
def tw4623053015341006901:=0
def tw13415094062082198549:=0
def tw5562914333566086275:=0
def tw5100769427089193408:=0
def tw7881726757118203404:=0
def tw12794903070077337650:=0
def tw14970693141128713953:=0
def tw13733493310971777358:=0
def tw7546927821375093158:=0
def tw8118668171572640674:=0
def tw13295636132384005564:=0
def tw13604733769636081695:=0
def tw15176164295121015466:=0
def tw9722644689392226258:=0
def tw7730973673641793612:=0
def tw17735612651682217261:=0
def tw16986881923937839409:=0
def tw14709423933261287967:=0
def tw13515108682083204951:=0
def tw12218494600005909865:=0
def tw12016913387924380928:=0
def tw10386800978920071569:=0
def tw12064883393705411766:=0
def tw17275586678990551395:=0
def tw35346628205371232:=0
def tw3027898905308356126:=0
def tw17362463059412198322:=0
def tw15633538539225365293:=0
def tw4781534735496125466:=0
def tw13371956467951392098:=0
def tw1106820818132684894:=0
def tw7434583418928909810:=0
def tw5880232313385145343:=0
def tw18420430211880192853:=0
def tw1497375235024230972:=0
def tw6128838808322122229:=0
def tw15978377528409004907:=0
def tw8964930240545064980:=0
def tw4316222066206587517:=0
def tw453985724238304632:=0
def tw14831259461948447825:=0
def tw4430977326621108807:=0
def tw10214625732353007469:=0
def tw16315332540341303864:=0
def tw6602093920748169713:=0
def tw4324993316844441201:=0
def tw11805088160843774614:=0
def tw15506738493970223443:=0
def tw12759416684889731911:=0
def tw18070406134779442165:=0
def tw10364411755399642313:=0
def tw11914462231167164069:=0
def tw5177269004490772172:=0
def tw2773323757790154820:=0
def tw3603198564857565551:=0
def tw1870071239517015637:=0
def tw3430931426592346634:=0
def tw13757938119302141097:=0
def tw13473552726755324434:=0
def tw6798188799087936091:=0
def tw5037726331372987142:=0
def tw10027435762454508699:=0
def tw4225009059873532179:=0
def tw3806454993968078890:=0
def tw16328863417999912455:=0
def tw17478773394350655898:=0
def tw13163239547188308628:=0
def tw1995183755909708350:=0
def tw12259108702214625645:=0
def tw12712357185340108516:=0
def tw14817095566523794169:=0
def tw8275630807451680768:=0
def tw2413771671490709015:=0
def tw15072319881790340439:=0
def tw9095794623007767559:=0
def tw12310654641515094458:=0
def tw7508816207877205945:=0
def tw4774140542511022275:=0
def tw3262769186890003512:=0
def tw5878204200906632494:=0
def tw11125430241111979403:=0
def tw14233605980750256717:=0
def tw207356945111048799:=0
def tw17685810381710111810:=0
def tw15553350169823784601:=0
def tw14512986168309259804:=0
def tw13857640933270071810:=0
def tw10783873460634915749:=0
def tw3437667252010996475:=0
def tw6038506035763414516:=0
def tw16275072979123284080:=0
def tw14378871015458123675:=0
def tw10747806563151457386:=0
def tw6897767655553011305:=0
def tw15649453403538806367:=0
def tw18342019037272204549:=0
def tw13556684787806009287:=0
def tw12090554760975221874:=0
def tw312062637336555406:=0
def tw1719267893051526344:=0
def tw13428218061235678130:=0
def tw10587241034981372278:=0
def tw829253286766609530:=0
def tw4910676134602152402:=0
def tw17265310340758561524:=0
def tw13669380538454962892:=0
def tw13773929085696357967:=0
def tw1360722657818256112:=0
def tw1251184594627105039:=0
def tw2935187751374492198:=0
def tw204357953987394631:=0
def tw15820517938611685283:=0
def tw8005538193725555202:=0
def tw1488136293863252474:=0
def tw12733304108420431946:=0
def tw15272241134763414140:=0
def tw6133414293638732114:=0
def tw8059353617983954622:=0
def tw13323343265061991544:=0
def tw9724343182882581749:=0
def tw438456858246031813:=0
def tw8129761550066227317:=0
def tw6550283427084383533:=0
def tw5987806740248506178:=0
def tw17438010970995666353:=0
def tw10268963911999197083:=0
def tw7577124984139974972:=0
def tw17026752046832576835:=0
def tw60255278534291452:=0
def tw14828058182497424227:=0
def tw8157596830458798822:=0
def tw15411649351800329776:=0
def tw873720151317067260:=0
def tw10142516704694043184:=0
def tw5695632157598466448:=0
def tw3953031999276056179:=0
def tw13162016325786578382:=0
def tw13425581085592939516:=0
def tw9474038981501015479:=0
def tw4631983828067351663:=0
def tw13160567579425352756:=0
def tw1685165791495637351:=0
def tw3095906330180742192:=0
def tw10844169852736781996:=0
def tw6706118452146953115:=0
def tw6612749958608458164:=0
def tw4895632502944932573:=0
def tw2869148429214292798:=0
def tw1875555851741549483:=0
def tw16902883155643841967:=0
def tw15241495177010409556:=0
def tw1463245221080287058:=0
def tw12954608715585611090:=0
def tw1222796936857978788:=0
def tw4752833526785116620:=0
def tw2728347407869857058:=0
def tw17614233670004669992:=0
def tw15511771705052038299:=0
def tw9237064669713657719:=0
def tw5917885216666885707:=0
def tw10877487865139978273:=0
def tw9480817280477202888:=0
def tw2395185409848968582:=0
def tw12792116746483283684:=0
def tw11024112016292104786:=0
def tw15015337123925342432:=0
def tw4856723034448740293:=0
def tw3294856121714973863:=0
def tw731908824022363407:=0
def tw4948774908147606400:=0
def tw4865054580612834593:=0
def tw16102616625874043308:=0
def tw15502539107339525015:=0
def tw295666252335246916:=0
def tw16634500140422353793:=0
def tw557257444320181797:=0
end PySem.W.Fast
open PySem PySem.W PyProof.Rows
set_option maxRecDepth 100000 in
set_option maxHeartbeats 0 in
theorem PySem.Challenge.cw_grantweave_k15_books_as_texts_holds : PySem.Challenge.rw_grantweave_k15_books_as_texts.Holds := by
 w_on; o_law; k_head; (case hw => w_witness2)
 k_fill
 refine L2.law_walk (l := PySem.Challenge.rw_grantweave_k15_books_as_texts) (x := "_law_script") (k := 12) rfl rfl ⟨rfl,by decide,by decide,rfl⟩ (fun w h Y => PySem.W.kIn_of Y) ?F
 case F =>
  intro w mg fa h KX G hmg
  have t_is_whole : L2.Ai (L2.KOf KX) mg "is_whole" K15.sis_whole ["thing"] := by
   refine' L2.Am KX G (fun _ _ _ _ _ _ us hl => match us,hl with | [_],_ => rfl) ?a ?l ?c ?k
   (case a => k_is); (case l => k_is); (case c => k_is); (case k => k_is)
  have t_is_word : L2.Ai (L2.KOf KX) mg "is_word" K15.sis_word ["thing"] := by
   refine' L2.Am KX G (fun _ _ _ _ _ _ us hl => match us,hl with | [_],_ => rfl) ?a ?l ?c ?k
   (case a => k_is); (case l => k_is); (case c => k_is); (case k => k_is)
  have t_is_key : L2.Ai (L2.KOf KX) mg "is_key" K15.sis_key ["thing"] := by
   refine' L2.Am KX G (fun _ _ _ _ _ _ us hl => match us,hl with | [_],_ => rfl) ?a ?l ?c ?k
   (case a => k_is); (case l => k_is); (case c => k_is); (case k => k_is)
  have t_is_day : L2.Ai (L2.KOf KX) mg "is_day" K15.sis_day ["thing"] := by
   refine' L2.Am KX G (fun _ _ _ _ _ _ us hl => match us,hl with | [_],_ => rfl) ?a ?l ?c ?k
   (case a => k_is); (case l => k_is); (case c => k_is); (case k => k_is)
  have t_is_mask : L2.Ai (L2.KOf KX) mg "is_mask" K15.sis_mask ["thing","many"] := by
   refine' L2.Am KX G (fun _ _ _ _ _ _ us hl => match us,hl with | [_,_],_ => rfl) ?a ?l ?c ?k
   (case a => k_is); (case l => k_is); (case c => k_is); (case k => k_is)
  have t_bits_of : L2.Ai (L2.KOf KX) mg "bits_of" K15.sbits_of ["mask"] := by
   refine' L2.Am KX G (fun _ _ _ _ _ _ us hl => match us,hl with | [_],_ => rfl) ?a ?l ?c ?k
   (case a => k_is); (case l => k_is); (case c => k_is); (case k => k_is)
  have t_least_bit : L2.Ai (L2.KOf KX) mg "least_bit" K15.sleast_bit ["mask"] := by
   refine' L2.Am KX G (fun _ _ _ _ _ _ us hl => match us,hl with | [_],_ => rfl) ?a ?l ?c ?k
   (case a => k_is); (case l => k_is); (case c => k_is); (case k => k_is)
  have t_least_beyond : L2.Ai (L2.KOf KX) mg "least_beyond" K15.Dm ["mask","bound"] := by
   refine' L2.Am KX G (fun _ _ _ _ _ _ us hl => match us,hl with | [_,_],_ => rfl) ?a ?l ?c ?k
   (case a => k_is); (case l => k_is); (case c => k_is); (case k => k_is)
  have t_are_terms : L2.Ai (L2.KOf KX) mg "are_terms" K15.sare_terms ["lets","strings","bars","reach"] := by
   refine' L2.Am KX G (fun _ _ _ _ _ _ us hl => match us,hl with | [_,_,_,_],_ => rfl) ?a ?l ?c ?k
   (case a => k_is); (case l => k_is); (case c => k_is); (case k => k_is)
  have t_are_asks : L2.Ai (L2.KOf KX) mg "are_asks" K15.Cv ["thing"] := by
   refine' L2.Am KX G (fun _ _ _ _ _ _ us hl => match us,hl with | [_],_ => rfl) ?a ?l ?c ?k
   (case a => k_is); (case l => k_is); (case c => k_is); (case k => k_is)
  have t_need_truth : L2.Ai (L2.KOf KX) mg "need_truth" K15.sneed_truth ["thing"] := by
   refine' L2.Am KX G (fun _ _ _ _ _ _ us hl => match us,hl with | [_],_ => rfl) ?a ?l ?c ?k
   (case a => k_is); (case l => k_is); (case c => k_is); (case k => k_is)
  have t_need_span : L2.Ai (L2.KOf KX) mg "need_span" K15.sneed_span ["first","last"] := by
   refine' L2.Am KX G (fun _ _ _ _ _ _ us hl => match us,hl with | [_,_],_ => rfl) ?a ?l ?c ?k
   (case a => k_is); (case l => k_is); (case c => k_is); (case k => k_is)
  have t_kept_asks : L2.Ai (L2.KOf KX) mg "kept_asks" K15.skept_asks ["asks"] := by
   refine' L2.Am KX G (fun _ _ _ _ _ _ us hl => match us,hl with | [_],_ => rfl) ?a ?l ?c ?k
   (case a => k_is); (case l => k_is); (case c => k_is); (case k => k_is)
  have t_kept_names : L2.Ai (L2.KOf KX) mg "kept_names" K15.skept_names ["names","most"] := by
   refine' L2.Am KX G (fun _ _ _ _ _ _ us hl => match us,hl with | [_,_],_ => rfl) ?a ?l ?c ?k
   (case a => k_is); (case l => k_is); (case c => k_is); (case k => k_is)
  have t_kept_strings : L2.Ai (L2.KOf KX) mg "kept_strings" K15.Do ["names"] := by
   refine' L2.Am KX G (fun _ _ _ _ _ _ us hl => match us,hl with | [_],_ => rfl) ?a ?l ?c ?k
   (case a => k_is); (case l => k_is); (case c => k_is); (case k => k_is)
  have t_kept_duties : L2.Ai (L2.KOf KX) mg "kept_duties" K15.Ec ["names"] := by
   refine' L2.Am KX G (fun _ _ _ _ _ _ us hl => match us,hl with | [_],_ => rfl) ?a ?l ?c ?k
   (case a => k_is); (case l => k_is); (case c => k_is); (case k => k_is)
  have t_need_named : L2.Ai (L2.KOf KX) mg "need_named" K15.sneed_named ["licence","strings","duties"] := by
   refine' L2.Am KX G (fun _ _ _ _ _ _ us hl => match us,hl with | [_,_,_],_ => rfl) ?a ?l ?c ?k
   (case a => k_is); (case l => k_is); (case c => k_is); (case k => k_is)
  have t_kept_licences : L2.Ai (L2.KOf KX) mg "kept_licences" K15.Da ["licences","strings","duties"] := by
   refine' L2.Am KX G (fun _ _ _ _ _ _ us hl => match us,hl with | [_,_,_],_ => rfl) ?a ?l ?c ?k
   (case a => k_is); (case l => k_is); (case c => k_is); (case k => k_is)
  have t_mask_of : L2.Ai (L2.KOf KX) mg "mask_of" K15.smask_of ["places"] := by
   refine' L2.Am KX G (fun _ _ _ _ _ _ us hl => match us,hl with | [_],_ => rfl) ?a ?l ?c ?k
   (case a => k_is); (case l => k_is); (case c => k_is); (case k => k_is)
  have t_key_text : L2.Ai (L2.KOf KX) mg "key_text" K15.skey_text ["key"] := by
   refine' L2.Am KX G (fun _ _ _ _ _ _ us hl => match us,hl with | [_],_ => rfl) ?a ?l ?c ?k
   (case a => k_is); (case l => k_is); (case c => k_is); (case k => k_is)
  have t_is_number_text : L2.Ai (L2.KOf KX) mg "is_number_text" K15.B7 ["text","longest"] := by
   refine' L2.Am KX G (fun _ _ _ _ _ _ us hl => match us,hl with | [_,_],_ => rfl) ?a ?l ?c ?k
   (case a => k_is); (case l => k_is); (case c => k_is); (case k => k_is)
  have t_is_key_text : L2.Ai (L2.KOf KX) mg "is_key_text" K15.Ed ["text"] := by
   refine' L2.Am KX G (fun _ _ _ _ _ _ us hl => match us,hl with | [_],_ => rfl) ?a ?l ?c ?k
   (case a => k_is); (case l => k_is); (case c => k_is); (case k => k_is)
  have t_key_of : L2.Ai (L2.KOf KX) mg "key_of" K15.skey_of ["text"] := by
   refine' L2.Am KX G (fun _ _ _ _ _ _ us hl => match us,hl with | [_],_ => rfl) ?a ?l ?c ?k
   (case a => k_is); (case l => k_is); (case c => k_is); (case k => k_is)
  have t_all_joins : L2.Ai (L2.KOf KX) mg "all_joins" K15.sall_joins [] := by
   refine' L2.Am KX G (fun _ _ _ _ _ _ us hl => match us,hl with | [],_ => rfl) ?a ?l ?c ?k
   (case a => k_is); (case l => k_is); (case c => k_is); (case k => k_is)
  have t_join_words : L2.Ai (L2.KOf KX) mg "join_words" K15.Dy [] := by
   refine' L2.Am KX G (fun _ _ _ _ _ _ us hl => match us,hl with | [],_ => rfl) ?a ?l ?c ?k
   (case a => k_is); (case l => k_is); (case c => k_is); (case k => k_is)
  have t_join_of : L2.Ai (L2.KOf KX) mg "join_of" K15.sjoin_of ["word"] := by
   refine' L2.Am KX G (fun _ _ _ _ _ _ us hl => match us,hl with | [_],_ => rfl) ?a ?l ?c ?k
   (case a => k_is); (case l => k_is); (case c => k_is); (case k => k_is)
  have t_named_section : L2.Ai (L2.KOf KX) mg "named_section" K15.Ci ["head","mask","names"] := by
   refine' L2.Am KX G (fun _ _ _ _ _ _ us hl => match us,hl with | [_,_,_],_ => rfl) ?a ?l ?c ?k
   (case a => k_is); (case l => k_is); (case c => k_is); (case k => k_is)
  have t_terms_sections : L2.Ai (L2.KOf KX) mg "terms_sections" K15.Ct ["book","terms"] := by
   refine' L2.Am KX G (fun _ _ _ _ _ _ us hl => match us,hl with | [_,_],_ => rfl) ?a ?l ?c ?k
   (case a => k_is); (case l => k_is); (case c => k_is); (case k => k_is)
  have t_asks_sections : L2.Ai (L2.KOf KX) mg "asks_sections" K15.Db ["book","asks"] := by
   refine' L2.Am KX G (fun _ _ _ _ _ _ us hl => match us,hl with | [_,_],_ => rfl) ?a ?l ?c ?k
   (case a => k_is); (case l => k_is); (case c => k_is); (case k => k_is)
  have t_licence_row : L2.Ai (L2.KOf KX) mg "licence_row" K15.Eb ["book","licence"] := by
   refine' L2.Am KX G (fun _ _ _ _ _ _ us hl => match us,hl with | [_,_],_ => rfl) ?a ?l ?c ?k
   (case a => k_is); (case l => k_is); (case c => k_is); (case k => k_is)
  have t_show_book : L2.Ai (L2.KOf KX) mg "show_book" K15.Es ["book"] := by
   refine' L2.Am KX G (fun _ _ _ _ _ _ us hl => match us,hl with | [_],_ => rfl) ?a ?l ?c ?k
   (case a => k_is); (case l => k_is); (case c => k_is); (case k => k_is)
  have t_sections_of : L2.Ai (L2.KOf KX) mg "sections_of" K15.D9 ["words"] := by
   refine' L2.Am KX G (fun _ _ _ _ _ _ us hl => match us,hl with | [_],_ => rfl) ?a ?l ?c ?k
   (case a => k_is); (case l => k_is); (case c => k_is); (case k => k_is)
  have t_is_named_section : L2.Ai (L2.KOf KX) mg "is_named_section" K15.Bq ["section","head","known"] := by
   refine' L2.Am KX G (fun _ _ _ _ _ _ us hl => match us,hl with | [_,_,_],_ => rfl) ?a ?l ?c ?k
   (case a => k_is); (case l => k_is); (case c => k_is); (case k => k_is)
  have t_are_terms_sections : L2.Ai (L2.KOf KX) mg "are_terms_sections" K15.Bw ["sections","strings"] := by
   refine' L2.Am KX G (fun _ _ _ _ _ _ us hl => match us,hl with | [_,_],_ => rfl) ?a ?l ?c ?k
   (case a => k_is); (case l => k_is); (case c => k_is); (case k => k_is)
  have t_are_asks_sections : L2.Ai (L2.KOf KX) mg "are_asks_sections" K15.B4 ["sections","duties"] := by
   refine' L2.Am KX G (fun _ _ _ _ _ _ us hl => match us,hl with | [_,_],_ => rfl) ?a ?l ?c ?k
   (case a => k_is); (case l => k_is); (case c => k_is); (case k => k_is)
  have t_is_days_section : L2.Ai (L2.KOf KX) mg "is_days_section" K15.Cl ["section"] := by
   refine' L2.Am KX G (fun _ _ _ _ _ _ us hl => match us,hl with | [_],_ => rfl) ?a ?l ?c ?k
   (case a => k_is); (case l => k_is); (case c => k_is); (case k => k_is)
  have t_are_licence_sections : L2.Ai (L2.KOf KX) mg "are_licence_sections" K15.Bk ["sections","strings","duties"] := by
   refine' L2.Am KX G (fun _ _ _ _ _ _ us hl => match us,hl with | [_,_,_],_ => rfl) ?a ?l ?c ?k
   (case a => k_is); (case l => k_is); (case c => k_is); (case k => k_is)
  have t_section_mask : L2.Ai (L2.KOf KX) mg "section_mask" K15.Ca ["section","known"] := by
   refine' L2.Am KX G (fun _ _ _ _ _ _ us hl => match us,hl with | [_,_],_ => rfl) ?a ?l ?c ?k
   (case a => k_is); (case l => k_is); (case c => k_is); (case k => k_is)
  have t_asks_of : L2.Ai (L2.KOf KX) mg "asks_of" K15.sasks_of ["sections","duties"] := by
   refine' L2.Am KX G (fun _ _ _ _ _ _ us hl => match us,hl with | [_,_],_ => rfl) ?a ?l ?c ?k
   (case a => k_is); (case l => k_is); (case c => k_is); (case k => k_is)
  have t_licence_of : L2.Ai (L2.KOf KX) mg "licence_of" K15.slicence_of ["sections","strings","duties"] := by
   refine' L2.Am KX G (fun _ _ _ _ _ _ us hl => match us,hl with | [_,_,_],_ => rfl) ?a ?l ?c ?k
   (case a => k_is); (case l => k_is); (case c => k_is); (case k => k_is)
  have t_names_at : L2.Ai (L2.KOf KX) mg "names_at" K15.snames_at ["rows","place","head"] := by
   refine' L2.Am KX G (fun _ _ _ _ _ _ us hl => match us,hl with | [_,_,_],_ => rfl) ?a ?l ?c ?k
   (case a => k_is); (case l => k_is); (case c => k_is); (case k => k_is)
  have t_licences_at : L2.Ai (L2.KOf KX) mg "licences_at" K15.Ea ["rows","strings","duties"] := by
   refine' L2.Am KX G (fun _ _ _ _ _ _ us hl => match us,hl with | [_,_,_],_ => rfl) ?a ?l ?c ?k
   (case a => k_is); (case l => k_is); (case c => k_is); (case k => k_is)
  have t_read_book : L2.Ai (L2.KOf KX) mg "read_book" K15.Dv ["text"] := by
   refine' L2.Am KX G (fun _ _ _ _ _ _ us hl => match us,hl with | [_],_ => rfl) ?a ?l ?c ?k
   (case a => k_is); (case l => k_is); (case c => k_is); (case k => k_is)
  have t__law_cell : L2.Ai (L2.KOf KX) mg "_law_cell" K15.s_law_cell ["_law_script","_law_k"] := by
   refine' L2.Am KX G (fun _ _ _ _ _ _ us hl => match us,hl with | [_,_],_ => rfl) ?a ?l ?c ?k
   (case a => k_is); (case l => k_is); (case c => k_is); (case k => k_is)
  have t__law_mixed : L2.Ai (L2.KOf KX) mg "_law_mixed" K15.s_law_mixed ["_law_cell_here","_law_k"] := by
   refine' L2.Am KX G (fun _ _ _ _ _ _ us hl => match us,hl with | [_,_],_ => rfl) ?a ?l ?c ?k
   (case a => k_is); (case l => k_is); (case c => k_is); (case k => k_is)
  have t__law_box : L2.Ai (L2.KOf KX) mg "_law_box" K15.s_law_box ["_law_cell_here"] := by
   refine' L2.Am KX G (fun _ _ _ _ _ _ us hl => match us,hl with | [_],_ => rfl) ?a ?l ?c ?k
   (case a => k_is); (case l => k_is); (case c => k_is); (case k => k_is)
  have t__law_take : L2.Ai (L2.KOf KX) mg "_law_take" K15.s_law_take ["_law_box_here","_law_many"] := by
   refine' L2.Am KX G (fun _ _ _ _ _ _ us hl => match us,hl with | [_,_],_ => rfl) ?a ?l ?c ?k
   (case a => k_is); (case l => k_is); (case c => k_is); (case k => k_is)
  have t__law_words : L2.Ai (L2.KOf KX) mg "_law_words" K15.D0 ["_law_cell_here","_law_many"] := by
   refine' L2.Am KX G (fun _ _ _ _ _ _ us hl => match us,hl with | [_,_],_ => rfl) ?a ?l ?c ?k
   (case a => k_is); (case l => k_is); (case c => k_is); (case k => k_is)
  have t__law_within : L2.Ai (L2.KOf KX) mg "_law_within" K15.Ef ["_law_box_here","_law_mask","_law_many"] := by
   refine' L2.Am KX G (fun _ _ _ _ _ _ us hl => match us,hl with | [_,_,_],_ => rfl) ?a ?l ?c ?k
   (case a => k_is); (case l => k_is); (case c => k_is); (case k => k_is)
  have t__law_licence : L2.Ai (L2.KOf KX) mg "_law_licence" K15.Dr ["_law_box_here","_law_keys_here","_law_known"] := by
   refine' L2.Am KX G (fun _ _ _ _ _ _ us hl => match us,hl with | [_,_,_],_ => rfl) ?a ?l ?c ?k
   (case a => k_is); (case l => k_is); (case c => k_is); (case k => k_is)
  have t__law_keys : L2.Ai (L2.KOf KX) mg "_law_keys" K15.s_law_keys ["_law_cell_here","_law_many"] := by
   refine' L2.Am KX G (fun _ _ _ _ _ _ us hl => match us,hl with | [_,_],_ => rfl) ?a ?l ?c ?k
   (case a => k_is); (case l => k_is); (case c => k_is); (case k => k_is)
  have t__law_book : L2.Ai (L2.KOf KX) mg "_law_book" K15.s_law_book ["_law_cell_here","_law_other"] := by
   refine' L2.Am KX G (fun _ _ _ _ _ _ us hl => match us,hl with | [_,_],_ => rfl) ?a ?l ?c ?k
   (case a => k_is); (case l => k_is); (case c => k_is); (case k => k_is)
  have t__law_made : L2.Ai (L2.KOf KX) mg "_law_made" K15.s_law_made ["_law_row"] := by
   refine' L2.Am KX G (fun _ _ _ _ _ _ us hl => match us,hl with | [_],_ => rfl) ?a ?l ?c ?k
   (case a => k_is); (case l => k_is); (case c => k_is); (case k => k_is)
  have t__law_named : L2.Ai (L2.KOf KX) mg "_law_named" K15.D1 ["_law_word","_law_mask","_law_names","_law_box_here"] := by
   refine' L2.Am KX G (fun _ _ _ _ _ _ us hl => match us,hl with | [_,_,_,_],_ => rfl) ?a ?l ?c ?k
   (case a => k_is); (case l => k_is); (case c => k_is); (case k => k_is)
  have t__law_row_text : L2.Ai (L2.KOf KX) mg "_law_row_text" K15.Dc ["_law_row","_law_strings","_law_duties","_law_box_here"] := by
   refine' L2.Am KX G (fun _ _ _ _ _ _ us hl => match us,hl with | [_,_,_,_],_ => rfl) ?a ?l ?c ?k
   (case a => k_is); (case l => k_is); (case c => k_is); (case k => k_is)
  have t__law_text : L2.Ai (L2.KOf KX) mg "_law_text" K15.Eu ["_law_rows","_law_strings","_law_duties","_law_box_here"] := by
   refine' L2.Am KX G (fun _ _ _ _ _ _ us hl => match us,hl with | [_,_,_,_],_ => rfl) ?a ?l ?c ?k
   (case a => k_is); (case l => k_is); (case c => k_is); (case k => k_is)
  have t__law_fitted : L2.Ai (L2.KOf KX) mg "_law_fitted" K15.Df ["_law_row","_law_strings","_law_duties"] := by
   refine' L2.Am KX G (fun _ _ _ _ _ _ us hl => match us,hl with | [_,_,_],_ => rfl) ?a ?l ?c ?k
   (case a => k_is); (case l => k_is); (case c => k_is); (case k => k_is)
  have t__law_is_it : L2.Ai (L2.KOf KX) mg "_law_is_it" K15.C4 ["_law_book_here","_law_rows","_law_strings","_law_duties"] := by
   refine' L2.Am KX G (fun _ _ _ _ _ _ us hl => match us,hl with | [_,_,_,_],_ => rfl) ?a ?l ?c ?k
   (case a => k_is); (case l => k_is); (case c => k_is); (case k => k_is)
  have t__law_good : L2.Ai (L2.KOf KX) mg "_law_good" K15.Dw ["_law_cell_here"] := by
   refine' L2.Am KX G (fun _ _ _ _ _ _ us hl => match us,hl with | [_],_ => rfl) ?a ?l ?c ?k
   (case a => k_is); (case l => k_is); (case c => k_is); (case k => k_is)
  have t_law : L2.Ai (L2.KOf KX) mg "law" K15.slaw ["_law_script"] := by
   refine' L2.Am KX G (fun _ _ _ _ _ _ us hl => match us,hl with | [_],_ => rfl) ?a ?l ?c ?k
   (case a => k_is); (case l => k_is); (case c => k_is); (case k => k_is)
  have n_len : mg "len" = none := by
   refine' PySem.W.mg_none_of KX G ?a
   (case a => k_is)
  have n_isinstance : mg "isinstance" = none := by
   refine' PySem.W.mg_none_of KX G ?a
   (case a => k_is)
  have n_range : mg "range" = none := by
   refine' PySem.W.mg_none_of KX G ?a
   (case a => k_is)
  have n_int : mg "int" = none := by
   refine' PySem.W.mg_none_of KX G ?a
   (case a => k_is)
  have n_bool : mg "bool" = none := by
   refine' PySem.W.mg_none_of KX G ?a
   (case a => k_is)
  have n_str : mg "str" = none := by
   refine' PySem.W.mg_none_of KX G ?a
   (case a => k_is)
  have n_tuple : mg "tuple" = none := by
   refine' PySem.W.mg_none_of KX G ?a
   (case a => k_is)
  have n_list : mg "list" = none := by
   refine' PySem.W.mg_none_of KX G ?a
   (case a => k_is)
  have n_all : mg "all" = none := by
   refine' PySem.W.mg_none_of KX G ?a
   (case a => k_is)
  have n_zip : mg "zip" = none := by
   refine' PySem.W.mg_none_of KX G ?a
   (case a => k_is)
  have n_min : mg "min" = none := by
   refine' PySem.W.mg_none_of KX G ?a
   (case a => k_is)
  have n_max : mg "max" = none := by
   refine' PySem.W.mg_none_of KX G ?a
   (case a => k_is)
  have n_enumerate : mg "enumerate" = none := by
   refine' PySem.W.mg_none_of KX G ?a
   (case a => k_is)
  have n_set : mg "set" = none := by
   refine' PySem.W.mg_none_of KX G ?a
   (case a => k_is)
  have g_LETTERS : ∃ t,mg "LETTERS" = some (.str "abcdefghijklmnopqrstuvwxyz" t) := by
   refine' L2.glob_S KX G ?a ?b
   (case a => k_is)
   (case b => decide +kernel)
  have g_LONGEST_WORD : ∃ t,mg "LONGEST_WORD" = some (.int 8 t) := by
   refine' L2.glob_I KX G ?a ?b
   (case a => k_is)
   (case b => exact ⟨_,rfl⟩)
  have g_GREATEST_NUMBER : ∃ t,mg "GREATEST_NUMBER" = some (.int 99 t) := by
   refine' L2.glob_I KX G ?a ?b
   (case a => k_is)
   (case b => exact ⟨_,rfl⟩)
  have g_LAST_DAY : ∃ t,mg "LAST_DAY" = some (.int 9999 t) := by
   refine' L2.glob_I KX G ?a ?b
   (case a => k_is)
   (case b => exact ⟨_,rfl⟩)
  have g_DEED_BITS : ∃ t,mg "DEED_BITS" = some (.int 5 t) := by
   refine' L2.glob_I KX G ?a ?b
   (case a => k_is)
   (case b => exact ⟨_,rfl⟩)
  have g_STRING_BITS : ∃ t,mg "STRING_BITS" = some (.int 6 t) := by
   refine' L2.glob_I KX G ?a ?b
   (case a => k_is)
   (case b => exact ⟨_,rfl⟩)
  have g_DUTY_BITS : ∃ t,mg "DUTY_BITS" = some (.int 6 t) := by
   refine' L2.glob_I KX G ?a ?b
   (case a => k_is)
   (case b => exact ⟨_,rfl⟩)
  have g_GREATEST_REACH : ∃ t,mg "GREATEST_REACH" = some (.int 3 t) := by
   refine' L2.glob_I KX G ?a ?b
   (case a => k_is)
   (case b => exact ⟨_,rfl⟩)
  have g_MOST_LICENCES : ∃ t,mg "MOST_LICENCES" = some (.int 12 t) := by
   refine' L2.glob_I KX G ?a ?b
   (case a => k_is)
   (case b => exact ⟨_,rfl⟩)
  have g_JOIN_COUNT : ∃ t,mg "JOIN_COUNT" = some (.int 4 t) := by
   refine' L2.glob_I KX G ?a ?b
   (case a => k_is)
   (case b => exact ⟨_,rfl⟩)
  have g_FIGURES : ∃ t,mg "FIGURES" = some (.str "0123456789" t) := by
   refine' L2.glob_S KX G ?a ?b
   (case a => k_is)
   (case b => decide +kernel)
  have g_SECTION_COUNT : ∃ t,mg "SECTION_COUNT" = some (.int 12 t) := by
   refine' L2.glob_I KX G ?a ?b
   (case a => k_is)
   (case b => exact ⟨_,rfl⟩)
  have g_FIRST_LICENCE_ROW : ∃ t,mg "FIRST_LICENCE_ROW" = some (.int 2 t) := by
   refine' L2.glob_I KX G ?a ?b
   (case a => k_is)
   (case b => exact ⟨_,rfl⟩)
  have g_LONGEST_DAY : ∃ t,mg "LONGEST_DAY" = some (.int 4 t) := by
   refine' L2.glob_I KX G ?a ?b
   (case a => k_is)
   (case b => exact ⟨_,rfl⟩)
  have hk : ∃ cT cL cB c0 c1 c2 c3 ad,K15.KTop (L2.KOf KX) mg cT cL cB c0 c1 c2 c3 ad := by
   refine' K15.ktop_mk ?mT ?mL ?mB ?mD ?m0 ?m1 ?m2 ?m3 ?oT ?oL ?oB ?jL ?iT ?iL ?iB ?iD ?o0 ?o1 ?o2 ?o3 ?tl ?bsn ?bdn ?bak ?blm ?w0 ?k0 ?w1 ?k1 ?w2 ?k2 ?w3 ?k3
   case mT =>
    refine' PySem.W.mg_of KX G ?a
    (case a => k_is)
   case mL =>
    refine' PySem.W.mg_of KX G ?a
    (case a => k_is)
   case mB =>
    refine' PySem.W.mg_of KX G ?a
    (case a => k_is)
   case mD =>
    refine' PySem.W.mg_of KX G ?a
    (case a => k_is)
   case m0 =>
    refine' PySem.W.mg_of KX G ?a
    (case a => k_is)
   case m1 =>
    refine' PySem.W.mg_of KX G ?a
    (case a => k_is)
   case m2 =>
    refine' PySem.W.mg_of KX G ?a
    (case a => k_is)
   case m3 =>
    refine' PySem.W.mg_of KX G ?a
    (case a => k_is)
   case iT =>
    refine' K15.ttop_of KX ?a ?i ?l ?c ?k ?mk ?kc ?rd ?fc ?sp
    (case a => k_is); (case i => k_is); (case l => k_is); (case c => k_is); (case k => k_is); (case mk => k_is); (case kc => k_is); (case rd => k_is); (case fc => k_is); (case sp => k_is)
   case iL =>
    refine' K15.ltop_of KX ?a ?i ?l ?c ?k ?mk ?kc ?dd
    (case a => k_is); (case i => k_is); (case l => k_is); (case c => k_is); (case k => k_is); (case mk => k_is); (case kc => k_is); (case dd => k_is)
   case iB =>
    refine' K15.btop_of KX ?a ?i ?l ?c ?k ?mk ?kc
    (case a => k_is); (case i => k_is); (case l => k_is); (case c => k_is); (case k => k_is); (case mk => k_is); (case kc => k_is)
   case iD =>
    refine' K15.dtop_of KX ?dd ?e
    (case dd => k_is)
    (case e => decide +kernel)
   case tl =>
    refine' L2.C6 KX (fun _ _ _ _ _ _ us hl => match us,hl with | [_],_ => rfl) ?a ?i ?l ?c ?k
    (case a => k_is); (case i => k_is); (case l => k_is); (case c => k_is); (case k => k_is)
   case bsn =>
    refine' L2.C6 KX (fun _ _ _ _ _ _ us hl => match us,hl with | [_],_ => rfl) ?a ?i ?l ?c ?k
    (case a => k_is); (case i => k_is); (case l => k_is); (case c => k_is); (case k => k_is)
   case bdn =>
    refine' L2.C6 KX (fun _ _ _ _ _ _ us hl => match us,hl with | [_],_ => rfl) ?a ?i ?l ?c ?k
    (case a => k_is); (case i => k_is); (case l => k_is); (case c => k_is); (case k => k_is)
   case bak =>
    refine' L2.C6 KX (fun _ _ _ _ _ _ us hl => match us,hl with | [_],_ => rfl) ?a ?i ?l ?c ?k
    (case a => k_is); (case i => k_is); (case l => k_is); (case c => k_is); (case k => k_is)
   case blm =>
    refine' L2.C6 KX (fun _ _ _ _ _ _ us hl => match us,hl with | [_,_],_ => rfl) ?a ?i ?l ?c ?k
    (case a => k_is); (case i => k_is); (case l => k_is); (case c => k_is); (case k => k_is)
   case w0 =>
    refine' L2.C6 KX (fun _ _ _ _ _ _ us hl => match us,hl with | [_],_ => rfl) ?a ?i ?l ?c ?k
    (case a => k_is); (case i => k_is); (case l => k_is); (case c => k_is); (case k => k_is)
   case k0 =>
    refine' L2.C6 KX (fun _ _ _ _ _ _ us hl => match us,hl with | [_],_ => rfl) ?a ?i ?l ?c ?k
    (case a => k_is); (case i => k_is); (case l => k_is); (case c => k_is); (case k => k_is)
   case w1 =>
    refine' L2.C6 KX (fun _ _ _ _ _ _ us hl => match us,hl with | [_],_ => rfl) ?a ?i ?l ?c ?k
    (case a => k_is); (case i => k_is); (case l => k_is); (case c => k_is); (case k => k_is)
   case k1 =>
    refine' L2.C6 KX (fun _ _ _ _ _ _ us hl => match us,hl with | [_],_ => rfl) ?a ?i ?l ?c ?k
    (case a => k_is); (case i => k_is); (case l => k_is); (case c => k_is); (case k => k_is)
   case w2 =>
    refine' L2.C6 KX (fun _ _ _ _ _ _ us hl => match us,hl with | [_],_ => rfl) ?a ?i ?l ?c ?k
    (case a => k_is); (case i => k_is); (case l => k_is); (case c => k_is); (case k => k_is)
   case k2 =>
    refine' L2.C6 KX (fun _ _ _ _ _ _ us hl => match us,hl with | [_],_ => rfl) ?a ?i ?l ?c ?k
    (case a => k_is); (case i => k_is); (case l => k_is); (case c => k_is); (case k => k_is)
   case w3 =>
    refine' L2.C6 KX (fun _ _ _ _ _ _ us hl => match us,hl with | [_],_ => rfl) ?a ?i ?l ?c ?k
    (case a => k_is); (case i => k_is); (case l => k_is); (case c => k_is); (case k => k_is)
   case k3 =>
    refine' L2.C6 KX (fun _ _ _ _ _ _ us hl => match us,hl with | [_],_ => rfl) ?a ?i ?l ?c ?k
    (case a => k_is); (case i => k_is); (case l => k_is); (case c => k_is); (case k => k_is)
   case oT => kernel_rfl
   case oL => kernel_rfl
   case oB => kernel_rfl
   case jL => kernel_rfl
   case o0 => kernel_rfl
   case o1 => kernel_rfl
   case o2 => kernel_rfl
   case o3 => kernel_rfl
  exact K15.law_fn2 hmg ⟨n_len,n_isinstance,n_range,n_int,n_bool,n_str,n_tuple,n_list,n_all,n_zip,n_min,n_max,n_enumerate,g_LETTERS,g_LONGEST_WORD,g_GREATEST_NUMBER,g_LAST_DAY,g_DEED_BITS,g_STRING_BITS,g_DUTY_BITS,g_GREATEST_REACH,g_MOST_LICENCES,g_JOIN_COUNT⟩ ⟨n_set,g_FIGURES,g_SECTION_COUNT,g_FIRST_LICENCE_ROW,g_LONGEST_DAY⟩ t_is_whole t_is_word t_is_key t_is_day t_is_mask t_bits_of t_least_bit t_least_beyond t_are_terms t_are_asks t_need_truth t_need_span t_kept_asks t_kept_names t_kept_strings t_kept_duties t_need_named t_kept_licences t_mask_of t_key_text t_is_number_text t_is_key_text t_key_of t_all_joins t_join_words t_join_of t_named_section t_terms_sections t_asks_sections t_licence_row t_show_book t_sections_of t_is_named_section t_are_terms_sections t_are_asks_sections t_is_days_section t_are_licence_sections t_section_mask t_asks_of t_licence_of t_names_at t_licences_at t_read_book t__law_cell t__law_mixed t__law_box t__law_take t__law_words t__law_within t__law_licence t__law_keys t__law_book t__law_made t__law_named t__law_row_text t__law_text t__law_fitted t__law_is_it t__law_good t_law hk
